import PyProof.Rows.All
import Wide.All
import OpenK.AllK
import Wide.FinOn
import PyProof.EqAt
import PyProof.EqKinds
import PyProof.TupleCall
import KE.KTryMore
import PyProof.ExcArgsOwn
import PyProof.ExcBaseAll.ValueError
import PyProof.ExcAttrAll.ValueError
import PyProof.InstStoreFacts
import PySem.Challenge.RW_stitchroom_k08_patterns_shown
set_option Elab.async false
set_option linter.all false
set_option maxRecDepth 100000
set_option maxHeartbeats 4000000
namespace L2
open PySem PySem.Spec PyProof.Rows
noncomputable abbrev Key:=Sum Int Str
noncomputable def Qat:Key->Value->Bool
 | .inl k,v=>Value.isInt k v
 | .inr x,v=>Value.isStrOf x v
noncomputable def Qmu(w:World):Key->Int
 | .inl k=>hashInt k
 | .inr x=>hashStr w x
theorem QG:∀{k:Key} {v:Value},Qat k v=true->(∃i t,k=Sum.inl i/\v=Value.int i t)\/(∃x t,k=Sum.inr x/\v=Value.str x t)
 | .inl i,v,h=>by
  obtain⟨t,e⟩:=Value.isInt_shape (k:=i) (v:=v) h;exact .inl ⟨i,t,rfl,e⟩
 | .inr x,v,h=>by
  obtain⟨t,e⟩:=Value.isStrOf_shape (x:=x) (v:=v) h;exact .inr ⟨x,t,rfl,e⟩
theorem JK(i:Int)(t:Tok):Qat (.inl i) (.int i t)=true:=by simp [Qat,Value.isInt]
theorem JJ(x:Str)(t:Tok):Qat (.inr x) (.str x t)=true:=by simp [Qat,Value.isStrOf]
theorem QiN(a b:Int):decide ((Sum.inl a:Key)=Sum.inl b)=(a==b):=by
 by_cases e:a=b
 ·subst e;simp
 ·have h:¬(Sum.inl a:Key)=Sum.inl b:=fun q=>e (Sum.inl.inj q);rw [decide_eq_false h];exact(beq_eq_false_iff_ne.mpr e).symm
theorem QiK(a b:Str):decide ((Sum.inr a:Key)=Sum.inr b)=decide (a=b):=by
 by_cases e:a=b
 ·subst e;simp
 ·have h:¬(Sum.inr a:Key)=Sum.inr b:=fun q=>e (Sum.inr.inj q);rw [decide_eq_false h,decide_eq_false e]
theorem QiM(a:Int)(b:Str):decide ((Sum.inl a:Key)=Sum.inr b)=false:=decide_eq_false (fun q=>nomatch q)
theorem QiL(a:Str)(b:Int):decide ((Sum.inr a:Key)=Sum.inl b)=false:=decide_eq_false (fun q=>nomatch q)
noncomputable def Zn(prog:Program)(w:World):PySem.KeyKind prog w Key where
 is:=Qat
 hash:=Qmu w
 inj:=fun v a b ha hb=>by
  rcases QG ha with⟨i,t,rfl,rfl⟩|⟨x,t,rfl,rfl⟩
  ·rcases QG hb with⟨j,u,rfl,e⟩|⟨y,u,rfl,e⟩
   ·injection e with e1 _;rw [e1]
   ·exact nomatch e
  ·rcases QG hb with⟨j,u,rfl,e⟩|⟨y,u,rfl,e⟩
   ·exact nomatch e
   ·injection e with e1 _;rw [e1]
 byValue:=fun k v h=>by
  rcases QG h with⟨i,t,rfl,rfl⟩|⟨x,t,rfl,rfl⟩<;>rfl
 pyHash:=fun hv h=>by
  rcases QG hv with⟨i,t,rfl,rfl⟩|⟨x,t,rfl,rfl⟩
  ·exact wpAny_pyHash_int h
  ·exact wpAny_pyHash_str h
 eqBool:=fun hu hv h=>by
  rcases QG hu with⟨i,t,rfl,rfl⟩|⟨x,t,rfl,rfl⟩
  ·rcases QG hv with⟨j,u,rfl,rfl⟩|⟨y,u,rfl,rfl⟩
   ·rw [QiN]at h;exact wpAny_eqBool_int h
   ·rw [QiM]at h;exact SeqAt.EqAt.int_str i t y u _ _ _ _ h
  ·rcases QG hv with⟨j,u,rfl,rfl⟩|⟨y,u,rfl,rfl⟩
   ·rw [QiL]at h;exact SeqAt.EqAt.str_int x t j u _ _ _ _ h
   ·rw [QiK]at h;exact wpAny_eqBool_str h
 «strs»:=fun k x t v h=>by
  rcases QG h with⟨i,u,rfl,e⟩|⟨y,u,rfl,e⟩
  ·exact nomatch e
  ·injection e with e1 _;subst e1;cases v<;>rfl
theorem Qan(prog:Program)(w:World)(i:Int)(t:Tok):(Zn prog w).is (.inl i) (.int i t)=true:=JK i t
theorem Qam(prog:Program)(w:World)(x:Str)(t:Tok):(Zn prog w).is (.inr x) (.str x t)=true:=JJ x t
end L2
namespace L2
open PySem PySem.Spec PyProof.Rows
variable {a b:Addr}{h h':Heap}{P:Program}{w:World}
inductive V where
 | non|bl (b:Bool)|int (i:Int)|str (x:Str)|byt (b:Array UInt8)|flt (b:UInt64)|ref (a:Addr)|ty (n:String)
 deriving DecidableEq
noncomputable def RelV:V->Value->Prop
 | .non,u=>u=Value.none
 | .bl b,u=>u=Value.bool b
 | .int i,u=>∃t,u=Value.int i t
 | .str x,u=>∃t,u=Value.str x t
 | .byt b,u=>∃t,u=Value.bytes b t
 | .flt b,u=>∃t,u=Value.float b t
 | .ref a,u=>u=Value.ref a
 | .ty n,u=>u=Value.type n
noncomputable abbrev Vals:List V->List Value->Prop:=Paired RelV
theorem Vals.length{xs:List V}{us:List Value}(r:Vals xs us):xs.length=us.length:=Paired.length r
theorem Vals.get:∀{xs:List V} {us:List Value} {i:Nat} {x:V},Vals xs us->xs[i]?=some x->∃u,us[i]?=some u/\RelV x u
 | _,_,_,_,.nil,e=>by simp at e
 | _,_,0,_,.cons r _,e=>by simp at e;subst e;exact⟨_,rfl,r⟩
 | _,_,i+1,x,.cons _ t,e=>by
  obtain⟨u,h1,h2⟩:=Vals.get (i:=i) (x:=x) t (by simpa using e)
  exact⟨u,by simpa using h1,h2⟩
theorem Vals.set{x:V}{u:Value}(r:RelV x u):∀{xs:List V} {us:List Value} (i:Nat),Vals xs us->Vals (xs.set i x) (us.set i u)
 | _,_,_,.nil=>.nil
 | _,_,0,.cons _ t=>.cons r t
 | _,_,i+1,.cons q t=>.cons q (Vals.set r i t)
theorem Vals.append:∀{xs ys:List V} {us ws:List Value},Vals xs us->Vals ys ws->Vals (xs++ys) (us++ws)
 | _,_,_,_,.nil,s=>s
 | _,_,_,_,.cons r t,s=>.cons r (Vals.append t s)
theorem Vals.take:∀{xs:List V} {us:List Value} (n:Nat),Vals xs us->Vals (xs.take n) (us.take n)
 | _,_,0,_=>.nil
 | _,_,_+1,.nil=>.nil
 | _,_,n+1,.cons r t=>.cons r (Vals.take n t)
theorem Vals.drop:∀{xs:List V} {us:List Value} (n:Nat),Vals xs us->Vals (xs.drop n) (us.drop n)
 | _,_,0,r=>r
 | _,_,_+1,.nil=>.nil
 | _,_,n+1,.cons _ t=>Vals.drop n t
noncomputable def RelO:Option V->Option Value->Prop
 | some v,some u=>RelV v u
 | none,none=>True
 | _,_=>False
noncomputable def KV{κ:Type}:List (κ×V)->List (κ×Value)->Prop:=Paired fun(p:κ×V) (q:κ×Value)=>p.1=q.1/\RelV p.2 q.2
noncomputable def kV:Key->V
 | .inl i=>.int i
 | .inr x=>.str x
inductive HO where
 /-- a list -/
 | lst (xs:List V)
 /-- a tuple (never changes) -/
 | tup (xs:List V)
 /-- a dict whose keys are ints and texts;one whose keys are tuples of ints and texts (the empty one is both) -/
 | dK (kvs:List (Key×V))|dT (kvs:List (List Key×V))
 /-- a set of ints: its members,its size -/
 | set (S:Int->Bool) (n:Nat)
 /-- an instance of the class at C,its dict at dx,its attributes -/
 | ins (C dx:Addr) (fs:List (Str×V))
 /-- the dict of the instance at x -/
 | own (x:Addr)
 /-- the dict of an exception -/
 | xd (fs:List (Str×V))
 /-- a bound method,f of x -/
 | met (f x:Addr)
 /-- a range object lo,lo+1,.. below hi -/
 | rng (lo hi:Int)
 /-- a thing that is known to the object (the script;a dict while a loop walks it): read,never written while it is so -/
 | frz (o:Obj) (u:HO)
 /-- a code object's table -/
 | tbl (ps:Array Value)
 /-- any other thing,by what is true of its one object (a def of one's own: SetO a S n:=HO.ext fun h=>..) -/
 | ext (φ:Heap->Prop)
noncomputable abbrev Hp:=Addr->Option HO
noncomputable def upd(H:Hp)(a:Addr)(o:HO):Hp:=fun b=>if b=a then some o else H b
theorem Qq{H:Hp}{o:HO}:upd H a o a=some o:=by unfold upd;rw [if_pos rfl]
theorem Qh{H:Hp}{o:HO}(h:b≠a):upd H a o b=H b:=by unfold upd;rw [if_neg h]
theorem Q3{H:Hp}{o:HO}(h:H a=some o)(h':H b=none):a≠b:=by
 intro e;subst e;rw [h]at h';cases h'
section
variable (P:Program)(w:World)
noncomputable def ObjOk(H:Hp)(h:Heap)(a:Addr):HO->Prop
 | .lst xs => xs.length <= sizeLine /\ ∃ (its : List Value) (n : Nat), Vals xs its /\ h.get? a = some { cls := .type "list", data := .seq its.toArray n }
 | .tup xs=>xs.length<=sizeLine/\∃its:List Value,Vals xs its/\IsTup h a its.toArray
 | .dK kvs=>kvs.length<=sizeLine/\(a==sysModules)=false/\∃vs,KV kvs vs/\h.DictOf (Zn P w) a vs
 | .dT kvs=>kvs.length<=sizeLine/\(a==sysModules)=false/\∃xs:List (List Key×Addr×Value),
   Paired (fun(p:List Key×V) (q:List Key×Addr×Value)=>p.1=q.1/\H q.2.1=some (.tup (p.1.map kV))/\RelV p.2 q.2.2) kvs xs /\
   ∃o es ep,h.get? a=some o/\o.ExactDict/\o.data=.dict es ep/\es.toList=xs.map (entryOfKey (tupleKind (Zn P w)))/\(xs.map (·.1)).Nodup
 | .set S n=>h.SetOf (intKind P w) a S n
 | .ins C dx fs=>H dx=some (.own a)/\fs.length<=1000/\dx≠a/\h.get? a=some (PySem.W.instObj C dx) /\
   ∃mA,h.Ns1 dx mA/\(∀f,RelO (fs.lookup f) (mA f))/\PySem.Within mA (fs.map (·.1))
 | .own _=>∃o,h.get? a=some o
 | .xd fs=>∃mA,h.Ns1 a mA/\∀f,RelO (fs.lookup f) (mA f)
 | .rng lo hi=>∃t u v,h.get? a=some { cls:=.type "range",data:=.fields #[.int lo t,.int hi u,.int 1 v] }
 | .frz o u=>h.get? a=some o/\ObjOk H h a u
 | .tbl ps=>h.get? a=some { cls:=.none,data:=.fields ps }
 | .met f x=>h.get? a=some (PySem.W.methodObj (.ref f) (.ref x))
 | .ext φ=>φ h/\(∃o,h.get? a=some o)/\∀h1 h2:Heap,φ h1->(∀o,h1.get? a=some o->h2.get? a=some o)->φ h2
noncomputable def HOk(H:Hp)(h:Heap):Prop:=∀a o,H a=some o->ObjOk P w H h a o
end
section
variable {H H':Hp}{o:HO}
theorem ObjOk.lt(x:ObjOk P w H h a o):a<h.objs.size:=by
 cases o with
 | lst xs=>obtain⟨_,_,_,_,e⟩:=x;exact Heap.lt_size e
 | tup xs=>obtain⟨_,_,_,p⟩:=x;exact p.lt
 | dK kvs=>obtain⟨_,_,_,_,o,_,_,e,_⟩:=x;exact Heap.lt_size e
 | dT kvs=>obtain⟨_,_,_,_,o,_,_,e,_⟩:=x;exact Heap.lt_size e
 | set S n=>obtain⟨o,_,_,_,e,_⟩:=x;exact Heap.lt_size e
 | ins C dx fs=>obtain⟨_,_,_,e,_⟩:=x;exact Heap.lt_size e
 | own y=>obtain⟨_,e⟩:=x;exact Heap.lt_size e
 | xd fs=>obtain⟨_,⟨_,_,_,e,_⟩,_⟩:=x;exact Heap.lt_size e
 | rng lo hi=>obtain⟨_,_,_,e⟩:=x;exact Heap.lt_size e
 | frz ob u=>obtain⟨e,_⟩:=x;exact Heap.lt_size e
 | tbl ps=>exact Heap.lt_size (show h.get? a=some _ from x)
 | met f y=>exact Heap.lt_size (show h.get? a=some _ from x)
 | ext φ=>obtain⟨_,⟨_,e⟩,_⟩:=x;exact Heap.lt_size e
theorem Paired.mapP{α β:Type}{F G:α->β->Prop}:∀{l₁:List α} {l₂:List β},Paired F l₁ l₂->(∀a b,F a b->G a b)->Paired G l₁ l₂
 | _,_,.nil,_=>.nil
 | _,_,.cons r t,f=>.cons (f _ _ r) (Paired.mapP t f)
theorem ObjOk.stay(x:ObjOk P w H h a o)(k:∀b u,(b=a\/H b=some (.own a))->h.get? b=some u->h'.get? b=some u)
  (ho:∀b,H b=some (.own a)->H' b=some (.own a)) (ht:∀b xs,H b=some (.tup xs)->H' b=some (.tup xs)):ObjOk P w H' h' a o:=by
 induction o with
 | lst xs=>obtain⟨z,its,n,r,e⟩:=x;exact⟨z,its,n,r,k _ _ (.inl rfl) e⟩
 | tup xs=>obtain⟨z,its,r,ob,e,c⟩:=x;exact⟨z,its,r,ob,k _ _ (.inl rfl) e,c⟩
 | dK kvs=>obtain⟨z,y,vs,r,ob,es,ep,e,c⟩:=x;exact⟨z,y,vs,r,ob,es,ep,k _ _ (.inl rfl) e,c⟩
 | dT kvs =>
  obtain⟨z,y,xs,r,ob,es,ep,e,c⟩:=x;exact⟨z,y,xs,Paired.mapP r fun p q z=>⟨z.1,ht _ _ z.2.1,z.2.2⟩,ob,es,ep,k _ _ (.inl rfl) e,c⟩
 | set S n=>obtain⟨ob,es,ep,t,e,c⟩:=x;exact⟨ob,es,ep,t,k _ _ (.inl rfl) e,c⟩
 | ins C dx fs =>
  obtain⟨d,z,ne,e,mA,⟨od,es,ep,e2,c⟩,r⟩:=x;exact⟨ho _ d,z,ne,k _ _ (.inl rfl) e,mA,⟨od,es,ep,k _ _ (.inr d) e2,c⟩,r⟩
 | own y=>obtain⟨ob,e⟩:=x;exact⟨ob,k _ _ (.inl rfl) e⟩
 | xd fs=>obtain⟨mA,⟨od,es,ep,e,c⟩,r⟩:=x;exact⟨mA,⟨od,es,ep,k _ _ (.inl rfl) e,c⟩,r⟩
 | rng lo hi=>obtain⟨t,u,v,e⟩:=x;exact⟨t,u,v,k _ _ (.inl rfl) e⟩
 | frz ob u ih=>obtain⟨e,q⟩:=x;exact⟨k _ _ (.inl rfl) e,ih q⟩
 | tbl ps =>
  have e:h.get? a=some { cls:=.none,data:=.fields ps }:=x;show h'.get? a=some { cls:=.none,data:=.fields ps };exact k a _ (.inl rfl) e
 | met f y =>
  have e:h.get? a=some (PySem.W.methodObj (.ref f) (.ref y)):=x;show h'.get? a=some (PySem.W.methodObj (.ref f) (.ref y));exact k a _ (.inl rfl) e
 | ext φ=>obtain⟨p,⟨o,e⟩,st⟩:=x;exact⟨st _ _ p fun o q=>k _ _ (.inl rfl) q,⟨o,k _ _ (.inl rfl) e⟩,st⟩
theorem HOk.lt(x:HOk P w H h)(e:H a=some o):a<h.objs.size:=(x a o e).lt
theorem HOk.fresh(x:HOk P w H h)(e:h.objs.size<=a):H a=none:=by
 cases q:H a with
 | none=>rfl
 | some u=>exact absurd (Nat.lt_of_lt_of_le (x.lt q) e) (Nat.lt_irrefl _)
theorem HOk.kept(x:HOk P w H h)(k:∀b u,h.get? b=some u->h'.get? b=some u):HOk P w H h':=fun a o e =>
 (x a o e).stay (fun b u _ q=>k b u q) (fun _ q=>q) fun _ _ q=>q
theorem HOk.laid(x:HOk P w H h)(k:∀b u,h.get? b=some u->h'.get? b=some u)(hp:h.objs.size<=a)(new:ObjOk P w (upd H a o) h' a o):HOk P w (upd H a o) h':=fun b u e=>by
 have hn:=x.fresh hp;by_cases hb:b=a
 ·subst hb;rw [Qq]at e;cases e;exact new
 ·rw [Qh hb]at e
  exact(x b u e).stay (fun c v _ q=>k c v q) (fun c q=>by rw [Qh (Q3 q hn)];exact q) fun c xs q=>by rw [Qh (Q3 q hn)];exact q
end
noncomputable def Rd(H:Hp)(a:Addr)(u:HO):Prop:=H a=some u\/∃o,H a=some (.frz o u)
theorem Rd.ok{H:Hp}{u:HO}(r:Rd H a u)(x:HOk P w H h):ObjOk P w H h a u:=by
 rcases r with r|⟨o,r⟩
 ·exact x a u r
 ·obtain⟨_,q⟩:=x a _ r;exact q
noncomputable def Mut:Option HO->Prop
 | some (.lst _)=>True
 | some (.dK _)=>True
 | some (.dT _)=>True
 | some (.set _ _)=>True
 | some (.ins _ _ _)=>True
 | some (.ext _)=>True
 | _=>False
section
variable {H:Hp}{x e:Addr}{o':HO}
theorem HOk.write(ok:HOk P w H h)(mu:Mut (H x))(he:e=x\/H e=some (.own x))(k:∀b u,b≠e->h.get? b=some u->h'.get? b=some u)(heo:∃u,h'.get? e=some u)
  (new:ObjOk P w (upd H x o') h' x o'):HOk P w (upd H x o') h':=fun b u q=>by
 have nown:∀c y,H c=some (.own y)->c≠x:=fun c y r z=>by subst z;rw [r]at mu;exact mu
 have ntup:∀c xs,H c=some (.tup xs)->c≠x:=fun c xs r z=>by subst z;rw [r]at mu;exact mu
 by_cases hb:b=x
 ·subst hb;rw [Qq]at q;cases q;exact new
 ·rw [Qh hb]at q;by_cases hbe:b=e
  ·have q':H b=some (.own x):=by
    rcases he with z|z
    ·exact absurd (hbe.trans z) hb
    ·rw [hbe];exact z
   rw [q]at q';cases q';obtain⟨v,hv⟩:=heo
   exact⟨v,by rw [hbe];exact hv⟩
  ·refine(ok b u q).stay (fun c v hc r=>k c v ?_ r) (fun c r=>by rw [Qh (nown c b r)];exact r) fun c xs r=>by rw [Qh (ntup c xs r)];exact r
   rcases hc with rfl|hc
   ·exact hbe
   ·rintro rfl
    rcases he with z|z
    ·exact nown c b hc z
    ·rw [hc]at z;cases z;exact hb rfl
end
structure Un(fs ex:List Addr)(H H':Hp)(h h':Heap):Prop where
 keep:∀b o,h.get? b=some o->H b=none->b∉fs->b∉ex->h'.get? b=some o
 slot:∀b o,h.get? b=some o->H b=none->b∈fs->b∉ex->∃sl,h'.get? b=some { o with slots:=sl }
 free:∀b o,h.get? b=some o->H b=none->b∉ex->H' b=none
 there:∀b o,h.get? b=some o->b∉ex->∃o',h'.get? b=some o'
 tups:∀b xs,H b=some (.tup xs)->H' b=some (.tup xs)
 frzs:∀b o u,H b=some (.frz o u)->H' b=some (.frz o u)
 tbls:∀b ps,H b=some (.tbl ps)->∃more,H' b=some (.tbl (ps++more))
section
variable {fs fs' ex ex':List Addr}{H H1 H2:Hp}{h1 h2:Heap}{x e:Addr}{o:HO}
theorem Un.any(u:Un fs ex H H1 h h1){ob:Obj}(q:h.get? b=some ob)(n:H b=none)(hx:b∉ex):∃sl,h1.get? b=some { ob with slots:=sl }:=by
 by_cases hb:b∈fs
 ·exact u.slot b ob q n hb hx
 ·exact⟨ob.slots,u.keep b ob q n hb hx⟩
theorem Un.kept(k:∀b u,h.get? b=some u->h'.get? b=some u):Un fs ex H H h h' :=
 ⟨fun b ob q _ _ _=>k b ob q,fun b ob q _ _ _=>⟨ob.slots,k b ob q⟩,fun _ _ _ n _=>n,fun b ob q _=>⟨ob,k b ob q⟩,fun _ _ q=>q,fun _ _ _ q=>q,fun _ ps q=>⟨#[],by rw [q];simp⟩⟩
theorem Un.refl:Un fs ex H H h h:=Un.kept fun _ _ q=>q
theorem Un.laid(k:∀b u,h.get? b=some u->h'.get? b=some u)(hp:h.objs.size<=a)(hn:H a=none):Un fs ex H (upd H a o) h h' where
 keep:=fun b u q _ _ _=>k b u q
 slot:=fun b u q _ _ _=>⟨u.slots,k b u q⟩
 free:=fun b u q n _=>by rw [Qh (Nat.ne_of_lt (Nat.lt_of_lt_of_le (Heap.lt_size q) hp))];exact n
 there:=fun b u q _=>⟨u,k b u q⟩
 tups:=fun b xs q=>by rw [Qh (Q3 q hn)];exact q
 frzs:=fun b u xs q=>by rw [Qh (Q3 q hn)];exact q
 tbls:=fun b ps q=>⟨#[],by rw [Qh (Q3 q hn),q];simp⟩
theorem Un.write(mu:Mut (H x))(he:e=x\/H e=some (.own x))(k:∀b u,b≠e->h.get? b=some u->h'.get? b=some u)(heo:∃u,h'.get? e=some u):Un fs ex H (upd H x o) h h':=by
 have hx:∀b,H b=none->b≠x:=fun b n z=>by subst z;rw [n]at mu;exact mu
 have hb:∀b,H b=none->b≠e:=fun b n z=>by
  subst z
  rcases he with r|r
  ·exact hx b n r
  ·rw [n]at r;cases r
 have hm:∀b u,H b=some u->¬Mut (some u)->b≠x:=fun b u q nm z=>by subst z;rw [q]at mu;exact nm mu
 refine⟨fun b u q n _ _=>k b u (hb b n) q,fun b u q n _ _=>⟨u.slots,k b u (hb b n) q⟩,fun b u q n _=>by rw [Qh (hx b n)];exact n,fun b u q _=>?_,
  fun b xs q=>by rw [Qh (hm b _ q fun z=>z)];exact q,fun b u xs q=>by rw [Qh (hm b _ q fun z=>z)];exact q,fun b ps q=>⟨#[],by rw [Qh (hm b _ q fun z=>z),q];simp⟩⟩
 by_cases hbe:b=e
 ·subst hbe;exact heo
 ·exact⟨u,k b u hbe q⟩
end
noncomputable def trk(h:Heap)(H:Hp):List Addr:=(List.range h.objs.size).filter fun a=>(H a).isSome
noncomputable def Qec(h:Heap)(H:Hp):Heap:=PySem.W.hideAll h (trk h H)
theorem QcL(h:Heap)(H:Hp):(Qec h H).objs.size=h.objs.size:=PySem.W.hideAll_size _ _
theorem Qeb{H:Hp}{o:Obj}(e:h.get? b=some o)(n:H b=none):(Qec h H).get? b=some o :=
 PySem.W.hideAll_get _ e fun hm=>by
  have q:(H b).isSome=true:=(List.mem_filter.mp hm).2;rw [n]at q;simp at q
theorem Qf3{H:Hp}{o:Obj}(e:(Qec h H).get? b=some o):h.get? b=some o/\H b=none:=by
 have e':h.get? b=some o:=PySem.W.of_hideAll (trk h H) e;refine⟨e',?_⟩
 cases q:H b with
 | none=>rfl
 | some x =>
  have hm:b∈trk h H:=List.mem_filter.mpr ⟨List.mem_range.mpr (Heap.lt_size e'),by simp [q]⟩
  have z:(Qec h H).get? b=none:=PySem.W.hideAll_none (trk h H) hm;rw [z]at e;cases e
end L2
namespace L2
open PySem PySem.Spec PyProof.Rows
variable {A:Around}{ch:List Addr}{M:Model}{i t':Nat}{x:Str}
structure Mod(K:PySem.W.Frag)(mg:Str->Option Value)(base:Heap):Prop where
 kin:K.In base
 glob:base.Ns mainGlobals mg
 blt : ∃ mb, base.Ns builtinsNs mb /\ ∀ x : Str, x ≠ "__name__" -> mb x = bootBuiltins x
 nolimit:base.NoLimit
structure Cx where
 prog:Program
 w:World
 K:PySem.W.Frag
 mg:Str->Option Value
 base:Heap
 A:Around
 N:List Str
 s₀:Shared
 H₀:Hp
 env:Env
 outer:List Env
 stack:List Env
 ex:List Addr
 fn:Str->Bool
 calm:Bool
 pn:List (Addr×Obj)
 xe:Value->Shared->Prop
noncomputable def frs(l:List Env):List Addr:=l.filterMap (·.frame)
noncomputable abbrev Cx.fs(X:Cx):List Addr:=frs X.outer
noncomputable def Vis(sc:Scope)(x:Str):Prop:=sc.names.lookup x=some .local\/sc.names.lookup x=some .cell\/sc.names.lookup x=some .free
noncomputable def Loc(sc:Scope)(x:Str):Prop:=sc.names.lookup x=some .local\/sc.names.lookup x=some .cell
noncomputable def Qn1(env:Env)(h:Heap)(m:Str->Option Value)(x:Str)(u:Value):Prop :=
 (env.kindOf x=some .local/\m x=some u)\/((env.kindOf x=some .cell\/env.kindOf x=some .free)/\∃c,env.cells.lookup x=some c/\h.IsCell c (some u))
structure Cx.Ok(X:Cx):Prop where
 mod:Mod X.K X.mg X.base
 kind:X.env.scope.kind=.function
 glob:X.env.globals=mainGlobals
 blt:X.env.builtins=builtinsNs
 above:X.s₀.heap.objs.size<=X.env.locals
 inj:∀x y c,X.env.cells.lookup x=some c->X.env.cells.lookup y=some c->x=y
 has:∀x,(X.env.kindOf x=some .cell\/X.env.kindOf x=some .free)->∃c,X.env.cells.lookup x=some c
 cab:∀x c,X.fn x=true->X.env.cells.lookup x=some c->X.s₀.heap.objs.size<=c
 hd:X.calm=true->X.A.handled=none
 frames:X.A.frames=some X.stack
 stk:X.stack=X.outer\/(X.stack=X.env::X.outer/\X.env.frame=some X.env.locals)
 exf:∀b∈X.ex,b≠X.env.locals/\∀x c,X.env.cells.lookup x=some c->c≠b
 bs:∀b o,X.base.get? b=some o->X.s₀.heap.get? b=some o/\X.H₀ b=none
 bsz:X.base.objs.size<=X.s₀.heap.objs.size
 noex:∀b o,X.base.get? b=some o->b∉X.ex
 exfs:∀b∈X.ex,b∉X.fs
 funs:X.s₀.heap.FunFrames X.base X.outer
 frf:∀b∈X.fs,X.H₀ b=none
structure Inv(X:Cx)(pins:List (Addr×Obj))(σ:List (Option V))(H:Hp)(s:Shared):Prop where
 ok:X.Ok
 os:s.os=X.s₀.os
 bare:AllBare s.gens
 base:Un X.fs X.ex X.H₀ H X.s₀.heap s.heap
 loc:∃m,s.heap.Ns X.env.locals m/\∀(i:Nat) (x:Str) (v:V),X.N[i]?=some x->σ[i]?=some (some v)->Vis X.env.scope x->∃u,RelV v u/\Qn1 X.env s.heap m x u
 cell:∀x c,X.env.cells.lookup x=some c->∃v,s.heap.IsCell c v
 free:H X.env.locals=none
 freeC:∀x c,X.env.cells.lookup x=some c->H c=none
 pin:∀p∈X.pn++pins,s.heap.get? p.1=some p.2/\H p.1=none/\p.1≠X.env.locals/\p.1∉X.fs/\∀v,p.2.data≠.cell v
 hok:HOk X.prog X.w H s.heap
 len:σ.length=X.N.length
section
variable {X:Cx}{pins:List (Addr×Obj)}{σ:List (Option V)}{H H':Hp}{s:Shared}{h':Heap}
theorem Cx.Ok.nofr(ok:X.Ok){b:Addr}{o:Obj}(e:X.base.get? b=some o):b∉X.fs:=fun hb=>by
 have:=(ok.funs.mem hb).1;rw [e]at this;cases this
theorem Inv.bs(I:Inv X pins σ H s):∀b o,X.base.get? b=some o->s.heap.get? b=some o/\H b=none:=fun b o e =>
 ⟨I.base.keep b o (I.ok.bs b o e).1 (I.ok.bs b o e).2 (I.ok.nofr e) (I.ok.noex b o e),I.base.free b o (I.ok.bs b o e).1 (I.ok.bs b o e).2 (I.ok.noex b o e)⟩
theorem Inv.bk(I:Inv X pins σ H s):∀b o,X.base.get? b=some o->s.heap.get? b=some o:=fun b o e=>(I.bs b o e).1
theorem Inv.mod(I:Inv X pins σ H s):Mod X.K X.mg X.base:=I.ok.mod
theorem Inv.kIn(I:Inv X pins σ H s):X.K.In s.heap:=I.ok.mod.kin.keeps I.bk
theorem Inv.lt(I:Inv X pins σ H s):X.env.locals<s.heap.objs.size:=let ⟨_,hn,_⟩:=I.loc;hn.lt
theorem Inv.sz(I:Inv X pins σ H s):X.s₀.heap.objs.size<=s.heap.objs.size:=Nat.le_trans I.ok.above (Nat.le_of_lt I.lt)
theorem Inv.nofs(I:Inv X pins σ H s){a:Addr}(h:s.heap.objs.size<=a):a∉X.fs:=fun hb=>by
 obtain⟨_,o,ho,_⟩:=I.ok.funs.mem hb;exact absurd (Nat.lt_of_lt_of_le (Heap.lt_size ho) (Nat.le_trans I.sz h)) (Nat.lt_irrefl _)
theorem Inv.cne(I:Inv X pins σ H s):∀x c,X.env.cells.lookup x=some c->c≠X.env.locals:=fun x c e z=>by
 obtain⟨v,o,ho,hd⟩:=I.cell x c e;obtain⟨m,⟨o',es,ep,ho',hd',_⟩,_⟩:=I.loc;rw [z,ho']at ho;cases ho;rw [hd']at hd;cases hd
theorem Inv.funs(I:Inv X pins σ H s):s.heap.FunFrames X.base X.outer:=by
 have all:∀(l:List Env),(∀b∈frs l,b∈X.fs)->X.s₀.heap.FunFrames X.base l->s.heap.FunFrames X.base l:=by
  intro l
  induction l with
  | nil=>intro _ _;trivial
  | cons env r ih =>
   intro hs hl;obtain⟨hk,⟨L,o,hf,hn,ho,hd⟩,hr⟩:=hl
   have hL:L∈X.fs:=hs L (by unfold frs;rw [List.filterMap_cons,hf];exact List.mem_cons_self)
   obtain⟨sl,e⟩:=I.base.slot L o ho (I.ok.frf L hL) hL fun z=>I.ok.exfs L z hL
   exact⟨hk,⟨L,_,hf,hn,e,hd⟩,ih (fun b hb=>hs b (by unfold frs;rw [List.filterMap_cons,hf];exact List.mem_cons_of_mem _ hb)) hr⟩
 exact all X.outer (fun _ hb=>hb) I.ok.funs
theorem Inv.stack(I:Inv X pins σ H s):s.heap.FunFrames X.base X.stack:=by
 rcases I.ok.stk with e|⟨e,hf⟩
 ·rw [e];exact I.funs
 ·rw [e];obtain⟨m,hn,_⟩:=I.loc
  refine .cons (by rw [I.ok.kind];decide) hf hn ?_ I.funs
  exact Heap.get?_none_of_le (Nat.le_trans I.ok.bsz I.ok.above)
theorem Inv.stkSub(I:Inv X pins σ H s):∀b∈frs X.stack,b∈X.env.locals::X.fs:=fun b hb=>by
 rcases I.ok.stk with e|⟨e,hf⟩
 ·rw [e]at hb;exact List.mem_cons_of_mem _ hb
 ·rw [e]at hb;unfold frs at hb;rw [List.filterMap_cons,hf]at hb;exact hb
theorem Inv.stkFree(I:Inv X pins σ H s):∀b∈frs X.stack,H b=none:=fun b hb=>by
 rcases List.mem_cons.mp (I.stkSub b hb)with e|hb
 ·rw [e];exact I.free
 ·obtain⟨_,o,ho,_⟩:=I.ok.funs.mem hb;exact I.base.free b o ho (I.ok.frf b hb) fun z=>I.ok.exfs b z hb
theorem Inv.step{g':Array GenState}{d':Drawn}(I:Inv X pins σ H s)
  (hch:∀b∈ch,(b∈X.ex\/X.s₀.heap.objs.size<=b)/\b≠X.env.locals/\(∀x c,X.env.cells.lookup x=some c->c≠b)/\∀p∈X.pn++pins,p.1≠b)
  (keep:∀b o,b≠X.env.locals->b∉X.fs->b∉ch->s.heap.get? b=some o->H b=none->h'.get? b=some o)
  (slot:∀b o,b≠X.env.locals->b∈X.fs->b∉ch->s.heap.get? b=some o->H b=none->∃sl,h'.get? b=some { o with slots:=sl }) (free:∀b o,b∉ch->s.heap.get? b=some o->H b=none->H' b=none)
  (there:∀b o,b∉ch->s.heap.get? b=some o->∃o',h'.get? b=some o')
  (tups:∀b xs,H b=some (.tup xs)->H' b=some (.tup xs)) (frzs:∀b o u,H b=some (.frz o u)->H' b=some (.frz o u)) (tbls:∀b ps,H b=some (.tbl ps)->∃more,H' b=some (.tbl (ps++more)))
  (ns:∀m,s.heap.Ns X.env.locals m->h'.Ns X.env.locals m) (hok:HOk X.prog X.w H' h') (hg:AllBare g'):
  Inv X pins σ H' { s with heap:=h',gens:=g',drawn:=d',toks:=t' }:=by
 have neL:∀b o,X.s₀.heap.get? b=some o->b≠X.env.locals:=fun b o e=>Nat.ne_of_lt (Nat.lt_of_lt_of_le (Heap.lt_size e) I.ok.above)
 have neC:∀b o,X.s₀.heap.get? b=some o->b∉X.ex->b∉ch:=fun b o e hx hb=>by
  rcases (hch b hb).1 with z|z
  ·exact hx z
  ·exact absurd (Nat.lt_of_lt_of_le (Heap.lt_size e) z) (Nat.lt_irrefl _)
 have cellK:∀x c,X.env.cells.lookup x=some c->∀v,s.heap.IsCell c v->h'.IsCell c v:=fun x c e v ⟨o,ho,hd⟩=>by
  have nch:c∉ch:=fun z=>(hch c z).2.2.1 x c e rfl;by_cases hc:c∈X.fs
  ·obtain⟨sl,q⟩:=slot c o (I.cne x c e) hc nch ho (I.freeC x c e);exact⟨_,q,hd⟩
  ·exact⟨o,keep c o (I.cne x c e) hc nch ho (I.freeC x c e),hd⟩
 refine⟨I.ok,I.os,hg,⟨fun b o e n hb hx=>?_,fun b o e n hb hx=>?_,fun b o e n hx=>?_,fun b o e hx=>?_,fun b xs e=>tups b xs (I.base.tups b xs e),fun b o xs e=>frzs b o xs (I.base.frzs b o xs e),fun b ps e=>?_⟩,?_,fun x c e=>?_,?_,fun x c e=>?_,fun p hp=>?_,hok,I.len⟩
 ·exact keep b o (neL b o e) hb (neC b o e hx) (I.base.keep b o e n hb hx) (I.base.free b o e n hx)
 ·obtain⟨sl,e1⟩:=I.base.slot b o e n hb hx;obtain⟨sl',e2⟩:=slot b _ (neL b o e) hb (neC b o e hx) e1 (I.base.free b o e n hx);exact⟨sl',e2⟩
 ·obtain⟨o',e1⟩:=I.base.there b o e hx;exact free b o' (neC b o e hx) e1 (I.base.free b o e n hx)
 ·obtain⟨o',e1⟩:=I.base.there b o e hx;exact there b o' (neC b o e hx) e1
 ·obtain⟨m1,e1⟩:=I.base.tbls b ps e;obtain⟨m2,e2⟩:=tbls b _ e1
  exact⟨m1++m2,by rw [e2,Array.append_assoc]⟩
 ·obtain⟨m,hn,hl⟩:=I.loc;refine⟨m,ns m hn,fun i x v e1 e2 e3=>?_⟩;obtain⟨u,r,l⟩:=hl i x v e1 e2 e3;refine⟨u,r,?_⟩
  rcases l with l|⟨k,c,e,z⟩
  ·exact .inl l
  ·exact .inr ⟨k,c,e,cellK x c e _ z⟩
 ·obtain⟨v,z⟩:=I.cell x c e;exact⟨v,cellK x c e v z⟩
 ·obtain⟨m,⟨o,_,_,ho,_⟩,_⟩:=I.loc;exact free _ o (fun z=>(hch _ z).2.1 rfl) ho I.free
 ·obtain⟨v,o,ho,hd⟩:=I.cell x c e;exact free c o (fun z=>(hch c z).2.2.1 x c e rfl) ho (I.freeC x c e)
 ·obtain⟨e,n,ne,nf,d⟩:=I.pin p hp;have nch:p.1∉ch:=fun z=>(hch p.1 z).2.2.2 p hp rfl;exact⟨keep p.1 p.2 ne nf nch e n,free p.1 p.2 nch e n,ne,nf,d⟩
theorem Inv.un(I:Inv X pins σ H s)(u:Un X.fs [] H H' s.heap h')(hok:HOk X.prog X.w H' h'):Inv X pins σ H' { s with heap:=h',toks:=t' }:=by
 obtain⟨m,⟨o,es,ep,ho,r⟩,_⟩:=id I.loc
 obtain⟨sl,hL⟩:=u.any ho I.free (by simp)
 exact I.step (g':=s.gens) (d':=s.drawn) (ch:=[]) (fun _ z=>nomatch z) (fun b o _ hb _ e n=>u.keep b o e n hb (by simp)) (fun b o _ hb _ e n=>u.slot b o e n hb (by simp)) (fun b o _ e n=>u.free b o e n (by simp)) (fun b o _ e=>u.there b o e (by simp)) u.tups u.frzs u.tbls (fun m' hm=>by
  obtain⟨o',es',ep',ho',r'⟩:=hm;rw [ho]at ho';cases ho'
  exact⟨_,es',ep',hL,r'⟩) hok I.bare
theorem Inv.call{g':Array GenState}{d':Drawn}(I:Inv X pins σ H s)(u:Un (frs X.stack) ch H H' s.heap h')(hok:HOk X.prog X.w H' h')(hg:AllBare g')
  (hch:∀b∈ch,(b∈X.ex\/X.s₀.heap.objs.size<=b)/\b≠X.env.locals/\(∀x c,X.env.cells.lookup x=some c->c≠b)/\∀p∈X.pn++pins,p.1≠b):
  Inv X pins σ H' { s with heap:=h',gens:=g',drawn:=d',toks:=t' }:=by
 obtain⟨m,⟨o,es,ep,ho,r⟩,_⟩:=id I.loc;obtain⟨sl,hL⟩:=u.any ho I.free fun z=>(hch _ z).2.1 rfl
 exact I.step (ch:=ch) hch (fun b o hL hb hc e n=>u.keep b o e n (fun z=>(List.mem_cons.mp (I.stkSub b z)).elim hL hb) hc) (fun b o _ _ hc e n=>u.any e n hc) (fun b o hc e n=>u.free b o e n hc) (fun b o hc e=>u.there b o e hc) u.tups u.frzs u.tbls (fun m' hm=>by
  obtain⟨o',es',ep',ho',r'⟩:=hm;rw [ho]at ho';cases ho'
  exact⟨_,es',ep',hL,r'⟩) hok hg
theorem Inv.turned{it:Addr}(I:Inv X pins σ H s)(k:∀b o,b≠it->s.heap.get? b=some o->h'.get? b=some o)(hn:H it=none)(hL:it≠X.env.locals)
  (h1:it∈X.ex\/X.s₀.heap.objs.size<=it) (h2:∀x c,X.env.cells.lookup x=some c->c≠it) (h3:∀p∈X.pn++pins,p.1≠it):Inv X pins σ H { s with heap:=h',toks:=t' }:=by
 have nit:∀b u,H b=some u->b≠it:=fun b u e z=>by rw [z,hn]at e;cases e
 refine I.step (g':=s.gens) (d':=s.drawn) (ch:=[it]) (fun b hb=>?_) (fun b o _ _ hc e _=>k b o (fun z=>hc (by simp [z])) e) (fun b o _ _ hc e _=>⟨o.slots,k b o (fun z=>hc (by simp [z])) e⟩) (fun _ _ _ _ n=>n)
  (fun b o hc e=>⟨o,k b o (fun z=>hc (by simp [z])) e⟩) (fun _ _ e=>e) (fun _ _ _ e=>e) (fun b ps e=>⟨#[],by rw [e];simp⟩) (fun m hm=>?_) (fun b u e=>?_) I.bare
 ·have e:b=it:=by simpa using hb
  subst e;exact⟨h1,hL,h2,h3⟩
 ·obtain⟨o,es,ep,ho,r⟩:=hm;exact⟨o,es,ep,k _ o (Ne.symm hL) ho,r⟩
 ·refine(I.hok b u e).stay (fun c v hc q=>k c v ?_ q) (fun _ q=>q) fun _ _ q=>q
  rcases hc with z|z
  ·rw [z];exact nit b u e
  ·exact nit c _ z
theorem Inv.tok(I:Inv X pins σ H s)(t:Nat):Inv X pins σ H { s with toks:=t }:=I.un (h':=s.heap) (t':=t) Un.refl I.hok
theorem Inv.kept(I:Inv X pins σ H s)(k:∀b u,s.heap.get? b=some u->h'.get? b=some u):Inv X pins σ H { s with heap:=h',toks:=t' }:=I.un (Un.kept k) (I.hok.kept k)
theorem Inv.laid{a:Addr}{o:HO}(I:Inv X pins σ H s)(k:∀b u,s.heap.get? b=some u->h'.get? b=some u)(hp:s.heap.objs.size<=a)(new:ObjOk X.prog X.w (upd H a o) h' a o):
  Inv X pins σ (upd H a o) { s with heap:=h',toks:=t' }:=I.un (Un.laid k hp (I.hok.fresh hp)) (I.hok.laid k hp new)
theorem Inv.write{x e:Addr}{o:HO}(I:Inv X pins σ H s)(mu:Mut (H x))(he:e=x\/H e=some (.own x))(k:∀b u,b≠e->s.heap.get? b=some u->h'.get? b=some u)(heo:∃u,h'.get? e=some u)
  (new:ObjOk X.prog X.w (upd H x o) h' x o):Inv X pins σ (upd H x o) { s with heap:=h',toks:=t' }:=I.un (Un.write mu he k heo) (I.hok.write mu he k heo new)
theorem Inv.pins_of{pins':List (Addr×Obj)}(I:Inv X pins σ H s)(h:∀p∈pins',s.heap.get? p.1=some p.2/\H p.1=none/\p.1≠X.env.locals/\p.1∉X.fs/\∀v,p.2.data≠.cell v):Inv X pins' σ H s :=
 ⟨I.ok,I.os,I.bare,I.base,I.loc,I.cell,I.free,I.freeC,fun p hp=>(List.mem_append.mp hp).elim (fun z=>I.pin p (List.mem_append_left _ z)) (h p),I.hok,I.len⟩
theorem Qa0{N:List Str}(hN:N.Nodup){j:Nat}(a:N[i]?=some x)(b:N[j]?=some x):i=j:=by
 obtain⟨h1,e1⟩:=List.getElem?_eq_some_iff.mp a;obtain⟨h2,e2⟩:=List.getElem?_eq_some_iff.mp b;exact(List.getElem_inj hN).mp (e1.trans e2.symm)
theorem Qb3{E:Value->Shared->Prop}{v:V}{u:Value}{Q:Unit->Shared->Prop}(I:Inv X pins σ H s)(hN:X.N.Nodup)(hi:X.N[i]?=some x)(hx:Loc X.env.scope x)(r:RelV v u)
  (h:∀s',Inv X pins (σ.set i (some v)) H s'->(∃a,Heap.SameBut a s.heap s'.heap/\(a=X.env.locals\/X.env.cells.lookup x=some a))->Q () s') (hf:X.fn x=true\/X.env.scope.names.lookup x=some .local:=by first|exact .inl rfl|exact .inr rfl|assumption):wpAny M A (storeName X.env x u) Q E s:=by
 obtain⟨m,hn,hl⟩:=id I.loc
 have hcls:(X.env.scope.kind==.class||(X.env.scope.kind==.module&&X.env.locals != X.env.globals))=false:=by rw [I.ok.kind];rfl
 have hiσ:i < σ.length:=by rw [I.len];exact(List.getElem?_eq_some_iff.mp hi).1
 have cne:=I.cne
 have tracked:∀{a:Addr} {h':Heap},(∃o,s.heap.get? a=some o/\H a=none)->Heap.SameBut a s.heap h'->HOk X.prog X.w H h':=fun {a h'} ha hs b ob e=>by
  obtain⟨_,_,hfree⟩:=ha;refine(I.hok b ob e).stay (fun c w' hc q=>(hs.2 c ?_).trans q) (fun _ q=>q) fun _ _ q=>q;rintro rfl
  rcases hc with rfl|hc
  ·rw [hfree]at e;cases e
  ·rw [hfree]at hc;cases hc
 rcases hx with hk|hk
 ·refine wpAny_storeName_local hk hn (fun h' hn' hs=>?_) hcls;obtain⟨oL,_,_,hoL,_⟩:=id hn
  refine h _ ⟨I.ok,I.os,I.bare,⟨fun b o e n hb hx=>?_,fun b o e n hb hx=>?_,I.base.free,fun b o e hx=>?_,I.base.tups,I.base.frzs,I.base.tbls⟩,⟨_,hn',fun j y v' e1 e2 e3=>?_⟩,fun y c e=>?_,I.free,I.freeC,fun p hp=>?_,tracked ⟨oL,hoL,I.free⟩ hs,by simpa using I.len⟩ ⟨_,hs,.inl rfl⟩
  ·exact(hs.2 b (Nat.ne_of_lt (Nat.lt_of_lt_of_le (Heap.lt_size e) I.ok.above))).trans (I.base.keep b o e n hb hx)
  ·obtain⟨sl,e1⟩:=I.base.slot b o e n hb hx;exact⟨sl,(hs.2 b (Nat.ne_of_lt (Nat.lt_of_lt_of_le (Heap.lt_size e) I.ok.above))).trans e1⟩
  ·obtain⟨o',e1⟩:=I.base.there b o e hx;exact⟨o',(hs.2 b (Nat.ne_of_lt (Nat.lt_of_lt_of_le (Heap.lt_size e) I.ok.above))).trans e1⟩
  ·by_cases hj:j=i
   ·subst hj;rw [hi]at e1;cases e1;rw [List.getElem?_set_self hiσ]at e2;cases e2
    exact⟨u,r,.inl ⟨hk,by simp⟩⟩
   ·rw [List.getElem?_set_ne (Ne.symm hj)]at e2;obtain⟨u',r',q⟩:=hl j y v' e1 e2 e3;refine⟨u',r',?_⟩
    rcases q with⟨k,e⟩|⟨k,c,e,z⟩
    ·refine .inl ⟨k,?_⟩;have:y≠x:=fun e=>hj (Qa0 hN e1 (e▸hi));simp [this,e]
    ·exact .inr ⟨k,c,e,z.sameBut hs (cne y c e)⟩
  ·obtain⟨w',z⟩:=I.cell y c e;exact⟨w',z.sameBut hs (cne y c e)⟩
  ·obtain⟨e,n,ne,nf,d⟩:=I.pin p hp;exact⟨(hs.2 p.1 ne).trans e,n,ne,nf,d⟩
 ·have hfn:X.fn x=true:=by
   rcases hf with z|z
   ·exact z
   ·rw [z]at hk;cases hk
  obtain⟨c,hc⟩:=I.ok.has x (.inl hk);obtain⟨w',z⟩:=I.cell x c hc;refine wpAny_storeName_cell I.ok.kind hk hc z (fun h' hc' hs=>?_);obtain⟨oc,hoc,hocd⟩:=id z
  refine h { s with heap:=h' } ⟨I.ok,I.os,I.bare,⟨fun b o e n hb hx=>?_,fun b o e n hb hx=>?_,I.base.free,fun b o e hx=>?_,I.base.tups,I.base.frzs,I.base.tbls⟩,⟨m,hn.sameBut hs (Ne.symm (cne x c hc)),fun j y v' e1 e2 e3=>?_⟩,fun y c' e=>?_,I.free,I.freeC,fun p hp=>?_,tracked ⟨oc,hoc,I.freeC x c hc⟩ hs,by simpa using I.len⟩ ⟨c,hs,.inr hc⟩
  ·exact(hs.2 b (Nat.ne_of_lt (Nat.lt_of_lt_of_le (Heap.lt_size e) (I.ok.cab x c hfn hc)))).trans (I.base.keep b o e n hb hx)
  ·obtain⟨sl,e1⟩:=I.base.slot b o e n hb hx;exact⟨sl,(hs.2 b (Nat.ne_of_lt (Nat.lt_of_lt_of_le (Heap.lt_size e) (I.ok.cab x c hfn hc)))).trans e1⟩
  ·obtain⟨o',e1⟩:=I.base.there b o e hx;exact⟨o',(hs.2 b (Nat.ne_of_lt (Nat.lt_of_lt_of_le (Heap.lt_size e) (I.ok.cab x c hfn hc)))).trans e1⟩
  ·by_cases hj:j=i
   ·subst hj;rw [hi]at e1;cases e1;rw [List.getElem?_set_self hiσ]at e2;cases e2;exact⟨u,r,.inr ⟨.inl hk,c,hc,hc'⟩⟩
   ·rw [List.getElem?_set_ne (Ne.symm hj)]at e2;obtain⟨u',r',q⟩:=hl j y v' e1 e2 e3;refine⟨u',r',?_⟩
    rcases q with q|⟨k,c',e,z'⟩
    ·exact .inl q
    ·refine .inr ⟨k,c',e,z'.sameBut hs ?_⟩;rintro rfl;exact hj (Qa0 hN e1 (I.ok.inj _ _ _ e hc▸hi))
  ·by_cases hcc:c'=c
   ·subst hcc;exact⟨_,hc'⟩
   ·obtain⟨w2,z2⟩:=I.cell y c' e;exact⟨w2,z2.sameBut hs hcc⟩
  ·obtain⟨e,n,ne,nf,d⟩:=I.pin p hp;refine⟨(hs.2 p.1 ?_).trans e,n,ne,nf,d⟩;intro q;rw [q,hoc]at e;have q':oc=p.2:=Option.some.inj e
   exact d w' (by rw [<-q'];exact hocd)
theorem QaM{E:Value->Shared->Prop}{v:V}{u:Value}{Q:Unit->Shared->Prop}(I:Inv X pins σ H s)(hN:X.N.Nodup)(hi:X.N[i]?=some x)(hx:Loc X.env.scope x)(r:RelV v u)
  (h:∀s',Inv X pins (σ.set i (some v)) H s'->Q () s') (hf:X.fn x=true\/X.env.scope.names.lookup x=some .local:=by first|exact .inl rfl|exact .inr rfl|assumption):wpAny M A (storeName X.env x u) Q E s :=
 Qb3 I hN hi hx r (fun s' I' _=>h s' I') hf
theorem Inv.call'{s':Shared}(I:Inv X pins σ H s)(ho:s'.os=s.os)(u:Un (frs X.stack) ch H H' s.heap s'.heap)(hok:HOk X.prog X.w H' s'.heap)(hg:AllBare s'.gens)
  (hch:∀b∈ch,(b∈X.ex\/X.s₀.heap.objs.size<=b)/\b≠X.env.locals/\(∀x c,X.env.cells.lookup x=some c->c≠b)/\∀p∈X.pn++pins,p.1≠b):Inv X pins σ H' s':=by
 obtain⟨h',g',d',t',o'⟩:=s';have e:o'=s.os:=ho;subst e;exact I.call (g':=g') (t':=t') (d':=d') u hok hg hch
end
noncomputable abbrev XK:=Value->Option Addr->Hp->Prop
noncomputable abbrev St:=List (Option V)
noncomputable abbrev VK:=V->Hp->Prop
noncomputable abbrev TE:=St->Hp->VK->Prop
noncomputable abbrev TT:=St->Hp->(Bool->Hp->Prop)->Prop
noncomputable abbrev TA:=St->Hp->(List V->Hp->Prop)->Prop
structure Ends where
 nx:St->Hp->Prop
 rt:VK
 bk:St->Hp->Prop:=fun _ _=>False
 ct:St->Hp->Prop:=fun _ _=>False
noncomputable abbrev TS:=Ends->St->Hp->Prop
noncomputable def EP(X:Cx)(pins:List (Addr×Obj))(σ:St)(Q:VK)(u:Value)(s':Shared):Prop:=∃v H',Inv X pins σ H' s'/\RelV v u/\Q v H'
noncomputable def TP(X:Cx)(pins:List (Addr×Obj))(σ:St)(Q:Bool->Hp->Prop)(b:Bool)(s':Shared):Prop:=∃H',Inv X pins σ H' s'/\Q b H'
noncomputable def AP(X:Cx)(pins:List (Addr×Obj))(σ:St)(Q:List V->Hp->Prop)(us:List Value)(s':Shared):Prop:=∃vs H',Inv X pins σ H' s'/\Vals vs us/\Q vs H'
noncomputable def SP(X:Cx)(pins:List (Addr×Obj))(D:Ends)(f:Flow)(s':Shared):Prop :=
 match f with
 | .next=>∃σ' H',Inv X pins σ' H' s'/\D.nx σ' H'
 | .brk=>∃σ' H',Inv X pins σ' H' s'/\D.bk σ' H'
 | .cont=>∃σ' H',Inv X pins σ' H' s'/\D.ct σ' H'
 | .ret u=>∃v σ' H',Inv X pins σ' H' s'/\RelV v u/\D.rt v H'
noncomputable def PE(X:Cx)(e:Expr)(t:TE):Prop :=
 ∀(pins:List (Addr×Obj)) (s:Shared) (σ:St) (H:Hp) (Q:VK),Inv X pins σ H s->t σ H Q->wpAny (model X.prog X.w) X.A (eval e X.env) (EP X pins σ Q) X.xe s
noncomputable def PT(X:Cx)(e:Expr)(t:TT):Prop :=
 ∀(pins:List (Addr×Obj)) (s:Shared) (σ:St) (H:Hp) (Q:Bool->Hp->Prop),Inv X pins σ H s->t σ H Q->wpAny (model X.prog X.w) X.A (isTrue e X.env (eval e X.env)) (TP X pins σ Q) X.xe s
noncomputable def PW(X:Cx)(e:Expr)(t:TT):Prop :=
 ∀(whole:Sem Value) (pins:List (Addr×Obj)) (s:Shared) (σ:St) (H:Hp) (Q:Bool->Hp->Prop),Inv X pins σ H s->t σ H Q->wpAny (model X.prog X.w) X.A (isTrue e X.env whole) (TP X pins σ Q) X.xe s
theorem PW.pt{X:Cx}{e:Expr}{t:TT}(h:PW X e t):PT X e t:=h _
noncomputable def PA(X:Cx)(es:List Expr)(t:TA):Prop :=
 ∀(pos:Pos) (pins:List (Addr×Obj)) (s:Shared) (σ:St) (H:Hp) (Q:List V->Hp->Prop),Inv X pins σ H s->t σ H Q->wpAny (model X.prog X.w) X.A (spliced (backTo pos (starEach es X.env))) (AP X pins σ Q) X.xe s
noncomputable def PS(X:Cx)(st:Stmt)(t:TS):Prop :=
 ∀(pins:List (Addr×Obj)) (s:Shared) (σ:St) (H:Hp) (D:Ends),Inv X pins σ H s->t D σ H->wpAny (model X.prog X.w) X.A (exec st X.env) (SP X pins D) X.xe s
noncomputable def PSs(X:Cx)(st:List Stmt)(t:TS):Prop :=
 ∀(pins:List (Addr×Obj)) (s:Shared) (σ:St) (H:Hp) (D:Ends),Inv X pins σ H s->t D σ H->wpAny (model X.prog X.w) X.A (execs st X.env) (SP X pins D) X.xe s
theorem thn{α:Type}{t:Sem α}{Q Q':α->Shared->Prop}{E:Value->Shared->Prop}{s:Shared}(h:wpAny M A t Q E s)(hQ:∀a s,Q a s->Q' a s):wpAny M A t Q' E s:=wpAny_mono h hQ fun _ _ x=>x
end L2
namespace L2
open PySem PySem.Spec PyProof.Rows
variable {pos:Pos}{x:Str}{u:Value}
section
variable {X:Cx}
noncomputable def QmT(i:Nat):TE:=fun σ H Q=>∃v,σ[i]?=some (some v)/\Q v H
noncomputable def tC(v:V):TE:=fun _ H Q=>Q v H
theorem Qh8{i:Nat}(hN:X.N[i]?=some x)(hv:Vis X.env.scope x)(hd:(x==("__debug__":Str))=false:=by decide) (hcd:(x==("__classdict__":Str))=false:=by decide):PE X (.Name x pos) (QmT i):=by
 intro pins s σ H Q I h;obtain⟨v,e,h⟩:=h;obtain⟨m,hn,hl⟩:=I.loc;obtain⟨u,r,l⟩:=hl i x v hN e hv;have fin:EP X pins σ Q u s:=⟨v,H,I,r,h⟩
 rcases l with⟨hk,hm⟩|⟨hk,c,hc,hcell⟩
 ·exact wpAny_Name (wpAny_loadName_local I.ok.kind hk hn hm fin) hd
 ·rcases hk with hk|hk
  ·exact wpAny_Name (wpAny_loadName_cell I.ok.kind hk hc hcell fin) hd
  ·exact wpAny_Name (wpAny_loadName_free I.ok.kind hk hc hcell fin hcd) hd
theorem Qid{i j pos}:PE X (.Constant (.int i) j pos) (tC (.int i)):=fun _ _ _ H _ I h=>wpAny_Constant_int ⟨.int i,H,I.tok _,⟨_,rfl⟩,h⟩
theorem QkI{b j pos}:PE X (.Constant (.bool b) j pos) (tC (.bl b)):=fun _ _ _ H _ I h=>Constant_bool ⟨.bl b,H,I,rfl,h⟩
theorem Qib{j pos}:PE X (.Constant .none j pos) (tC .non):=fun _ _ _ H _ I h=>Constant_none ⟨.non,H,I,rfl,h⟩
theorem Qia{x j pos}:PE X (.Constant (.str x) j pos) (tC (.str x)):=fun _ _ _ H _ I h=>Calls.Constant_str ⟨.str x,H,I.tok _,⟨_,rfl⟩,h⟩
noncomputable def Gl(X:Cx)(x:Str):Prop:=X.env.kindOf x=some .globalImplicit
theorem ZL{E:Value->Shared->Prop}{pins:List (Addr×Obj)}{s:Shared}{σ:St}{H:Hp}{Q:Value->Shared->Prop}(I:Inv X pins σ H s)(hg:Gl X x)(hm:X.mg x=some u)(h:Q u s)
  (hd:(x==("__debug__":Str))=false:=by decide):wpAny (model X.prog X.w) X.A (eval (.Name x pos) X.env) Q E s :=
 Calls.Name_function_global I.ok.kind hg (Calls.loadGlobal_global (by rw [I.ok.glob];exact I.mod.glob.keeps I.bk) hm h) hd
theorem YV{E:Value->Shared->Prop}{pins:List (Addr×Obj)}{s:Shared}{σ:St}{H:Hp}{Q:Value->Shared->Prop}(I:Inv X pins σ H s)(hg:Gl X x)(hm:X.mg x=none)(hv:bootBuiltins x=some u)(h:Q u s)
  (hn:x≠"__name__":=by decide) (hd:(x==("__debug__":Str))=false:=by decide):wpAny (model X.prog X.w) X.A (eval (.Name x pos) X.env) Q E s:=by
 obtain⟨mb,h1,h2⟩:=I.mod.blt
 exact Calls.Name_function_global I.ok.kind hg (Calls.loadGlobal_builtin (by rw [I.ok.glob];exact I.mod.glob.keeps I.bk) hm (by rw [I.ok.blt];exact h1.keeps I.bk) ((h2 x hn).trans hv) h) hd
theorem Qai{v:V}(hg:Gl X x)(hm:X.mg x=some u)(r:RelV v u)(hd:(x==("__debug__":Str))=false:=by decide):PE X (.Name x pos) (tC v):=
 fun _ _ _ H _ I h=>ZL I hg hm ⟨v,H,I,r,h⟩ hd
theorem QfT{v:V}(hg:Gl X x)(hm:X.mg x=none)(hv:bootBuiltins x=some u)(r:RelV v u)(hn:x≠"__name__":=by decide) (hd:(x==("__debug__":Str))=false:=by decide):PE X (.Name x pos) (tC v):=
 fun _ _ _ H _ I h=>YV I hg hm hv ⟨v,H,I,r,h⟩ hn hd
variable {a b:Expr}{ta tb:TE}
variable {tA tB':TT}{rest:List Expr}
noncomputable def Qm4(t u:TT):TT:=fun σ H Q=>t σ H fun c H1=>if c=true then u σ H1 Q else Q false H1
noncomputable def tOr(t u:TT):TT:=fun σ H Q=>t σ H fun c H1=>if c=true then Q true H1 else u σ H1 Q
noncomputable def QmY(t:TT):TT:=fun σ H Q=>t σ H fun c H1=>Q (!c) H1
theorem QfF(ha:PT X a tA):PW X (.BoolOp .And [a] pos) tA:=by
 intro wh pins s σ H Q I h;refine isTrue_and (thn (ha pins s σ H Q I h) fun c s1 e=>?_)
 cases c with
 | true=>exact isTrue_and_nil e
 | false=>exact e
theorem QhU(ha:PT X a tA):PW X (.BoolOp .Or [a] pos) tA:=by
 intro wh pins s σ H Q I h;refine isTrue_or (thn (ha pins s σ H Q I h) fun c s1 e=>?_)
 cases c with
 | false=>exact isTrue_or_nil e
 | true=>exact e
theorem QhV(ha:PT X a tA)(hb:PW X (.BoolOp .And (b::rest) pos) tB'):PW X (.BoolOp .And (a::b::rest) pos) (Qm4 tA tB'):=by
 intro wh pins s σ H Q I h;refine isTrue_and (thn (ha pins s σ H _ I h) fun c s1 ⟨H1,I1,q1⟩=>?_)
 cases c with
 | true=>exact hb wh pins s1 σ H1 Q I1 q1
 | false=>exact⟨H1,I1,q1⟩
theorem QkA(ha:PT X a tA)(hb:PW X (.BoolOp .Or (b::rest) pos) tB'):PW X (.BoolOp .Or (a::b::rest) pos) (tOr tA tB'):=by
 intro wh pins s σ H Q I h;refine isTrue_or (thn (ha pins s σ H _ I h) fun c s1 ⟨H1,I1,q1⟩=>?_)
 cases c with
 | true=>exact⟨H1,I1,q1⟩
 | false=>exact hb wh pins s1 σ H1 Q I1 q1
theorem QhY(ha:PT X a tA):PT X (.UnaryOp .Not a pos) (QmY tA):=by
 intro pins s σ H Q I h;exact isTrue_not (ha pins s σ H (fun c H1=>Q (!c) H1) I h)
noncomputable def Qkj(ta tb:TE):TE:=fun σ H Q=>ta σ H fun x H1=>∃c,x=.bl c/\if c=true then tb σ H1 Q else Q (.bl false) H1
noncomputable def QmX(ta tb:TE):TE:=fun σ H Q=>ta σ H fun x H1=>∃c,x=.bl c/\if c=true then Q (.bl true) H1 else tb σ H1 Q
theorem QeH{op}{t:TE}(h:PE X a t):PE X (.BoolOp op [a] pos) t:=fun pins s σ H Q I hw=>BoolOp_one (h pins s σ H Q I hw)
theorem Qig(ha:PE X a ta)(hb:PE X (.BoolOp .And (b::rest) pos) tb):PE X (.BoolOp .And (a::b::rest) pos) (Qkj ta tb):=by
 intro pins s σ H Q I h;refine BoolOp_and (thn (ha pins s σ H _ I h) fun v s1 ⟨x,H1,I1,r1,q1⟩=>?_);obtain⟨c,rfl,q1⟩:=q1;cases r1;refine wpAny_truthy_bool ?_
 cases c with
 | true=>exact hb pins s1 σ H1 Q I1 q1
 | false=>exact⟨.bl false,H1,I1,rfl,q1⟩
theorem QkE(ha:PE X a ta)(hb:PE X (.BoolOp .Or (b::rest) pos) tb):PE X (.BoolOp .Or (a::b::rest) pos) (QmX ta tb):=by
 intro pins s σ H Q I h;refine BoolOp_or (thn (ha pins s σ H _ I h) fun v s1 ⟨x,H1,I1,r1,q1⟩=>?_);obtain⟨c,rfl,q1⟩:=q1;cases r1;refine wpAny_truthy_bool ?_
 cases c with
 | false=>exact hb pins s1 σ H1 Q I1 q1
 | true=>exact⟨.bl true,H1,I1,rfl,q1⟩
noncomputable def tIf(t:TT)(ta tb:TE):TE:=fun σ H Q=>t σ H fun c H1=>if c=true then ta σ H1 Q else tb σ H1 Q
theorem QdN{c:Expr}(hc:PT X c tA)(ha:PE X a ta)(hb:PE X b tb):PE X (.IfExp c a b pos) (tIf tA ta tb):=by
 intro pins s σ H Q I h;refine wpAny_IfExp (thn (hc pins s σ H _ I h) fun d s1 ⟨H1,I1,q1⟩=>?_)
 cases d with
 | true=>exact ha pins s1 σ H1 Q I1 q1
 | false=>exact hb pins s1 σ H1 Q I1 q1
end
end L2
namespace L2
open PySem PySem.Spec PyProof.Rows
variable {X:Cx}{e tg:Expr}{H:Hp}{pins:List (Addr×Obj)}{pos:Pos}{P:Program}{s:Shared}{σ:St}{te:TE}{u:Value}{w:World}
noncomputable def SqL(K:PySem.W.Frag)(H:Hp)(a:Addr)(xs:List V):Prop :=
 Rd H a (.lst xs) \/
  ∃ (o : Obj) (its : Array Value) (n : Nat), K.lookup a = some o /\ o.cls = .type "list" /\ o.dict = none /\ o.data = .seq its n /\ its.size <= sizeLine /\ Vals xs its.toList
noncomputable def SqT(K:PySem.W.Frag)(H:Hp)(a:Addr)(xs:List V):Prop :=
 Rd H a (.tup xs) \/
  ∃ (o : Obj) (its : Array Value) (n : Nat), K.lookup a = some o /\ o.cls = .type "tuple" /\ o.data = .seq its n /\ its.size <= sizeLine /\ Vals xs its.toList
noncomputable def QnX:Value->Option V
 | .none=>some .non
 | .bool b=>some (.bl b)
 | .int i _=>some (.int i)
 | .str x _=>some (.str x)
 | .bytes b _=>some (.byt b)
 | .float b _=>some (.flt b)
 | .ref a=>some (.ref a)
 | .type n=>some (.ty n)
 | _=>none
theorem RelV.abs{x:V}(r:RelV x u):QnX u=some x:=by
 cases x with
 | non=>cases r;rfl
 | bl _=>cases r;rfl
 | int _=>obtain⟨t,rfl⟩:=r;rfl
 | str _=>obtain⟨t,rfl⟩:=r;rfl
 | byt _=>obtain⟨t,rfl⟩:=r;rfl
 | flt _=>obtain⟨t,rfl⟩:=r;rfl
 | ref _=>cases r;rfl
 | ty _=>cases r;rfl
theorem RelV.inj{x y:V}(r:RelV x u)(q:RelV y u):x=y:=Option.some.inj (r.abs.symm.trans q.abs)
theorem Vals.inj:∀{xs ys:List V} {us:List Value},Vals xs us->Vals ys us->xs=ys
 | _,_,_,.nil,.nil=>rfl
 | _,_,_,.cons r t,.cons r' t'=>by rw [r.inj r',Vals.inj t t']
section
variable {a:Addr}{xs ys:List V}
theorem SqL.of{K:PySem.W.Frag}(h:H a=some (.lst xs)):SqL K H a xs:=.inl (.inl h)
theorem SqT.of{K:PySem.W.Frag}(h:H a=some (.tup xs)):SqT K H a xs:=.inl (.inl h)
theorem Inv.list(I:Inv X pins σ H s)(h:SqL X.K H a xs):∃its:List Value,Vals xs its/\PlainL s.heap a its.toArray/\xs.length<=sizeLine:=by
 rcases h with h|⟨o,its,n,hk,hc,hd,hs,hz,r⟩
 ·obtain⟨z,its,n,r,e⟩:=h.ok I.hok;exact⟨its,r,⟨_,n,e,rfl,rfl,rfl⟩,z⟩
 ·refine⟨its.toList,r,⟨o,n,I.kIn a o hk,hc,hd,by simpa using hs⟩,?_⟩
  have e:=r.length;simp only [Array.length_toList]at e;omega
theorem Inv.tuple(I:Inv X pins σ H s)(h:SqT X.K H a xs):∃its:List Value,Vals xs its/\IsTup s.heap a its.toArray/\xs.length<=sizeLine:=by
 rcases h with h|⟨o,its,n,hk,hc,hs,hz,r⟩
 ·obtain⟨z,its,r,p⟩:=h.ok I.hok;exact⟨its,r,p,z⟩
 ·refine⟨its.toList,r,⟨o,I.kIn a o hk,hc,n,by simpa using hs⟩,?_⟩
  have e:=r.length;simp only [Array.length_toList]at e;omega
theorem Inv.list_inj(I:Inv X pins σ H s)(h:SqL X.K H a xs)(h':SqL X.K H a ys):xs=ys:=by
 obtain⟨its,r,⟨o,n,e,_,_,d⟩,_⟩:=I.list h;obtain⟨its',r',⟨o',n',e',_,_,d'⟩,_⟩:=I.list h';rw [e]at e';cases e';rw [d]at d';injection d' with d1 _
 have:its=its':=by simpa using congrArg Array.toList d1
 subst this;exact r.inj r'
theorem Inv.tuple_inj(I:Inv X pins σ H s)(h:SqT X.K H a xs)(h':SqT X.K H a ys):xs=ys:=by
 obtain⟨its,r,⟨o,e,_,n,d⟩,_⟩:=I.tuple h;obtain⟨its',r',⟨o',e',_,n',d'⟩,_⟩:=I.tuple h';rw [e]at e';cases e';rw [d]at d';injection d' with d1 _
 have:its=its':=by simpa using congrArg Array.toList d1
 subst this;exact r.inj r'
end
noncomputable abbrev Cx.wish(X:Cx)(E:Value->Shared->Prop):Cx:={ X with xe:=E }
noncomputable abbrev Cx.nox(X:Cx):Cx:=X.wish fun _ _=>False
theorem Cx.Ok.wish(ok:X.Ok)(E:Value->Shared->Prop):(X.wish E).Ok :=
 ⟨ok.mod,ok.kind,ok.glob,ok.blt,ok.above,ok.inj,ok.has,ok.cab,ok.hd,ok.frames,ok.stk,ok.exf,ok.bs,ok.bsz,ok.noex,ok.exfs,ok.funs,ok.frf⟩
theorem Cx.Ok.unwish{E:Value->Shared->Prop}(ok:(X.wish E).Ok):X.Ok :=
 ⟨ok.mod,ok.kind,ok.glob,ok.blt,ok.above,ok.inj,ok.has,ok.cab,ok.hd,ok.frames,ok.stk,ok.exf,ok.bs,ok.bsz,ok.noex,ok.exfs,ok.funs,ok.frf⟩
section
variable {E:Value->Shared->Prop}
theorem Inv.wish(I:Inv X pins σ H s)(E:Value->Shared->Prop):Inv (X.wish E) pins σ H s:=⟨I.ok.wish E,I.os,I.bare,I.base,I.loc,I.cell,I.free,I.freeC,I.pin,I.hok,I.len⟩
theorem Inv.unwish(I:Inv (X.wish E) pins σ H s):Inv X pins σ H s:=⟨I.ok.unwish,I.os,I.bare,I.base,I.loc,I.cell,I.free,I.freeC,I.pin,I.hok,I.len⟩
theorem SP.unwish{D:Ends}{f:Flow}{s':Shared}(h:SP (X.wish E) pins D f s'):SP X pins D f s':=by
 cases f with
 | next=>obtain⟨σ',H',I,q⟩:=h;exact⟨σ',H',I.unwish,q⟩
 | brk=>obtain⟨σ',H',I,q⟩:=h;exact⟨σ',H',I.unwish,q⟩
 | cont=>obtain⟨σ',H',I,q⟩:=h;exact⟨σ',H',I.unwish,q⟩
 | ret u=>obtain⟨v,σ',H',I,r,q⟩:=h;exact⟨v,σ',H',I.unwish,r,q⟩
theorem PSs.nox{st:List Stmt}{t:TS}(h:PSs X.nox st t):PSs X st t:=fun pins s σ H D I hw =>
 wpAny_mono (h pins s σ H D (I.wish _) hw) (fun _ _ q=>q.unwish) fun _ _ z=>False.elim z
end
section
variable {st:Stmt}{rest:List Stmt}{t u:TS}
noncomputable def Qfk:TS:=fun D σ H=>D.nx σ H
noncomputable def QmV(t u:TS):TS:=fun D σ H=>t { D with nx:=u D } σ H
theorem QfH:PSs X [] Qfk:=fun _ _ σ H _ I h=>wpAny_execs_nil ⟨σ,H,I,h⟩
theorem QdF(h1:PS X st t)(h2:PSs X rest u):PSs X (st::rest) (QmV t u):=by
 intro pins s σ H D I h;refine wpAny_execs_cons (thn (h1 pins s σ H { D with nx:=u D } I h) fun f s1 q=>?_)
 cases f with
 | next =>
  obtain⟨σ',H',I',q⟩:=q;exact h2 pins s1 σ' H' D I' q
 | ret v=>exact q
 | brk=>exact q
 | cont=>exact q
noncomputable def Qhy:TS:=fun D σ H=>D.bk σ H
noncomputable def Qki:TS:=fun D σ H=>D.ct σ H
theorem QfJ:PS X (.Pass pos) Qfk:=fun _ _ σ H _ I h=>wpAny_Pass ⟨σ,H,I,h⟩
theorem QdI:PS X (.Break pos) Qhy:=fun _ _ σ H _ I h=>wpAny_Break ⟨σ,H,I,h⟩
theorem Qag:PS X (.Continue pos) Qki:=fun _ _ σ H _ I h=>wpAny_Continue ⟨σ,H,I,h⟩
theorem Inv.quiet(I:Inv X pins σ H s):interactive X.env=false:=by simp [interactive,I.ok.kind]
theorem Qh2{x j pos pos'}:PS X (.Expr (.Constant (.str x) j pos) pos') Qfk:=fun _ s σ H _ I h=>wpAny_Expr (Calls.Constant_str (show SP X _ _ .next { s with toks:=s.toks+1 }from⟨σ,H,I.tok _,h⟩)) I.quiet
noncomputable def Qkh(te:TE):TS:=fun D σ H=>te σ H fun _ H1=>D.nx σ H1
theorem QfK(he:PE X e te)(hs:swapsWith e none pos.line X.env=pure false:=by rfl):PS X (.Expr e pos) (Qkh te):=by
 intro pins s σ H D I h;exact wpAny_Expr_any (thn (he pins s σ H _ I h) fun v s1 ⟨x,H1,I1,r1,q1⟩=>⟨σ,H1,I1,q1⟩) I.quiet hs
noncomputable def QmW(te:TE):TS:=fun D σ H=>te σ H D.rt
theorem QhZ(he:PE X e te):PS X (.Return (some e) pos) (QmW te):=by
 intro pins s σ H D I h;exact wpAny_Return_some (thn (he pins s σ H _ I h) fun v s1 ⟨x,H1,I1,r1,q1⟩=>⟨x,σ,H1,I1,r1,q1⟩)
noncomputable def Qkf:TS:=fun D _ H=>D.rt .non H
theorem QfI:PS X (.Return none pos) Qkf:=fun _ _ σ H _ I h=>wpAny_Return_none ⟨.non,σ,H,I,rfl,h⟩
noncomputable def Qm0(c:TT)(t u:TS):TS:=fun D σ H=>c σ H fun b H1=>if b=true then t D σ H1 else u D σ H1
theorem QkB{c:Expr}{a b:List Stmt}{tc:TT}(hc:PT X c tc)(ha:PSs X a t)(hb:PSs X b u):PS X (.If c a b pos) (Qm0 tc t u):=by
 intro pins s σ H D I h;refine wpAny_If (thn (hc pins s σ H _ I h) fun d s1 ⟨H1,I1,q1⟩=>?_)
 cases d with
 | true=>exact ha pins s1 σ H1 D I1 q1
 | false=>exact hb pins s1 σ H1 D I1 q1
end
noncomputable abbrev TG:=V->St->Hp->(St->Hp->Prop)->Prop
noncomputable abbrev TGs:=List V->St->Hp->(St->Hp->Prop)->Prop
noncomputable def PG(X:Cx)(target:Expr)(t:TG):Prop :=
 ∀(pins:List (Addr×Obj)) (s:Shared) (σ:St) (H:Hp) (v:V) (u:Value) (Q:St->Hp->Prop),Inv X pins σ H s->RelV v u->t v σ H Q ->
  wpAny (model X.prog X.w) X.A (assign target X.env u) (fun _ s'=>∃σ' H',Inv X pins σ' H' s'/\Q σ' H') X.xe s
noncomputable def PGs(X:Cx)(ts:List Expr)(t:TGs):Prop :=
 ∀(pins:List (Addr×Obj)) (s:Shared) (σ:St) (H:Hp) (vs:List V) (us:List Value) (Q:St->Hp->Prop),Inv X pins σ H s->Vals vs us->t vs σ H Q ->
  wpAny (model X.prog X.w) X.A (assignInOrder ((assignEach ts X.env).map (·.2)) us) (fun _ s'=>∃σ' H',Inv X pins σ' H' s'/\Q σ' H') X.xe s
noncomputable abbrev Qj2:=V->V->V->Hp->(Hp->Prop)->Prop
noncomputable def Qhh(X:Cx)(t:Qj2):Prop :=
 ∀(pins:List (Addr×Obj)) (s:Shared) (σ:St) (H:Hp) (o i v:V) (ov iv u:Value) (Q:Hp->Prop),Inv X pins σ H s->RelV o ov->RelV i iv->RelV v u->t o i v H Q ->
  wpAny (model X.prog X.w) X.A (setItem ov iv u) (fun _ s'=>∃H',Inv X pins σ H' s'/\Q H') X.xe s
noncomputable abbrev TIp:=V->V->Hp->VK->Prop
section

noncomputable def Qav(i:Nat):TG:=fun v σ H Q=>Q (σ.set i (some v)) H
theorem Qah{i:Nat}{x:Str}(hN:X.N.Nodup)(hi:X.N[i]?=some x)(hx:Loc X.env.scope x)(hf:X.fn x=true\/X.env.scope.names.lookup x=some .local:=by first|exact .inl rfl|exact .inr rfl|assumption):PG X (.Name x pos) (Qav i):=by
 intro pins s σ H v u Q I r h;exact wpAny_assign_Name (QaM I hN hi hx r (fun s' I'=>⟨_,H,I',h⟩) hf)
noncomputable def QmA:TGs:=fun vs σ H Q=>vs=[]/\Q σ H
noncomputable def QgG(t:TG)(u:TGs):TGs:=fun vs σ H Q=>∃v r,vs=v::r/\t v σ H fun σ' H'=>u r σ' H' Q
theorem Qcj:PGs X [] QmA:=by
 intro pins s σ H vs us Q I r h;obtain⟨e,h⟩:=h;subst e;cases r;exact assignInOrder_nil ⟨σ,H,I,h⟩
theorem Yj{es:List Expr}{t:TG}{u:TGs}(h1:PG X e t)(h2:PGs X es u)
  (hs:(assignEach (e::es) X.env).map (·.2)=assign e X.env::(assignEach es X.env).map (·.2):=by rfl):PGs X (e::es) (QgG t u):=by
 intro pins s σ H vs us Q I r h;obtain⟨v,vr,e1,h⟩:=h;subst e1
 cases r with
 | cons r rr =>
  rw [hs];refine assignInOrder_cons (thn (h1 pins s σ H _ _ _ I r h) fun _ s1 ⟨σ1,H1,I1,q1⟩=>?_);exact h2 pins s1 σ1 H1 _ _ Q I1 rr q1
noncomputable def Qmz(K:PySem.W.Frag)(n:Nat)(t:TGs):TG:=fun v σ H Q=>∃a xs,v=.ref a/\SqT K H a xs/\xs.length=n/\t xs σ H Q
theorem QeG{es:List Expr}{k:Nat}{t:TGs}{n:Nat}(hc:X.calm=true)(h:PGs X es t)
  (hn:(assignEach es X.env).length=n:=by rfl) (hst:(assignEach es X.env).findIdx? (·.1)=none:=by rfl):PG X (.Tuple es k pos) (Qmz X.K n t):=by
 intro pins s σ H v u Q I r hw;obtain⟨a,xs,e1,hq,hl,hw⟩:=hw;subst e1;cases r;obtain⟨its,rv,ht,hz⟩:=I.tuple hq
 refine assign_Tuple_tuple (I.ok.hd hc) ht (by simp [hn,<-hl,rv.length]) hst fun h' hx=>?_
 have I1:Inv X pins σ H { s with heap:=h' }:=I.kept (t':=s.toks) fun b o e=>hx b o (Nat.ne_of_lt (Heap.lt_size e)) e
 exact h pins _ σ H xs _ Q I1 (by simpa using rv) hw
noncomputable def Qnv(to ti:TE)(t:Qj2):TG:=fun v σ H Q=>to σ H fun o H1=>ti σ H1 fun i H2=>t o i v H2 fun H3=>Q σ H3
theorem Qh7{o i:Expr}{to ti:TE}{t:Qj2}(ho:PE X o to)(hi:PE X i ti)(hs:Qhh X t)
  (ha:∀v,assign (.Subscript o i pos) X.env v=(do
   let ov <-holding [v] (eval o X.env);let iv <-holding [v,ov] (eval i X.env)
   standAt pos
   holding [v,ov,iv] (setItem ov iv v)
   release [v,ov,iv] []):=by intro _;rfl):PG X (.Subscript o i pos) (Qnv to ti t):=by
 intro pins s σ H v u Q I r h;rw [ha];refine wpAny_bind (wpAny_holding (thn (ho pins s σ H _ I h) fun ov s1 ⟨x,H1,I1,r1,q1⟩=>?_));refine wpAny_bind (wpAny_holding (thn (hi pins s1 σ H1 _ I1 q1) fun iv s2 ⟨y,H2,I2,r2,q2⟩=>?_));refine wpAny_bind (wpAny_standAt (wpAny_bind (wpAny_holding (thn (hs pins s2 σ H2 x y v ov iv u _ I2 r1 r2 r q2) fun _ s3 ⟨H3,I3,q3⟩=>?_))));exact wpAny_release ⟨σ,H3,I3,q3⟩
noncomputable def QlD(te:TE)(g:TG):TS:=fun D σ H=>te σ H fun x H1=>g x σ H1 D.nx
theorem Qh3{g:TG}(he:PE X e te)(hg:PG X tg g)(hs:swapsWithSole [tg] e pos.line X.env=pure false:=by rfl)(hw:swappedStores [tg] e X.env=pure none:=by rfl)
  (h1:(assignEach [tg] X.env).map (·.2)=[assign tg X.env]:=by rfl):PS X (.Assign [tg] e pos) (QlD te g):=by
 intro pins s σ H D I h;refine wpAny_Assign_stores (thn (he pins s σ H _ I h) fun v s1 ⟨x,H1,I1,r1,q1⟩=>?_) hs hw;rw [h1];exact thn (hg pins s1 σ H1 x v _ I1 r1 q1) fun _ s2 q=>q
theorem QeD{i:Nat}{x:Str}{pos':Pos}(hN:X.N.Nodup)(hi:X.N[i]?=some x)(hx:Loc X.env.scope x)(he:PE X e te)(hs:swapsWith e (some (.Name x pos')) pos.line X.env=pure false:=by rfl)(hf:X.fn x=true\/X.env.scope.names.lookup x=some .local:=by first|exact .inl rfl|exact .inr rfl|assumption):
  PS X (.Assign [.Name x pos'] e pos) (QlD te (Qav i)):=by
 intro pins s σ H D I h;refine wpAny_Assign_Name (thn (he pins s σ H _ I h) fun v s1 ⟨y,H1,I1,r1,q1⟩=>?_) hs;exact QaM I1 hN hi hx r1 (fun s2 I2=>⟨_,H1,I2,q1⟩) hf
end
section

noncomputable def QeA(c:TT)(tb:TS):TS:=fun D σ H=>∃W:Nat->St->Hp->Prop,(∃m,W m σ H)/\∀m σ H,W m σ H ->
 c σ H fun b H1=>if b=true then ∃N:St->Hp->Prop,(∀σ' H',N σ' H'->∃m',m'<m/\W m' σ' H')/\tb { D with nx:=N,ct:=N,bk:=D.nx } σ H1 else D.nx σ H1
theorem QdG{c:Expr}{body:List Stmt}{tc:TT}{tb:TS}(hp:PassesOwn (model X.prog X.w) X.A X.env X.xe)(hc:PT X c tc)(hb:PSs X body tb):PS X (.While c body [] pos) (QeA tc tb):=by
 intro pins s σ H D I h;obtain⟨W,⟨m0,w0⟩,turn⟩:=h;refine wpAny_While (codeAny_whileLoop (fun n s'=>∃σ' H',Inv X pins σ' H' s'/\W n σ' H') ?_ m0 ⟨σ,H,I,w0⟩);rintro n s1 ⟨σ1,H1,I1,w1⟩;refine wpAny_passesOwn hp (thn (hc pins s1 σ1 H1 _ I1 (turn n σ1 H1 w1)) fun b s2 ⟨H2,I2,q2⟩=>?_)
 cases b with
 | true =>
  obtain⟨N,hN,q2⟩:=q2;rw [if_pos rfl];refine wpAny_passesOwn hp (thn (hb pins s2 σ1 H2 _ I2 q2) fun f s3 q3=>?_)
  cases f with
  | next =>
   obtain⟨σ3,H3,I3,n3⟩:=q3;obtain⟨m',hm,w3⟩:=hN σ3 H3 n3;exact⟨m',hm,σ3,H3,I3,w3⟩
  | cont =>
   obtain⟨σ3,H3,I3,n3⟩:=q3;obtain⟨m',hm,w3⟩:=hN σ3 H3 n3;exact⟨m',hm,σ3,H3,I3,w3⟩
  | brk=>exact q3
  | ret v=>exact q3
 | false =>
  rw [if_neg Bool.false_ne_true];exact wpAny_execs_nil ⟨σ1,H2,I2,q2⟩
end
structure It where
 go:Nat->Hp->Prop
 yld:Nat->Hp->V->Hp->Prop
 stop:Nat->Hp->Prop
noncomputable def QaH(X:Cx)(pins:List (Addr×Obj))(H:Hp)(b:Addr):Prop :=
 H b=none/\b≠X.env.locals/\b∉X.fs/\(b∈X.ex\/X.s₀.heap.objs.size<=b)/\(∀x c,X.env.cells.lookup x=some c->c≠b)/\∀p∈X.pn++pins,p.1≠b
theorem Inv.fpOk{H':Hp}{b:Addr}(I:Inv X pins σ H s)(hb:s.heap.objs.size<=b)(hn:H' b=none):QaH X pins H' b:=by
 refine⟨hn,Nat.ne_of_gt (Nat.lt_of_lt_of_le I.lt hb),I.nofs hb,.inr (Nat.le_trans I.sz hb),fun x c e z=>?_,fun p hp z=>?_⟩
 ·obtain⟨v,q⟩:=I.cell x c e
  exact absurd (Nat.lt_of_lt_of_le q.lt (by rw [z];exact hb)) (Nat.lt_irrefl _)
 ·exact absurd (Nat.lt_of_lt_of_le (Heap.lt_size (I.pin p hp).1) (by rw [z];exact hb)) (Nat.lt_irrefl _)
structure Turn(P:Program)(w:World)(K:PySem.W.Frag)(tg:Expr)(J:It)(fp:List Addr)(it:Addr)(tn:Nat->Heap->Prop):Prop where
 mem:it∈fp
 obj:∀i h,tn i h->∀b∈fp,∃o,h.get? b=some o/\∀v,o.data≠.cell v
 keep:∀i h h',tn i h->(∀b∈fp,∀o,h.get? b=some o->h'.get? b=some o)->tn i h'
 item:∀(X:Cx),X.prog=P->X.w=w->X.K=K->X.calm=true->∀(i:Nat) (pins:List (Addr×Obj)) (s:Shared) (σ:St) (H:Hp) (E:Value->Shared->Prop),Inv X pins σ H s->(∀b∈fp,QaH X pins H b)->tn i s.heap->J.go i H ->
  wpAny (model P w) X.A (pyNext (.ref it)) (fun r s1=>∃u,r=some u /\
   wpAny (model P w) X.A (letOwnedTupleGo tg (.ref it) u) (fun _ s2=>∃x H',Inv X pins σ H' s2/\RelV x u/\J.yld i H x H'/\tn (i+1) s2.heap/\∀b∈fp,H' b=none) E s1) E s
 done:∀(X:Cx),X.prog=P->X.w=w->X.K=K->X.calm=true->∀(i:Nat) (pins:List (Addr×Obj)) (s:Shared) (σ:St) (H:Hp) (E:Value->Shared->Prop),Inv X pins σ H s->(∀b∈fp,QaH X pins H b)->tn i s.heap->J.stop i H ->
  wpAny (model P w) X.A (pyNext (.ref it)) (fun r s1=>r=none/\Inv X pins σ H s1) E s
 self:∀(A:Around) (i:Nat) (s:Shared) (Q:Value->Shared->Prop) (E:Value->Shared->Prop),tn i s.heap->Q (.ref it) s->wpAny (model P w) A (pyIter (.ref it)) Q E s
noncomputable abbrev TI:=St->Hp->(It->Hp->Prop)->Prop
noncomputable def PIE(X:Cx)(pins:List (Addr×Obj))(σ:St)(tg:Expr)(R:It->Hp->Prop)(itv:Value)(s2:Shared):Prop :=
 ∃(it:Addr) (fp:List Addr) (tn:Nat->Heap->Prop) (J:It) (H':Hp),itv=.ref it/\Inv X pins σ H' s2/\Turn X.prog X.w X.K tg J fp it tn/\tn 0 s2.heap/\(∀b∈fp,QaH X pins H' b)/\R J H'
noncomputable def PI(X:Cx)(tg iter:Expr)(wi:TI):Prop :=
 ∀(pins:List (Addr×Obj)) (s:Shared) (σ:St) (H:Hp) (R:It->Hp->Prop),Inv X pins σ H s->wi σ H R ->
  wpAny (model X.prog X.w) X.A (eval iter X.env) (fun v s1=>wpAny (model X.prog X.w) X.A (pyIter v) (PIE X pins σ tg R) X.xe s1) X.xe s
theorem QgD{M:Model}{A:Around}{E:Value->Shared->Prop}{it:Addr}{o:Obj}{n:String}{vs:Array Value}{Q:Unit->Shared->Prop}(ho:s.heap.get? it=some o)(hc:o.cls=.type n)(hd:o.data=.fields vs)
  (hn:["enumerate","zip","dict_itemiterator","dict_reverseitemiterator","odict_iterator","itertools.zip_longest","itertools.pairwise"].contains n=false) (hQ:Q () s):wpAny M A (letOwnedTupleGo tg (.ref it) u) Q E s:=by
 unfold letOwnedTupleGo
 cases tg<;>first
  | exact wpAny_pure hQ
  | (cases u<;>first
    | exact wpAny_pure hQ
    | (refine wpAny_bind (wpAny_load ho ?_)
       rw [hc,hd];show wpAny M A (if(["enumerate","zip","dict_itemiterator","dict_reverseitemiterator","odict_iterator","itertools.zip_longest","itertools.pairwise"].contains n&&vs[0]?==some (rawInt _))=true then _ else _) Q E s
       rw [if_neg (by intro h;rw [hn,Bool.false_and]at h;cases h)]
       exact wpAny_pure hQ))
noncomputable def Itl(K:PySem.W.Frag)(a:Addr):It :=
 ⟨fun i H=>∃xs x,SqL K H a xs/\xs[i]?=some x,fun i H x H'=>H'=H/\∀xs,SqL K H a xs->xs[i]?=some x,fun i H=>∃xs,SqL K H a xs/\xs.length<=i⟩
noncomputable def Itt(K:PySem.W.Frag)(a:Addr):It :=
 ⟨fun i H=>∃xs x,SqT K H a xs/\xs[i]?=some x,fun i H x H'=>H'=H/\∀xs,SqT K H a xs->xs[i]?=some x,fun i H=>∃xs,SqT K H a xs/\xs.length<=i⟩
noncomputable def Itr(lo:Int)(n:Nat):It:=⟨fun i _=>i<n,fun i H x H'=>H'=H/\x=.int (lo+i),fun i _=>n<=i⟩
theorem QbW{K:PySem.W.Frag}(a it:Addr):Turn P w K tg (Itl K a) [it] it (fun i h=>h.IsListIter it a i) where
 mem:=by simp
 obj:=fun i h st b hb=>by
  have e:b=it:=by simpa using hb
  subst e;obtain⟨o,e,c,d⟩:=st
  exact⟨o,e,fun v z=>by rw [d]at z;cases z⟩
 keep:=fun i h h' st k=>st.at fun o e=>k it (by simp) o e
 item:=by
  intro X hP hw hK hc i pins s σ H E I hf st hg;subst hP hw hK;obtain⟨xs,x,hq,hx⟩:=hg;obtain⟨its,rv,p,hz⟩:=I.list hq;obtain⟨u,hu,ru⟩:=rv.get hx
  obtain⟨f0,f1,f2,f3,f4,f5⟩:=hf it (by simp)
  refine wpAny_pyNext_list_item st p.isList (x:=u) (by simpa using hu) fun h' st' sb=>?_
  have I1:Inv X pins σ H { s with heap:=h' }:=I.turned (t':=s.toks) (fun b o hb e=>(sb.2 b hb).trans e) f0 f1 f3 f4 f5;obtain⟨o,e,c,d⟩:=id st'
  exact⟨u,rfl,QgD (s:={ s with heap:=h' }) e c d (by decide) ⟨x,H,I1,ru,⟨rfl,fun ys hy=>by rw [I.list_inj hy hq];exact hx⟩,st',fun b hb=>(hf b hb).1⟩⟩
 done:=by
  intro X hP hw hK hc i pins s σ H E I hf st hg;subst hP hw hK;obtain⟨xs,hq,hx⟩:=hg;obtain⟨its,rv,p,hz⟩:=I.list hq
  obtain⟨f0,f1,f2,f3,f4,f5⟩:=hf it (by simp)
  have hl:=rv.length
  exact wpAny_pyNext_list_end (I.ok.hd hc) st p.isList (by simp;omega) fun h' eb=>⟨rfl,I.turned (t':=s.toks) (fun b o hb e=>eb b o hb e) f0 f1 f3 f4 f5⟩
 self:=fun _ _ _ _ _ st h=>wpAny_pyIter_listiter st h
theorem Qbj{K:PySem.W.Frag}(a it:Addr):Turn P w K tg (Itt K a) [it] it (fun i h=>h.IsTupleIter it a i) where
 mem:=by simp
 obj:=fun i h st b hb=>by
  have e:b=it:=by simpa using hb
  subst e;obtain⟨o,e,c,d⟩:=st
  exact⟨o,e,fun v z=>by rw [d]at z;cases z⟩
 keep:=fun i h h' st k=>st.at fun o e=>k it (by simp) o e
 item:=by
  intro X hP hw hK hc i pins s σ H E I hf st hg;subst hP hw hK;obtain⟨xs,x,hq,hx⟩:=hg;obtain⟨its,rv,p,hz⟩:=I.tuple hq;obtain⟨u,hu,ru⟩:=rv.get hx
  obtain⟨f0,f1,f2,f3,f4,f5⟩:=hf it (by simp)
  refine wpAny_pyNext_tuple_item st (show s.heap.IsTuple a its.toArray from p) (x:=u) (by simpa using hu) fun h' st' sb=>?_
  have I1:Inv X pins σ H { s with heap:=h' }:=I.turned (t':=s.toks) (fun b o hb e=>(sb.2 b hb).trans e) f0 f1 f3 f4 f5;obtain⟨o,e,c,d⟩:=id st'
  exact⟨u,rfl,QgD (s:={ s with heap:=h' }) e c d (by decide) ⟨x,H,I1,ru,⟨rfl,fun ys hy=>by rw [I.tuple_inj hy hq];exact hx⟩,st',fun b hb=>(hf b hb).1⟩⟩
 done:=by
  intro X hP hw hK hc i pins s σ H E I hf st hg;subst hP hw hK;obtain⟨xs,hq,hx⟩:=hg;obtain⟨its,rv,p,hz⟩:=I.tuple hq
  obtain⟨f0,f1,f2,f3,f4,f5⟩:=hf it (by simp)
  have hl:=rv.length
  exact wpAny_pyNext_tuple_end (I.ok.hd hc) st (show s.heap.IsTuple a its.toArray from p) (by simp;omega) fun h' eb=>⟨rfl,I.turned (t':=s.toks) (fun b o hb e=>eb b o hb e) f0 f1 f3 f4 f5⟩
 self:=fun _ _ _ _ _ st h=>wpAny_pyIter_tupleiter st h
theorem Qbk{K:PySem.W.Frag}(it:Addr)(lo:Int)(n:Nat):Turn P w K tg (Itr lo n) [it] it (fun i h=>IsRangeIter h it (lo+(i:Nat)*1) ((n:Int) - (i:Nat)) 1) where
 mem:=by simp
 obj:=fun i h st b hb=>by
  have e:b=it:=by simpa using hb
  subst e
  exact⟨_,st,fun v z=>by
   have z':Data.fields _=Data.cell v:=z
   cases z'⟩
 keep:=fun i h h' st k=>k it (by simp) _ st
 item:=by
  intro X hP hw hK hc i pins s σ H E I hf st hg;subst hP hw hK
  obtain⟨f0,f1,f2,f3,f4,f5⟩:=hf it (by simp)
  have W:=Walks.range (prog:=X.prog) (w:=X.w) (I.ok.hd hc) it lo 1 n;refine W.item i s _ _ hg st fun v h' tk hv st' kk=>?_;obtain⟨t,rfl⟩:=hv
  have I1:Inv X pins σ H { s with heap:=h',toks:=tk }:=I.turned (fun b o hb e=>kk b o (by simpa using hb) e) f0 f1 f3 f4 f5
  refine⟨_,rfl,QgD (s:={ s with heap:=h',toks:=tk }) (n:="range_iterator") st' rfl rfl (by decide) ⟨.int (lo+i),H,I1,⟨t,?_⟩,⟨rfl,rfl⟩,st',fun b hb=>(hf b hb).1⟩⟩
  rw [Int.mul_one]
 done:=by
  intro X hP hw hK hc i pins s σ H E I hf st hg;subst hP hw hK
  obtain⟨f0,f1,f2,f3,f4,f5⟩:=hf it (by simp)
  exact wpAny_pyNext_range_end (I.ok.hd hc) st (by have:n<=i:=hg;omega) fun h' eb=>⟨rfl,I.turned (t':=s.toks) (fun b o hb e=>eb b o hb e) f0 f1 f3 f4 f5⟩
 self:=fun _ _ _ _ _ st h=>wpAny_pyIter_rangeiter st h
end L2
namespace L2
open PySem PySem.Spec PyProof.Rows
variable {H:Hp}{pins:List (Addr×Obj)}{fp:List Addr}{pos:Pos}{s:Shared}{σ:St}
section
variable {X:Cx}{tg:Expr}
noncomputable def Qk4(K:PySem.W.Frag)(tl:TE):TI:=fun σ H R=>tl σ H fun x H1=>∃a,x=.ref a/\(∃xs,SqL K H1 a xs)/\R (Itl K a) H1
noncomputable def Qns(K:PySem.W.Frag)(tl:TE):TI:=fun σ H R=>tl σ H fun x H1=>∃a,x=.ref a/\(∃xs,SqT K H1 a xs)/\R (Itt K a) H1
theorem QfQ{l:Expr}{tl:TE}(hl:PE X l tl):PI X tg l (Qk4 X.K tl):=by
 intro pins s σ H R I h;refine thn (hl pins s σ H _ I h) fun v s1 ⟨x,H1,I1,r1,q1⟩=>?_;obtain⟨a,e,⟨xs,hq⟩,q⟩:=q1;subst e;cases r1;obtain⟨its,rv,p,hz⟩:=I1.list hq;refine wpAny_pyIter_list p.isList ?_;refine⟨s1.heap.objs.size,[s1.heap.objs.size],_,_,H1,rfl,I1.kept (t':=s1.toks) fun b o e=>Heap.get?_push_of_some _ e,QbW a _,⟨_,Heap.get?_push_size _ rfl,rfl,rfl⟩,fun b hb=>?_,q⟩
 have e:b=s1.heap.objs.size:=by simpa using hb
 subst e;exact I1.fpOk (Nat.le_refl _) (I1.hok.fresh (Nat.le_refl _))
theorem Qh4{l:Expr}{tl:TE}(hl:PE X l tl):PI X tg l (Qns X.K tl):=by
 intro pins s σ H R I h;refine thn (hl pins s σ H _ I h) fun v s1 ⟨x,H1,I1,r1,q1⟩=>?_;obtain⟨a,e,⟨xs,hq⟩,q⟩:=q1;subst e;cases r1;obtain⟨its,rv,p,hz⟩:=I1.tuple hq;refine wpAny_pyIter_tuple (show s1.heap.IsTuple a its.toArray from p) ?_;refine⟨s1.heap.objs.size,[s1.heap.objs.size],_,_,H1,rfl,I1.kept (t':=s1.toks) fun b o e=>Heap.get?_push_of_some _ e,Qbj a _,⟨_,Heap.get?_push_size _ rfl,rfl,rfl⟩,fun b hb=>?_,q⟩
 have e:b=s1.heap.objs.size:=by simpa using hb
 subst e;exact I1.fpOk (Nat.le_refl _) (I1.hok.fresh (Nat.le_refl _))
theorem QaR{R:It->Hp->Prop}{E:Value->Shared->Prop}{lo hi:Int}{t u v:Tok}{tk:Nat}(I:Inv X pins σ H s)(h1:-(2 ^ 62)<=lo)(h2:lo<2 ^ 62)(h3:-(2 ^ 62)<=hi)(h4:hi<2 ^ 62)
  (q:R (Itr lo (hi-lo).toNat) H):wpAny (model X.prog X.w) X.A (pyIter (.ref s.heap.objs.size)) (PIE X pins σ tg R) E { s with heap:=s.heap.push { cls:=.type "range",data:=.fields #[.int lo t,.int hi u,.int 1 v] },toks:=tk }:=by
 refine wpAny_pyIter_range (IsRange.new ..) (small_one h1 h2 h3 h4) ?_;have I1:Inv X pins σ H { s with heap:=s.heap.push { cls:=.type "range",data:=.fields #[.int lo t,.int hi u,.int 1 v] },toks:=tk }:=I.kept fun b o e=>Heap.get?_push_of_some _ e
 refine⟨(s.heap.push { cls:=.type "range",data:=.fields #[.int lo t,.int hi u,.int 1 v] }).objs.size,[(s.heap.push { cls:=.type "range",data:=.fields #[.int lo t,.int hi u,.int 1 v] }).objs.size],_,_,H,rfl,
  I1.kept (t':=tk) fun b o e=>Heap.get?_push_of_some _ e,Qbk _ lo (hi-lo).toNat,?_,fun b hb=>?_,q⟩
 ·have e1:lo+((0:Nat):Int)*1=lo:=by simp
  have e2:(((hi-lo).toNat:Nat):Int) - ((0:Nat):Int)=Builtin.Range.rangeSize lo hi 1:=by rw [rangeSize_one];split<;>omega
  show IsRangeIter _ _ (lo+((0:Nat):Int)*1) ((((hi-lo).toNat:Nat):Int) - ((0:Nat):Int)) 1;rw [e1,e2];exact Heap.get?_push_size _ rfl
 ·have e:b=(s.heap.push { cls:=.type "range",data:=.fields #[.int lo t,.int hi u,.int 1 v] }).objs.size:=by simpa using hb
  subst e;exact I1.fpOk (Nat.le_refl _) (I1.hok.fresh (Nat.le_refl _))
noncomputable def Qk3(ta:TA):TI:=fun σ H R=>ta σ H fun vs H1=>∃j:Int,vs=[.int j]/\-(2 ^ 62)<=j/\j<2 ^ 62/\R (Itr 0 j.toNat) H1
noncomputable def Qk2(ta:TA):TI:=fun σ H R=>ta σ H fun vs H1=>∃i j:Int,vs=[.int i,.int j]/\(-(2 ^ 62)<=i/\i<2 ^ 62/\-(2 ^ 62)<=j/\j<2 ^ 62)/\R (Itr i (j-i).toNat) H1
theorem Qci{a:Expr}{ta:TA}{p:Pos}(hg:Gl X "range") (hm:X.mg "range"=none) (ha:PA X [a] ta) (hs:starEach [a] X.env=[(false,eval a X.env)]:=by rfl):PI X tg (.Call (.Name "range" p) [a] [] pos) (Qk3 ta):=by
 intro pins s σ H R I h;refine Call_ (YV I hg hm boot_range (PyProof.Rows.callWith_type1 (thn (ha pos pins s σ H _ I h) fun us s1 ⟨vs,H1,I1,r1,q1⟩=>?_) hs rfl));obtain⟨j,e,q1,q2,q⟩:=q1;subst e
 cases r1 with
 | cons r rr =>
  cases rr;obtain⟨t,rfl⟩:=r
  exact call_range_1 (QaR I1 (by omega) (by omega) q1 q2 (by simpa using q))
theorem Qch{a b:Expr}{ta:TA}{p:Pos}(hg:Gl X "range") (hm:X.mg "range"=none) (ha:PA X [a,b] ta) (hs:starEach [a,b] X.env=[(false,eval a X.env),(false,eval b X.env)]:=by rfl) (hs2:starEach [b] X.env=[(false,eval b X.env)]:=by rfl):
  PI X tg (.Call (.Name "range" p) [a,b] [] pos) (Qk2 ta):=by
 intro pins s σ H R I h
 refine Call_ (YV I hg hm boot_range (PyProof.Rows.callWith_type1 (thn (ha pos pins s σ H _ I h) fun us s1 ⟨vs,H1,I1,r1,q1⟩=>?_) (by rw [hs,hs2]) (by rw [hs2];rfl)))
 obtain⟨i,j,e,⟨q1,q2,q3,q4⟩,q⟩:=q1;subst e
 cases r1 with
 | cons r rr =>
  cases rr with
  | cons r' rr =>
   cases rr;obtain⟨t,rfl⟩:=r;obtain⟨t',rfl⟩:=r';exact call_range_2 (QaR I1 q1 q2 q3 q4 q)
noncomputable def Qm1(wi:TI)(g:TG)(tb:TS):TS:=fun D σ H=>wi σ H fun J H1=>∃W:Nat->Nat->St->Hp->Prop,(∃m,W 0 m σ H1)/\∀i m σ H,W i m σ H ->
 (J.stop i H/\D.nx σ H)\/(J.go i H/\∃N:St->Hp->Prop,(∀σ' H',N σ' H'->∃m',m'<m/\W (i+1) m' σ' H')/\∀x H',J.yld i H x H'->g x σ H' fun σ2 H2=>tb { D with nx:=N,ct:=N,bk:=D.nx } σ2 H2)
noncomputable def Yv(fp:List Addr)(h:Heap):List (Addr×Obj):=fp.filterMap fun b=>(h.get? b).map fun o=>(b,o)
theorem Zi{h:Heap}{b:Addr}{o:Obj}(hb:b∈fp)(e:h.get? b=some o):(b,o)∈Yv fp h:=List.mem_filterMap.mpr ⟨b,hb,by rw [e];rfl⟩
theorem Qct{h:Heap}{p:Addr×Obj}(hp:p∈Yv fp h):p.1∈fp/\h.get? p.1=some p.2:=by
 obtain⟨b,hb,e⟩:=List.mem_filterMap.mp hp
 cases q:h.get? b with
 | none=>rw [q]at e;cases e
 | some o =>
  rw [q]at e;have e':(b,o)=p:=Option.some.inj e;subst e';exact⟨hb,q⟩
theorem Inv.pinned(I:Inv X pins σ H s)(hf:∀b∈fp,QaH X pins H b)(ho:∀b∈fp,∃o,s.heap.get? b=some o/\∀v,o.data≠.cell v):Inv X (pins++Yv fp s.heap) σ H s :=
 I.pins_of fun p hp=>(List.mem_append.mp hp).elim (fun z=>I.pin p (List.mem_append_right _ z)) fun z=>by
  obtain⟨hb,e⟩:=Qct z;obtain⟨f0,f1,f2,_⟩:=hf p.1 hb;obtain⟨o,e',d⟩:=ho p.1 hb;rw [e]at e';cases e';exact⟨e,f0,f1,f2,d⟩
theorem Inv.unpinned{pl:List (Addr×Obj)}(I:Inv X (pins++pl) σ H s):Inv X pins σ H s:=I.pins_of fun p hp=>I.pin p (List.mem_append_right _ (List.mem_append_left _ hp))
theorem Qh0{iter:Expr}{body:List Stmt}{wi:TI}{g:TG}{tb:TS}(hp:PassesOwn (model X.prog X.w) X.A X.env X.xe)(hc:X.calm=true)(hi:PI X tg iter wi)(hg:PG X tg g)(hb:PSs X body tb)
  (hs:∀x,foldedSetIterable iter X.env x=pure x:=by intro _;rfl):PS X (.For tg iter body [] pos) (Qm1 wi g tb):=by
 intro pins s σ H D I h;refine wpAny_For (thn (hi pins s σ H _ I h) fun v s1 h1=>thn h1 fun itv s2 h2=>?_) hs;obtain⟨it,fp,tn,J,H2,e,I2,T,st2,f2,W,⟨m0,w0⟩,turn⟩:=h2;subst e
 -- what stays true of the iterator's objects through the loop
 have stat:∀{H':Hp},(∀b∈fp,H' b=none)->∀b∈fp,QaH X pins H' b:=fun hn b hb=>⟨hn b hb,(f2 b hb).2⟩;refine codeAny_forLoop_any (fun n s'=>∃i σ' H',Inv X pins σ' H' s'/\tn i s'.heap/\(∀b∈fp,H' b=none)/\W i n σ' H') ?_ m0 ⟨0,σ,H2,I2,st2,fun b hb=>(f2 b hb).1,w0⟩;rintro n s3 ⟨i,σ3,H3,I3,st3,fr3,w3⟩
 rcases turn i n σ3 H3 w3 with⟨stop,qn⟩|⟨go,N,hN,step⟩
 ·refine wpAny_passesOwn hp (thn (T.done X rfl rfl rfl hc i pins s3 σ3 H3 X.xe I3 (stat fr3) st3 stop) fun r s4 ⟨hr,I4⟩=>?_);subst hr;exact wpAny_execs_nil ⟨σ3,H3,I4,qn⟩
 ·refine wpAny_passesOwn hp (thn (T.item X rfl rfl rfl hc i pins s3 σ3 H3 X.xe I3 (stat fr3) st3 go) fun r s4 ⟨u,hr,h4⟩=>?_);subst hr;refine wpAny_passesOwn hp (thn h4 fun _ s5 ⟨x,H5,I5,r5,y5,st5,fr5⟩=>?_);have I5':=I5.pinned (stat fr5) (T.obj _ _ st5);refine wpAny_passesOwn hp (thn (hg _ s5 σ3 H5 x u _ I5' r5 (step x H5 y5)) fun _ s6 ⟨σ6,H6,I6,q6⟩=>?_);refine wpAny_passesOwn hp (thn (hb _ s6 σ6 H6 _ I6 q6) fun f s7 q7=>?_)
  have again:∀{σ7:St} {H7:Hp},Inv X (pins++Yv fp s5.heap) σ7 H7 s7->N σ7 H7->∃m,m<n/\∃i σ' H',Inv X pins σ' H' s7/\tn i s7.heap/\(∀b∈fp,H' b=none)/\W i m σ' H':=fun {σ7 H7} I7 n7=>by
   obtain⟨m',hm,w7⟩:=hN σ7 H7 n7;refine⟨m',hm,i+1,σ7,H7,I7.unpinned,T.keep _ _ _ st5 fun b hb o e=>(I7.pin (b,o) (List.mem_append_right _ (List.mem_append_right _ (Zi hb e)))).1,fun b hb=>?_,w7⟩;obtain⟨o,e,d⟩:=T.obj _ _ st5 b hb;exact(I7.pin (b,o) (List.mem_append_right _ (List.mem_append_right _ (Zi hb e)))).2.1
  cases f with
  | next=>obtain⟨σ7,H7,I7,n7⟩:=q7;exact again I7 n7
  | cont=>obtain⟨σ7,H7,I7,n7⟩:=q7;exact again I7 n7
  | brk=>obtain⟨σ7,H7,I7,q7⟩:=q7;exact⟨σ7,H7,I7.unpinned,q7⟩
  | ret v=>obtain⟨x7,σ7,H7,I7,r7,q7⟩:=q7;exact⟨x7,σ7,H7,I7.unpinned,r7,q7⟩
end
end L2
namespace L2
open PySem PySem.Spec PyProof.Rows
variable {f:Value->Value->Sem Value}
noncomputable abbrev R2:=V->V->Hp->VK->Prop
noncomputable def OpR(X:Cx)(f:Value->Value->Sem Value)(r:R2):Prop :=
 ∀(pins:List (Addr×Obj)) (s:Shared) (σ:St) (H:Hp) (x y:V) (v u:Value) (Q:VK),Inv X pins σ H s->RelV x v->RelV y u->r x y H Q ->
  wpAny (model X.prog X.w) X.A (f v u) (EP X pins σ Q) X.xe s
noncomputable def UnR(X:Cx)(f:Value->Sem Value)(r:V->Hp->VK->Prop):Prop :=
 ∀(pins:List (Addr×Obj)) (s:Shared) (σ:St) (H:Hp) (x:V) (v:Value) (Q:VK),Inv X pins σ H s->RelV x v->r x H Q ->
  wpAny (model X.prog X.w) X.A (f v) (EP X pins σ Q) X.xe s
noncomputable def CallR(X:Cx)(f:Value)(r:List V->Hp->VK->Prop):Prop :=
 ∀(pins:List (Addr×Obj)) (s:Shared) (σ:St) (H:Hp) (xs:List V) (us:List Value) (Q:VK),Inv X pins σ H s->Vals xs us->r xs H Q ->
  wpAny (model X.prog X.w) X.A (call f us) (EP X pins σ Q) X.xe s
noncomputable def QnY(X:Cx)(r:V->Hp->(Bool->Hp->Prop)->Prop):Prop :=
 ∀(pins:List (Addr×Obj)) (s:Shared) (σ:St) (H:Hp) (x:V) (v:Value) (Q:Bool->Hp->Prop),Inv X pins σ H s->RelV x v->r x H Q ->
  wpAny (model X.prog X.w) X.A (truthy v) (TP X pins σ Q) X.xe s
noncomputable def tOp(r:R2)(ta tb:TE):TE:=fun σ H Q=>ta σ H fun x H1=>tb σ H1 fun y H2=>r x y H2 Q
noncomputable def tUn(r:V->Hp->VK->Prop)(ta:TE):TE:=fun σ H Q=>ta σ H fun x H1=>r x H1 Q
noncomputable def rI(C:Int->Int->Prop)(g:Int->Int->V):R2:=fun x y H Q=>∃i j,x=.int i/\y=.int j/\C i j/\Q (g i j) H
noncomputable def rI0(g:Int->Int->V):R2:=fun x y H Q=>∃i j,x=.int i/\y=.int j/\Q (g i j) H
noncomputable def rU(g:Int->V):V->Hp->VK->Prop:=fun x H Q=>∃i,x=.int i/\Q (g i) H
section
variable {X:Cx}{a b c:Expr}{ta tb tc:TE}{pos:Pos}
theorem Qlq(ha:PE X a ta)(hb:PE X b tb){pins:List (Addr×Obj)}{s:Shared}{σ:St}{H:Hp}{R:V->V->Hp->Prop}(I:Inv X pins σ H s)
  (h:ta σ H fun x H1=>tb σ H1 fun y H2=>R x y H2) {Q:Value->Shared->Prop}
  (hf:∀v u s2 x y H2,Inv X pins σ H2 s2->RelV x v->RelV y u->R x y H2->wpAny (model X.prog X.w) X.A (f v u) Q X.xe s2):
  wpAny (model X.prog X.w) X.A (eval a X.env) (fun v s₁=>wpAny (model X.prog X.w) X.A (eval b X.env) (fun u s₂=>wpAny (model X.prog X.w) X.A (f v u) Q X.xe s₂) X.xe s₁) X.xe s:=by
 refine thn (ha pins s σ H _ I h) fun v s1 ⟨x,H1,I1,r1,q1⟩=>?_;refine thn (hb pins s1 σ H1 _ I1 q1) fun u s2 ⟨y,H2,I2,r2,q2⟩=>?_;exact hf v u s2 x y H2 I2 r1 r2 q2
theorem QkF{op:Operator}{r:R2}(ho:OpR X (binaryOp op) r)(ha:PE X a ta)(hb:PE X b tb):PE X (.BinOp a op b pos) (tOp r ta tb):=by
 intro pins s σ H Q I h;exact wpAny_BinOp (Qlq ha hb I h fun v u s2 x y H2 I2 rx ry q=>ho pins s2 σ H2 x y v u Q I2 rx ry q)
theorem QkD{op:UnaryOp}{r:V->Hp->VK->Prop}(ho:UnR X (unaryOp op) r)(ha:PE X a ta):PE X (.UnaryOp op a pos) (tUn r ta):=by
 intro pins s σ H Q I h;exact UnaryOp_ (thn (ha pins s σ H _ I h) fun v s1 ⟨x,H1,I1,r1,q1⟩=>ho pins s1 σ H1 x v Q I1 r1 q1)
theorem opI{C:Int->Int->Prop}{g:Int->Int->Int}
  (rule:∀(i j:Int) (t u:Tok) (s:Shared) (Q:Value->Shared->Prop) (E:Value->Shared->Prop),C i j->Q (.int (g i j) s.toks) { s with toks:=s.toks+1 }->wpAny (model X.prog X.w) X.A (f (.int i t) (.int j u)) Q E s):
  OpR X f (rI C fun i j=>.int (g i j)):=by
 intro pins s σ H x y v u Q I rx ry h;obtain⟨i,j,rfl,rfl,hc,q⟩:=h;obtain⟨t,rfl⟩:=rx;obtain⟨t',rfl⟩:=ry;exact rule i j t t' s _ _ hc ⟨.int (g i j),H,I.tok _,⟨_,rfl⟩,q⟩
theorem Qmr{g:Int->Int->Int}
  (rule:∀(i j:Int) (t u:Tok) (s:Shared) (Q:Value->Shared->Prop) (E:Value->Shared->Prop),Q (.int (g i j) s.toks) { s with toks:=s.toks+1 }->wpAny (model X.prog X.w) X.A (f (.int i t) (.int j u)) Q E s):
  OpR X f (rI0 fun i j=>.int (g i j)):=by
 intro pins s σ H x y v u Q I rx ry h;obtain⟨i,j,rfl,rfl,q⟩:=h;obtain⟨t,rfl⟩:=rx;obtain⟨t',rfl⟩:=ry;exact rule i j t t' s _ _ ⟨.int (g i j),H,I.tok _,⟨_,rfl⟩,q⟩
theorem QjU{g:Int->Int->Bool}
  (rule:∀(i j:Int) (t u:Tok) (s:Shared) (Q:Value->Shared->Prop) (E:Value->Shared->Prop),Q (.bool (g i j)) s->wpAny (model X.prog X.w) X.A (f (.int i t) (.int j u)) Q E s):
  OpR X f (rI0 fun i j=>.bl (g i j)):=by
 intro pins s σ H x y v u Q I rx ry h;obtain⟨i,j,rfl,rfl,q⟩:=h;obtain⟨t,rfl⟩:=rx;obtain⟨t',rfl⟩:=ry;exact rule i j t t' s _ _ ⟨.bl (g i j),H,I,rfl,q⟩
noncomputable def Qn4(i j:Int):Prop:=0<=j/\j<=1000000/\i.natAbs<2 ^ 64
noncomputable def CMul(i j:Int):Prop:=(-(2 ^ 64) < i/\i<2 ^ 64)\/(-(2 ^ 64) < j/\j<2 ^ 64)
theorem CMul.ok{i j:Int}(h:CMul i j):IntMulOk i j:=by
 rcases h with⟨h1,h2⟩|⟨h1,h2⟩
 ·exact .of_left (intBits_le_64 h1 h2)
 ·exact .of_right (intBits_le_64 h1 h2)
theorem Qiv:OpR X (binaryOp .Add) (rI0 fun i j=>.int (i+j)):=Qmr fun _ _ _ _ _ _ _ q=>add_int q
theorem Qii:OpR X (binaryOp .Sub) (rI0 fun i j=>.int (i-j)):=Qmr fun _ _ _ _ _ _ _ q=>sub_int q
theorem Qio:OpR X (binaryOp .Mod) (rI (fun _ j=>0<j) fun i j=>.int (i % j)):=opI fun i j _ _ _ _ _ hc q=>by
 have h1:(0:Int) < j:=hc
 exact mod_int' (by omega) (by rw [Int.fmod_eq_emod_of_nonneg i (by omega)];exact q)
theorem Qik:OpR X (binaryOp .Pow) (rI Qn4 fun i j=>.int (i ^ j.toNat)):=opI fun _ _ _ _ _ _ _ hc q=>pow_int_small hc.1 hc.2.1 hc.2.2 q
theorem unI{f:Value->Sem Value}{g:Int->Int}
  (rule:∀(i:Int) (t:Tok) (s:Shared) (Q:Value->Shared->Prop) (E:Value->Shared->Prop),Q (.int (g i) s.toks) { s with toks:=s.toks+1 }->wpAny (model X.prog X.w) X.A (f (.int i t)) Q E s):
  UnR X f (rU fun i=>.int (g i)):=by
 intro pins s σ H x v Q I rx h;obtain⟨i,rfl,q⟩:=h;obtain⟨t,rfl⟩:=rx;exact rule i t s _ _ ⟨.int (g i),H,I.tok _,⟨_,rfl⟩,q⟩
theorem Qhn:UnR X (unaryOp .USub) (rU fun i=>.int (-i)):=unI fun _ _ _ _ _ q=>neg_int q
end
noncomputable def Qkl:V->V->Bool
 | .non,.non=>true|.non,.int _=>true|.int _,.non=>true|.non,.bl _=>true|.bl _,.non=>true|.non,.str _=>true|.str _,.non=>true
 | .int _,.int _=>true|.bl _,.bl _=>true|.str _,.str _=>true|.byt _,.byt _=>true
 | .int _,.str _=>true|.str _,.int _=>true|.bl _,.str _=>true|.str _,.bl _=>true
 | _,_=>false
noncomputable def rEq:R2:=fun x y H Q=>Qkl x y=true/\Q (.bl (decide (x=y))) H
noncomputable def rNe:R2:=fun x y H Q=>Qkl x y=true/\Q (.bl (!decide (x=y))) H
theorem QcV{i j:Int}:decide (V.int i=V.int j)=(i==j):=by
 rw [Bool.eq_iff_iff];simp
theorem QeT{i j:Bool}:decide (V.bl i=V.bl j)=(i==j):=by
 rw [Bool.eq_iff_iff];simp
theorem QcU{i j:Str}:decide (V.str i=V.str j)=(i==j):=by
 rw [Bool.eq_iff_iff];simp
theorem QcW{i j:Array UInt8}:decide (V.byt i=V.byt j)=(i.toList==j.toList):=by
 rw [Bool.eq_iff_iff];cases i;cases j;simp
section
variable {X:Cx}{a b c:Expr}{ta tb tc:TE}{pos:Pos}
theorem Qt{pins:List (Addr×Obj)}{σ:St}{H:Hp}{s:Shared}{Q:VK}{k k':Bool}(I:Inv X pins σ H s)(q:Q (.bl k) H)(e:k=k'):EP X pins σ Q (.bool k') s:=by
 subst e;exact⟨.bl k,H,I,rfl,q⟩
theorem QkO:OpR X (compareOp .Eq) rEq:=by
 intro pins s σ H x y v u Q I rx ry h;obtain⟨hs,q⟩:=h
 cases x with
 | non =>
  cases rx
  cases y with
  | non=>cases ry;exact PySem.EqNone.eq_none_none (Qt I q (by simp))
  | bl j=>cases ry;exact PySem.EqNone.eq_none_bool (Qt I q (by simp))
  | int j=>obtain⟨t',rfl⟩:=ry;exact PySem.EqNone.eq_none_int (Qt I q (by simp))
  | str j=>obtain⟨t',rfl⟩:=ry;exact PySem.EqNone.eq_none_str (Qt I q (by simp))
  | _=>exact absurd (show false=true from hs) Bool.false_ne_true
 | bl i =>
  cases rx
  cases y with
  | non=>cases ry;exact PySem.EqNone.eq_bool_none (Qt I q (by simp))
  | bl j=>cases ry;exact eq_bool (Qt I q QeT)
  | str j=>obtain⟨t',rfl⟩:=ry;exact PySem.EqMixed.eq_bool_str (Qt I q (by simp))
  | _=>exact absurd (show false=true from hs) Bool.false_ne_true
 | int i =>
  obtain⟨t,rfl⟩:=rx
  cases y with
  | non=>cases ry;exact PySem.EqNone.eq_int_none (Qt I q (by simp))
  | int j=>obtain⟨t',rfl⟩:=ry;exact eq_int (Qt I q QcV)
  | str j=>obtain⟨t',rfl⟩:=ry;exact PySem.EqMixed.eq_int_str (Qt I q (by simp))
  | _=>exact absurd (show false=true from hs) Bool.false_ne_true
 | str i =>
  obtain⟨t,rfl⟩:=rx
  cases y with
  | non=>cases ry;exact PySem.EqNone.eq_str_none (Qt I q (by simp))
  | bl j=>cases ry;exact PySem.EqMixed.eq_str_bool (Qt I q (by simp))
  | int j=>obtain⟨t',rfl⟩:=ry;exact PySem.EqMixed.eq_str_int (Qt I q (by simp))
  | str j=>obtain⟨t',rfl⟩:=ry;exact eq_str (Qt I q QcU)
  | _=>exact absurd (show false=true from hs) Bool.false_ne_true
 | byt i =>
  obtain⟨t,rfl⟩:=rx
  cases y with
  | byt j=>obtain⟨t',rfl⟩:=ry;exact PySem.W.eq_bytes (Qt I q QcW)
  | _=>exact absurd (show false=true from hs) Bool.false_ne_true
 | _=>cases y<;>exact absurd (show false=true from hs) Bool.false_ne_true
theorem QkJ:OpR X (compareOp .NotEq) rNe:=by
 intro pins s σ H x y v u Q I rx ry h;obtain⟨hs,q⟩:=h
 cases x with
 | non =>
  cases rx
  cases y with
  | non=>cases ry;exact PySem.EqNone.ne_none_none (Qt I q (by simp))
  | bl j=>cases ry;exact PySem.EqNone.ne_none_bool (Qt I q (by simp))
  | int j=>obtain⟨t',rfl⟩:=ry;exact PySem.EqNone.ne_none_int (Qt I q (by simp))
  | str j=>obtain⟨t',rfl⟩:=ry;exact PySem.EqNone.ne_none_str (Qt I q (by simp))
  | _=>exact absurd (show false=true from hs) Bool.false_ne_true
 | bl i =>
  cases rx
  cases y with
  | non=>cases ry;exact PySem.EqNone.ne_bool_none (Qt I q (by simp))
  | bl j=>cases ry;exact ne_bool (Qt I q (congrArg not QeT))
  | str j=>obtain⟨t',rfl⟩:=ry;exact PySem.EqMixed.ne_bool_str (Qt I q (by simp))
  | _=>exact absurd (show false=true from hs) Bool.false_ne_true
 | int i =>
  obtain⟨t,rfl⟩:=rx
  cases y with
  | non=>cases ry;exact PySem.EqNone.ne_int_none (Qt I q (by simp))
  | int j=>obtain⟨t',rfl⟩:=ry;exact ne_int (Qt I q (congrArg not QcV))
  | str j=>obtain⟨t',rfl⟩:=ry;exact PySem.EqMixed.ne_int_str (Qt I q (by simp))
  | _=>exact absurd (show false=true from hs) Bool.false_ne_true
 | str i =>
  obtain⟨t,rfl⟩:=rx
  cases y with
  | non=>cases ry;exact PySem.EqNone.ne_str_none (Qt I q (by simp))
  | bl j=>cases ry;exact PySem.EqMixed.ne_str_bool (Qt I q (by simp))
  | int j=>obtain⟨t',rfl⟩:=ry;exact PySem.EqMixed.ne_str_int (Qt I q (by simp))
  | str j=>obtain⟨t',rfl⟩:=ry;exact ne_str (Qt I q (congrArg not QcU))
  | _=>exact absurd (show false=true from hs) Bool.false_ne_true
 | byt i =>
  obtain⟨t,rfl⟩:=rx
  cases y with
  | byt j=>obtain⟨t',rfl⟩:=ry;exact PySem.W.ne_bytes (Qt I q (congrArg not QcW))
  | _=>exact absurd (show false=true from hs) Bool.false_ne_true
 | _=>cases y<;>exact absurd (show false=true from hs) Bool.false_ne_true
theorem QkK:OpR X (compareOp .Lt) (rI0 fun i j=>.bl (decide (i<j))):=QjU fun _ _ _ _ _ _ _ q=>lt_int q
theorem QkL:OpR X (compareOp .LtE) (rI0 fun i j=>.bl (decide (i<=j))):=QjU fun _ _ _ _ _ _ _ q=>le_int q
theorem QkM:OpR X (compareOp .Gt) (rI0 fun i j=>.bl (decide (j<i))):=QjU fun _ _ _ _ _ _ _ q=>gt_int q
theorem QkN:OpR X (compareOp .GtE) (rI0 fun i j=>.bl (decide (j<=i))):=QjU fun _ _ _ _ _ _ _ q=>ge_int q
theorem Qcp:OpR X (compareOp .In) (fun x y H Q=>∃i j,x=.str i/\y=.str j/\Q (.bl (!(Builtin.Str.occurrences j i 0 j.length 1).isEmpty)) H):=by
 intro pins s σ H x y v u Q I rx ry h;obtain⟨i,j,rfl,rfl,q⟩:=h;obtain⟨t,rfl⟩:=rx;obtain⟨t',rfl⟩:=ry;exact in_str (Qt I q rfl)
theorem Qip:OpR X (compareOp .Is) (fun x y H Q=>y=.non/\Q (.bl (decide (x=.non))) H):=by
 intro pins s σ H x y v u Q I rx ry h;obtain⟨rfl,q⟩:=h;cases ry;refine is_none_gen (Qt I q ?_)
 cases x<;>first
  | (cases rx;rfl)
  | (obtain⟨t,rfl⟩:=rx;rfl)
theorem QfV:OpR X (compareOp .IsNot) (fun x y H Q=>y=.non/\Q (.bl (!decide (x=.non))) H):=by
 intro pins s σ H x y v u Q I rx ry h;obtain⟨rfl,q⟩:=h;cases ry;refine isnot_none_gen (Qt I q ?_)
 cases x<;>first
  | (cases rx;rfl)
  | (obtain⟨t,rfl⟩:=rx;rfl)
theorem JC:OpR X (compareOp .NotIn) (fun x y H Q=>∃i j,x=.str i/\y=.str j/\Q (.bl (!(!(Builtin.Str.occurrences j i 0 j.length 1).isEmpty))) H):=by
 intro pins s σ H x y v u Q I rx ry h;obtain⟨i,j,rfl,rfl,q⟩:=h;obtain⟨t,rfl⟩:=rx;obtain⟨t',rfl⟩:=ry;exact notIn_str (Qt I q rfl)
theorem OpR.or{r r':R2}(h:OpR X f r)(h':OpR X f r'):OpR X f (fun x y H Q=>r x y H Q\/r' x y H Q):=by
 intro pins s σ H x y v u Q I rx ry q
 rcases q with q|q
 ·exact h pins s σ H x y v u Q I rx ry q
 ·exact h' pins s σ H x y v u Q I rx ry q
theorem QfS{op:CmpOp}{r:R2}(ho:OpR X (compareOp op) r)(ha:PE X a ta)(hb:PE X b tb)(hm:behindInMarks op b=false):PE X (.Compare a [op] [b] pos) (tOp r ta tb):=by
 intro pins s σ H Q I h;exact wpAny_Compare1 (Qlq ha hb I h fun v u s2 x y H2 I2 rx ry q=>ho pins s2 σ H2 x y v u Q I2 rx ry q) hm
noncomputable def Qke(t:TE):TT:=fun σ H Q=>t σ H fun x H'=>∃k,x=.bl k/\Q k H'
theorem QfG{op:CmpOp}{r:R2}(ho:OpR X (compareOp op) r)(ha:PE X a ta)(hb:PE X b tb)(hm:behindInMarks op b=false):PT X (.Compare a [op] [b] pos) (Qke (tOp r ta tb)):=by
 intro pins s σ H Q I h
 refine wpAny_isTrue_Compare1 (thn (ha pins s σ H _ I h) fun v s1 ⟨x,H1,I1,r1,q1⟩=>thn (hb pins s1 σ H1 _ I1 q1) fun u s2 ⟨y,H2,I2,r2,q2⟩=>
  thn (ho pins s2 σ H2 x y v u _ I2 r1 r2 q2) fun c s3 ⟨z,H3,I3,r3,k,e,q3⟩=>?_) hm
 subst e;cases r3;exact wpAny_truthy_bool ⟨H3,I3,q3⟩
noncomputable def QjC(K:PySem.W.Frag)(x:V)(H:Hp)(k:Bool):Prop :=
 match x with
 | .non=>k=false
 | .bl b=>k=b
 | .int i=>k=(i != 0)
 | .str y=>y.length<=sizeLine/\k=((y.length:Int) != 0)
 | .byt y=>y.size<=sizeLine/\k=((y.size:Int) != 0)
 | .ref p=>(∃xs,SqL K H p xs/\k=!xs.isEmpty)\/(∃xs,SqT K H p xs/\k=!xs.isEmpty)\/∃kvs,H p=some (.dK kvs)/\k=!kvs.isEmpty
 | _=>False
theorem Qby{κ:Type}{kvs:List (κ×V)}{vs:List (κ×Value)}(r:KV kvs vs):(!vs.isEmpty)=!kvs.isEmpty:=by
 cases r<;>rfl
theorem YX{xs:List V}{its:List Value}(r:Vals xs its):(!its.toArray.isEmpty)=!xs.isEmpty:=by
 cases r<;>simp
theorem YA:(sizeLine:Nat) < 2 ^ 63:=by rw [sizeLine_eq];decide
theorem Qey:QnY X (fun x H Q=>∃k,QjC X.K x H k/\Q k H):=by
 intro pins s σ H x v Q I rx h;obtain⟨k,e,q⟩:=h;have hl:=YA;have hs:sizeLine=16777216:=sizeLine_eq
 cases x with
 | non =>
  cases rx;have e':k=false:=e;subst e';exact truthy_none ⟨H,I,q⟩
 | bl b =>
  cases rx;have e':k=b:=e;subst e';exact wpAny_truthy_bool ⟨H,I,q⟩
 | int i =>
  obtain⟨t,rfl⟩:=rx;have e':k=(i != 0):=e;subst e';exact PySem.P.truthy_int ⟨H,I,q⟩
 | str y =>
  obtain⟨t,rfl⟩:=rx;obtain⟨hy,e'⟩:y.length<=sizeLine/\k=((y.length:Int) != 0):=e;subst e'
  exact PySem.P.truthy_str (by omega) ⟨H,I.tok _,q⟩
 | byt y =>
  obtain⟨t,rfl⟩:=rx;obtain⟨hy,e'⟩:y.size<=sizeLine/\k=((y.size:Int) != 0):=e;subst e'
  exact PySem.W.truthy_bytes (by omega) ⟨H,I.tok _,q⟩
 | ref p =>
  cases rx;have e':(∃xs,SqL X.K H p xs/\k=!xs.isEmpty)\/(∃xs,SqT X.K H p xs/\k=!xs.isEmpty)\/∃kvs,H p=some (.dK kvs)/\k=!kvs.isEmpty:=e
  rcases e' with⟨xs,hx,e'⟩|⟨xs,hx,e'⟩|⟨kvs,hx,e'⟩
  ·subst e';obtain⟨its,r,pl,hz⟩:=I.list hx;have hlen:=r.length
   exact wpAny_truthy_list pl.isList (by simp only [List.size_toArray];omega) ⟨H,I.tok _,by rw [YX r];exact q⟩
  ·subst e';obtain⟨its,r,pl,hz⟩:=I.tuple hx;have hlen:=r.length
   exact truthy_tuple pl (by simp only [List.size_toArray];omega) ⟨H,I.tok _,by rw [YX r];exact q⟩
  ·subst e';obtain⟨hz,hS,vs,r,m⟩:kvs.length<=sizeLine/\(p==sysModules)=false/\∃vs,KV kvs vs/\s.heap.DictOf (Zn X.prog X.w) p vs:=I.hok p _ hx;have hlen:kvs.length=vs.length:=Paired.length r
   exact wpAny_truthy_dict hS m (by omega) ⟨H,I.tok _,by rw [Qby r];exact q⟩
 | _=>exact(show False from e).elim
theorem QdE(ha:PE X a ta)(he:∀whole,isTrue a X.env whole=(do let v <-whole;standAt a.pos;holding [v] (truthy v))):
  PT X a (fun σ H Q=>ta σ H fun x H'=>∃k,QjC X.K x H' k/\Q k H'):=by
 intro pins s σ H Q I h;exact isTrue_plain (thn (ha pins s σ H _ I h) fun v s1 ⟨x,H1,I1,r1,q1⟩=>Qey pins s1 σ H1 x v Q I1 r1 q1) (he _)
theorem Qbs:OpR X (binaryOp .Add) (fun x y H Q=>∃i j,x=.str i/\y=.str j/\i.length+j.length<=sizeLine/\Q (.str (i++j)) H):=by
 intro pins s σ H x y v u Q I rx ry h;obtain⟨i,j,rfl,rfl,hz,q⟩:=h;obtain⟨t,rfl⟩:=rx;obtain⟨t',rfl⟩:=ry;exact add_str (fun t' tk=>⟨.str (i++j),H,I.tok _,⟨_,rfl⟩,q⟩) hz
theorem Jt{x:V}{us:List Value}(r:Vals [x] us):∃u,us=[u]/\RelV x u:=by
 cases r with
 | cons r1 r2=>cases r2;exact⟨_,rfl,r1⟩
theorem Qfe{x y:V}{us:List Value}(r:Vals [x,y] us):∃u w',us=[u,w']/\RelV x u/\RelV y w':=by
 cases r with
 | cons r1 r2 =>
  cases r2 with
  | cons r3 r4=>cases r4;exact⟨_,_,rfl,r1,r3⟩
theorem Qc1 (hc : X.calm = true) : CallR X (.builtin "min") (fun xs H Q => ∃ i j, xs = [.int i, .int j] /\ Q (.int (if j < i then j else i)) H) := by
 intro pins s σ H xs us Q I r h;obtain⟨i,j,rfl,q⟩:=h;obtain⟨u,w',rfl,⟨t,rfl⟩,⟨t',rfl⟩⟩:=Qfe r;refine min_two_ints (I.ok.hd hc) fun h' tk k=>⟨_,H,I.kept k,?_,q⟩;by_cases hj:j<i
 ·rw [if_pos hj,if_pos hj];exact⟨_,rfl⟩
 ·rw [if_neg hj,if_neg hj];exact⟨_,rfl⟩
theorem Qc3 : CallR X (.type "int") (fun xs H Q => (∃ i, xs = [.int i] /\ Q (.int i) H) \/ ∃ k, xs = [.bl k] /\ Q (.int (if k then 1 else 0)) H) := by
 intro pins s σ H xs us Q I r h
 rcases h with⟨i,rfl,q⟩|⟨k,rfl,q⟩
 ·obtain⟨u,rfl,t,rfl⟩:=Jt r;exact call_int_int ⟨.int i,H,I,⟨_,rfl⟩,q⟩
 ·obtain⟨u,rfl,r1⟩:=Jt r;cases r1;exact call_int_bool ⟨.int (if k then 1 else 0),H,I.tok _,⟨_,rfl⟩,q⟩
theorem JQ : CallR X (.type "str") (fun xs H Q => ∃ i, xs = [.int i] /\ i.natAbs.log2 < 1920 /\ Q (.str (toString i)) H) := by
 intro pins s σ H xs us Q I r h;obtain⟨i,rfl,hz,q⟩:=h;obtain⟨u,rfl,t,rfl⟩:=Jt r;exact PySem.P.str_of_int hz ⟨.str _,H,I.tok _,⟨_,rfl⟩,q⟩
end
end L2
namespace L2
open PySem PySem.Spec PyProof.Rows
variable {C dx:Addr}{A:Around}{X:Cx}{h:Heap}{H:Hp}{s:Shared}{f:Str}{mA:Str->Option Value}{v:V}{u:Value}{Q:Value->Shared->Prop}{w:World}
structure ObjM(h:Heap)(x dx C:Addr)(mA:Str->Option Value):Prop where
 obj:h.get? x=some (PySem.W.instObj C dx)
 ns:h.Ns1 dx mA
 ne:dx≠x
theorem QcC(n:h.Ns1 dx mA):∃od,h.get? dx=some od/\∀name,PySem.W.lookIn name od=some (mA name):=by
 obtain⟨o,es,ep,ho,hd,hk,_,hm⟩:=n;refine⟨o,ho,fun name=>?_⟩;have e:=hm name;unfold nsFind findBy at e;rw [<-Array.find?_toList]at e;unfold PySem.W.lookIn;rw [hd];dsimp only;split
 ·rename_i y q;rw [q]at e;exact congrArg some e
 ·rename_i q;rw [q]at e
  have a:es.toList.any (·.refKey)=false:=by
   rw [List.any_eq_false];intro y hy;obtain⟨z,t,hkey⟩:=hk y (Array.mem_toList_iff.mp hy);simp [DictEntry.refKey,hkey]
  have a':¬es.toList.any (·.refKey)=true:=by rw [a];exact Bool.false_ne_true
  rw [if_neg a'];exact congrArg some e
theorem ObjM.look{x:Addr}(I:ObjM h x dx C mA):∃od,PySem.W.InstAt h x (PySem.W.instObj C dx) C (some od)/\∀name,PySem.W.lookIn name od=some (mA name):=
 let ⟨od,ho,hl⟩:=QcC I.ns
 ⟨od,⟨I.obj,rfl,rfl,ho⟩,hl⟩
section
variable {prog:Program}{E:Value->Shared->Prop}{K:PySem.W.Frag}{x f:Addr}{name:Str}{v:Value}
theorem QgE{expr:Bool}(X:K.In s.heap)(I:ObjM s.heap x dx C mA)(hg:PySem.W.plainGet K C name=true)(hh:PySem.W.hasDictIn K C=true)
  (ha:PySem.W.findIn K (.ref C) name=some none) (hv:mA name=some v) (hv':PySem.W.handedIn v=true) (h:Q v { s with toks:=s.toks+1 }):
  wpAny (model prog w) A (getAttr (.ref x) name expr) Q E s:=by
 obtain⟨od,J,hl⟩:=I.look
 exact PySem.W.get_value X J (PySem.W.plainGet_of hg).1 (PySem.W.findObj_own hh ha rfl (by rw [hl,hv])) hv' h
theorem Qed{pl:Sem Bool}{Q:Value×List Value->Shared->Prop}(X:K.In s.heap)(I:ObjM s.heap x dx C mA)(hg:PySem.W.plainGet K C name=true)
  (hf:PySem.W.findIn K (.ref C) name=some (some (.ref f))) (ht:PySem.W.isFn K (.ref f)=true) (hv:mA name=none) (h:Q (.ref f,[.ref x]) s):
  wpAny (model prog w) A (getMethod (.ref x) name pl) Q E s:=by
 obtain⟨od,J,hl⟩:=I.look
 exact PySem.W.method_fn X J (PySem.W.plainGet_of hg).1 (PySem.W.plainGet_of hg).2 hf (beq_iff_eq.mp ht) (by show(PySem.W.lookIn name od).map (·.isSome)=some false;rw [hl,hv];rfl) h
theorem Qfv{ns:List Str}{Q:Unit->Shared->Prop}(X:K.In s.heap)(I:ObjM s.heap x dx C mA)
  (hs:PySem.W.findIn K (.ref C) "__setattr__"=some (some (.builtin "object.__setattr__"))) (hp:PySem.W.plainOver K C=true) (ht:PySem.W.takerIn K C name=some none) (hh:PySem.W.hasDictIn K C=true)
  (hw:PySem.Within mA ns) (hsz:ns.length<=sizeLine)
  (h:∀h',ObjM h' x dx C (fun y=>if y=name then some v else mA y)->Heap.SameBut dx s.heap h'->Q () { s with heap:=h',toks:=s.toks+2 }):
  wpAny (model prog w) A (setAttr (.ref x) name v) Q E s:=by
 obtain⟨od,J,hl⟩:=I.look;refine PySem.W.set_plain X J hs (PySem.W.osa_open (s:={ s with toks:=s.toks+1 }) (r:=none) X J hp ht fun b=>?_);obtain⟨cd,hc,hd'⟩:=PySem.W.any_some hh;have hx:s.heap.get? x=some ⟨.ref C,some dx,.plain,#[]⟩:=I.obj;refine wpAny_bind (wpAny_pure (wpAny_bind (wpAny_bind (wpAny_loadPart hx (wpAny_bind (PySem.W.Looks.here (s:={ s with toks:=s.toks+1 }) (PySem.W.looks_clsIn X hc) ?_))))));rw [hd'];refine wpAny_pure (a:=some dx) (wpAny_bind (wpAny_pure (wpAny_bind ?_)));refine wpAny_nsSet1 (s:={ s with toks:=s.toks+1 }) I.ns fun h' hn2 hs2=>?_;obtain⟨oD,esD,epD,hoD,hdD,hcD⟩:=hn2.count (PySem.Within.cons name v hw)
 refine wpAny_bind (wpAny_lookBehind hoD (by rw [hdD];exact pastItsLine_dict (Nat.le_trans hcD (by rw [List.length_cons];omega))) ?_)
 exact wpAny_pure (h _ ⟨(hs2.2 _ (Ne.symm I.ne)).trans I.obj,hn2,I.ne⟩ hs2)
theorem Qd1{R:Result->Shared->Prop}{vs:List Value}{kw:List (Str×Value)}(X:K.In s.heap)(hm:PySem.W.makesIn K C=true)
  (hi:PySem.W.findIn K (.ref C) "__init__"=some (some (.ref f))) (hf:PySem.W.typeIn K (.ref f)=some (.type "function"))
  (h:codeAny (model prog w) (A.under (.builtin "type.__call__" ⟨.ref C::vs,kw⟩)) (.call (.ref f) ⟨.ref (s.heap.objs.size+1)::vs,kw⟩) (PySem.W.InitBack (s.heap.objs.size+1) R)
   { s with heap:=(s.heap.push PySem.W.emptyDict).push (PySem.W.instObj C s.heap.objs.size) }):
  codeAny (model prog w) A (.call (.ref C) ⟨vs,kw⟩) R s:=by
 obtain⟨hh,g,d,t,os⟩:=s;exact PySem.W.make_core (PySem.W.makes_of X hm) (PySem.W.looks_findIn X hi) (fun self=>PySem.W.bind_fn X self hf) (.inl rfl) h
theorem Qcy{R:Result->Shared->Prop}(X:K.In s.heap)(hm:PySem.W.makesIn K C=true)
  (hi:PySem.W.findIn K (.ref C) "__init__"=some (some (.builtin "object.__init__")))
  (hb:∀self,PySem.W.Looks (model prog w) s.heap (bindSpecial (.builtin "object.__init__") self) (.builtin "object.__init__",[self]))
  (h:codeAny (model prog w) (A.under (.builtin "type.__call__" ⟨[.ref C],[]⟩)) (.call (.builtin "object.__init__") ⟨[.ref (s.heap.objs.size+1)],[]⟩) (PySem.W.InitBack (s.heap.objs.size+1) R)
   { s with heap:=(s.heap.push PySem.W.emptyDict).push (PySem.W.instObj C s.heap.objs.size) }):
  codeAny (model prog w) A (.call (.ref C) ⟨[],[]⟩) R s:=by
 obtain⟨hh,g,d,t,os⟩:=s;exact PySem.W.make_core (PySem.W.makes_of X hm) (PySem.W.looks_findIn X hi) hb (.inr ⟨rfl,rfl⟩) h
end
noncomputable def Jb(f:Str)(v:V):List (Str×V)->List (Str×V)
 | []=>[(f,v)]
 | (g,x)::r=>if g=f then(g,v)::r else(g,x)::Jb f v r
theorem Yz(f g:Str)(v:V):∀fs:List (Str×V),(Jb f v fs).lookup g=if g=f then some v else fs.lookup g
 | []=>by
  show List.lookup g [(f,v)]=_;by_cases h:g=f
  ·have hb:(g==f)=true:=beq_iff_eq.mpr h;simp only [List.lookup,hb,if_pos h]
  ·have hb:(g==f)=false:=beq_eq_false_iff_ne.mpr h;simp only [List.lookup,hb,if_neg h]
 | (k,x)::r=>by
  have ih:=Yz f g v r;rw [show Jb f v ((k,x)::r)=(if k=f then(k,v)::r else(k,x)::Jb f v r)from rfl];by_cases hk:k=f
  ·rw [if_pos hk];by_cases h:g=k
   ·have hb:(g==k)=true:=beq_iff_eq.mpr h;simp only [List.lookup,hb,if_pos (h.trans hk)]
   ·have hb:(g==k)=false:=beq_eq_false_iff_ne.mpr h;simp only [List.lookup,hb,if_neg (fun e:g=f=>h (e.trans hk.symm))]
  ·rw [if_neg hk];by_cases h:g=k
   ·have hb:(g==k)=true:=beq_iff_eq.mpr h;simp only [List.lookup,hb,if_neg (fun e:g=f=>hk (h.symm.trans e))]
   ·have hb:(g==k)=false:=beq_eq_false_iff_ne.mpr h;simp only [List.lookup,hb];exact ih
theorem YC(f:Str)(v:V):∀fs:List (Str×V),f∈(Jb f v fs).map (·.1)/\∀g,g∈fs.map (·.1)->g∈(Jb f v fs).map (·.1)
 | []=>⟨by simp [Jb],fun g h=>by simp at h⟩
 | (k,x)::r=>by
  obtain⟨i1,i2⟩:=YC f v r;rw [show Jb f v ((k,x)::r)=(if k=f then(k,v)::r else(k,x)::Jb f v r)from rfl];by_cases hk:k=f
  ·rw [if_pos hk];subst hk
   exact⟨by simp,fun g h=>by simpa using h⟩
  ·rw [if_neg hk];refine⟨?_,fun g h=>?_⟩
   ·rw [List.map_cons];exact List.mem_cons_of_mem _ i1
   ·rw [List.map_cons]at h ⊢
    rcases List.mem_cons.mp h with e|e
    ·exact List.mem_cons.mpr (.inl e)
    ·exact List.mem_cons_of_mem _ (i2 g e)
theorem YB(f:Str)(v:V):∀fs:List (Str×V),(Jb f v fs).length<=fs.length+1
 | []=>by simp [Jb]
 | (k,x)::r=>by
  have ih:=YB f v r;rw [show Jb f v ((k,x)::r)=(if k=f then(k,v)::r else(k,x)::Jb f v r)from rfl];by_cases hk:k=f
  ·rw [if_pos hk,List.length_cons,List.length_cons];omega
  ·rw [if_neg hk,List.length_cons,List.length_cons];omega
theorem RelO.some_of{o:Option Value}(r:RelO (some v) o):∃u,o=some u/\RelV v u:=by
 cases o with
 | none=>exact(show False from r).elim
 | some u=>exact⟨u,rfl,r⟩
theorem RelO.none_of{o:Option Value}(r:RelO none o):o=none:=by
 cases o with
 | none=>rfl
 | some u=>exact(show False from r).elim
theorem QcM(r:RelV v u):PySem.W.handedIn u=true:=by
 cases v with
 | non=>cases(show u=Value.none from r);rfl
 | bl b=>cases(show u=Value.bool b from r);rfl
 | int i=>obtain⟨t,e⟩:=(show ∃t,u=Value.int i t from r);cases e;rfl
 | str x=>obtain⟨t,e⟩:=(show ∃t,u=Value.str x t from r);cases e;rfl
 | byt b=>obtain⟨t,e⟩:=(show ∃t,u=Value.bytes b t from r);cases e;rfl
 | flt b=>obtain⟨t,e⟩:=(show ∃t,u=Value.float b t from r);cases e;rfl
 | ref a=>cases(show u=Value.ref a from r);rfl
 | ty n=>cases(show u=Value.type n from r);rfl
section
variable {P:Program}{H':Hp}{h':Heap}{a:Addr}{fs fs':List (Str×V)}
theorem Jh(hok:HOk P w H h)(e:H a=some (.ins C dx fs)):∃mA,ObjM h a dx C mA/\(∀f,RelO (fs.lookup f) (mA f))/\PySem.Within mA (fs.map (·.1))/\fs.length<=1000/\H dx=some (.own a):=by
 obtain⟨d,z,ne,ob,mA,n,r,q⟩:=(show ObjOk P w H h a (.ins C dx fs)from hok a _ e);exact⟨mA,⟨ob,n,ne⟩,r,q,z,d⟩
end
structure Cls(K:PySem.W.Frag)(C:Addr):Prop where
 pg:PySem.W.plainGet K C Str.empty=true
 hd:PySem.W.hasDictIn K C=true
 po:PySem.W.plainOver K C=true
 sa:PySem.W.findIn K (.ref C) "__setattr__"=some (some (.builtin "object.__setattr__"))
theorem Cls.get{K:PySem.W.Frag}(c:Cls K C)(f:Str):PySem.W.plainGet K C f=true:=c.pg
noncomputable def NoAttr(K:PySem.W.Frag)(C:Addr)(f:Str):Prop:=PySem.W.findIn K (.ref C) f=some none
theorem NoAttr.taker{K:PySem.W.Frag}(n:NoAttr K C f):PySem.W.takerIn K C f=some none:=by
 unfold PySem.W.takerIn;rw [show PySem.W.findIn K (.ref C) f=some none from n];rfl
structure Meth(K:PySem.W.Frag)(C:Addr)(m:Str)(f:Addr):Prop where
 at_:PySem.W.findIn K (.ref C) m=some (some (.ref f))
 fn:PySem.W.isFn K (.ref f)=true
 kp:PySem.W.keepIn K (.ref f)=true
section
variable {pins:List (Addr×Obj)}{σ:St}{a:Addr}{fs:List (Str×V)}{E:Value->Shared->Prop}
theorem QbC{b:Bool}(I:Inv X pins σ H s)(e:H a=some (.ins C dx fs))(c:Cls X.K C)(n:NoAttr X.K C f)(l:fs.lookup f=some v)
  (h:∀u s',Inv X pins σ H s'->RelV v u->Q u s'):wpAny (model X.prog X.w) A (getAttr (.ref a) f b) Q E s:=by
 obtain⟨mA,O,r,_,_,_⟩:=Jh I.hok e
 obtain⟨u,hu,ru⟩:=RelO.some_of (v:=v) (o:=mA f) (by rw [<-l];exact r f)
 exact QgE I.kIn O (c.get f) c.hd n hu (QcM ru) (h u _ (I.tok _) ru)
theorem QbB{m:Str}{g:Addr}{pl:Sem Bool}{Q:Value×List Value->Shared->Prop}(I:Inv X pins σ H s)(e:H a=some (.ins C dx fs))(c:Cls X.K C)(k:Meth X.K C m g)(l:fs.lookup m=none)
  (h:Q (.ref g,[.ref a]) s):wpAny (model X.prog X.w) A (getMethod (.ref a) m pl) Q E s:=by
 obtain⟨mA,O,r,_,_,_⟩:=Jh I.hok e
 have hn:mA m=none:=RelO.none_of (by rw [<-l];exact r m)
 exact Qed I.kIn O (c.get m) k.at_ k.fn hn h
theorem Qbm{y:V}{Q:Unit->Shared->Prop}(I:Inv X pins σ H s)(e:H a=some (.ins C dx fs))(c:Cls X.K C)(n:NoAttr X.K C f)(hl:fs.length<1000)(ry:RelV y u)
  (h:∀s',Inv X pins σ (upd H a (.ins C dx (Jb f y fs))) s'->Q () s'):wpAny (model X.prog X.w) A (setAttr (.ref a) f u) Q E s:=by
 obtain⟨mA,O,r,wi,_,ho⟩:=Jh I.hok e
 have hz:(fs.map (·.1)).length<=sizeLine:=by rw [List.length_map,sizeLine_eq];omega
 refine Qfv I.kIn O c.sa c.po n.taker c.hd wi hz fun h' O' sb=>h _ ?_;have hd:∃o,h'.get? dx=some o:=let ⟨o,_,_,e',_⟩:=O'.ns;⟨o,e'⟩
 refine I.write (x:=a) (e:=dx) (by rw [e];exact True.intro) (.inr ho) (fun b q hb z=>(sb.2 b hb).trans z) hd ?_
 refine⟨by rw [Qh O.ne];exact ho,?_,O.ne,O'.obj,_,O'.ns,fun g=>?_,fun g hg=>?_⟩
 ·have:=YB f y fs;omega
 ·show RelO ((Jb f y fs).lookup g) (if g=f then some u else mA g);rw [Yz];by_cases q:g=f
  ·rw [if_pos q,if_pos q];exact ry
  ·rw [if_neg q,if_neg q];exact r g
 ·by_cases q:g=f
  ·rw [q];exact(YC f y fs).1
  ·refine(YC f y fs).2 g (wi g fun z=>hg ?_);show(if g=f then some u else mA g)=none;rw [if_neg q];exact z
theorem Inv.made(I:Inv X pins σ H s):Inv X pins σ (upd (upd H s.heap.objs.size (.own (s.heap.objs.size+1))) (s.heap.objs.size+1) (.ins C s.heap.objs.size []))
  { s with heap:=(s.heap.push PySem.W.emptyDict).push (PySem.W.instObj C s.heap.objs.size) }:=by
 have e1:(s.heap.push PySem.W.emptyDict).get? s.heap.objs.size=some PySem.W.emptyDict:=Heap.get?_push_size s.heap rfl
 have e2:((s.heap.push PySem.W.emptyDict).push (PySem.W.instObj C s.heap.objs.size)).get? (s.heap.objs.size+1)=some (PySem.W.instObj C s.heap.objs.size):=by
  have:=Heap.get?_push_size (s.heap.push PySem.W.emptyDict) (o:=PySem.W.instObj C s.heap.objs.size) rfl;rwa [Heap.size_push]at this
 have e3:(s.heap.push PySem.W.emptyDict).Ns s.heap.objs.size (fun _=>none):=⟨PySem.W.emptyDict,#[],_,e1,rfl,(fun e he=>absurd he (by simp)),fun _=>rfl⟩
 have I1:=I.laid (a:=s.heap.objs.size) (o:=.own (s.heap.objs.size+1)) (h':=s.heap.push PySem.W.emptyDict) (t':=s.toks) (fun b u q=>Heap.get?_push_of_some _ q) (Nat.le_refl _) ⟨_,e1⟩;refine I1.laid (a:=s.heap.objs.size+1) (o:=.ins C s.heap.objs.size []) (t':=s.toks) (fun b u q=>Heap.get?_push_of_some _ q) (Nat.le_of_eq (Heap.size_push _ _)) ?_;have ne:s.heap.objs.size≠s.heap.objs.size+1:=Nat.ne_of_lt (Nat.lt_succ_self _)
 refine⟨by rw [Qh ne,Qq],Nat.zero_le _,ne,e2,fun _=>none,(Heap.Ns1.of_empty e3).at fun o q=>Heap.get?_push_of_some _ q,fun _=>True.intro,fun y hy=>absurd rfl hy⟩
theorem QgZ{prog:Program}{env:Env}{e:Expr}{f:Str}{pos:Pos}{s:Shared}(hb:attributeBase e f env (eval e env)=eval e env)
  (h:wpAny (model prog w) A (eval e env) (fun o s₁=>wpAny (model prog w) A (getAttr o f true) Q E s₁) E s):wpAny (model prog w) A (eval (.Attribute e f pos) env) Q E s :=
 Attribute_any_ h (by rw [arm_eval_Attribute,hb])
end
noncomputable def Qm2(K:PySem.W.Frag)(ta:TE)(f:Str):TE:=fun σ H Q=>ta σ H fun x H1=>∃a C dx fs v,x=.ref a/\H1 a=some (.ins C dx fs)/\Cls K C/\NoAttr K C f/\fs.lookup f=some v/\Q v H1
noncomputable def Qna(K:PySem.W.Frag)(ta tv:TE)(f:Str):TS:=fun D σ H=>tv σ H fun y H1=>ta σ H1 fun x H2=>∃a C dx fs,x=.ref a/\H2 a=some (.ins C dx fs)/\Cls K C/\NoAttr K C f/\fs.length<1000 /\
 D.nx σ (upd H2 a (.ins C dx (Jb f y fs)))
section
variable {o e value:Expr}{pos pos' tpos:Pos}{ta tv:TE}
theorem Qie(he:PE X e ta)(hb:attributeBase e f X.env (eval e X.env)=eval e X.env):PE X (.Attribute e f pos) (Qm2 X.K ta f):=by
 intro pins s σ H Q I h;refine QgZ hb (thn (he pins s σ H _ I h) fun u s1 ⟨x,H1,I1,rx,a,C,dx,fs,v,ex,ea,c,n,l,q⟩=>?_);subst ex;obtain rfl:u=Value.ref a:=rx;exact QbC I1 ea c n l fun u' s2 I2 ru=>⟨v,H1,I2,ru,q⟩
theorem Qh1(ha:PE X o ta)(hv:PE X value tv)(hs:swapsWith value (some (.Attribute o f pos')) pos.line X.env=pure false):PS X (.Assign [.Attribute o f pos'] value pos) (Qna X.K ta tv f):=by
 intro pins s σ H D I h;refine plainObj_wpAny_Assign_Attribute (thn (hv pins s σ H _ I h) fun u s1 ⟨y,H1,I1,ry,q⟩=>thn (ha pins s1 σ H1 _ I1 q) fun ov s2 ⟨x,H2,I2,rx,a,C,dx,fs,ex,ea,c,n,l,q2⟩=>?_) hs;subst ex;obtain rfl:ov=Value.ref a:=rx;exact Qbm I2 ea c n l ry fun s3 I3=>⟨σ,_,I3,q2⟩
end
section
variable {pins:List (Addr×Obj)}{σ:St}{E:Value->Shared->Prop}{c:Value}{b:Bool}
inductive TyOf(K:PySem.W.Frag)(H:Hp):V->Value->Prop where
 | non:TyOf K H .non (.type "NoneType")
 | bl (x:Bool):TyOf K H (.bl x) (.type "bool")
 | int (i:Int):TyOf K H (.int i) (.type "int")
 | str (x:Str):TyOf K H (.str x) (.type "str")
 | flt (x:UInt64):TyOf K H (.flt x) (.type "float")
 | lst {a:Addr} {xs:List V} (e:H a=some (.lst xs)):TyOf K H (.ref a) (.type "list")
 | frz {a:Addr} {o:Obj} {xs:List V} (e:H a=some (.frz o (.lst xs))):TyOf K H (.ref a) (.type "list")
 | tup {a:Addr} {xs:List V} (e:H a=some (.tup xs)):TyOf K H (.ref a) (.type "tuple")
 | dK {a:Addr} {kvs:List (Key×V)} (e:H a=some (.dK kvs)):TyOf K H (.ref a) (.type "dict")
 | dT {a:Addr} {kvs:List (List Key×V)} (e:H a=some (.dT kvs)):TyOf K H (.ref a) (.type "dict")
 | ins {a C dx:Addr} {fs:List (Str×V)} (e:H a=some (.ins C dx fs)) (cl:Cls K C) (ha:PySem.W.findIn K (.ref C) "__class__"=some (some (.builtin "object.__class__")))
   (hn:PySem.W.specialIn K (.builtin "object.__class__") "__get__"=some (some (.builtin "getset_descriptor.__get__"))) (htk:PySem.W.takesIn K (.builtin "object.__class__")=some true)
   (hm:PySem.W.mroIn K C (.type "object")=some true):TyOf K H (.ref a) (.ref C)
theorem QcH{x:V}{t:Value}(I:Inv X pins σ H s)(rx:RelV x u)(ty:TyOf X.K H x t)(e:PySem.W.kitOne X.K t c=some b)(h:∀tk,Q (.bool b) { s with toks:=tk }):
  wpAny (model X.prog X.w) A (call (.builtin "isinstance") [u,c]) Q E s:=by
 cases ty with
 | non=>cases(show u=Value.none from rx);exact PySem.W.kia_one PySem.W.kitx_none I.kIn True.intro e (fun z=>nomatch z) h
 | bl y=>cases(show u=Value.bool y from rx);exact PySem.W.kia_one PySem.W.kitx_bool I.kIn True.intro e (fun z=>nomatch z) h
 | int i=>obtain⟨t,q⟩:=(show ∃t,u=Value.int i t from rx);cases q;exact PySem.W.kia_one PySem.W.kitx_int I.kIn True.intro e (fun z=>nomatch z) h
 | str y=>obtain⟨t,q⟩:=(show ∃t,u=Value.str y t from rx);cases q;exact PySem.W.kia_one PySem.W.kitx_str I.kIn True.intro e (fun z=>nomatch z) h
 | flt y=>obtain⟨t,q⟩:=(show ∃t,u=Value.float y t from rx);cases q;exact PySem.W.kia_one PySem.W.kitx_float I.kIn True.intro e (fun z=>nomatch z) h
 | @lst a xs ea =>
  cases(show u=Value.ref a from rx);obtain⟨_,_,n,_,h1⟩:=(show ObjOk X.prog X.w H s.heap a (.lst xs)from I.hok a _ ea);exact PySem.W.kia_one PySem.W.kitx_list I.kIn ⟨_,h1,rfl⟩ e (fun z=>nomatch z) h
 | @frz a ob xs ea =>
  cases(show u=Value.ref a from rx);obtain⟨_,_,_,n,_,h1⟩:=(show ObjOk X.prog X.w H s.heap a (.frz ob (.lst xs))from I.hok a _ ea);exact PySem.W.kia_one PySem.W.kitx_list I.kIn ⟨_,h1,rfl⟩ e (fun z=>nomatch z) h
 | @tup a xs ea =>
  cases(show u=Value.ref a from rx);obtain⟨_,_,_,p⟩:=(show ObjOk X.prog X.w H s.heap a (.tup xs)from I.hok a _ ea);obtain⟨o,h1,h2,_⟩:=p;exact PySem.W.kia_one PySem.W.kitx_tuple I.kIn ⟨o,h1,h2⟩ e (fun z=>nomatch z) h
 | @dK a kvs ea =>
  cases(show u=Value.ref a from rx);obtain⟨_,_,vs,_,p⟩:=(show ObjOk X.prog X.w H s.heap a (.dK kvs)from I.hok a _ ea);obtain⟨o,es,ep,h1,h2,_⟩:=p;exact PySem.W.kia_one PySem.W.kitx_dict I.kIn ⟨o,h1,h2.1⟩ e (fun z=>nomatch z) h
 | @dT a kvs ea =>
  cases(show u=Value.ref a from rx);obtain⟨_,_,xs,_,o,es,ep,h1,h2,_⟩:=(show ObjOk X.prog X.w H s.heap a (.dT kvs)from I.hok a _ ea);exact PySem.W.kia_one PySem.W.kitx_dict I.kIn ⟨o,h1,h2.1⟩ e (fun z=>nomatch z) h
 | @ins a C dx fs ea cl ha hn htk hm =>
  cases(show u=Value.ref a from rx);obtain⟨mA,O,_⟩:=Jh I.hok ea;obtain⟨od,J,_⟩:=O.look;exact PySem.W.kia_one (PySem.W.kitx_own (cl.get _) cl.hd ha hn htk hm) I.kIn J e (fun z=>nomatch z) h
end
end L2
namespace L2
open PySem PySem.Spec PyProof.Rows
variable {C f:Addr}{A:Around}{X:Cx}{e:Expr}{fd:FuncData}{base:Heap}{H:Hp}{pins:List (Addr×Obj)}{es:List Expr}{ps:List Str}{vs:List V}{us:List Value}{k:Nat}{pos:Pos}{P:Program}{s:Shared}{σ:St}{x:Str}{mg:Str->Option Value}{t:TA}{Q:VK}{w:World}
structure Room(k:Nat)(A:Around):Prop where
 hd:A.handled=none
 dp:A.depth+3*k+5<recursionLimit
 un:A.units+16*k+200<cLine
theorem Room.mono{j:Nat}(r:Room k A)(h:j<=k):Room j A:=⟨r.hd,by have:=r.dp;omega,by have:=r.un;omega⟩
theorem Room.deeper(r:Room (k+1) A)(env:Env):Room k (A.deeper env):=
 ⟨r.hd,by have:=r.dp;show A.depth+1+3*k+5<_;omega,by have:=r.un;show A.units+3+16*k+200<_;omega⟩
theorem Qbx{kw:List (Str×Value)}:(A.under (.builtin "type.__call__" ⟨.ref C::us,kw⟩)).depth=A.depth+1:=by
 first|rfl|simp [Around.under,Code.weight,Code.isCreation,Code.isGuard,Code.isCaller,Code.frames,Code.isFrame,guardIds]
theorem Qbw{kw:List (Str×Value)}:(A.under (.builtin "type.__call__" ⟨.ref C::us,kw⟩)).units=A.units+1:=by
 first|rfl|simp [Around.under,Code.cUnits,Code.frames,Code.isFrame]
theorem Room.make(r:Room (k+1) A)(C:Addr)(us:List Value)(kw:List (Str×Value)):Room k (A.under (.builtin "type.__call__" ⟨.ref C::us,kw⟩)):=
 ⟨r.hd,by have:=r.dp;rw [Qbx];omega,by have:=r.un;rw [Qbw];omega⟩
theorem Room.depth(r:Room k A):A.depth<recursionLimit:=by have:=r.dp;omega
theorem Room.units(r:Room k A):A.units+64<cLine:=by have:=r.un;omega
noncomputable def QjK:TA:=fun _ H Q=>Q [] H
noncomputable def Qfm(ta:TE)(tr:TA):TA:=fun σ H Q=>ta σ H fun x H1=>tr σ H1 fun xs H2=>Q (x::xs) H2
section
variable {te:TE}
theorem JB:PA X [] QjK:=fun _ _ _ _ H Q I h=>Calls.spliced_nil ⟨[],H,I,.nil,h⟩
theorem Zz(ha:PE X e te)(hr:PA X es t)(hs:starEach (e::es) X.env=(false,eval e X.env)::starEach es X.env:=by rfl):PA X (e::es) (Qfm te t):=by
 intro pos pins s σ H Q I h;rw [hs];show wpAny _ _ (spliced ((false,eval e X.env)::backTo pos (starEach es X.env))) _ _ s;refine Calls.spliced_cons (thn (ha pins s σ H _ I h) fun u s1 ⟨x,H1,I1,r1,q1⟩=>?_);exact thn (hr pos pins s1 σ H1 _ I1 q1) fun us s2 ⟨xs,H2,I2,r2,q2⟩=>⟨x::xs,H2,I2,.cons r1 r2,q2⟩
noncomputable def QmU(t:TA):TE:=fun σ H Q=>t σ H fun xs H1=>xs.length<=sizeLine/\∀p,H1 p=none->Q (.ref p) (upd H1 p (.tup xs))
noncomputable def QmZ(t:TA):TE:=fun σ H Q=>t σ H fun xs H1=>xs.length<=sizeLine/\∀p,H1 p=none->Q (.ref p) (upd H1 p (.lst xs))
theorem Qh9{x1}(h:PA X es t):PE X (.Tuple es x1 pos) (QmU t):=by
 intro pins s σ H Q I hq
 refine wpAny_Tuple_spliced (thn (h pos pins s σ H _ I hq) fun us s1 ⟨xs,H1,I1,r,z,q⟩=>⟨by rw [<-r.length];exact z,?_⟩)
 have hf:H1 s1.heap.objs.size=none:=I1.hok.fresh (Nat.le_refl _);refine⟨.ref s1.heap.objs.size,upd H1 s1.heap.objs.size (.tup xs),I1.laid (t':=s1.toks) (fun b u e=>Heap.get?_push_of_some _ e) (Nat.le_refl _) ?_,rfl,q _ hf⟩;exact⟨z,us,r,⟨_,Heap.get?_push_size _ rfl,rfl,_,rfl⟩⟩
theorem Qic(h:PA X es t):PE X (.List es pos) (QmZ t):=by
 intro pins s σ H Q I hq
 refine wpAny_List_spliced (thn (h pos pins s σ H _ I hq) fun us s1 ⟨xs,H1,I1,r,z,q⟩=>⟨by rw [<-r.length];exact z,?_⟩)
 have hf:H1 s1.heap.objs.size=none:=I1.hok.fresh (Nat.le_refl _);refine⟨.ref s1.heap.objs.size,upd H1 s1.heap.objs.size (.lst xs),I1.laid (t':=s1.toks) (fun b u e=>Heap.get?_push_of_some _ e) (Nat.le_refl _) ?_,rfl,q _ hf⟩;exact⟨z,us,0,r,Heap.get?_push_size _ rfl⟩
end
noncomputable abbrev Sp:=List V->Hp->VK->XK->Prop
noncomputable abbrev CXT:=List Env->Hp->Shared->XK->Value->Shared->Prop
structure Env0(P:Program)(w:World)(K:PySem.W.Frag)(mg:Str->Option Value)(base:Heap)(A:Around)(outer:List Env)(s:Shared)(H:Hp):Prop where
 frames:A.frames=some outer
 mod:Mod K mg base
 bs:∀b o,base.get? b=some o->s.heap.get? b=some o/\H b=none
 bsz:base.objs.size<=s.heap.objs.size
 funs:s.heap.FunFrames base outer
 frf:∀b∈frs outer,H b=none
 hok:HOk P w H s.heap
 bare:AllBare s.gens
noncomputable def CE(outer:List Env)(P:Program)(w:World)(H:Hp)(s:Shared)(Q:VK)(u:Value)(s':Shared):Prop :=
 ∃v H',s'.os=s.os/\AllBare s'.gens/\Un (frs outer) [] H H' s.heap s'.heap/\HOk P w H' s'.heap/\RelV v u/\Q v H'
noncomputable def CR(CX:CXT)(outer:List Env)(P:Program)(w:World)(H:Hp)(s:Shared)(Q:VK)(E:XK)(r:Result)(s':Shared):Prop :=
 match r with
 | .ok (.ret u)=>CE outer P w H s Q u s'
 | .ok _=>False
 | .error e=>CX outer H s E e s'
structure FnOk(P:Program)(w:World)(K:PySem.W.Frag)(mg:Str->Option Value)(base:Heap)(CX:CXT)(k:Nat)(f:Addr)(fd:FuncData)(ps:List Str)(sp:Sp):Prop where
 len:∀vs H Q E,sp vs H Q E->vs.length=ps.length
 run:∀(A:Around) (outer:List Env) (s:Shared) (H:Hp) (args:Args) (us:List Value) (vs:List V) (Q:VK) (E:XK),Room k A->Env0 P w K mg base A outer s H->BindsTo s fd args (ps.zip us)->Vals vs us->sp vs H Q E ->
  codeAny (model P w) A (.call (.ref f) args) (CR CX outer P w H s Q E) s
theorem FnOk.mono{K:PySem.W.Frag}{CX:CXT}{j:Nat}{sp:Sp}(F:FnOk P w K mg base CX j f fd ps sp)(h:j<=k):
  FnOk P w K mg base CX k f fd ps sp:=⟨F.len,fun A outer s H args us vs Q E hr=>F.run A outer s H args us vs Q E (hr.mono h)⟩
theorem Env0.make{K:PySem.W.Frag}{outer:List Env}(e:Env0 P w K mg base A outer s H)(C:Addr)(us:List Value)(kw:List (Str×Value)):
  Env0 P w K mg base (A.under (.builtin "type.__call__" ⟨.ref C::us,kw⟩)) outer s H:=⟨by first|exact e.frames|(simpa [Around.under,Code.envs,Code.isFrame,pushEnvs]using e.frames),e.mod,e.bs,e.bsz,e.funs,e.frf,e.hok,e.bare⟩
section
variable {s':Shared}
theorem Inv.env0(I:Inv X pins σ H s):Env0 X.prog X.w X.K X.mg X.base X.A X.stack s H :=
 ⟨I.ok.frames,I.ok.mod,I.bs,Nat.le_trans I.ok.bsz I.sz,I.stack,I.stkFree,I.hok,I.bare⟩
theorem Inv.after{u:Value}(I:Inv X pins σ H s)(h:CE X.stack X.prog X.w H s Q u s'):EP X pins σ Q u s':=by
 obtain⟨v,H',os,bare,un,hok,r,q⟩:=h;obtain⟨hh,g,d,t,os'⟩:=s';obtain rfl:os'=s.os:=os
 exact⟨v,H',I.call (h':=hh) (g':=g) (d':=d) (t':=t) (ch:=[]) un hok bare (fun b z=>absurd z (by simp)),r,q⟩
end
noncomputable def Qdt(sp:Sp)(dvs:List V)(E:XK)(t:TA):TE:=fun σ H Q=>t σ H fun vs H1=>sp (vs++dvs) H1 Q E
noncomputable def Qhw(C:Addr)(sp:Sp)(dvs:List V)(E:XK)(t:TA):TE:=fun σ H Q=>t σ H fun vs H1=>∀x dx,H1 x=none->H1 dx=none->dx≠x ->
 sp (.ref x::(vs++dvs)) (upd (upd H1 dx (.own x)) x (.ins C dx [])) (fun v H2=>v=.non/\Q (.ref x) H2) E
noncomputable def Binds(K:PySem.W.Frag)(fd:FuncData)(ps:List Str)(ds:List Value):Prop :=
 ∀(s:Shared) (us:List Value),K.In s.heap->(us++ds).length=ps.length->BindsTo s fd ⟨us,[]⟩ (ps.zip (us++ds))
theorem Binds.all{K:PySem.W.Frag}(h:∀us:List Value,us.length=ps.length->bindArgs fd ⟨us,[]⟩=pure (ps.zip us)):Binds K fd ps []:=fun s us _ hl=>by
 rw [List.append_nil]at hl ⊢;exact .of_eq (h us hl)
noncomputable def YJ(CX:CXT)(X:Cx)(E:XK):Prop:=∀(pins:List (Addr×Obj)) (σ:St) (H:Hp) (s:Shared) (e:Value) (s':Shared),Inv X pins σ H s->CX X.stack H s E e s'->X.xe e s'
section
variable {CX:CXT}{sp:Sp}{dvs:List V}{ds:List Value}{E:XK}{m:Str}{p apos:Pos}{o:Expr}{ta:TE}
theorem Qcb(F:FnOk X.prog X.w X.K X.mg X.base CX k f fd ps sp)(hr:Room k X.A)(hb:Binds X.K fd ps ds)(hd:Vals dvs ds)(hx:YJ CX X E)
  (I:Inv X pins σ H s) (r:Vals vs us) (h:sp (vs++dvs) H Q E):wpAny (model X.prog X.w) X.A (call (.ref f) us) (EP X pins σ Q) X.xe s:=by
 have r2:Vals (vs++dvs) (us++ds):=r.append hd
 have hl:(us++ds).length=ps.length:=by rw [<-r2.length];exact F.len _ _ _ _ h
 refine wpAny_call (codeAny_mono (F.run X.A X.stack s H ⟨us,[]⟩ (us++ds) (vs++dvs) Q E hr I.env0 (hb s us I.kIn hl) r2 h) fun r s' hq=>?_)
 cases r with
 | error e=>exact hx pins σ H s e s' I hq
 | ok fl =>
  cases fl with
  | ret u=>exact I.after hq
  | next=>exact False.elim hq
  | brk=>exact False.elim hq
  | cont=>exact False.elim hq
theorem Qcm(F:FnOk X.prog X.w X.K X.mg X.base CX k f fd ps sp)(hr:Room k X.A)(hg:Gl X x)(hm:X.mg x=some (.ref f))(hk:PySem.W.keepIn X.K (.ref f)=true)(hb:Binds X.K fd ps ds)(hd:Vals dvs ds)(hx:YJ CX X E)
  (ha:PA X (e::es) t) (hdb:(x==("__debug__":Str))=false:=by decide) (he:starEach (e::es) X.env=(false,eval e X.env)::starEach es X.env:=by rfl) (hpl:(backTo pos (starEach es X.env)).any (·.1)=false:=by rfl):
  PE X (.Call (.Name x p) (e::es) [] pos) (Qdt sp dvs E t):=by
 intro pins s σ H Q I h;refine wpAny_Call_Name_kw (ZL I hg hm ?_ hdb);refine PySem.W.callWith_K (h₀:=X.base) I.ok.mod.kin hk (thn (ha pos pins s σ H _ I h) fun us s1 ⟨vs,H1,I1,r,q⟩=>⟨I1.kIn,?_⟩) he hpl;exact Qcb F hr hb hd hx I1 r q
theorem QaX(F:FnOk X.prog X.w X.K X.mg X.base CX k f fd ps sp)(hr:Room k X.A)(hg:Gl X x)(hm:X.mg x=some (.ref f))(hk:PySem.W.keepIn X.K (.ref f)=true)(hb:Binds X.K fd ps ds)(hd:Vals dvs ds)(hx:YJ CX X E)
  (hdb:(x==("__debug__":Str))=false:=by decide):PE X (.Call (.Name x p) [] [] pos) (Qdt sp dvs E QjK):=by
 intro pins s σ H Q I h;refine wpAny_Call_Name_kw (ZL I hg hm ?_ hdb);exact PySem.W.callWith_K0 I.kIn hk (Qcb (us:=[]) F hr hb hd hx I .nil h)
structure Mk(K:PySem.W.Frag)(C f:Addr):Prop where
 makes:PySem.W.makesIn K C=true
 init:PySem.W.findIn K (.ref C) "__init__"=some (some (.ref f))
 fn:PySem.W.isFn K (.ref f)=true
 kp:PySem.W.keepIn K (.ref C)=true
theorem QaQ(M:Mk X.K C f)(F:FnOk X.prog X.w X.K X.mg X.base CX k f fd ps sp)(hr:Room (k+1) X.A)(hb:Binds X.K fd ps ds)(hd:Vals dvs ds)
  (hx:YJ CX X E) (I:Inv X pins σ H s) (r:Vals vs us)
  (h:∀x dx,H x=none->H dx=none->dx≠x->sp (.ref x::(vs++dvs)) (upd (upd H dx (.own x)) x (.ins C dx [])) (fun v H2=>v=.non/\Q (.ref x) H2) E):
  wpAny (model X.prog X.w) X.A (call (.ref C) us) (EP X pins σ Q) X.xe s:=by
 have hq:=h (s.heap.objs.size+1) s.heap.objs.size (I.hok.fresh (Nat.le_succ _)) (I.hok.fresh (Nat.le_refl _)) (Nat.ne_of_lt (Nat.lt_succ_self _));have I2:=Inv.made (C:=C) I;have r2:Vals (V.ref (s.heap.objs.size+1)::(vs++dvs)) (Value.ref (s.heap.objs.size+1)::(us++ds)):=.cons rfl (r.append hd)
 have hl:(Value.ref (s.heap.objs.size+1)::us++ds).length=ps.length:=by
  have e:=r2.length;rw [F.len _ _ _ _ hq]at e;exact e.symm
 refine wpAny_call (Qd1 (f:=f) I.kIn M.makes M.init (beq_iff_eq.mp M.fn) (codeAny_mono (F.run _ X.stack _ _ ⟨Value.ref (s.heap.objs.size+1)::us,[]⟩ (Value.ref (s.heap.objs.size+1)::(us++ds)) _ _ E (hr.make C us [])
  (I2.env0.make C us []) (hb _ (Value.ref (s.heap.objs.size+1)::us) I2.kIn hl) r2 hq) fun r s' hq'=>?_))
 cases r with
 | error e=>exact hx pins σ _ _ e s' I2 hq'
 | ok fl =>
  cases fl with
  | ret u =>
   obtain⟨v,H',I3,rv,ev,q3⟩:=I2.after hq';subst ev;exact⟨rv,⟨V.ref (s.heap.objs.size+1),H',I3,rfl,q3⟩⟩
  | next=>exact False.elim hq'
  | brk=>exact False.elim hq'
  | cont=>exact False.elim hq'
theorem QfR(M:Mk X.K C f)(F:FnOk X.prog X.w X.K X.mg X.base CX k f fd ps sp)(hr:Room (k+1) X.A)(hg:Gl X x)(hm:X.mg x=some (.ref C))(hb:Binds X.K fd ps ds)(hd:Vals dvs ds)(hx:YJ CX X E)
  (ha:PA X (e::es) t) (hdb:(x==("__debug__":Str))=false:=by decide) (he:starEach (e::es) X.env=(false,eval e X.env)::starEach es X.env:=by rfl) (hpl:(backTo pos (starEach es X.env)).any (·.1)=false:=by rfl):
  PE X (.Call (.Name x p) (e::es) [] pos) (Qhw C sp dvs E t):=by
 intro pins s σ H Q I h;refine wpAny_Call_Name_kw (ZL I hg hm ?_ hdb);refine PySem.W.callWith_K (h₀:=X.base) I.ok.mod.kin M.kp (thn (ha pos pins s σ H _ I h) fun us s1 ⟨vs,H1,I1,r,q⟩=>⟨I1.kIn,?_⟩) he hpl;exact QaQ M F hr hb hd hx I1 r q
theorem QdM(M:Mk X.K C f)(F:FnOk X.prog X.w X.K X.mg X.base CX k f fd ps sp)(hr:Room (k+1) X.A)(hg:Gl X x)(hm:X.mg x=some (.ref C))(hb:Binds X.K fd ps ds)(hd:Vals dvs ds)(hx:YJ CX X E)
  (hdb:(x==("__debug__":Str))=false:=by decide):PE X (.Call (.Name x p) [] [] pos) (Qhw C sp dvs E QjK):=by
 intro pins s σ H Q I h;refine wpAny_Call_Name_kw (ZL I hg hm ?_ hdb);exact PySem.W.callWith_K0 I.kIn M.kp (QaQ (us:=[]) M F hr hb hd hx I .nil h)
end
section
variable {CX:CXT}{ks:List Str}{sp:Sp}{E:XK}{m:Str}{p apos kpos:Pos}{o:Expr}{kws:List Keyword}{te ta:TE}{tk:TA}{nm:Option Str}
structure KBinds(K:PySem.W.Frag)(fd:FuncData)(ps ks:List Str)(g:List Value->List Value->List Value)(gV:List V->List V->List V):Prop where
 to:∀(s:Shared) (us ws:List Value),K.In s.heap->(g us ws).length=ps.length->BindsTo s fd ⟨us,ks.zip ws⟩ (ps.zip (g us ws))
 rel:∀{vs:List V} {us:List Value} {zs:List V} {ws:List Value},Vals vs us->Vals zs ws->Vals (gV vs zs) (g us ws)
variable {g:List Value->List Value->List Value}{gV:List V->List V->List V}
end
structure FnScope(N P:List Str)(sc:Scope):Prop where
 kind:sc.kind=.function
 co:sc.isCoroutine=false
 gen:sc.isGenerator=false
 nd:N.Nodup
 pre:N.take P.length=P
 par:∀x∈P,sc.names.lookup x=some .local\/sc.names.lookup x=some .cell
 nofree:∀y∈sc.names,y.2≠.free
theorem JT{kindOf:Str->Option NameKind}{x:Str}:∀{binds:List (Str×Value)} {m:Str->Option Value},(∀v,(x,v)∉binds)->bindL kindOf binds m x=m x
 | [],_,_=>rfl
 | (n,v)::r,m,h=>by
  unfold bindL;rw [JT fun w hw=>h w (List.mem_cons_of_mem _ hw)];split
  ·have:x≠n:=by rintro rfl;exact h v List.mem_cons_self
   simp [this]
  ·rfl
theorem JV{kindOf:Str->Option NameKind}{x:Str}:∀{binds:List (Str×Value)} {m:Str->Option Value},(∀v,(x,v)∉binds)->bindC kindOf binds m x=m x
 | [],_,_=>rfl
 | (n,v)::r,m,h=>by
  unfold bindC;rw [JV fun w hw=>h w (List.mem_cons_of_mem _ hw)];split
  ·rfl
  ·have:x≠n:=by rintro rfl;exact h v List.mem_cons_self
   simp [this]
theorem JU{kindOf:Str->Option NameKind}{x:Str}{v:Value}:∀{P:List Str} {vs:List Value} {i:Nat} {m:Str->Option Value},P.Nodup->P[i]?=some x->vs[i]?=some v->kindOf x=some .local ->
  bindL kindOf (P.zip vs) m x=some v
 | [],_,_,_,_,h,_,_=>by simp at h
 | _::_,[],_,_,_,_,h,_=>by simp at h
 | p::P,w::vs,0,m,nd,h1,h2,hk=>by
  simp at h1 h2;subst h1;subst h2;show bindL kindOf ((p,w)::P.zip vs) m p=_;unfold bindL;rw [JT fun v hv=>(List.nodup_cons.mp nd).1 (List.of_mem_zip hv).1,if_pos hk];simp
 | p::P,w::vs,i+1,m,nd,h1,h2,hk=>by
  show bindL kindOf ((p,w)::P.zip vs) m x=_;unfold bindL
  exact JU (i:=i) (List.nodup_cons.mp nd).2 (by simpa using h1) (by simpa using h2) hk
theorem JW{kindOf:Str->Option NameKind}{x:Str}{v:Value}:∀{P:List Str} {vs:List Value} {i:Nat} {m:Str->Option Value},P.Nodup->P[i]?=some x->vs[i]?=some v->kindOf x≠some .local ->
  bindC kindOf (P.zip vs) m x=some v
 | [],_,_,_,_,h,_,_=>by simp at h
 | _::_,[],_,_,_,_,h,_=>by simp at h
 | p::P,w::vs,0,m,nd,h1,h2,hk=>by
  simp at h1 h2;subst h1;subst h2;show bindC kindOf ((p,w)::P.zip vs) m p=_;unfold bindC;rw [JV fun v hv=>(List.nodup_cons.mp nd).1 (List.of_mem_zip hv).1,if_neg hk];simp
 | p::P,w::vs,i+1,m,nd,h1,h2,hk=>by
  show bindC kindOf ((p,w)::P.zip vs) m x=_;unfold bindC
  exact JW (i:=i) (List.nodup_cons.mp nd).2 (by simpa using h1) (by simpa using h2) hk
noncomputable def start(N:List Str)(vs:List V):St:=vs.map some++List.replicate (N.length-vs.length) none
noncomputable def QeU(CX:CXT)(P:Program)(w:World)(K:PySem.W.Frag)(mg:Str->Option Value)(base:Heap)(N:List Str)(qual:Str)(scope:Scope)(f:Addr)(cd:Value)(A:Around)(outer:List Env)(s:Shared)(H:Hp)(E:XK):Cx where
 prog:=P
 w:=w
 K:=K
 mg:=mg
 base:=base
 A:=A.deeper (envOfC qual scope s.heap.objs.size f cd)
 N:=N
 s₀:=s
 H₀:=H
 env:=envOfC qual scope s.heap.objs.size f cd
 outer:=outer
 stack:=envOfC qual scope s.heap.objs.size f cd::outer
 ex:=[]
 calm:=true
 fn:=fun _=>true
 pn:=[]
 xe:=fun e s'=>wpAny (model P w) (A.deeper (envOfC qual scope s.heap.objs.size f cd)) (leaving (envOfC qual scope s.heap.objs.size f cd) e) (fun _ s''=>CX outer H s E e s'') (fun e' s''=>CX outer H s E e' s'') s'
theorem Qbe{sc:Scope}{n:Nat}(h:sc.names.lookup x=some .cell):∃c,(cellsFrom n sc.names []).lookup x=some c:=by
 have q:=PySem.W.cellsFrom_some sc.names n [] (.inl h);exact Option.isSome_iff_exists.mp q
theorem QcJ{CX:CXT}{K:PySem.W.Frag}{N:List Str}{qual:Str}{scope:Scope}{cd:Value}{outer:List Env}{s1:Shared}{E:XK}
  (S:FnScope N ps scope) (hd:A.handled=none) (e0:Env0 P w K mg base A outer s H) (hl:vs.length=ps.length) (r:Vals vs us)
  (x:InCallC s s.heap.objs.size (bindL (envOfC qual scope s.heap.objs.size f cd).kindOf (ps.zip us) fun _=>none) (cellsFrom (s.heap.objs.size+1) scope.names []) (bindC (envOfC qual scope s.heap.objs.size f cd).kindOf (ps.zip us) fun _=>none) s1):
  Inv (QeU CX P w K mg base N qual scope f cd A outer s H E) [] (start N vs) H s1:=by
 have hpl:ps.length<=N.length:=by have:=congrArg List.length S.pre;rw [List.length_take]at this;omega
 obtain⟨h1,tk,rfl,hk⟩:=x.done
 have noA:∀b:Addr,b∉(QeU CX P w K mg base N qual scope f cd A outer s H E).ex:=fun b z=>absurd (show b∈([]:List Addr)from z) (by simp)
 refine⟨⟨e0.mod,S.kind,rfl,rfl,Nat.le_refl _,fun y z c h1 h2=>?_,fun y hy=>?_,fun y c _ h=>?_,fun _=>hd,Around.frames_deeper e0.frames,.inr ⟨rfl,rfl⟩,fun b z=>absurd z (noA b),e0.bs,e0.bsz,fun b _ _=>noA b,fun b z=>absurd z (noA b),e0.funs,e0.frf⟩,
  rfl,e0.bare,Un.kept hk,⟨_,x.toInCall.ns,fun i y v h1 h2 h3=>?_⟩,fun y c h=>⟨_,x.cell y c h⟩,e0.hok.fresh (Nat.le_refl _),fun y c h=>?_,fun p hp=>absurd (show p∈([]:List (Addr×Obj))from hp) (by simp),e0.hok.kept hk,?_⟩
 ·exact name_of_addr x.apart (PySem.mem_of_lookup h1) (PySem.mem_of_lookup h2)
 ·have hy:scope.names.lookup y=some .cell\/scope.names.lookup y=some .free:=hy
  rcases hy with hy|hy
  ·exact Qbe hy
  ·exact absurd rfl (S.nofree _ (PySem.mem_of_lookup hy))
 ·exact Nat.le_of_lt (x.above y c (PySem.mem_of_lookup h))
 ·have hi:i<vs.length:=by
   unfold start at h2;by_cases hi:i<vs.length
   ·exact hi
   ·rw [List.getElem?_append_right (by simpa using hi)]at h2
    rw [List.getElem?_replicate]at h2;split at h2<;>cases h2
  have ha:vs[i]?=some v:=by
   unfold start at h2
   rw [List.getElem?_append_left (by simpa using hi),List.getElem?_map]at h2
   cases e:vs[i]? with
   | none=>rw [e]at h2;cases h2
   | some a=>rw [e]at h2;cases h2;rfl
  obtain⟨u,hu,rv⟩:=r.get ha
  have hp:ps[i]?=some y:=by
   rw [<-S.pre,List.getElem?_take_of_lt (by omega)];exact h1
  have ndP:ps.Nodup:=by rw [<-S.pre];exact S.nd.sublist (List.take_sublist _ _)
  refine⟨u,rv,?_⟩
  rcases S.par y (List.mem_of_getElem? hp)with k|k
  ·exact .inl ⟨k,JU ndP hp hu k⟩
  ·obtain⟨c,e⟩:=Qbe (n:=s.heap.objs.size+1) k;refine .inr ⟨.inl k,c,e,?_⟩;have q:=x.cell y c e
   rw [JW ndP hp hu (by show scope.names.lookup y≠_;rw [k];decide)]at q
   exact q
 ·exact e0.hok.fresh (Nat.le_of_lt (x.above y c (PySem.mem_of_lookup h)))
 ·unfold start;show _=N.length;rw [List.length_append,List.length_map,List.length_replicate];omega
theorem Qk7{CX:CXT}{K:PySem.W.Frag}{name qual:Str}{params:Arguments}{body:List Stmt}{scope:Scope}{dV kV doc pm cdv ct oc:Value}{an od:Option Addr}
  {osl:Array (Option Value)} {N:List Str} {sp:Sp} (lk:K.lookup f=some ⟨oc,od,.func (PySem.W.fnOf name qual params body scope dV kV doc pm an cdv ct),osl⟩) (hcd:PySem.W.codeIn K cdv qual=true) (S:FnScope N ps scope)
  (len:∀vs H Q E,sp vs H Q E->vs.length=ps.length)
  (hbody:∀(A:Around) (outer:List Env) (s:Shared) (H:Hp) (vs:List V) (Q:VK) (E:XK),Room k (A.deeper (envOfC qual scope s.heap.objs.size f cdv))->sp vs H Q E ->
   ∃t,PSs (QeU CX P w K mg base N qual scope f cdv A outer s H E) body t/\t { nx:=fun _ H'=>Q .non H',rt:=Q } (start N vs) H):
  FnOk P w K mg base CX (k+1) f (PySem.W.fnOf name qual params body scope dV kV doc pm an cdv ct) ps sp:=by
 refine⟨len,fun A outer s H args us vs Q E hr e0 hb r hsp=>?_⟩;have hl:=len _ _ _ _ hsp;have KX:K.In s.heap:=e0.mod.kin.keeps fun b o e=>(e0.bs b o e).1;have lim:s.heap.NoLimit:=e0.mod.nolimit.keeps fun b o e=>(e0.bs b o e).1
 have hkind:∀y∈ps.zip us,scope.names.lookup y.1=some .local\/(scope.names.lookup y.1=some .cell/\((cellsFrom (s.heap.objs.size+1) scope.names []).lookup y.1).isSome=true):=fun⟨n,v⟩ hy=>by
  rcases S.par n (List.of_mem_zip hy).1 with q|q
  ·exact .inl q
  ·exact .inr ⟨q,PySem.W.cellsFrom_some _ _ _ (.inl q)⟩
 refine codeAny_call_function hr.depth (KX _ _ lk) rfl S.co S.gen rfl (PySem.W.codeRec_of KX hcd) (hb _ _ _ _ ?_);refine wpAny_newFunctionEnv_cells S.kind hkind fun env he s1 x=>?_;subst he;refine⟨lim.keeps x.toInCall.keep,codeAny_func ?_⟩;obtain⟨t,ht,hq⟩:=hbody A outer s H vs Q E (hr.deeper _) hsp;have I:Inv (QeU CX P w K mg base N qual scope f cdv A outer s H E) [] (start N vs) H s1:=QcJ S hr.hd e0 hl r x;refine wpAny_mono (ht [] s1 (start N vs) H _ I hq) (fun fl s' hs=>?_) fun e s' hs=>hs
 have fin:∀{σ':St} {H':Hp} {v:V} {u:Value},Inv (QeU CX P w K mg base N qual scope f cdv A outer s H E) [] σ' H' s'->RelV v u->Q v H'->CE outer P w H s Q u s' :=
  fun {σ' H' v u} J rv q=>⟨v,H',J.os,J.bare,J.base,J.hok,rv,q⟩
 cases fl with
 | ret u =>
  obtain⟨v,σ',H',J,rv,q⟩:=hs;exact fin J rv q
 | next =>
  obtain⟨σ',H',J,q⟩:=hs;exact fin (v:=V.non) (u:=Value.none) J rfl q
 | brk =>
  obtain⟨_,_,_,q⟩:=hs;exact False.elim q
 | cont =>
  obtain⟨_,_,_,q⟩:=hs;exact False.elim q
end L2
namespace L2
open PySem PySem.Spec PyProof.Rows
section
variable {X:Cx}{x:Str}{p pos:Pos}{e:Expr}{es:List Expr}{t:TA}{id T:String}{r:List V->Hp->VK->Prop}
noncomputable def tCB(r:List V->Hp->VK->Prop)(t:TA):TE:=fun σ H Q=>t σ H fun vs H1=>r vs H1 Q
theorem Je(hc:CallR X (.builtin id) r)(hg:Gl X x)(hm:X.mg x=none)(hv:bootBuiltins x=some (.builtin id))(ha:PA X (e::es) t)(hn:x≠"__name__":=by decide) (hdb:(x==("__debug__":Str))=false:=by decide)
  (he:starEach (e::es) X.env=(false,eval e X.env)::starEach es X.env:=by rfl) (hpl:(backTo pos (starEach es X.env)).any (·.1)=false:=by rfl):PE X (.Call (.Name x p) (e::es) [] pos) (tCB r t):=by
 intro pins s σ H Q I h;refine wpAny_Call_Name_kw (YV I hg hm hv ?_ hn hdb);exact PyProof.Rows.callWith_builtin1 (thn (ha pos pins s σ H _ I h) fun us s1 ⟨vs,H1,I1,r1,q1⟩=>hc pins s1 σ H1 vs us Q I1 r1 q1) he hpl
theorem Yw(hc:CallR X (.type T) r)(hg:Gl X x)(hm:X.mg x=none)(hv:bootBuiltins x=some (.type T))(ha:PA X (e::es) t)(hn:x≠"__name__":=by decide) (hdb:(x==("__debug__":Str))=false:=by decide)
  (he:starEach (e::es) X.env=(false,eval e X.env)::starEach es X.env:=by rfl) (hpl:(backTo pos (starEach es X.env)).any (·.1)=false:=by rfl):PE X (.Call (.Name x p) (e::es) [] pos) (tCB r t):=by
 intro pins s σ H Q I h;refine wpAny_Call_Name_kw (YV I hg hm hv ?_ hn hdb);exact PyProof.Rows.callWith_type1 (thn (ha pos pins s σ H _ I h) fun us s1 ⟨vs,H1,I1,r1,q1⟩=>hc pins s1 σ H1 vs us Q I1 r1 q1) he hpl
end
end L2
namespace HT
open PySem PyProof.Rows
section
open PySem.SeqAt
open PySem.AutoSeq1 (wpAny_loadPart')
open PySem.MeetsSeq PySem.MeetsSeq2 PySem.MeetsSeq3
end
section
variable {prog:Program}{w:World}{A:Around}{E:Value->Shared->Prop}{s:Shared}
theorem cat_tup{t b:Addr}{vs ws:List Value}{Q:Value->Shared->Prop}(ht:IsTup s.heap t vs.toArray)(hb:IsTup s.heap b ws.toArray)(hv:vs≠[])
  (h1:ws=[]->Q (.ref t) s) (h2:ws≠[]->Q (.ref s.heap.objs.size) { s with heap:=s.heap.push { cls:=.type "tuple",data:=.seq (vs++ws).toArray } })
  (hsz:vs.length+ws.length<=sizeLine):wpAny (model prog w) A (binaryOp .Add (.ref t) (.ref b)) Q E s:=by
 obtain⟨⟨cls,dd,data,sl⟩,ho,hc,n,hd⟩:=id ht;obtain⟨⟨cls2,dd2,data2,sl2⟩,ho2,hc2,n2,hd2⟩:=id hb;simp only at hc hd hc2 hd2;subst hc hd hc2 hd2
 have e:vs.toArray++ws.toArray=(vs++ws).toArray:=by simp
 by_cases hw:ws=[]
 ·exact concat_meets ⟨_,ho,rfl⟩ ⟨_,ho2,rfl⟩ noFill_tuple_add seq_tuple_add PySem.F.slot_tuple_add PySem.F.entry_tuple_add (PySem.F.args_tuple_add_2 _ _)
   (tuple_addW1 t b vs.toArray ws.toArray n n2 dd dd2 sl sl2 (by simpa using hv) (by simp [hw])) ⟨ho,ho2,h1 hw⟩
 ·refine concat_meets ⟨_,ho,rfl⟩ ⟨_,ho2,rfl⟩ noFill_tuple_add seq_tuple_add PySem.F.slot_tuple_add PySem.F.entry_tuple_add (PySem.F.args_tuple_add_2 _ _)
   (tuple_addW2 t b vs.toArray ws.toArray n n2 dd dd2 sl sl2 (by simpa using hv) (by simpa using hw) (by rw [List.size_toArray,List.size_toArray];exact hsz)) ⟨ho,ho2,?_⟩
  rw [e];exact h2 hw
noncomputable def sIx(n d:Nat):Option Int->Nat
 | none=>d
 | some v=>if v<0 then(v+(n:Int)).toNat else min v.toNat n
theorem sIx_le(n d:Nat)(hd:d<=n)(o:Option Int):sIx n d o<=n:=by
 cases o with
 | none=>exact hd
 | some v =>
  show(if v<0 then(v+(n:Int)).toNat else min v.toNat n)<=n;by_cases hv:v<0
  ·rw [if_pos hv];omega
  ·rw [if_neg hv];exact Nat.min_le_right _ _
theorem clip_eq(v:Int)(n d:Nat):(if v<0 then max (v+(n:Int)) 0 else min v (n:Int))=((sIx n d (some v):Nat):Int):=by
 show(if v<0 then max (v+(n:Int)) 0 else min v (n:Int))=(((if v<0 then(v+(n:Int)).toNat else min v.toNat n):Nat):Int);by_cases hv:v<0
 ·simp only [if_pos hv];omega
 ·simp only [if_neg hv];omega
theorem QbK(lo hi:Option Int)(n:Nat):Builtin.Slice.sliceAdjust lo hi 1 (n:Int)=(((sIx n 0 lo:Nat):Int),((sIx n n hi:Nat):Int)):=by
 have h1:¬((1:Int) < 0):=by omega
 unfold Builtin.Slice.sliceAdjust;simp only [h1,if_false];refine Prod.ext ?_ ?_
 ·cases lo with
  | none=>rfl
  | some v=>exact clip_eq v n 0
 ·cases hi with
  | none=>rfl
  | some v=>exact clip_eq v n n
theorem Qbq(i j:Nat):Builtin.Slice.slicePlaces (i:Int) (j:Int) 1=j-i:=by
 unfold Builtin.Slice.slicePlaces
 have h1:(1:Int) > 0:=by omega
 simp only [h1,if_true,Int.ediv_one];split<;>omega
theorem YS{v:Value}{o:Option Int}{Q:Option Int->Shared->Prop}(p:IsPart v o)(h:Q o s):wpAny (model prog w) A (Builtin.Slice.slicePartIndex v) Q E s:=by
 cases p with
 | none=>exact slicePart_none h
 | int i t=>exact slicePart_int h
theorem Yc{sl:Addr}{vl vu:Value}{lo hi:Option Int}{n:Nat}{Q:Int×Int×Nat->Shared->Prop}(hs:s.heap.IsSliceOf sl vl vu .none)(pl:IsPart vl lo)(pu:IsPart vu hi)
  (h:Q (((sIx n 0 lo:Nat):Int),1,sIx n n hi-sIx n 0 lo) s):wpAny (model prog w) A (Builtin.Slice.sliceApplied (.ref sl) (pure (n:Int))) Q E s:=by
 obtain⟨os,hos,hcs,hds⟩:=id hs;unfold Builtin.Slice.sliceApplied Builtin.Slice.sliceFields;refine wpAny_bind (wpAny_bind (wpAny_field hos hds (x:=vl) rfl (wpAny_bind (wpAny_field hos hds (x:=vu) rfl (wpAny_bind (wpAny_field hos hds (x:=.none) rfl (wpAny_pure ?_)))))));refine wpAny_bind (slicePart_none ?_);show wpAny _ _ (if((1:Int)==0)=true then _ else _) _ _ s
 rw [if_neg (by decide)]
 refine wpAny_bind (YS pl (wpAny_bind (YS pu (wpAny_bind (wpAny_pure ?_)))))
 show wpAny _ _ (match Builtin.Slice.sliceAdjust lo hi 1 (n:Int)with|(lo,hi)=>pure (lo,(1:Int),Builtin.Slice.slicePlaces lo hi 1)) _ _ s
 rw [QbK lo hi n];show wpAny _ _ (pure (((sIx n 0 lo:Nat):Int),(1:Int),Builtin.Slice.slicePlaces ((sIx n 0 lo:Nat):Int) ((sIx n n hi:Nat):Int) 1)) _ _ s;rw [Qbq];exact wpAny_pure h
theorem QdK(xs:Array Value)(i k:Nat):((List.range k).filterMap fun(m:Nat)=>xs[((i:Int)+(m:Int)*1).toNat]?).toArray=((xs.toList.drop i).take k).toArray:=by
 have e:(fun(m:Nat)=>xs[((i:Int)+(m:Int)*1).toNat]?)=fun m=>xs[i+m]?:=by
  funext m
  have:((i:Int)+(m:Int)*1).toNat=i+m:=by omega
  rw [this]
 rw [e];have:=pick_run xs i k;rw [List.filterMap_map]at this;have e2:((fun x=>xs[x]?)∘fun x=>i+x)=fun m=>xs[i+m]?:=rfl;rw [e2]at this;rw [this]
theorem getItem_tuple_cut{t sl:Addr}{items:Array Value}{vl vu:Value}{lo hi:Option Int}{Q:Value->Shared->Prop}(ht:IsTup s.heap t items)(hs:s.heap.IsSliceOf sl vl vu .none)(pl:IsPart vl lo)(pu:IsPart vu hi)
  (hw:¬(sIx items.size 0 lo=0/\sIx items.size items.size hi=items.size))
  (h:Q (.ref s.heap.objs.size) { s with heap:=s.heap.push { cls:=.type "tuple",data:=.seq ((items.toList.drop (sIx items.size 0 lo)).take (sIx items.size items.size hi-sIx items.size 0 lo)).toArray } })
  (hsz:items.size<=sizeLine):wpAny (model prog w) A (getItem (.ref t) (.ref sl)) Q E s:=by
 have htake:sizeOk (.seq ((items.toList.drop (sIx items.size 0 lo)).take (sIx items.size items.size hi-sIx items.size 0 lo)).toArray):=by
  show((items.toList.drop (sIx items.size 0 lo)).take (sIx items.size items.size hi-sIx items.size 0 lo)).toArray.size<=sizeLine;rw [List.size_toArray,List.length_take,List.length_drop,Array.length_toList];omega
 have hj:sIx items.size items.size hi<=items.size:=sIx_le _ _ (Nat.le_refl _) hi;obtain⟨os,hos,hcs,hds⟩:=id hs;have hTs:s.TypeIs (.ref sl) "slice":=⟨os,hos,hcs⟩;unfold getItem
 try with_reducible refine wpAny_holding ?_
 first|refine wpAny_bind (wpAny_pure ?_)|skip
 refine wpAny_bind (wpAny_sequenceKey ht.typeIs (by decide) ?_)
 refine wpAny_bind (wpAny_callSpecial?_slot (name:=Str.ofString "__getitem__") ht.typeIs PyProof.Rows.slot_tuple_getitem
  (wpAny_call_entry PyProof.Rows.slot_tuple_getitem ht.typeIs entry_tuple_getitem ?_ (args_tuple_getitem _ _)))
 show wpAny _ _ (Builtin.Tuple.tupleItemsOf (.ref t) >>= _) _ _ s;refine wpAny_bind (tupleItemsOf_ ht ?_);refine wpAny_bind (wpAny_typeOf hTs ?_)
 rw [if_pos (by decide)]
 refine wpAny_bind (Yc hs pl pu ?_)
 have hno:¬((((sIx items.size 0 lo:Nat):Int)==0&&(1:Int)==1&&(sIx items.size items.size hi-sIx items.size 0 lo)==items.size)=true):=by
  intro q;rw [Bool.and_eq_true,Bool.and_eq_true]at q;have q1:((sIx items.size 0 lo:Nat):Int)=0:=eq_of_beq q.1.1;have q2:sIx items.size items.size hi-sIx items.size 0 lo=items.size:=eq_of_beq q.2
  exact hw ⟨by omega,by omega⟩
 show wpAny _ _ (if(((sIx items.size 0 lo:Nat):Int)==0&&(1:Int)==1&&(sIx items.size items.size hi-sIx items.size 0 lo)==items.size)=true then _ else _) _ _ s;rw [if_neg hno,QdK]
 first
  | exact wpAny_bind (m:=Builtin.Tuple.tupleExact _) (wpAny_newObj_type (wpAny_pure ⟨_,rfl,wpAny_pure h⟩) htake)
  | exact wpAny_bind (m:=Builtin.Tuple.tupleExact _) (wpAny_newObj_type (wpAny_bind (wpAny_pure (wpAny_pure ⟨_,rfl,wpAny_pure h⟩))) htake)
  | exact wpAny_bind (wpAny_bind (m:=Builtin.Tuple.tupleExact _) (wpAny_newObj_type (wpAny_pure (wpAny_pure ⟨_,rfl,wpAny_pure h⟩)) htake))
  | exact wpAny_bind (wpAny_bind (m:=Builtin.Tuple.tupleExact _) (wpAny_newObj_type (wpAny_pure ⟨_,rfl,wpAny_pure h⟩) htake))
end
end HT
namespace L2
open PySem PySem.Spec PyProof.Rows
noncomputable abbrev TO:=St->Hp->(Option Int->Hp->Prop)->Prop
noncomputable def PO(X:Cx)(e:Option Expr)(t:TO):Prop :=
 ∀(pins:List (Addr×Obj)) (s:Shared) (σ:St) (H:Hp) (Q:Option Int->Hp->Prop),Inv X pins σ H s->t σ H Q ->
  wpAny (model X.prog X.w) X.A (evalPart e X.env) (fun u s'=>∃o H',Inv X pins σ H' s'/\IsPart u o/\Q o H') X.xe s
noncomputable def Qfj:TO:=fun _ H Q=>Q none H
noncomputable def Qkg(t:TE):TO:=fun σ H Q=>t σ H fun x H1=>∃i,x=.int i/\Q (some i) H1
theorem QbA{ns:List Int}:∀{us:List Value},Vals (ns.map V.int) us->IntsAre us ns:=by
 induction ns with
 | nil=>intro us r;rw [List.map_nil]at r;cases r;exact .nil
 | cons n ns ih =>
  intro us r;rw [List.map_cons]at r
  cases r with
  | cons r1 r2 =>
   obtain⟨t,e⟩:=r1;subst e;exact .cons n t (ih r2)
section
variable {X:Cx}{e:Expr}{te:TE}{lo hi:Option Expr}{tl th:TO}{pos p2:Pos}
theorem QfN:PO X none Qfj:=by
 intro pins s σ H Q I h;rw [evalPart_none];exact wpAny_pure ⟨none,H,I,.none,h⟩
theorem QfM(h:PE X e te):PO X (some e) (Qkg te):=by
 intro pins s σ H Q I hw;rw [evalPart_some];refine thn (h pins s σ H _ I hw) fun u s1 ⟨x,H1,I1,r1,q1⟩=>?_;obtain⟨i,rfl,q⟩:=q1;obtain⟨t,rfl⟩:=r1;exact⟨some i,H1,I1,.int i t,q⟩
noncomputable def SlR(X:Cx)(r:V->Option Int->Option Int->Hp->VK->Prop):Prop :=
 ∀(pins:List (Addr×Obj)) (s:Shared) (σ:St) (H:Hp) (x:V) (v vl vu:Value) (lo hi:Option Int) (sl:Addr) (Q:VK),Inv X pins σ H s->RelV x v->s.heap.IsSliceOf sl vl vu .none->IsPart vl lo->IsPart vu hi->r x lo hi H Q ->
  ∃ T id, typeLookup (.type T) "__getitem__" = pure (some (.builtin id)) /\ s.TypeIs v T /\ wpAny (model X.prog X.w) X.A (getItem v (.ref sl)) (EP X pins σ Q) X.xe s
theorem SlR.or{r r':V->Option Int->Option Int->Hp->VK->Prop}(h:SlR X r)(h':SlR X r'):SlR X (fun x lo hi H Q=>r x lo hi H Q\/r' x lo hi H Q):=by
 intro pins s σ H x v vl vu lo hi sl Q I rx hs pl pu q
 rcases q with q|q
 ·exact h pins s σ H x v vl vu lo hi sl Q I rx hs pl pu q
 ·exact h' pins s σ H x v vl vu lo hi sl Q I rx hs pl pu q
noncomputable def tSl(r:V->Option Int->Option Int->Hp->VK->Prop)(te:TE)(tl th:TO):TE:=fun σ H Q=>te σ H fun x H1=>tl σ H1 fun l H2=>th σ H2 fun u H3=>r x l u H3 Q
theorem QdL{r:V->Option Int->Option Int->Hp->VK->Prop}(hr:SlR X r)(he:PE X e te)(hl:PO X lo tl)(hu:PO X hi th):PE X (.Subscript e (.Slice lo hi none p2) pos) (tSl r te tl th):=by
 intro pins s σ H Q I h;refine Subscript_ (thn (he pins s σ H _ I h) fun v s1 ⟨x,H1,I1,r1,q1⟩=>?_);refine wpAny_Slice (thn (hl pins s1 σ H1 _ I1 q1) fun vl s2 ⟨l,H2,I2,pl,q2⟩=>thn (hu pins s2 σ H2 _ I2 q2) fun vu s3 ⟨u,H3,I3,pu,q3⟩=>?_);rw [evalPart_none];refine wpAny_pure ?_;have I4:Inv X pins σ H3 { s3 with heap:=s3.heap.push { cls:=.type "slice",data:=.fields #[vl,vu,.none] } }:=I3.kept (t':=s3.toks) fun b ob q=>Heap.get?_push_of_some _ q;obtain⟨T,id,hT,ht,hg⟩:=hr pins { s3 with heap:=s3.heap.push { cls:=.type "slice",data:=.fields #[vl,vu,.none] } } σ H3 x v vl vu l u s3.heap.objs.size Q I4 r1 (Heap.IsSliceOf.new ..) pl pu q3;show wpAny (model X.prog X.w) X.A (subscriptTail e (.Slice lo hi none p2) v (.ref s3.heap.objs.size)) (EP X pins σ Q) X.xe { s3 with heap:=s3.heap.push { cls:=.type "slice",data:=.fields #[vl,vu,.none] } }
 exact tail_any (ops:=[.ref s3.heap.objs.size,v]) ht hT hg (by with_unfolding_all rfl)
noncomputable def QeW(xs:List V)(lo hi:Option Int):List V:=(xs.drop (HT.sIx xs.length 0 lo)).take (HT.sIx xs.length xs.length hi-HT.sIx xs.length 0 lo)
theorem YE(xs:List V)(lo hi:Option Int):(QeW xs lo hi).length<=xs.length:=by
 unfold QeW;rw [List.length_take,List.length_drop];omega
noncomputable def Qmh(K:PySem.W.Frag):V->Option Int->Option Int->Hp->VK->Prop:=fun x lo hi H Q=>∃a xs,x=.ref a/\SqT K H a xs /\
 ¬(HT.sIx xs.length 0 lo=0/\HT.sIx xs.length xs.length hi=xs.length)/\∀p,H p=none->Q (.ref p) (upd H p (.tup (QeW xs lo hi)))
theorem sl_tup:SlR X (Qmh X.K):=by
 intro pins s σ H x v vl vu lo hi sl Q I rx hs pl pu h;obtain⟨a,xs,rfl,hx,hw,q⟩:=h;cases rx;obtain⟨its,r,ht,hz⟩:=I.tuple hx
 have hlen:its.toArray.size=xs.length:=by rw [List.size_toArray];exact r.length.symm
 refine⟨"tuple",_,PyProof.Rows.slot_tuple_getitem.lookup,ht.typeIs,?_⟩
 refine HT.getItem_tuple_cut ht hs pl pu (by rw [hlen];exact hw) ?_ (by rw [hlen];exact hz)
 rw [hlen];refine⟨.ref s.heap.objs.size,_,I.laid (t':=s.toks) (o:=.tup (QeW xs lo hi)) (fun b ob q=>Heap.get?_push_of_some _ q) (Nat.le_refl _) ?_,rfl,q _ (I.hok.fresh (Nat.le_refl _))⟩;exact⟨Nat.le_trans (YE xs lo hi) hz,_,(r.drop (HT.sIx xs.length 0 lo)).take (HT.sIx xs.length xs.length hi-HT.sIx xs.length 0 lo),IsTup.new _ _⟩
noncomputable def Qkz(K:PySem.W.Frag):R2:=fun x y H Q=>∃a b xs ys,x=.ref a/\y=.ref b/\SqT K H a xs/\SqT K H b ys/\xs≠[]/\xs.length+ys.length<=sizeLine /\
 (ys=[]->Q (.ref a) H)/\(ys≠[]->∀p,H p=none->Q (.ref p) (upd H p (.tup (xs++ys))))
theorem Vals.nil_iff{xs:List V}{us:List Value}(r:Vals xs us):us=[]↔xs=[]:=by
 cases r with
 | nil=>simp
 | cons _ _=>simp
theorem QfX:OpR X (binaryOp .Add) (Qkz X.K):=by
 intro pins s σ H x y v u Q I rx ry h;obtain⟨a,b,xs,ys,rfl,rfl,ha,hb,hx,hz,q1,q2⟩:=h;cases rx;cases ry;obtain⟨its,r1,p1,_⟩:=I.tuple ha;obtain⟨its2,r2,p2,_⟩:=I.tuple hb
 refine HT.cat_tup p1 p2 (fun z=>hx (r1.nil_iff.mp z)) (fun z=>⟨.ref a,H,I,rfl,q1 (r2.nil_iff.mp z)⟩) (fun z=>?_) (by rw [<-r1.length,<-r2.length];exact hz)
 refine⟨.ref s.heap.objs.size,_,I.laid (t':=s.toks) (o:=.tup (xs++ys)) (fun b ob q=>Heap.get?_push_of_some _ q) (Nat.le_refl _) ?_,rfl,q2 (fun w=>z (r2.nil_iff.mpr w)) _ (I.hok.fresh (Nat.le_refl _))⟩
 exact⟨by rw [List.length_append];exact hz,_,r1.append r2,IsTup.new _ _⟩
end
end L2
namespace L2
open PySem PySem.Spec PyProof.Rows
variable {H:Hp}{pins:List (Addr×Obj)}{s:Shared}{σ:St}{x:V}
noncomputable def ixN(n:Nat)(i:Int):Option Nat:=if 0<=i then(if i<n then some i.toNat else none)else if -(n:Int)<=i then some (i+n).toNat else none
noncomputable def atI{α:Type}(xs:List α)(i:Int):Option α:=(ixN xs.length i).bind fun j=>xs[j]?
theorem QcF{n:Nat}{i:Int}{j:Nat}(h:ixN n i=some j):seqIndex? i n=some j/\j<n/\-(n:Int)<=i/\i<n:=by
 unfold ixN at h;by_cases h0:0<=i
 ·rw [if_pos h0]at h;by_cases h1:i<n
  ·rw [if_pos h1]at h;have e:i.toNat=j:=Option.some.inj h
   exact⟨by rw [seqIndex_of h0 h1,e],by omega,by omega,h1⟩
  ·rw [if_neg h1]at h;cases h
 ·rw [if_neg h0]at h;by_cases h1:-(n:Int)<=i
  ·rw [if_pos h1]at h;have e:(i+n).toNat=j:=Option.some.inj h
   exact⟨by rw [seqIndex_neg (by omega) h1,e],by omega,h1,by omega⟩
  ·rw [if_neg h1]at h;cases h
theorem QaE{α:Type}{xs:List α}{i:Int}{v:α}(h:atI xs i=some v):∃j,seqIndex? i xs.length=some j/\xs[j]?=some v/\j<xs.length/\-(xs.length:Int)<=i/\i<xs.length:=by
 unfold atI at h
 cases e:ixN xs.length i with
 | none=>rw [e]at h;cases h
 | some j =>
  rw [e]at h;obtain⟨h1,h2,h3,h4⟩:=QcF e;exact⟨j,h1,h,h2,h3,h4⟩
noncomputable def Qdb(b:Expr):Prop:=∀o i,subscripted b false o i=operate [o,i] (getItem o i)
noncomputable def IxR(X:Cx)(r:R2):Prop :=
 ∀(value slice:Expr) (pins:List (Addr×Obj)) (s:Shared) (σ:St) (H:Hp) (x y:V) (v u:Value) (Q:VK),Inv X pins σ H s->RelV x v->RelV y u->r x y H Q ->
  subscripted slice false v u=operate [v,u] (getItem v u)->wpAny (model X.prog X.w) X.A (subscriptTail value slice v u) (EP X pins σ Q) X.xe s
noncomputable def MtR(X:Cx)(id:String)(r:V->List V->Hp->VK->Prop):Prop :=
 ∀(pins:List (Addr×Obj)) (s:Shared) (σ:St) (H:Hp) (x:V) (xs:List V) (v:Value) (us:List Value) (Q:VK),Inv X pins σ H s->RelV x v->Vals xs us->r x xs H Q ->
  wpAny (model X.prog X.w) X.A (call (.builtin id) (v::us)) (EP X pins σ Q) X.xe s
section
variable {X:Cx}{a b:Expr}{ta tb:TE}{pos:Pos}
theorem IxR.or{r r':R2}(h:IxR X r)(h':IxR X r'):IxR X (fun x y H Q=>r x y H Q\/r' x y H Q):=by
 intro value slice pins s σ H x y v u Q I rx ry q hs
 rcases q with q|q
 ·exact h value slice pins s σ H x y v u Q I rx ry q hs
 ·exact h' value slice pins s σ H x y v u Q I rx ry q hs
theorem QkG{r:R2}(hr:IxR X r)(ha:PE X a ta)(hb:PE X b tb)(hs:Qdb b):PE X (.Subscript a b pos) (tOp r ta tb):=by
 intro pins s σ H Q I h;exact Subscript_ (Qlq ha hb I h fun v u s2 x y H2 I2 rx ry q=>hr a b pins s2 σ H2 x y v u Q I2 rx ry q (hs _ _))
noncomputable def Qmn(K:PySem.W.Frag):R2:=fun x y H Q=>∃p xs i v,x=.ref p/\y=.int i/\SqL K H p xs/\atI xs i=some v/\Q v H
noncomputable def Qml(K:PySem.W.Frag):R2:=fun x y H Q=>∃p xs i v,x=.ref p/\y=.int i/\SqT K H p xs/\atI xs i=some v/\Q v H
noncomputable def Qmm:R2:=fun x y H Q=>∃z i c,x=.str z/\y=.int i/\z.length<=sizeLine/\atI z.cps.toList i=some c/\Q (.str ⟨#[c]⟩) H
theorem ix_list:IxR X (Qmn X.K):=by
 intro value slice pins s σ H x y v u Q I rx ry h hs;obtain⟨p,xs,i,z,rfl,rfl,hq,he,q⟩:=h;cases rx;obtain⟨t,rfl⟩:=ry;obtain⟨its,r,pl,hz⟩:=I.list hq;obtain⟨j,h1,h2,h3,h4,h5⟩:=QaE he;obtain⟨w,ew,rw'⟩:=r.get h2;have hl:=r.length;have hn:=YA;have fin:EP X pins σ Q w s:=⟨z,H,I,rw',q⟩;by_cases h0:0<=i
 ·have hj:i.toNat=j:=by
   rw [seqIndex_of h0 h5]at h1;exact Option.some.inj h1
  exact item_listR pl.isList h0 (by omega) (by rw [hj];simpa using ew) fin hs
 ·have hj:(i+(its.toArray.size:Int)).toNat=j:=by
   rw [seqIndex_neg (by omega) h4]at h1
   rw [List.size_toArray,<-hl];exact Option.some.inj h1
  exact subscriptTail_builtinR (x:=w) pl.isList.typeIs slot_list_getitem.lookup
   (wpAny_getItem_list_neg (Q:=fun r s'=>r=w/\EP X pins σ Q r s') pl.isList (by omega) (by rw [List.size_toArray]<;>omega) (by omega) (by rw [hj];simpa using ew) ⟨rfl,fin⟩) hs
theorem ix_tup:IxR X (Qml X.K):=by
 intro value slice pins s σ H x y v u Q I rx ry h hs;obtain⟨p,xs,i,z,rfl,rfl,hq,he,q⟩:=h;cases rx;obtain⟨t,rfl⟩:=ry;obtain⟨its,r,pl,hz⟩:=I.tuple hq;obtain⟨j,h1,h2,h3,h4,h5⟩:=QaE he;obtain⟨w,ew,rw'⟩:=r.get h2;have hl:=r.length;have hn:=YA;have fin:EP X pins σ Q w s:=⟨z,H,I,rw',q⟩
 exact subscriptTail_builtinR (x:=w) pl.typeIs slot_tuple_getitem.lookup
  (getItem_tuple (j:=j) (Q:=fun r s'=>r=w/\EP X pins σ Q r s') pl (by omega) (by omega) (by rw [List.size_toArray,<-hl];exact h1) (by simpa using ew) ⟨rfl,fin⟩) hs
theorem QiP:IxR X Qmm:=by
 intro value slice pins s σ H x y v u Q I rx ry h hs;obtain⟨z,i,c,rfl,rfl,hz,he,q⟩:=h;obtain⟨t,rfl⟩:=rx;obtain⟨t',rfl⟩:=ry;obtain⟨j,h1,h2,h3,h4,h5⟩:=QaE he
 have hl:z.cps.toList.length=z.length:=by simp [Str.length]
 rw [hl]at h1 h4 h5;have hn:=YA
 exact tail_any (typeIs_str s z t) slot_str_getitem.lookup (getItem_str (c:=c) (by
  have e1:decide (i < -(2 ^ 63:Int))=false:=decide_eq_false (by omega)
  have e2:decide (i≥2 ^ 63)=false:=decide_eq_false (by omega)
  rw [e1,e2,Bool.or_false]) (by rw [h1];simpa using h2) ⟨.str ⟨#[c]⟩,H,I.tok _,⟨_,rfl⟩,q⟩) hs
noncomputable def rIx(K:PySem.W.Frag):R2:=fun x y H Q=>Qmn K x y H Q\/Qml K x y H Q\/Qmm x y H Q
theorem ix_seq:IxR X (rIx X.K):=ix_list.or (ix_tup.or QiP)
theorem Qbv(its:List Value)(n j:Nat)(u:Value):Obj.mapSeq (·.setIfInBounds j u) { cls:=.type "list",data:=.seq its.toArray n }={ cls:=.type "list",data:=.seq (its.set j u).toArray n }:=by
 simp [Obj.mapSeq]
theorem Inv.lst{p:Addr}{xs:List V}(I:Inv X pins σ H s)(h:H p=some (.lst xs)):
  ∃ (its : List Value) (n : Nat), Vals xs its /\ s.heap.get? p = some { cls := .type "list", data := .seq its.toArray n } /\ xs.length <= sizeLine := by
 obtain⟨z,its,n,r,e⟩:=I.hok p _ h;exact⟨its,n,r,e,z⟩
theorem Inv.lstUpd{p:Addr}{xs ys:List V}{its its':List Value}{n n':Nat}{f:Obj->Obj}(I:Inv X pins σ H s)(h:H p=some (.lst xs))
  (ho:s.heap.get? p=some { cls:=.type "list",data:=.seq its.toArray n }) (hf:f { cls:=.type "list",data:=.seq its.toArray n }={ cls:=.type "list",data:=.seq its'.toArray n' }) (r:Vals ys its') (hz:ys.length<=sizeLine) (t:Nat):
  Inv X pins σ (upd H p (.lst ys)) { s with heap:=s.heap.update p f,toks:=t }:=by
 have e:(s.heap.update p f).get? p=some { cls:=.type "list",data:=.seq its'.toArray n' }:=by
  rw [Heap.get?_update_self f ho (by rw [hf]<;>rfl),hf]
 refine I.write (x:=p) (e:=p) (by rw [h];trivial) (.inl rfl) (fun b u hb q=>(Heap.get?_update_other _ _ (Ne.symm hb)).trans q) ⟨_,e⟩ ?_
 exact⟨hz,its',n',r,e⟩
noncomputable def Qku:V->V->V->Hp->(Hp->Prop)->Prop:=fun o i v H Q=>∃p xs k j,o=.ref p/\i=.int k/\H p=some (.lst xs)/\ixN xs.length k=some j/\Q (upd H p (.lst (xs.set j v)))
theorem Qdz:Qhh X Qku:=by
 intro pins s σ H o i v ov iv u Q I ro ri rv h;obtain⟨p,xs,k,j,rfl,rfl,hp,hj,q⟩:=h;cases ro;obtain⟨t,rfl⟩:=ri;obtain⟨its,n,r,ho,hz⟩:=I.lst hp;obtain⟨h1,h2,h3,h4⟩:=QcF hj;have hl:=r.length;have hn:=YA
 have I':Inv X pins σ (upd H p (.lst (xs.set j v))) { s with heap:=s.heap.update p (Obj.mapSeq (·.setIfInBounds j u)) }:=
  I.lstUpd hp ho (Qbv its n j u) (r.set rv j) (by rw [List.length_set];exact hz) s.toks
 by_cases h0:0<=k
 ·have hk:k.toNat=j:=by
   rw [seqIndex_of h0 h4]at h1;exact Option.some.inj h1
  exact PySem.W.ki_setAt ho h0 (by omega) (by rw [List.size_toArray,<-hl];exact h4) (by rw [hk];exact⟨_,I',q⟩)
 ·have hk:(k+(its.toArray.size:Int)).toNat=j:=by
   rw [seqIndex_neg (by omega) h3]at h1
   rw [List.size_toArray,<-hl];exact Option.some.inj h1
  exact PySem.W.ki_setBack ho (by omega) (by rw [List.size_toArray,<-hl];exact h3) (by omega) (by rw [hk];exact⟨_,I',q⟩)
theorem Jz(lo hi:Option Int)(n:Nat):(sliceBounds lo hi none n).1=((HT.sIx n 0 lo:Nat):Int)/\(sliceBounds lo hi none n).2.1=((HT.sIx n n hi:Nat):Int)/\(sliceBounds lo hi none n).2.2=1:=by
 refine⟨?_,?_,rfl⟩
 ·cases lo with
  | none=>simp [sliceBounds,HT.sIx]
  | some i =>
   simp only [sliceBounds,HT.sIx,Option.getD_none,show(1:Int) > 0 by decide,if_true]
   by_cases h:i<0
   ·simp only [h,if_true]<;>omega
   ·simp only [h,if_false]<;>omega
 ·cases hi with
  | none=>simp [sliceBounds,HT.sIx]
  | some i =>
   simp only [sliceBounds,HT.sIx,Option.getD_none,show(1:Int) > 0 by decide,if_true]
   by_cases h:i<0
   ·simp only [h,if_true]<;>omega
   ·simp only [h,if_false]<;>omega
theorem Y9(its:List Value)(lo hi:Option Int):slicePick its.toArray lo hi none=((its.drop (HT.sIx its.length 0 lo)).take (HT.sIx its.length its.length hi-HT.sIx its.length 0 lo)).toArray:=by
 obtain⟨h1,h2,h3⟩:=Jz lo hi its.toArray.size;unfold slicePick;rw [h1,h2,h3];simp only [sliceRange_one,pick_run,List.size_toArray]<;>rfl
noncomputable def Qmj(K:PySem.W.Frag):V->Option Int->Option Int->Hp->VK->Prop:=fun x lo hi H Q=>∃a xs,x=.ref a/\SqL K H a xs/\∀p,H p=none->Q (.ref p) (upd H p (.lst (QeW xs lo hi)))
theorem sl_list:SlR X (Qmj X.K):=by
 intro pins s σ H x v vl vu lo hi sl Q I rx hs pl pu h;obtain⟨a,xs,rfl,hx,q⟩:=h;cases rx;obtain⟨its,r,ht,hz⟩:=I.list hx;have hlen:=r.length;refine⟨"list",_,slot_list_getitem.lookup,ht.isList.typeIs,?_⟩
 refine wpAny_getItem_list_slice ht.isList hs pl pu .none (by simp) ?_ (by rw [List.size_toArray]<;>omega)
 rw [Y9,<-hlen];refine⟨.ref s.heap.objs.size,_,I.laid (t':=s.toks) (o:=.lst (QeW xs lo hi)) (fun b ob q=>Heap.get?_push_of_some _ q) (Nat.le_refl _) ?_,rfl,q _ (I.hok.fresh (Nat.le_refl _))⟩;exact⟨Nat.le_trans (YE xs lo hi) hz,_,0,(r.drop (HT.sIx xs.length 0 lo)).take (HT.sIx xs.length xs.length hi-HT.sIx xs.length 0 lo),Heap.get?_push_size _ rfl⟩
noncomputable def YO:V->Bool
 | .non=>true
 | .bl _=>true
 | .int _=>true
 | .str _=>true
 | _=>false
noncomputable def eqV:V->V->Bool
 | .non,.non=>true
 | .bl a,.bl b=>a==b
 | .bl a,.int b=>(if a then 1 else 0)==b
 | .int a,.bl b=>a==(if b then 1 else 0)
 | .int a,.int b=>a==b
 | .str a,.str b=>a==b
 | _,_=>false
theorem Qi8{A:Around}{y:V}{u v:Value}(ry:RelV y u)(rx:RelV x v)(fy:YO y=true)(fx:YO x=true):SeqAt.EqAt A s u v (eqV y x):=by
 cases y with
 | non =>
  cases ry
  cases x with
  | non=>cases rx;exact SeqAt.EqAt.same _
  | bl b=>cases rx;exact SeqAt.EqAt.none_bool b
  | int b=>obtain⟨t,rfl⟩:=rx;exact SeqAt.EqAt.none_int b t
  | str b=>obtain⟨t,rfl⟩:=rx;exact SeqAt.EqAt.none_str b t
  | _=>exact absurd (show false=true from fx) Bool.false_ne_true
 | bl a =>
  cases ry
  cases x with
  | non=>cases rx;exact SeqAt.EqAt.bool_none a
  | bl b=>cases rx;exact SeqAt.EqAt.bool_bool a b
  | int b=>obtain⟨t,rfl⟩:=rx;exact SeqAt.EqAt.bool_int a b t
  | str b=>obtain⟨t,rfl⟩:=rx;exact SeqAt.EqAt.bool_str a b t
  | _=>exact absurd (show false=true from fx) Bool.false_ne_true
 | int a =>
  obtain⟨t',rfl⟩:=ry
  cases x with
  | non=>cases rx;exact SeqAt.EqAt.int_none a t'
  | bl b=>cases rx;exact SeqAt.EqAt.int_bool a t' b
  | int b=>obtain⟨t,rfl⟩:=rx;exact SeqAt.EqAt.int_int a t' b t
  | str b=>obtain⟨t,rfl⟩:=rx;exact SeqAt.EqAt.int_str a t' b t
  | _=>exact absurd (show false=true from fx) Bool.false_ne_true
 | str a =>
  obtain⟨t',rfl⟩:=ry
  cases x with
  | non=>cases rx;exact SeqAt.EqAt.str_none a t'
  | bl b=>cases rx;exact SeqAt.EqAt.str_bool a t' b
  | int b=>obtain⟨t,rfl⟩:=rx;exact SeqAt.EqAt.str_int a t' b t
  | str b=>obtain⟨t,rfl⟩:=rx;exact SeqAt.EqAt.str_str a t' b t
  | _=>exact absurd (show false=true from fx) Bool.false_ne_true
 | _=>exact absurd (show false=true from fy) Bool.false_ne_true
noncomputable def eqU(x:V)(u:Value):Bool:=match u with
 | .none=>eqV .non x
 | .bool b=>eqV (.bl b) x
 | .int i _=>eqV (.int i) x
 | .str z _=>eqV (.str z) x
 | _=>false
theorem QeR{y:V}{u:Value}(r:RelV y u)(f:YO y=true):eqU x u=eqV y x:=by
 cases y with
 | non=>cases r;rfl
 | bl b=>cases r;rfl
 | int i=>obtain⟨t,rfl⟩:=r;rfl
 | str z=>obtain⟨t,rfl⟩:=r;rfl
 | _=>exact absurd (show false=true from f) Bool.false_ne_true
theorem YH{x:V}:∀{xs:List V} {us:List Value},Vals xs us->xs.all YO=true->us.any (eqU x)=xs.any fun y=>eqV y x
 | _,_,.nil,_=>rfl
 | y::xs,u::us,.cons r t,f=>by
  rw [List.all_cons,Bool.and_eq_true]at f;rw [List.any_cons,List.any_cons,QeR r f.1,YH t f.2]
theorem ZT{A:Around}{s:Shared}{x:V}{v:Value}(rx:RelV x v)(fx:YO x=true):∀{xs:List V} {us:List Value},Vals xs us->xs.all YO=true->∀u∈us,SeqAt.EqAt A s u v (eqU x u)
 | _,_,.nil,_=>fun u hu=>by cases hu
 | y::xs,u::us,.cons r t,f=>fun u' hu=>by
  rw [List.all_cons,Bool.and_eq_true]at f
  rcases List.mem_cons.mp hu with rfl|hu
  ·rw [QeR r f.1];exact Qi8 r rx f.1 fx
  ·exact ZT rx fx t f.2 u' hu
noncomputable def inV(x:V)(xs:List V):Bool:=xs.any fun y=>eqV y x
noncomputable def rIn(K:PySem.W.Frag)(neg:Bool):R2:=fun x y H Q=>∃p xs,y=.ref p/\(SqL K H p xs\/SqT K H p xs)/\YO x=true/\xs.all YO=true/\Q (.bl (if neg then !inV x xs else inV x xs)) H
theorem Qcq:OpR X (compareOp .In) (rIn X.K false):=by
 intro pins s σ H x y v u Q I rx ry h;obtain⟨p,xs,rfl,hq,fx,fs,q⟩:=h;cases ry
 rcases hq with hq|hq
 ·obtain⟨its,r,pl,hz⟩:=I.list hq
  refine SeqAt.in_listAt (eqU x) pl.isList (fun w hw=>ZT rx fx r fs w (by simpa using hw)) ⟨.bl _,H,I,rfl,?_⟩
  rw [show its.toArray.any (eqU x)=its.any (eqU x) by simp,YH r fs]
  exact q
 ·obtain⟨its,r,pl,hz⟩:=I.tuple hq
  refine SeqAt.in_tupleAt (eqU x) pl (fun w hw=>ZT rx fx r fs w (by simpa using hw)) ⟨.bl _,H,I,rfl,?_⟩
  rw [show its.toArray.any (eqU x)=its.any (eqU x) by simp,YH r fs]
  exact q
theorem JE:OpR X (compareOp .NotIn) (rIn X.K true):=by
 intro pins s σ H x y v u Q I rx ry h;obtain⟨p,xs,rfl,hq,fx,fs,q⟩:=h;cases ry
 rcases hq with hq|hq
 ·obtain⟨its,r,pl,hz⟩:=I.list hq
  refine SeqAt.notIn_listAt (eqU x) pl.isList (fun w hw=>ZT rx fx r fs w (by simpa using hw)) ⟨.bl _,H,I,rfl,?_⟩
  rw [show its.toArray.any (eqU x)=its.any (eqU x) by simp,YH r fs]
  exact q
 ·obtain⟨its,r,pl,hz⟩:=I.tuple hq
  refine SeqAt.notIn_tupleAt (eqU x) pl (fun w hw=>ZT rx fx r fs w (by simpa using hw)) ⟨.bl _,H,I,rfl,?_⟩
  rw [show its.toArray.any (eqU x)=its.any (eqU x) by simp,YH r fs]
  exact q
theorem JS : CallR X (.builtin "len") (fun xs H Q => ∃ p ys, xs = [.ref p] /\ (SqL X.K H p ys \/ SqT X.K H p ys) /\ Q (.int ys.length) H) := by
 intro pins s σ H xs us Q I r h;obtain⟨p,ys,rfl,hq,q⟩:=h;obtain⟨u,rfl,rx⟩:=Jt r;cases rx;have hn:=YA
 rcases hq with hq|hq
 ·obtain⟨its,r',pl,hz⟩:=I.list hq;have hlen:=r'.length
  exact Calls.call_len_list pl.isList (by simp only [List.size_toArray]<;>omega) ⟨.int ys.length,H,I.tok _,⟨s.toks+1,by rw [List.size_toArray,hlen]⟩,q⟩
 ·obtain⟨its,r',pl,hz⟩:=I.tuple hq;have hlen:=r'.length
  exact len_tuple pl (by simp only [List.size_toArray]<;>omega) ⟨.int ys.length,H,I.tok _,⟨s.toks+1,by rw [List.size_toArray,hlen]⟩,q⟩
theorem JR : CallR X (.builtin "len") (fun xs H Q => ∃ z, xs = [.str z] /\ z.length <= sizeLine /\ Q (.int z.length) H) := by
 intro pins s σ H xs us Q I r h;obtain⟨z,rfl,hz,q⟩:=h;obtain⟨u,rfl,t,rfl⟩:=Jt r;have hn:=YA
 exact len_str (by omega) ⟨.int z.length,H,I.tok _,⟨_,rfl⟩,q⟩
theorem CallR.or{f:Value}{r r':List V->Hp->VK->Prop}(h:CallR X f r)(h':CallR X f r'):CallR X f (fun xs H Q=>r xs H Q\/r' xs H Q):=by
 intro pins s σ H xs us Q I rs q
 rcases q with q|q
 ·exact h pins s σ H xs us Q I rs q
 ·exact h' pins s σ H xs us Q I rs q
theorem Jm : CallR X (.type "tuple") (fun xs H Q => ∃ p ys, xs = [.ref p] /\ ((SqL X.K H p ys /\ ∀ l, H l = none -> Q (.ref l) (upd H l (.tup ys))) \/ (SqT X.K H p ys /\ Q (.ref p) H))) := by
 intro pins s σ H xs us Q I r h;obtain⟨p,ys,rfl,h⟩:=h;obtain⟨u,rfl,rx⟩:=Jt r;cases rx
 rcases h with⟨hq,q⟩|⟨hq,q⟩
 ·obtain⟨its,r',pl,hz⟩:=I.list hq;have hlen:=r'.length
  refine call_tuple_list pl.isList (fun h' kp=>?_) (by simp only [List.size_toArray]<;>omega)
  have I1:Inv X pins σ H { s with heap:=h' }:=I.kept (t':=s.toks) kp
  have I2:Inv X pins σ (upd H h'.objs.size (.tup ys)) { s with heap:=h'.push { cls:=.type "tuple",data:=.seq its.toArray } }:=
   I1.laid (t':=s.toks) (fun b o e=>Heap.get?_push_of_some _ e) (Nat.le_refl _) (show ObjOk X.prog X.w _ _ _ (.tup ys)from⟨hz,its,r',IsTup.new _ _⟩)
  exact⟨.ref h'.objs.size,_,I2,rfl,q _ (I1.hok.fresh (Nat.le_refl _))⟩
 ·obtain⟨its,r',pl,hz⟩:=I.tuple hq;exact call_tuple_same pl ⟨.ref p,H,I,rfl,q⟩
noncomputable def tyV(K:PySem.W.Frag)(T:String)(x:V)(H:Hp):Prop:=match x with
 | .str _=>T="str"
 | .int _=>T="int"
 | .ref p => (T = "list" /\ ∃ xs, SqL K H p xs) \/ (T = "tuple" /\ ∃ o, K.lookup p = some o /\ o.cls = .type "tuple" /\ o.dict = none) \/
   (T = "dict" /\ ((∃ kvs, H p = some (.dK kvs)) \/ ∃ kvs, H p = some (.dT kvs))) \/ (T = "set" /\ ∃ S n, H p = some (.set S n))
 | _=>False
theorem Qex{T:String}{v:Value}(I:Inv X pins σ H s)(r:RelV x v)(ty:tyV X.K T x H):
  s.TypeIs v T/\∀a,v=.ref a->∃ob,s.heap.get? a=some ob/\ob.dict=none:=by
 cases x with
 | str z =>
  obtain⟨t,rfl⟩:=r;cases(show T="str" from ty);exact⟨typeIs_str s z t,fun _ e=>nomatch e⟩
 | int i =>
  obtain⟨t,rfl⟩:=r;cases(show T="int" from ty);exact⟨typeIs_int s i t,fun _ e=>nomatch e⟩
 | ref p =>
  cases r
  rcases ty with⟨rfl,xs,hq⟩|⟨rfl,o,hk,hc,hd⟩|⟨rfl,hk⟩|⟨rfl,S,n,hk⟩
  ·obtain⟨its,_,pl,_⟩:=I.list hq;refine⟨pl.isList.typeIs,fun a e=>?_⟩;cases e;obtain⟨o,n,e,c,hd,_⟩:=pl;exact⟨o,e,hd⟩
  ·refine⟨⟨o,I.kIn p o hk,hc⟩,fun a e=>?_⟩;cases e;exact⟨o,I.kIn _ o hk,hd⟩
  ·have z:∃o,s.heap.get? p=some o/\o.ExactDict:=by
    rcases hk with⟨kvs,hk⟩|⟨kvs,hk⟩
    ·obtain⟨_,_,_,_,o,_,_,e,ex,_⟩:=I.hok p _ hk;exact⟨o,e,ex⟩
    ·obtain⟨_,_,_,_,o,_,_,e,ex,_⟩:=I.hok p _ hk;exact⟨o,e,ex⟩
   obtain⟨o,e,ex⟩:=z;refine⟨⟨o,e,ex.1⟩,fun a e2=>?_⟩;cases e2;exact⟨o,e,ex.2.1⟩
  ·obtain⟨o,_,_,_,e,ex,_⟩:=I.hok p _ hk;refine⟨⟨o,e,ex.1⟩,fun a e2=>?_⟩;cases e2;exact⟨o,e,ex.2.1⟩
 | _=>exact False.elim ty
noncomputable def Qm3(K:PySem.W.Frag)(T:String)(r:V->List V->Hp->VK->Prop)(to:TE):TE:=fun σ H Q=>to σ H fun x H1=>tyV K T x H1/\r x [] H1 Q
noncomputable def tBM(K:PySem.W.Frag)(T:String)(r:V->List V->Hp->VK->Prop)(to:TE)(t:TA):TE:=fun σ H Q=>to σ H fun x H1=>tyV K T x H1/\t σ H1 fun xs H2=>r x xs H2 Q
variable {o e:Expr}{es:List Expr}{to:TE}{t:TA}{name:Str}{apos cpos:Pos}{T id:String}{r:V->List V->Hp->VK->Prop}
theorem Qif(pa:PlainAttrs T)(slot:Slot T name id)(hty:typeOf (.builtin id)=pure (.type "method_descriptor")) (hm:MtR X id r) (ho:PE X o to)
  (hbase:attributeBase o name X.env (eval o X.env)=eval o X.env:=by rfl) (hline:(apos.endLine==cpos.line)=true:=by rfl):PE X (.Call (.Attribute o name apos) [] [] cpos) (Qm3 X.K T r to):=by
 intro pins s σ H Q I h;refine wpAny_Call_method0_late hbase hline (thn (ho pins s σ H _ I h) fun v s1 ⟨x,H1,I1,r1,ty,q1⟩=>?_);obtain⟨h1,h2⟩:=Qex I1 r1 ty;exact⟨T,id,pa,slot,hty,h1,h2,Calls.callWith_builtin rfl (PySem.evalArgs_none (hm pins s1 σ H1 x [] v [] Q I1 r1 .nil q1))⟩
theorem QkH(pa:PlainAttrs T)(slot:Slot T name id)(hty:typeOf (.builtin id)=pure (.type "method_descriptor")) (hm:MtR X id r) (ho:PE X o to) (ha:PA X (e::es) t)
  (hbase:attributeBase o name X.env (eval o X.env)=eval o X.env:=by rfl)
  (hfew:((backTo cpos (starEach (e::es) X.env)).all (fun x=>!x.1)&&(backToKw cpos (keywordEach [] X.env)).all (fun x=>x.1.isSome)
   && decide ((e::es).length+([]:List Keyword).length+(if([]:List Keyword).isEmpty then 0 else 1) < 30))=true:=by rfl)
  (hline:(apos.endLine==cpos.line)=true:=by rfl) (hs:starEach (e::es) X.env=(false,eval e X.env)::starEach es X.env:=by rfl) (hplain:(backTo cpos (starEach es X.env)).any (·.1)=false:=by rfl):
  PE X (.Call (.Attribute o name apos) (e::es) [] cpos) (tBM X.K T r to t):=by
 intro pins s σ H Q I h;refine wpAny_Call_method_late hbase hfew hline rfl (thn (ho pins s σ H _ I h) fun v s1 ⟨x,H1,I1,r1,ty,q1⟩=>?_);obtain⟨h1,h2⟩:=Qex I1 r1 ty;refine⟨T,id,pa,slot,hty,h1,h2,?_⟩;have hA:=ha cpos pins s1 σ H1 _ I1 q1;rw [hs]at hA ⊢
 refine Calls.callWith_builtin (by show(false||(backTo cpos (starEach es X.env)).any (·.1))=false;rw [hplain]<;>rfl) (Calls.evalArgs_plain ?_)
 exact thn hA fun us s2 ⟨vs,H2,I2,r2,q2⟩=>hm pins s2 σ H2 x vs v us Q I2 r1 r2 q2
end
end L2
namespace L2
open PySem PySem.Spec PyProof.Rows
variable {X:Cx}
noncomputable def MtM(X:Cx)(id:String)(r:V->List V->Hp->VK->Prop):Prop :=
 ∀(pins:List (Addr×Obj)) (s:Shared) (σ:St) (H:Hp) (x:V) (xs:List V) (v:Value) (us:List Value) (Q:VK),Inv X pins σ H s->RelV x v->Vals xs us->r x xs H Q ->
  wpAny (model X.prog X.w) X.A (call (.builtin id) (v::us)) (EP X pins σ Q) X.xe s
theorem Vals.one:∀{x:V} {us:List Value},Vals [x] us->∃u,us=[u]/\RelV x u
 | _,_,.cons r .nil=>⟨_,rfl,r⟩
theorem Vals.zero:∀{us:List Value},Vals [] us->us=[]
 | _,.nil=>rfl
theorem Vals.dropLast{xs:List V}{us:List Value}(h:Vals xs us):Vals xs.dropLast us.dropLast:=by
 induction h with
 | nil=>exact .nil
 | cons r t ih =>
  cases t with
  | nil=>exact .nil
  | cons q t'=>exact .cons r ih
theorem Vals.rep{xs:List V}{us:List Value}(h:Vals xs us):∀k:Nat,Vals (List.replicate k xs).flatten (List.replicate k us).flatten
 | 0=>.nil
 | k+1=>by
  rw [List.replicate_succ,List.replicate_succ,List.flatten_cons,List.flatten_cons];exact Vals.append h (Vals.rep h k)
theorem QbF{α:Type}(l:List α):l.eraseIdx (l.length-1)=l.dropLast:=by
 induction l with
 | nil=>rfl
 | cons a r ih =>
  cases r with
  | nil=>rfl
  | cons b r =>
   have e:(a::b::r).length-1=((b::r).length-1)+1:=by
    have h1:(a::b::r).length=r.length+2:=rfl;have h2:(b::r).length=r.length+1:=rfl;omega
   rw [e,List.eraseIdx_cons_succ,ih]
   all_goals rfl
theorem JM(its:List Value):∀(k:Nat) (acc:List Value),
  List.foldl (fun x1 x2=>x1++x2) acc.toArray (List.replicate k its.toArray)=(acc++(List.replicate k its).flatten).toArray
 | 0,acc=>by simp
 | k+1,acc=>by
  have e:acc.toArray++its.toArray=(acc++its).toArray:=by simp
  have e2:(acc++its)++(List.replicate k its).flatten=acc++(List.replicate (k+1) its).flatten:=by
   rw [List.replicate_succ,List.flatten_cons,List.append_assoc]
  rw [<-e2,<-JM its k (acc++its),<-e,List.replicate_succ,List.foldl_cons]
section
variable {pins:List (Addr×Obj)}{σ:St}{H:Hp}{s:Shared}{l b:Addr}{xs ys zs:List V}
theorem Inv.lset{its its':List Value}{n:Nat}{f:Array Value->Array Value}{t':Nat}(I:Inv X pins σ H s)(hH:H l=some (.lst xs))
  (e:s.heap.get? l=some { cls:=.type "list",data:=.seq its.toArray n }) (hf:f its.toArray=its'.toArray) (hv:Vals ys its') (hz:ys.length<=sizeLine):
  Inv X pins σ (upd H l (.lst ys)) { s with heap:=s.heap.update l (Obj.mapSeq f),toks:=t' }:=by
 have q:=PySem.IsL.update e f;rw [hf]at q
 refine I.write (x:=l) (e:=l) (by rw [hH];exact trivial) (.inl rfl) (fun b' u hb hu=>(Heap.get?_update_other s.heap (Obj.mapSeq f) (Ne.symm hb)).trans hu) ⟨_,q⟩ ?_
 exact⟨hz,its',_,hv,q⟩
theorem Inv.lnew{its:List Value}{t':Nat}(I:Inv X pins σ H s)(hv:Vals ys its)(hz:ys.length<=sizeLine):
  Inv X pins σ (upd H s.heap.objs.size (.lst ys)) { s with heap:=s.heap.push { cls:=.type "list",data:=.seq its.toArray },toks:=t' }:=
 I.laid (fun _ _ q=>Heap.get?_push_of_some _ q) (Nat.le_refl _) ⟨hz,its,0,hv,Heap.get?_push_size _ rfl⟩
theorem Inv.fresh(I:Inv X pins σ H s):H s.heap.objs.size=none:=I.hok.fresh (Nat.le_refl _)
theorem Inv.lstM (I : Inv X pins σ H s) (hH : H l = some (.lst xs)) : xs.length <= sizeLine /\ ∃ (its : List Value) (n : Nat), Vals xs its /\ xs.length = its.length /\ s.heap.get? l = some { cls := .type "list", data := .seq its.toArray n } := by
 obtain⟨z,its,n,r,e⟩:=I.hok l _ hH;exact⟨z,its,n,r,r.length,e⟩
theorem QdX{n:Nat}(h:n<=sizeLine):Builtin.List.listTooLong n=false:=by
 unfold Builtin.List.listTooLong
 exact decide_eq_false (by omega)
end
section

noncomputable def QfE:V->List V->Hp->VK->Prop:=fun x vs H Q=>∃l xs y,x=.ref l/\vs=[y]/\H l=some (.lst xs)/\xs.length<sizeLine/\Q .non (upd H l (.lst (xs++[y])))
theorem JF:MtM X "list.append" QfE:=by
 intro pins s σ H x vs v us Q I rx rv h;obtain⟨l,xs,y,rfl,rfl,hH,hz,q⟩:=h;cases rx;obtain⟨u,rfl,ru⟩:=rv.one;obtain⟨z,its,n,r,hl,e⟩:=I.lstM hH
 refine call_meets F.slot_list_append ⟨_,e,rfl⟩ F.entry_list_append (F.args_list_append_2 _ _) (PySem.list_append l its.toArray n u (by rw [List.size_toArray];omega)) ⟨e,?_⟩
 refine⟨.non,_,I.lset (its':=its++[u]) hH e (by simp) (r.append (.cons ru .nil)) ?_,rfl,q⟩
 rw [List.length_append,List.length_singleton];omega
noncomputable def Qnf:V->List V->Hp->VK->Prop:=fun x vs H Q=>∃l xs y,x=.ref l/\vs=[]/\H l=some (.lst xs)/\xs[xs.length-1]?=some y/\Q y (upd H l (.lst xs.dropLast))
theorem QiD:MtM X "list.pop" Qnf:=by
 intro pins s σ H x vs v us Q I rx rv h;obtain⟨l,xs,y,rfl,rfl,hH,hy,q⟩:=h;cases rx;have hus:=rv.zero;subst hus;obtain⟨z,its,n,r,hl,e⟩:=I.lstM hH;obtain⟨u,hu,ru⟩:=r.get hy
 have hy':its.toArray[its.toArray.size-1]?=some u:=by
  show its.toArray[its.length-1]?=some u;rw [<-Array.getElem?_toList,<-hl];exact hu
 refine call_meets F.slot_list_pop ⟨_,e,rfl⟩ F.entry_list_pop (F.args_list_pop_1 _) (MeetsSeq.list_pop_last l its.toArray n u hy' (by rw [List.size_toArray];omega)) ⟨e,?_⟩
 refine⟨y,_,I.lset (its':=its.dropLast) hH e ?_ r.dropLast ?_,ru,q⟩
 ·show its.toArray.eraseIdxIfInBounds (its.toArray.size-1)=its.dropLast.toArray;rw [List.size_toArray,List.eraseIdxIfInBounds_toArray,QbF]
 ·rw [List.length_dropLast];omega
noncomputable def Qng:R2:=fun x y H Q=>∃l b xs zs,x=.ref l/\y=.ref b/\H l=some (.lst xs)/\H b=some (.lst zs)/\xs.length+zs.length<=sizeLine/\∀p,H p=none->Q (.ref p) (upd H p (.lst (xs++zs)))
theorem Qiu:OpR X (binaryOp .Add) Qng:=by
 intro pins s σ H x y v u Q I rx ry h;obtain⟨l,b,xs,zs,rfl,rfl,hH,hB,hz,q⟩:=h;cases rx;cases ry;obtain⟨z,its,n,r,hl,e⟩:=I.lstM hH;obtain⟨z2,its2,n2,r2,hl2,e2⟩:=I.lstM hB
 refine PySem.P.add_list e e2 ?_ (by rw [List.size_toArray,List.size_toArray];omega)
 have ea:its.toArray++its2.toArray=(its++its2).toArray:=by simp
 rw [ea]
 exact⟨.ref _,_,I.lnew (t':=s.toks) (r.append r2) (by rw [List.length_append];omega),rfl,q _ I.fresh⟩
noncomputable def Qne:R2:=fun x y H Q=>∃l k xs,x=.ref l/\y=.int k/\H l=some (.lst xs)/\-(2 ^ 63)<=k/\k<2 ^ 63/\xs.length*k.toNat<=sizeLine /\
 ∀p,H p=none->Q (.ref p) (upd H p (.lst (List.replicate k.toNat xs).flatten))
theorem Qgg{α:Type}(xs:List α)(k:Nat):(List.replicate k xs).flatten.length=k*xs.length:=by
 induction k with
 | zero=>simp
 | succ k ih=>rw [List.replicate_succ,List.flatten_cons,List.length_append,ih,Nat.succ_mul,Nat.add_comm]
theorem Qij:OpR X (binaryOp .Mult) Qne:=by
 intro pins s σ H x y v u Q I rx ry h;obtain⟨l,k,xs,rfl,rfl,hH,h1,h2,hz,q⟩:=h;cases rx;obtain⟨t,rfl⟩:=ry;obtain⟨z,its,n,r,hl,e⟩:=I.lstM hH
 have hlen:its.toArray.size*k.toNat<=sizeLine:=by rw [List.size_toArray,<-hl];exact hz
 have hcap:¬its.toArray.size*k.toNat>(2 ^ 63-1) / 8:=by
  have:(sizeLine:Nat)<=(2 ^ 63-1) / 8:=by decide
  omega
 have hfit:¬(!Builtin.List.listFitsIndex k)=true:=by
  rw [fitsIndex_both h1 h2];exact Bool.false_ne_true
 have hlong:¬Builtin.List.listTooLong (its.toArray.size*k.toNat)=true:=by
  rw [QdX hlen];exact Bool.false_ne_true
 have hnew:List.foldl (fun x1 x2=>x1++x2) #[] (List.replicate (if its.toArray.isEmpty=true then 0 else k.toNat) its.toArray)=(List.replicate k.toNat its).flatten.toArray:=by
  have f0:∀m:Nat,List.foldl (fun x1 x2=>x1++x2) #[] (List.replicate m its.toArray)=(List.replicate m its).flatten.toArray:=fun m=>by
   have:=JM its m [];rw [List.nil_append]at this;exact this
  rw [f0]
  cases its with
  | nil=>simp
  | cons a r'=>rw [if_neg (by simp)]
 refine wpAny_binaryOp_repeat_ref (T:="list") (U:="int") (by decide) ⟨_,e,rfl⟩ (fun s'=>typeIs_int s' k t) noFill_list_mul F.fills_int_mul F.slot_int_rmul repeat_list F.slot_int_index.lookup
  (call_meets F.slot_int_rmul (typeIs_int s k t) F.entry_int_rmul (F.args_int_rmul_2 _ _) (int___rmul___int_list k t l its.toArray n)
   ⟨e,rfl,⟨_,e,rfl⟩,call_meets F.slot_list_mul ⟨_,e,rfl⟩ F.entry_list_mul (F.args_list_mul_2 _ _) (AutoListH.list___mul___list_int_3 l its.toArray n k t hfit hcap hlong) ⟨e,?_⟩⟩)
 rw [hnew]
 exact⟨.ref _,_,I.lnew (t':=s.toks) (r.rep k.toNat) (by rw [Qgg,Nat.mul_comm];exact hz),rfl,q _ I.fresh⟩
end
section
variable {prog:Program}{w:World}{A:Around}{E:Value->Shared->Prop}{s:Shared}
set_option maxRecDepth 100000 in
end
section

end
end L2
namespace L2
open PySem PySem.Spec PyProof.Rows
variable {a:Addr}{A:Around}{X:Cx}{H:Hp}{pins:List (Addr×Obj)}{pos:Pos}{P:Program}{s:Shared}{σ:St}{y:V}{u:Value}{w:World}
section
variable {κ:Type}[DecidableEq κ]
end
theorem Qgk{k:Key}(r:RelV (kV k) u):(Zn P w).is k u=true:=by
 cases k with
 | inl i=>obtain⟨t,e⟩:=(show ∃t,u=Value.int i t from r);subst e;exact Qan P w i t
 | inr x=>obtain⟨t,e⟩:=(show ∃t,u=Value.str x t from r);subst e;exact Qam P w x t
noncomputable abbrev KT(H:Hp):List (List Key×V)->List (List Key×Addr×Value)->Prop:=Paired fun p q=>p.1=q.1/\H q.2.1=some (.tup (p.1.map kV))/\RelV p.2 q.2.2
section
variable {h:Heap}
end
section
variable {v:V}{r:Value}{o:Option V}{E:Value->Shared->Prop}
theorem Inv.big(I:Inv X pins σ H s):sysModules<s.heap.objs.size:=by
 have h:mainGlobals<s.heap.objs.size:=(I.mod.glob.keeps I.bk).lt
 exact Nat.lt_trans (by decide) h
end
section
variable {kvs:List (Key×V)}{k:Key}{E:Value->Shared->Prop}
end
noncomputable def Qn0(i:Expr):Prop:=∀ov iv,subscripted i false ov iv=operate [ov,iv] (getItem ov iv)
theorem Qfo{prog:Program}{E:Value->Shared->Prop}{env:Env}{value slice:Expr}{T id:String}{Q:Value->Shared->Prop}
  (hl:typeLookup (.type T) "__getitem__"=pure (some (.builtin id))) (hs:Qn0 slice)
  (h:wpAny (model prog w) A (eval value env) (fun o s₁=>wpAny (model prog w) A (eval slice env) (fun i s₂=>s₂.TypeIs o T/\wpAny (model prog w) A (getItem o i) Q E s₂) E s₁) E s):
  wpAny (model prog w) A (eval (.Subscript value slice pos) env) Q E s:=by
 refine Subscript_ (wpAny_mono h (fun o s₁ h₁=>wpAny_mono h₁ (fun i s₂ h₂=>?_) fun _ _ x=>x) fun _ _ x=>x);obtain⟨hT,h₂⟩:=h₂;unfold subscriptTail;refine wpAny_bind ?_;rw [getitemInPython_of_ne hT.not_modules];refine wpAny_bind (wpAny_specialOf hT hl ?_)
 have fin:wpAny (model prog w) A (subscripted slice false o i) (fun r s₃=>wpAny (model prog w) A (letTemporaryGo value o r >>= fun _=>pure r) Q E s₃) E s₂:=by
  rw [hs o i];exact wpAny_operating (wpAny_mono h₂ (fun r s₃ h₃=>wpAny_bind (wpAny_letTemporaryGo (wpAny_pure h₃))) fun _ _ x=>x)
 first
  | exact wpAny_pure (wpAny_bind fin)
  | exact wpAny_bind (wpAny_pure (wpAny_bind fin))
  | exact wpAny_bind fin
section
variable {o i e value:Expr}{pos' tpos:Pos}{td ty tv:TE}
end
theorem Qei(h:Heap)(hb:sysModules<h.objs.size):ObjOk P w H (h.push { cls:=.type "dict",data:=.dict #[] }) h.objs.size (.dK []):=
 ⟨Nat.zero_le _,beq_eq_false_iff_ne.mpr (Ne.symm (Nat.ne_of_lt hb)),[],.nil,Heap.DictOf.new h⟩
noncomputable def Qhx:TE:=fun _ H Q=>∀p,H p=none->Q (.ref p) (upd H p (.dK []))
section

theorem QdO:PE X (.Dict [] [] pos) Qhx:=fun pins s σ H Q I h =>
 wpAny_Dict_empty ⟨.ref s.heap.objs.size,_,I.laid (a:=s.heap.objs.size) (o:=.dK []) (t':=s.toks) (fun _ _ q=>Heap.get?_push_of_some _ q) (Nat.le_refl _) (Qei s.heap I.big),rfl,h _ (I.hok.fresh (Nat.le_refl _))⟩
end
noncomputable abbrev VV:List (V×V)->List (Value×Value)->Prop:=Paired fun p q=>RelV p.1 q.1/\RelV p.2 q.2
section
variable {d:V}{r:Value}{o:Option V}{E:Value->Shared->Prop}
end
section
variable {o e f:Expr}{apos cpos:Pos}{td ty tx:TE}
end
section
variable {kvs:List (Key×V)}{E:Value->Shared->Prop}
end
section
variable {E:Value->Shared->Prop}
end
end L2
namespace Att
open PySem PySem.W PySem.Calls PyProof.Rows
theorem YD{P:Params}{h:Heap}:∀(ns:List Int) (vs:List Value),WellAll P h vs (ns.map WData.int)->IntsAre vs ns:=by
 intro ns
 induction ns with
 | nil =>
  intro vs w;rw [List.map_nil]at w;cases w;exact .nil
 | cons n ns ih =>
  intro vs w;rw [List.map_cons]at w
  cases w with
  | cons a b =>
   cases a;exact .cons _ _ (ih _ b)
theorem Qb8{l:OpenLaw}{n:Nat}(hn:l.most=some n){P:Params}{h:Heap}{args:List WData}{vals:List Value}
  (hpre:l.row.toRowW.claim.pre args=true) (hwl:WellAll P h vals args):
  ∃ a vs ns, vals = [Value.ref a] /\ args = [WData.list (ns.map WData.int)] /\ h.get? a = some { cls := .type "list", data := .seq vs.toArray } /\ IntsAre vs ns /\ ns.length <= n := by
 have hsh:WShape.hasAll [] args [.list .int]=true:=(pre_splitW hpre).1;have hc:l.pre.holds [] { args:=args }=true:=(pre_splitW hpre).2;obtain⟨d,r,rfl,h1,h2⟩:=hasAllW_cons hsh;obtain rfl:=hasAllW_nil h2;obtain⟨xs,rfl,h3⟩:=hasW_list h1;obtain⟨ns,rfl⟩:=items_int h3
 have hlen:ns.length<=n:=by
  unfold OpenLaw.pre at hc
  have h4:(WTm.not (.lt (.lit (.int (n:Int))) (.len (.arg 0)))).holds [] { args:=[.list (ns.map .int)] }=true:=by
   have h4:=(holds_andW hc).1;rw [hn]at h4;exact h4
  have h5:=condW_of h4 (w_not (w_lt w_lit (w_len_list (w_arg rfl))));rw [List.length_map]at h5;refine Nat.le_of_not_lt fun q=>?_
  have q':(n:Int) < ((ns.length:Nat):Int):=by omega
  first
   | (rw [decide_eq_true q']at h5;exact absurd h5 (by decide))
   | (simp at h5;omega)
 cases hwl with
 | cons w1 w2 =>
  cases w2
  cases w1 with
  | list ho hall=>exact⟨_,_,ns,rfl,rfl,ho,YD ns _ hall,hlen⟩
theorem Qcg(l:OpenLaw)(args:List WData):l.row.toRowW.claim.post args (.bool true) args=true :=
 postW_of (r:=l.row.toRowW) (X:=(true==true))
  (show WShape.has [] (.bool true) .bool=true by first|rfl|decide|simp [WShape.has,WShape.arms,WShape.armsAll])
  (show(WTm.eq .res (.lit (.bool true))).value [] { args:=args,res:=some (.bool true),after:=args }=some (.bool (true==true))from w_eq_bool (w_res rfl) w_lit) rfl
theorem attach_call{l:OpenLaw}{n:Nat}{q:Program}{loose:List Str}{XP:(Str->Option Value)->Heap->Prop}{YP:World->Heap->Prop}{d:DefRec}
  (hn:l.most=some n) (hdf:d.params.defaults=[])
  (call:∀(w:World) (s₀ s₁:Shared) (mg mb:Str->Option Value) (fa:Addr) (o:Obj) (pm cd doc:Value) (a:Addr) (vs:List Value) (ns:List Int),
   Ground q loose [] XP w s₀ mg mb s₁.heap->YP w s₁.heap ->
   s₁.heap.get? fa=some o->o.data=.func (docDef d.name d.params d.body d.scope pm cd doc)->s₁.heap.CodeRec cd d.name->mg d.name=some (.ref fa) ->
   s₁.heap.get? a=some { cls:=.type "list",data:=.seq vs.toArray }->IntsAre vs ns->ns.length<=n->s₁.gens=#[] ->
   codeAny (model l.prog w) callerA (.call (.ref fa) ⟨[.ref a],[]⟩) (fun r s'=>r=.ok (.ret (.bool true))/\OldK s₁.heap s'.heap/\s'.os=s₁.os/\AllBare s'.gens) s₁):
  WalkO q loose XP YP l.row.toRowW d [] (fun f vs=>PySem.call f vs):=by
 intro w s₀ s₁ mg mb G Y fa o pm cd doc dV kV ho hd hcd hD hmg hg args vals as hpre hlay hrd hwl hlo;obtain rfl:dV=.none:=Dflts.none hD hdf;obtain rfl:kV=.none:=Dflts.noKw hD;obtain⟨a,vs,ns,rfl,rfl,hobj,hints,hlen⟩:=Qb8 hn hpre hwl;refine enter_call (codeAny_mono (call w s₀ s₁ mg mb fa o pm cd doc a vs ns G Y ho (fd_plain hd) hcd hmg hobj hints hlen hg) fun r s' hq=>?_);obtain⟨rfl,h2,h3,h4⟩:=hq;exact⟨.inl ⟨.bool true,.bool true,[],rfl,fun _=>rfl,.bool true,Qcg l _,fun _=>⟨List.Pairwise.nil,fun _ hm=>(nomatch hm)⟩⟩,h2,h3,h4⟩
section
variable {prog:Program}{w:World}{A:Around}{E:Value->Shared->Prop}{s:Shared}{K:Frag}
end
end Att
namespace L2
open PySem PySem.Spec PyProof.Rows
theorem Js:∀{vs:List Value} {ns:List Int},IntsAre vs ns->Vals (ns.map V.int) vs
 | _,_,.nil=>.nil
 | _,_,.cons n t h=>.cons ⟨t,rfl⟩ (Js h)
noncomputable def Qj3(H:Hp):Prop:=∀b,H b=none\/∃o xs,H b=some (.frz o (.lst xs))
theorem Qd3{P:Program}{w:World}{K:PySem.W.Frag}{mg mb:Str->Option Value}{CX:CXT}{k:Nat}{fa a:Addr}{fd:FuncData}{x:Str}{sp:Sp}{s₁:Shared}{vs:List Value}{ns:List Int}
  (KX:K.In s₁.heap) (hns:s₁.heap.Ns mainGlobals mg) (hb:s₁.heap.Ns builtinsNs mb) (hbb:∀x:Str,x≠"__name__"->mb x=bootBuiltins x) (hlim:s₁.heap.NoLimit) (hg:s₁.gens=#[])
  (ha:s₁.heap.get? a=some { cls:=.type "list",data:=.seq vs.toArray }) (hi:IntsAre vs ns) (hl:ns.length<=sizeLine) (hr:Room k callerA)
  (F:∀base:Heap,K.In base->base.Ns mainGlobals mg->FnOk P w K mg base CX k fa fd [x] sp) (hbind:∀(s:Shared) (u:Value),BindsTo s fd ⟨[u],[]⟩ [(x,u)])
  (hsp:∀H:Hp,Qj3 H->SqL K H a (ns.map V.int)->sp [.ref a] H (fun v _=>v=.bl true) fun _ _ _=>False)
  (hCX:∀H e s',CX [] H s₁ (fun _ _ _=>False) e s'->False):
  codeAny (model P w) callerA (.call (.ref fa) ⟨[.ref a],[]⟩) (fun r s'=>r=.ok (.ret (.bool true))/\OldK s₁.heap s'.heap/\s'.os=s₁.os/\AllBare s'.gens) s₁:=by
 have rv:=Js hi;have lenV:=hi.length
 -- from an abstract heap in which nothing but the script may be tracked
 have core:∀H:Hp,Qj3 H->SqL K H a (ns.map V.int)->HOk P w H s₁.heap->(∀b,H b≠none->b=a)->(H a≠none->K.lookup a=none) ->
   codeAny (model P w) callerA (.call (.ref fa) ⟨[.ref a],[]⟩) (fun r s'=>r=.ok (.ret (.bool true))/\OldK s₁.heap s'.heap/\s'.os=s₁.os/\AllBare s'.gens) s₁:=by
  intro H hO hS hok hA hK;have base_of:∀{b:Addr} {o:Obj},s₁.heap.get? b=some o->H b=none->(Qec s₁.heap H).get? b=some o:=fun e n=>Qeb e n
  have noA:∀{b:Addr} {o:Obj} {es:Array DictEntry} {ep:Nat},s₁.heap.get? b=some o->o.data=.dict es ep->H b=none:=fun {b o es ep} e d=>by
   cases q:H b with
   | none=>rfl
   | some u =>
    have e':b=a:=hA b (by rw [q];simp)
    subst e';rw [ha]at e;cases e;have d':Data.seq vs.toArray _=Data.dict es ep:=d;cases d'
  have nsK:∀{b:Addr} {m:Str->Option Value},s₁.heap.Ns b m->(Qec s₁.heap H).Ns b m:=fun {b m} ⟨o,es,ep,e,d,r⟩=>⟨o,es,ep,base_of e (noA e d),d,r⟩
  have hKb:K.In (Qec s₁.heap H):=fun b o e=>base_of (KX b o e) (by
   cases q:H b with
   | none=>rfl
   | some u =>
    have e':b=a:=hA b (by rw [q];simp)
    subst e'
    rw [hK (by rw [q];simp)]at e;cases e)
  have hM:Mod K mg (Qec s₁.heap H):=⟨hKb,nsK hns,⟨mb,nsK hb,hbb⟩,let ⟨mc,h1,h2⟩:=hlim;⟨mc,nsK h1,h2⟩⟩
  have e0:Env0 P w K mg (Qec s₁.heap H) callerA [] s₁ H:=⟨rfl,hM,fun b o e=>Qf3 e,Nat.le_of_eq (QcL _ _),trivial,fun b hb=>absurd (show b∈([]:List Addr)from hb) (by simp),hok,.of_eq hg⟩
  refine codeAny_mono ((F _ hKb (nsK hns)).run callerA [] s₁ H ⟨[.ref a],[]⟩ [.ref a] [.ref a] _ _ hr e0 (hbind s₁ (.ref a)) (.cons rfl .nil) (hsp H hO hS)) fun r s' h=>?_
  cases r with
  | error e=>exact(hCX H e s' h).elim
  | ok fl =>
   cases fl with
   | next=>exact False.elim h
   | brk=>exact False.elim h
   | cont=>exact False.elim h
   | ret u =>
    obtain⟨v,H',os,bare,un,hok',r',q⟩:=h;have q':v=.bl true:=q;subst q';obtain rfl:u=Value.bool true:=r';refine⟨rfl,OldK.of_keep fun b o e=>?_,os,bare⟩
    cases q:H b with
    | none=>exact un.keep b o e q (by intro z;exact absurd (show b∈([]:List Addr)from z) (by simp)) (by simp)
    | some u =>
     rcases hO b with z|⟨ob,xs,z⟩
     ·rw [q]at z;cases z
     ·have z2:=un.frzs b ob _ z;obtain⟨e1,_⟩:=hok b _ z;obtain⟨e2,_⟩:=hok' b _ z2;rw [e]at e1;cases e1;exact e2
 cases hk:K.lookup a with
 | some o =>
  -- the script is one of the module's own objects
  have e:=KX a o hk;rw [ha]at e;cases e
  refine core (fun _=>none) (fun _=>.inl rfl) (.inr ⟨_,vs.toArray,_,hk,rfl,rfl,rfl,by rw [List.size_toArray,lenV];exact hl,by simpa using rv⟩) (fun b u z=>by have z':(none:Option HO)=some u:=z;cases z') (fun b z=>absurd rfl z) fun z=>absurd rfl z
 | none =>
  refine core (fun b=>if b=a then some (.frz { cls:=.type "list",data:=.seq vs.toArray } (.lst (ns.map V.int)))else none) (fun b=>?_) (.inl (.inr ⟨{ cls:=.type "list",data:=.seq vs.toArray },if_pos rfl⟩)) (fun b u z=>?_) (fun b z=>?_) fun _=>hk
  ·by_cases hb:b=a
   ·exact .inr ⟨_,_,if_pos hb⟩
   ·exact .inl (if_neg hb)
  ·by_cases hb:b=a
   ·have z':=(if_pos hb).symm.trans z;cases z';subst hb
    exact⟨ha,by rw [List.length_map];exact hl,vs,_,rv,ha⟩
   ·have z':=(if_neg hb).symm.trans z;cases z'
  ·by_cases hb:b=a
   ·exact hb
   ·exact absurd (if_neg hb) z
end L2
namespace L2
open PySem PySem.Spec PyProof.Rows
noncomputable abbrev KOf{K:PySem.W.Frag}{h:Heap}(_:K.In h):PySem.W.Frag:=K
theorem walk_of{l:PySem.W.OpenLaw}{n k:Nat}{q:Program}{loose:List Str}{XP:(Str->Option Value)->Heap->Prop}{YP:World->Heap->Prop}{d:DefRec}{K:Params->PySem.W.Frag}{CX:World->CXT}{sp:World->Sp}{x:Str}
  (hn:l.most=some n) (hn2:n<=sizeLine) (hdf:d.params.defaults=[]) (hr:Room k callerA)
  (hY:∀(w:World) (h:Heap),YP w h->(K w.params).In h)
  (F:∀(w:World) (mg:Str->Option Value) (fa:Addr) (h:Heap),(K w.params).In h->h.Ns mainGlobals mg->mg d.name=some (.ref fa) ->
   ∃fd:FuncData,(∀(s:Shared) (u:Value),BindsTo s fd ⟨[u],[]⟩ [(x,u)]) /\
    ∀base:Heap,(K w.params).In base->base.Ns mainGlobals mg->FnOk l.prog w (K w.params) mg base (CX w) k fa fd [x] (sp w))
  (hsp:∀(w:World) (H:Hp) (a:Addr) (ns:List Int),ns.length<=n->Qj3 H->SqL (K w.params) H a (ns.map V.int)->sp w [.ref a] H (fun v _=>v=.bl true) fun _ _ _=>False)
  (hCX:∀(w:World) (H:Hp) (s:Shared) (e:Value) (s':Shared),CX w [] H s (fun _ _ _=>False) e s'->False):
  PySem.W.WalkO q loose XP YP l.row.toRowW d [] (fun f vs=>PySem.call f vs):=by
 refine Att.attach_call hn hdf fun w s₀ s₁ mg mb fa o pm cd doc a vs ns G Y ho hd hcd hmg hobj hints hlen hg=>?_;have KX:=hY w _ Y;obtain⟨fd,hb,hF⟩:=F w mg fa _ KX G.T.g hmg;exact Qd3 KX G.T.g G.T.b G.T.builtins G.T.nolimit hg hobj hints (Nat.le_trans hlen hn2) hr hF hb (fun H hO hS=>hsp w H a ns hlen hO hS) fun H e s'=>hCX w H s₁ e s'
end L2
namespace L2
open PySem PySem.Spec PyProof.Rows
noncomputable def Qg(s:Stmt)(j:Nat):Stmt:=match s with
 | .ClassDef _ _ _ body _ _ _ _ _ _ _=>body.getD j (.Pass ⟨0,0,0,0⟩)
 | _=>.Pass ⟨0,0,0,0⟩
noncomputable def Jk(s:Stmt):Arguments:=match s with
 | .FunctionDef _ a _ _ _ _ _ _ _ _=>a
 | _=>{ posonlyargs:=[],args:=[],vararg:=none,kwonlyargs:=[],kw_defaults:=[],kwarg:=none,defaults:=[] }
noncomputable def ZC(s:Stmt):List Stmt:=match s with
 | .FunctionDef _ _ b _ _ _ _ _ _ _=>b
 | _=>[]
noncomputable def QB(s:Stmt):Scope:=match s with
 | .FunctionDef _ _ _ _ _ _ sc _ _ _=>sc
 | _=>{ kind:=.function,names:=[],isGenerator:=false,isCoroutine:=false }
noncomputable abbrev CX0:CXT:=fun _ _ _ _ _ _=>False
noncomputable abbrev E0:XK:=fun _ _ _=>False
theorem Qaj{X:Cx}:YJ CX0 X E0:=fun _ _ _ _ _ _ _ h=>h.elim
section
variable {P:Program}{w:World}{K:PySem.W.Frag}{mg:Str->Option Value}{base:Heap}
end
theorem Qk5{A:Around}{k:Nat}(hr:Room k A):A.units+1<cLine:=Nat.lt_of_le_of_lt (Nat.add_le_add_left (by decide:1<=64) _) hr.units
section
variable {X:Cx}
end
section
variable {κ:Type}[DecidableEq κ]
end
end L2
namespace Iv
open PySem
noncomputable def Qj(sep:List Nat):List (List Nat)->List Nat
 | []=>[]
 | [x]=>x
 | x::y::r=>x++sep++Qj sep (y::r)
noncomputable def QeB(c:Nat):List Nat->List (List Nat)
 | []=>[[]]
 | a::r=>if a=c then []::QeB c r else match QeB c r with
  | []=>[[a]]
  | p::ps=>(a::p)::ps
theorem Qa4(sep:Str):∀ps:List Str,(Str.join sep ps).cps.toList=Qj sep.cps.toList (ps.map (·.cps.toList))
 | []=>rfl
 | [x]=>rfl
 | x::y::r=>by
  have ih:=Qa4 sep (y::r);show(x++sep++Str.join sep (y::r)).cps.toList=_
  have ap:∀a b:Str,(a++b).cps.toList=a.cps.toList++b.cps.toList:=fun a b=>by
   show(a.cps++b.cps).toList=_;simp
  rw [ap,ap,ih];rfl
theorem pickL{β:Type}(l:List β)(a:Nat):∀k:Nat,(List.range k).filterMap (fun m=>l[a+m]?)=(l.drop a).take k
 | 0=>rfl
 | k+1=>by
  rw [List.range_succ,List.filterMap_append,pickL l a k,List.take_add_one,List.getElem?_drop];cases e:l[a+k]?<;>simp [e]
end Iv
namespace L2
open PySem PySem.Spec PyProof.Rows Builtin Builtin.Str
section
variable {X:Cx}
theorem Qce:∀{ts:List Str} {us:List Value},Vals (ts.map V.str) us->∃l:List (Str×Tok),l.map (·.1)=ts/\us=strValues l
 | [],us,r=>by rw [List.map_nil]at r;cases r;exact⟨[],rfl,rfl⟩
 | t::ts,us,r=>by
  rw [List.map_cons]at r
  cases r with
  | cons h t' =>
   obtain⟨k,rfl⟩:=h;obtain⟨l,e1,e2⟩:=Qce t'
   exact⟨(t,k)::l,by simp [e1],by rw [e2];rfl⟩
noncomputable def Qkw(K:PySem.W.Frag):V->List V->Hp->VK->Prop:=fun x vs H Q=>∃sep a ts,x=.str sep/\vs=[.ref a]/\SqL K H a (ts.map V.str)/\JoinOk sep ts=true/\Q (.str (Txt.join sep ts)) H
theorem Qga:MtR X "str.join" (Qkw X.K):=by
 intro pins s σ H x vs v us Q I rx rv h;obtain⟨sep,a,ts,rfl,rfl,hq,ok,q⟩:=h;obtain⟨t,rfl⟩:=rx;obtain⟨u,rfl,ru⟩:=rv.one;cases ru;obtain⟨its,r,pl,hz⟩:=I.list hq;obtain⟨l,e1,rfl⟩:=Qce r;exact SC.join pl.isList e1 ok fun t' k=>⟨.str _,H,I.kept (t':=k) fun _ _ e=>e,⟨_,rfl⟩,q⟩
theorem Jn : CallR X (.type "int") (fun xs H Q => ∃ x, xs = [.str x] /\ NumText.AllDigits x.cps.toList /\ x.cps.toList ≠ [] /\ x.length <= 640 /\ Q (.int ((NumText.digitsVal x.cps.toList : Nat) : Int)) H) := by
 intro pins s σ H xs us Q I r h;obtain⟨x,rfl,h1,h2,h3,q⟩:=h;obtain⟨u,rfl,t,rfl⟩:=Jt r
 exact PySem.W.KIN.call_text (intText_digits h1 h2 (by omega)) h3 ⟨.int _,H,I.tok _,⟨_,rfl⟩,q⟩
theorem Jy(lo hi:Option Int)(n:Nat):strSliceIndices lo hi 1 n=(List.range (HT.sIx n n hi-HT.sIx n 0 lo)).map (HT.sIx n 0 lo + ·):=by
 have cl:∀(v:Option Int) (d:Nat),(match v with|none=>((d:Nat):Int)|some i=>max 0 (min (if i<0 then i+(n:Int)else i) (n:Int)))=((HT.sIx n d v:Nat):Int):=fun v d=>by
  cases v with
  | none=>rfl
  | some i =>
   rw [<-HT.clip_eq i n d];simp only;split<;>omega
 have e1:(match lo with|none=>(0:Int)|some i=>max 0 (min (if i<0 then i+(n:Int)else i) (n:Int)))=((HT.sIx n 0 lo:Nat):Int):=by
  rw [<-cl lo 0];cases lo<;>rfl
 have c2:=cl hi n
 have key:∀L U:Int,L=((HT.sIx n 0 lo:Nat):Int)->U=((HT.sIx n n hi:Nat):Int)->sliceRange L U 1=(List.range (HT.sIx n n hi-HT.sIx n 0 lo)).map (HT.sIx n 0 lo + ·):=by
  rintro L U rfl rfl;unfold sliceRange
  have e2:(if(1:Int) > 0 then(if((HT.sIx n 0 lo:Nat):Int) < ((HT.sIx n n hi:Nat):Int)then(((HT.sIx n n hi:Nat):Int) - ((HT.sIx n 0 lo:Nat):Int)+1-1) / 1 else 0)else(if((HT.sIx n 0 lo:Nat):Int) > ((HT.sIx n n hi:Nat):Int)then(((HT.sIx n 0 lo:Nat):Int) - ((HT.sIx n n hi:Nat):Int) - 1-1) / (-1)else 0)).toNat=HT.sIx n n hi-HT.sIx n 0 lo:=by
   rw [if_pos (by decide)]
   split<;>omega
  simp only [e2];refine List.map_congr_left fun k _=>?_;omega
 exact key _ _ e1 c2
theorem Qb5(x:Str)(lo hi:Option Int):(Txt.slice x lo hi).cps.toList=(x.cps.toList.drop (HT.sIx x.length 0 lo)).take (HT.sIx x.length x.length hi-HT.sIx x.length 0 lo):=by
 have hl:x.cps.toList.length=x.length:=by simp [Str.length]
 unfold Txt.slice;split
 ·rename_i h;rw [Bool.and_eq_true]at h;have h:=eq_of_beq h.2;rw [Jy,List.length_map,List.length_range]at h;have a:=HT.sIx_le (n:=x.length) (d:=x.length) (Nat.le_refl _) hi
  have e1:HT.sIx x.length 0 lo=0:=by
   by_cases hx:x.length=0
   ·have:=HT.sIx_le (n:=x.length) (d:=0) (Nat.zero_le _) lo;omega
   ·omega
  rw [e1,List.drop_zero,List.take_of_length_le (by omega)]
 ·rw [Jy,List.filterMap_map];show(List.filterMap (fun m=>x.cps[HT.sIx x.length 0 lo+m]?) _)=_
  have e:(fun m=>x.cps[HT.sIx x.length 0 lo+m]?)=fun m=>x.cps.toList[HT.sIx x.length 0 lo+m]?:=by
   funext m
   exact Array.getElem?_toList.symm
  rw [e];exact Iv.pickL _ _ _
noncomputable def Qmi:V->Option Int->Option Int->Hp->VK->Prop:=fun x lo hi H Q=>∃y,x=.str y/\y.length<=sizeLine/\Q (.str (Txt.slice y lo hi)) H
theorem QhA:SlR X Qmi:=by
 intro pins s σ H x v vl vu lo hi sl Q I rx hs pl pu h;obtain⟨y,rfl,hz,q⟩:=h;obtain⟨t,rfl⟩:=rx;refine⟨"str",_,F.slot_str_getitem.lookup,typeIs_str _ _ _,?_⟩
 have fin:∀(l u:Option (Int×Tok)),l.map (·.1)=lo->u.map (·.1)=hi->s.heap.IsSlice sl l u none->wpAny (model X.prog X.w) X.A (getItem (.str y t) (.ref sl)) (EP X pins σ Q) X.xe s:=by
  rintro l u rfl rfl his;refine wpAny_getItem_str_slice (l:=l) (u:=u) (st:=none) his rfl ?_;exact post_val_or_str ⟨Nat.le_trans (Txt.slice_le y _ _) hz,fun t' k=>⟨.str _,H,I.kept (t':=k) fun _ _ e=>e,⟨_,rfl⟩,q⟩⟩
 cases pl with
 | none=>cases pu with
  | none=>exact fin none none rfl rfl hs
  | int j tj=>exact fin none (some (j,tj)) rfl rfl hs
 | int i ti=>cases pu with
  | none=>exact fin (some (i,ti)) none rfl rfl hs
  | int j tj=>exact fin (some (i,ti)) (some (j,tj)) rfl rfl hs
end
end L2
namespace L2
open PySem PySem.Spec PyProof.Rows
section
variable {X:Cx}
theorem Qc0 (hc : X.calm = true) : CallR X (.builtin "min") (fun xs H Q => ∃ (a : Addr) (ns : List Int), xs = [.ref a] /\ SqL X.K H a (ns.map V.int) /\ 0 < ns.length /\ ∀ m, m ∈ ns -> (∀ b ∈ ns, m <= b) -> Q (.int m) H) := by
 intro pins s σ H xs us Q I r h;obtain⟨a,ns,rfl,hq,hz0,q⟩:=h;obtain⟨u,rfl,rx⟩:=Jt r;cases rx;obtain⟨its,rr,pl,hz⟩:=I.list hq;have hl:=pl.isList;have hi:=QbA rr;obtain⟨xs,e⟩:=hi.allInts.items
 have hns:ns=xs.toList.map (·.1):=by
  rw [<-hi.numsOf,<-nums_intItems,<-e]
 have hsz:0<xs.size:=by
  have h3:=hz0;rw [hns,List.length_map,Array.length_toList]at h3;exact h3
 rw [e]at hl;refine min_intList (I.ok.hd hc) hl hsz fun v h' tk hv hk=>?_;obtain⟨t,rfl⟩:=intItems_at hv;obtain⟨h1,h2⟩:=argBest_lt (numAt xs) (xs.size-1);refine⟨.int _,H,I.kept hk,⟨_,rfl⟩,q _ ?_ fun b hb=>?_⟩
 ·rw [hns,numAt_eq];exact getD_mem (by rw [List.length_map,Array.length_toList];omega)
 ·rw [hns]at hb;obtain⟨j,hj,rfl⟩:=mem_getD hb;rw [List.length_map,Array.length_toList]at hj
  rw [<-numAt_eq];exact h2 j (by omega)
end
end L2
namespace L2
open PySem PySem.Spec PySem.W PyProof.Rows
noncomputable def Qmg{α:Type}(lt:Nat->Nat->Bool):KasT α->α
 | .ret a=>a
 | .ask i j k=>Qmg lt (k (lt i j))
noncomputable def Qmt:List Int->List Int->Bool
 | [],[]=>false
 | [],_::_=>true
 | _::_,[]=>false
 | x::xs,y::ys=>if x=y then Qmt xs ys else decide (x<y)
noncomputable def ltK(ks:List (List Int))(i j:Nat):Bool:=Qmt (ks.getD i []) (ks.getD j [])
noncomputable def Qnk(ks:List (List Int))(n:Nat):List Nat:=if n<2 then List.range n else(Qmg (ltK ks) (kas_sort n)).toList
section
variable {prog:Program}{w:World}{A:Around}{E:Value->Shared->Prop}{s:Shared}
end
section
variable {X:Cx}
end
end L2
namespace L2
open PySem PySem.Spec PySem.W PyProof.Rows
section
variable {prog:Program}{w:World}{A:Around}{s:Shared}{R:Result->Shared->Prop}{E:Value->Shared->Prop}
end
end L2
namespace L2
open PySem
variable {env:Env}{scope:Scope}
noncomputable def QbG(cells:List (Str×Addr)):List (Str×NameKind)->List (Str×Addr)->List (Str×Addr)
 | [],cs=>cs
 | (n,k)::r,cs=>QbG cells r (if(k==.free)=true then(match cells.lookup n with|some c=>(n,c)::cs|none=>cs)else cs)
theorem Y2(h:∀y∈scope.names,y.2=.free->∃c,env.cells.lookup y.1=some c):closureFor scope env=pure (QbG env.cells scope.names []):=by
 have all:∀(l:List (Str×NameKind)) (cs:List (Str×Addr)),(∀y∈l,y.2=.free->∃c,env.cells.lookup y.1=some c) ->
   (forIn l cs fun(x:Str×NameKind) (r:List (Str×Addr))=>match x with|(name,kind)=>if(kind==NameKind.free)=true then(do let y <-cellOf env name;pure (ForInStep.yield ((name,y)::r)))else(pure (ForInStep.yield r):Sem _))=(pure (QbG env.cells l cs):Sem _):=by
  intro l
  induction l with
  | nil=>intro cs _;simp only [List.forIn_nil];rfl
  | cons p r ih =>
   obtain⟨n,k⟩:=p;intro cs hy;rw [List.forIn_cons];by_cases hk:(k==NameKind.free)=true
   ·obtain⟨c,hc⟩:=hy (n,k) List.mem_cons_self (by simpa using hk)
    have hc:env.cells.lookup n=some c:=hc
    have e:cellOf env n=pure c:=by unfold cellOf;rw [hc]
    simp only [hk,if_true,e,pure_bind];rw [ih _ fun y m=>hy y (List.mem_cons_of_mem _ m)];simp only [QbG,hk,if_true,hc]
   ·simp only [hk,Bool.false_eq_true,if_false,pure_bind];rw [ih _ fun y m=>hy y (List.mem_cons_of_mem _ m)];simp only [QbG,hk,Bool.false_eq_true,if_false]
 have:=all scope.names [] h;unfold closureFor;simp only [bind_pure_comp]at this ⊢;rw [this];rfl
theorem JP{cells:List (Str×Addr)}{x:Str}{c:Addr}:∀{l:List (Str×NameKind)} {cs:List (Str×Addr)},(QbG cells l cs).lookup x=some c->cs.lookup x=some c\/cells.lookup x=some c
 | [],_,h=>.inl h
 | (n,k)::r,cs,h=>by
  have h:(QbG cells r (if(k==NameKind.free)=true then(match cells.lookup n with|some c=>(n,c)::cs|none=>cs)else cs)).lookup x=some c:=h
  rcases JP h with h1|h1
  ·clear h;by_cases hk:(k==NameKind.free)=true
   ·rw [if_pos hk]at h1
    cases hc:cells.lookup n with
    | none=>rw [hc]at h1;exact .inl h1
    | some c' =>
     rw [hc]at h1;have h2:List.lookup x ((n,c')::cs)=some c:=h1;clear h1;rw [List.lookup_cons]at h2
     cases hx:x==n with
     | true =>
      rw [hx]at h2;have e:=eq_of_beq hx;subst e;exact .inr (hc.trans h2)
     | false=>rw [hx]at h2;exact .inl h2
   ·rw [if_neg hk]at h1;exact .inl h1
  ·exact .inr h1
theorem Jl{cells:List (Str×Addr)}{x:Str}{c:Addr}(hc:cells.lookup x=some c):∀{l:List (Str×NameKind)} {cs:List (Str×Addr)},((x,NameKind.free)∈l\/cs.lookup x=some c)->(QbG cells l cs).lookup x=some c
 | [],_,h=>by
  rcases h with h|h
  ·cases h
  ·exact h
 | (n,k)::r,cs,h=>by
  show(QbG cells r (if(k==NameKind.free)=true then(match cells.lookup n with|some c=>(n,c)::cs|none=>cs)else cs)).lookup x=some c
  refine Jl (l:=r) hc ?_
  rcases h with h|h
  ·rcases List.mem_cons.mp h with e|h
   ·cases e;refine .inr ?_
    rw [if_pos (by decide),hc]
    simp [List.lookup_cons]
   ·exact .inl h
  ·refine .inr ?_;split
   ·split
    ·rename_i c' h';rw [List.lookup_cons];split
     ·rename_i e;have e:=eq_of_beq e;subst e;exact h'.symm.trans hc
     ·exact h
    ·exact h
   ·exact h
noncomputable def mang(x:Str):Str:=⟨x.cps.push 33⟩
noncomputable def hideN(xs N:List Str):List Str:=N.map fun y=>if xs.contains y then mang y else y
theorem ZU{xs N:List Str}:(hideN xs N).length=N.length:=by unfold hideN;rw [List.length_map]
theorem Qea{xs N:List Str}{i:Nat}{y:Str}(h:(hideN xs N)[i]?=some y):∃z,N[i]?=some z/\((z∈xs/\y=mang z)\/(z∉xs/\y=z)):=by
 unfold hideN at h;rw [List.getElem?_map,Option.map_eq_some_iff]at h;obtain⟨z,h1,h2⟩:=h;refine⟨z,h1,?_⟩;by_cases c:xs.contains z=true
 ·rw [if_pos c]at h2;exact .inl ⟨List.contains_iff_mem.mp c,h2.symm⟩
 ·rw [if_neg c]at h2;exact .inr ⟨fun m=>c (List.contains_iff_mem.mpr m),h2.symm⟩
noncomputable def relN(outer:List (Str×NameKind))(names:List (Str×NameKind)):List (Str×NameKind):=names.map fun(n,k)=>if(k==.free&&outer.lookup n==some .cell)=true then(n,.cell)else(n,k)
theorem QS(h:env.scope.kind=.function):(relabel scope env).names=relN env.scope.names scope.names:=by
 unfold relabel relN;refine List.map_congr_left fun p _=>?_;obtain⟨n,k⟩:=p;simp only [h,beq_self_eq_true,Bool.and_true];rfl
theorem Zy{outer:List (Str×NameKind)}{x:Str}:∀{l:List (Str×NameKind)},(relN outer l).lookup x=(l.lookup x).map fun k=>if(k==.free&&outer.lookup x==some .cell)=true then .cell else k
 | []=>rfl
 | (n,k)::r=>by
  have ih:=@Zy outer x r;show List.lookup x ((if(k==NameKind.free&&outer.lookup n==some .cell)=true then(n,NameKind.cell)else(n,k))::relN outer r)=_;rw [List.lookup_cons (as:=r)]
  cases hx:x==n with
  | true =>
   have e:=eq_of_beq hx;subst e;simp only [List.lookup_cons_self,Option.map_some];by_cases z:(k==NameKind.free&&outer.lookup x==some .cell)=true
   ·rw [if_pos z,if_pos z,List.lookup_cons_self]
   ·rw [if_neg z,if_neg z,List.lookup_cons_self]
  | false =>
   split
   ·simp [List.lookup_cons,hx,ih]
   ·simp [List.lookup_cons,hx,ih]
theorem ZF{κ β:Type}[BEq κ][LawfulBEq κ]{l:List (κ×β)}{k:κ}{b:β}(h:l.lookup k=some b):(k,b)∈l:=by
 induction l with
 | nil=>simp at h
 | cons p r ih =>
  obtain⟨a,c⟩:=p;rw [List.lookup_cons]at h;split at h
  ·rename_i e;have e:=eq_of_beq e;subst e;cases h;exact List.mem_cons_self
  ·exact List.mem_cons_of_mem _ (ih h)
section
variable {prog:Program}{w:World}{A:Around}{R:Result->Shared->Prop}{s:Shared}
theorem Qdm{E:Value->Shared->Prop}{tl:Option Expr}{Q:Bool->Shared->Prop}(h:match tl with|none=>Q true s|some c=>wpAny (model prog w) A (isTrue c env (eval c env)) Q E s):
  wpAny (model prog w) A (forIn tl.toList true fun c r=>if r=true then do let ok <-isTrue c env (eval c env);pure (ForInStep.yield ok)else pure (ForInStep.yield r)) Q E s:=by
 cases tl with
 | none=>exact wpAny_tests_nil h
 | some c=>exact wpAny_tests_one h
theorem QaA{elt target iter:Expr}{tl:Option Expr}{pos:Pos}{it acc:Value}(I:Nat->Shared->Prop)
  (turn:∀n s,I n s->wpAny (model prog w) A (pyNext it) (fun r s₁=>match r with
   | none=>R (.ok .next) s₁
   | some v=>wpAny (model prog w) A (letOwnedTupleGo target it v) (fun _ s₁'=>wpAny (model prog w) A (assign target env v) (fun _ s₂ =>
     wpAny (model prog w) A (forIn tl.toList true fun c r=>if r=true then do let ok <-isTrue c env (eval c env);pure (ForInStep.yield ok)else pure (ForInStep.yield r)) (fun ok s₃=>if ok=true then
      wpAny (model prog w) A (eval elt env) (fun x s₄ =>
       wpAny (model prog w) A (call (.builtin "list.append") [acc, x]) (fun _ s₅ => ∃ m, m < n /\ I m s₅) (notedBy (model prog w) A env fun e s' => R (.error e) s') s₄) (notedBy (model prog w) A env fun e s' => R (.error e) s') s₃
      else ∃m,m<n/\I m s₃) (notedBy (model prog w) A env fun e s'=>R (.error e) s') s₂)
        (notedBy (model prog w) A env fun e s'=>R (.error e) s') s₁') (notedBy (model prog w) A env fun e s'=>R (.error e) s') s₁) (notedBy (model prog w) A env fun e s'=>R (.error e) s') s)
  (n:Nat) (h:I n s):codeAny (model prog w) A (.compLoop (.ListComp elt [⟨target,iter,tl.toList,0⟩] scope pos) 0 it acc env) R s:=by
 refine codeAny_loop rfl I (fun n s hI=>?_) n h
 show wpAny _ A ((compTurn (.ListComp elt [⟨target,iter,tl.toList,0⟩] scope pos) 0 it acc env).onRaise (fun x=>do noteFrame x env;theTreesLotGoes x)) _ _ s
 refine wpAny_noted ?_;rw [compTurn_list];refine wpAny_bind (wpAny_standAt (wpAny_bind (wpAny_mono (turn n s hI) (fun r s₁ h₁=>?_) fun _ _ h'=>h')))
 cases r with
 | none=>exact wpAny_pure h₁
 | some v =>
  refine wpAny_bind (wpAny_mono h₁ (fun _ s₁' h₁'=>?_) fun _ _ h'=>h');refine wpAny_bind (wpAny_mono h₁' (fun _ s₂ h₂=>wpAny_bind (wpAny_mono h₂ (fun ok s₃ h₃=>?_) fun _ _ h'=>h')) fun _ _ h'=>h')
  cases ok with
  | true =>
   rw [if_pos rfl]at h₃;exact wpAny_bind (wpAny_bind (wpAny_mono h₃ (fun x s₄ h₄=>wpAny_bind (wpAny_mono h₄ (fun _ s₅ h₅=>wpAny_pure (wpAny_pure ⟨rfl,h₅⟩)) fun _ _ h'=>h')) fun _ _ h'=>h'))
  | false =>
   rw [if_neg Bool.false_ne_true]at h₃;exact wpAny_bind (wpAny_pure (wpAny_pure ⟨rfl,h₃⟩))
end
end L2
namespace L2
open PySem PySem.Spec PySem.W PyProof.Rows
end L2
namespace L2
open PySem PySem.Spec PySem.W PyProof.Rows PySem.Calls PySem.Builtin PySem.Builtin.ObjectAttr PySem.Builtin.Getset_descriptor
structure ErrCls(K:PySem.W.Frag)(C:Addr):Prop where
 ga:findIn K (.ref C) "__getattribute__"=some (some (.builtin "BaseException.__getattribute__"))
 gh:findIn K (.ref C) "__getattr__"=some none
 cl:findIn K (.ref C) "__class__"=some (some (.builtin "object.__class__"))
 gg:specialIn K (.builtin "object.__class__") "__get__"=some (some (.builtin "getset_descriptor.__get__"))
 tk:takesIn K (.builtin "object.__class__")=some true
 sb:subIn K (.ref C) (.type "BaseException")=some true
 so:subIn K (.ref C) (.type "object")=some true
 is:(clsIn K C).isSome=true
noncomputable def Qlz(a C:Addr)(dd:Option Addr)(h:Heap):Prop:=∃o vs,h.get? a=some o/\o.cls=.ref C/\o.data=.fields vs/\o.dict=dd
section
variable {prog:Program}{w:World}{A:Around}{E:Value->Shared->Prop}{K:PySem.W.Frag}{h:Heap}{g:Array GenState}{d:Drawn}{t:Nat}{os:OsState}{a C:Addr}{dd:Option Addr}
end
noncomputable def QnB(a C:Addr)(dd:Option Addr):HO:=.ext (Qlz a C dd)
end L2
namespace L2
open PySem PySem.Spec PySem.W PyProof.Rows
structure Cov(B:Heap)(H:Hp)(s:Shared)(l:List Env):Prop where
 trk:∀b u,H b=some u->∃o,B.get? b=some o
 old:∀b o,s.heap.get? b=some o->b∉frs l->∃o',B.get? b=some o'
noncomputable def QjH(h:Heap)(a:Addr)(dd:Option Addr):Prop:=∃o,h.get? a=some o/\o.dict=dd
noncomputable def CXw(P:Program)(w:World):CXT:=fun outer H s E e s'=>∃a C H' B a0 dd,e=.ref a/\s'.os=s.os/\AllBare s'.gens/\Un (frs outer) [] H H' s.heap s'.heap/\HOk P w H' s'.heap /\
 Heap.FlyingW B outer a (.ref C) a0 s'.heap/\Cov B H' s outer/\H' a=none/\s.heap.get? a=none/\QjH s'.heap a dd/\E (.ref C) dd H'
section
variable {X:Cx}{pins:List (Addr×Obj)}{σ:St}{H H':Hp}{s s':Shared}{e C:Addr}{dd:Option Addr}{B:Heap}{a0:Value}{E:XK}
end
end L2
namespace L2
open PySem PySem.Spec PySem.W PyProof.Rows
noncomputable def Qdo:List Value:=[.type "ValueError",.type "Exception",.type "BaseException",.type "object"]
section
variable {X:Cx}{C:Addr}{x:Str}{np cpos pos:Pos}{args:List Expr}{t:TA}{W:Hp->Prop}
end
section
variable {X:Cx}{pins:List (Addr×Obj)}{σ:St}{H H':Hp}{s s':Shared}{e C C':Addr}{dd:Option Addr}{B:Heap}{a0:Value}{x n y:Str}{i j:Nat}{np py pn pa pos:Pos}{Q:Flow->Shared->Prop}{E:Value->Shared->Prop}
end
end L2
namespace L2
open PySem PySem.Spec PySem.W PyProof.Rows
variable {C:Addr}{A:Around}{prog:Program}{s:Shared}{w:World}
section
variable {E:Value->Shared->Prop}{h:Heap}{g:Array GenState}{d:Drawn}{t:Nat}{os:OsState}
variable {nm q:Str}{N:Addr}{bs bm bmB:List Value}{hdct:Bool}{sn:List Str}{sub:List Value}{ab:Bool}{col:Option Bool}{dd:Option Addr}{k0 k1 k2 k3 k5:Option Value}{B newId initId:String}
end
section
variable {E:Value->Shared->Prop}{env:Env}
variable {nm q:Str}{N:Addr}{bs bm bmB:List Value}{hdct:Bool}{sn:List Str}{sub:List Value}{ab:Bool}{col:Option Bool}{dd:Option Addr}{k0 k1 k2 k3 k5:Option Value}{B newId initId:String}
end
noncomputable def Qn3(a C:Addr)(dd:Option Addr)(h:Heap):Prop:=∃o vs t0,h.get? a=some o/\o.cls=.ref C/\o.data=.fields vs/\vs[0]?=some (.ref t0)/\vs[1]?=some .none/\o.dict=dd
noncomputable def Qms(a C:Addr)(dd:Option Addr):HO:=.ext (Qn3 a C dd)
section
variable {X:Cx}{pins:List (Addr×Obj)}{σ:St}{H:Hp}{e:Addr}{dd:Option Addr}
end
section
variable {X:Cx}{CB:Addr}{x:Str}{np apos pos:Pos}{a b:Expr}{t:TA}
noncomputable def Qk8(K:PySem.W.Frag)(C fI:Addr):Bool:=match K.lookup C with
 | some ⟨.type "type",_,.cls cd,sl⟩=>(match cd.mro,sl.toList with
  | .ref C'::bm,[_,_,_,_,some (.builtin n),_]=>C'==C&&n=="ValueError.__new__"&&!cd.hasDel&&tailIn K Qdo bm&&nsOkIn K cd.ns&&nsIn K cd.ns "__init__"==some (some (.ref fI))
  | _,_=>false)
 | _=>false
end
section
variable {E:Value->Shared->Prop}{K:PySem.W.Frag}{x:Addr}{name:Str}{v:Value}{vs:Array Value}{sl:Array (Option Value)}{Q:Unit->Shared->Prop}
open Builtin Builtin.ObjectAttr
end
end L2
namespace L2
open PySem PySem.Spec PySem.W PyProof.Rows PySem.Calls PySem.Builtin PySem.Builtin.ObjectAttr
section
variable {prog:Program}{w:World}{A:Around}{E:Value->Shared->Prop}{K:PySem.W.Frag}{h:Heap}{g:Array GenState}{d:Drawn}{t:Nat}{os:OsState}{a C dx:Addr}{name:Str}{v:Value}{mA:Str->Option Value}
end
section
variable {X:Cx}{o e value:Expr}{f:Str}{pos pos':Pos}{ta tv:TE}{pins:List (Addr×Obj)}{σ:St}{H:Hp}{s:Shared}
end
end L2
namespace L2
open PySem PySem.Spec PySem.W PyProof.Rows
section
variable {X:Cx}{pins:List (Addr×Obj)}{σ:St}{H:Hp}{s:Shared}{C fI:Addr}{fd:FuncData}{ps:List Str}{k:Nat}{CX:CXT}{E0:XK}{f:Str}{v:V}{dv:Value}
noncomputable def spI(C:Addr)(f:Str)(v:V):Sp:=fun vs H Q E=>∃e,vs=[.ref e,v]/\H e=some (Qms e C none)/\∀d od,H d=none->d≠e->Q .non (upd (upd H e (Qms e C (some d))) d (.frz od (.xd [(f,v)])))
structure Exi(K:PySem.W.Frag)(C fI:Addr):Prop where
 q:Qk8 K C fI=true
 fn:isFn K (.ref fI)=true
 kp:keepIn K (.ref C)=true
end
end L2
namespace L2
open PySem
open Sem (wp)
open AutoSeq1 (wpAny_loadPart')
section
variable {prog:Program}{w:World}{A:Around}{E:Value->Shared->Prop}{s:Shared}
end
end L2
namespace L2
open PySem PySem.Spec PyProof.Rows
section
variable {X:Cx}
end
end L2
namespace L2
open PySem PySem.Spec PyProof.Rows
open Sem (wp)
section
variable {prog:Program}{w:World}{A:Around}{E:Value->Shared->Prop}{s:Shared}
end
section
variable {X:Cx}
end
end L2
namespace L2
open PySem PySem.Spec PyProof.Rows
section
variable {X:Cx}{pins:List (Addr×Obj)}{σ:St}{H:Hp}{s:Shared}{d:Addr}
end
section
variable {X:Cx}
end
end L2
namespace L2
open PySem PySem.Spec PyProof.Rows
section
variable {prog:Program}{w:World}{A:Around}{E:Value->Shared->Prop}{s:Shared}
end
section
variable {X:Cx}{pins:List (Addr×Obj)}{σ:St}{H:Hp}{s:Shared}{d:Addr}
end
section
variable {X:Cx}
end
end L2
namespace L2
open PySem PySem.Spec PyProof.Rows
section
variable {prog:Program}{w:World}{A:Around}{E:Value->Shared->Prop}{s:Shared}
end
end L2
namespace L2
open PySem PySem.Spec PyProof.Rows
section
variable {prog:Program}{w:World}{A:Around}{E:Value->Shared->Prop}{s:Shared}
end
end L2
namespace Iv
open PySem
inductive U where
 | non|bl (b:Bool)|int (i:Int) (m:Nat)|str (x:List Nat)|ref (n:Nat)|con (k:Nat)|scr
 deriving DecidableEq,Inhabited
inductive O where
 | lst (xs:List U)|tup (xs:List U)|ins (C:Nat) (fs:List (Nat×U))|dic (kvs:List (U×U))|dct (kvs:List (List U×U))|fzd (kvs:List (U×U))|fzt (kvs:List (List U×U))|err (c:Nat)
 deriving DecidableEq,Inhabited
noncomputable abbrev Hs:=List O
noncomputable abbrev Rho:=List (Option U)
inductive Bi where
 | len|int|str|tuple|list|sum|any|all|max|min|abs|sorted|dict
 deriving DecidableEq,Inhabited
inductive Bm where
 | append|pop|clear|reverse|extend|setdef|get|update|join|split|find|insert|index
 deriving DecidableEq,Inhabited
inductive Ty where
 | non|bool|int|str|list|tuple|dict|cls (c:Nat)|vale
 deriving DecidableEq,Inhabited
mutual
inductive E where
 | c (u:U)|var (i:Nat)|con (k:Nat)
 | op (o:Operator) (a b:E)|neg (a:E)|cmp (o:CmpOp) (a b:E)
 | and (a b:E)|or (a b:E)|not (a:E)|ife (t a b:E)
 | tup (es:List E)|lst (es:List E)|dis (kvs:List (U×U)) (b:E)
 | ix (a b:E)|tab (k:Nat) (b:E)|sl (a:E) (lo hi:Option E)|rev (a:E)|tupR (es:List E)
 | fld (a:E) (f:Nat)
 | call (f:Nat) (es:List E)|meth (m:Nat) (o:E) (es:List E)|make (k:Nat) (es:List E)
 | bi (b:Bi) (es:List E)|isi (a:E) (t:Ty)|bm (b:Bm) (o:E) (es:List E)
 | comp (s:Src) (b:Bool) (t:Option E) (el:E)|dnew|dnewT|zap (e:E)|dsp (ks:List U) (es:List E)|chain (o o':CmpOp) (a b c:E)
inductive Src where
 | seq (e:E)|rng (a:E)|rng2 (a b:E)|rngA (es:List E)|zip (a b:E)|revd (e:E)|enm (e:E)|rngR (a:E)
inductive Tg where
 | name (i:Nat)|pair (i j:Nat)
end
inductive S where
 | pass|expr (e:E)|set (i:Nat) (e:E)|fld (o:E) (f:Nat) (e:E)|ret (e:E)|retN
 | ite (t:E) (a b:List S)|loop (t:Tg) (s:Src) (body:List S)|loopC (i:Nat) (e:E) (body:List S)|loopK (i:Nat) (e:E) (body:List S)|loopD (i:Nat) (e:E) (body:List S)|while (t:E) (body:List S)
 | brk|cont
 | aug (i:Nat) (o:Operator) (e:E)|bad
 | put (o i e:E)|unp (i j:Nat) (e:E)|par (i j:Nat) (a b:E)
 | rse (c:Nat) (es:List E)|tryS (j:Option Nat) (f:Nat) (es:List E) (c:Nat) (body:List S)|cal (n:S) (f:Nat) (es:List E)
inductive Fl where
 | next|brk|cont|ret (u:U)
structure Fn where
 name:Str
 qual:Str
 st:Stmt
 ps:List Str
 N:List Str
 np:Nat
 nN:Nat
 lc:Bool
 body:List S
structure Cl where
 name:Str
 init:Option Nat
 meths:List (Nat×Nat)
 subs:List Nat
inductive Co where
 | tup (xs:List U)|lst (xs:List U)|tab (kvs:List (U×U))
 deriving Inhabited
structure Df where
 ps:List Str
 np:Nat
 last:Str
 ds:List U
structure Tbl where
 fns:List Fn
 cls:List Cl
 cons:List Co
 fns':List Str
 mns:List Str
 scr:List U
 isi:List ((Ty×Ty)×Bool)
 dfl:List (Nat×Df)
 dts:List Str:=[]
 zps:List Str:=[]
 ld:Bool:=false
 ers:List Nat:=[]
 esb:List (Nat×Nat):=[]
 pss:List Nat:=[]
 efl:List (Nat×Nat):=[]
 xf:Nat->List U->Hs->Option (Nat×Hs):=fun _ _ _=>none
noncomputable def bd{α β:Type}(o:Option (α×Hs))(f:α->Hs->Option β):Option β:=match o with
 | none=>none
 | some (a,h)=>f a h
theorem Qc{α β:Type}{o:Option (α×Hs)}{f:α->Hs->Option β}{r:β}(h:bd o f=some r):∃a h',o=some (a,h')/\f a h'=some r:=by
 unfold bd at h
 cases o with
 | none=>cases h
 | some p=>exact⟨p.1,p.2,rfl,h⟩
noncomputable def gz:Nat->Nat->Nat
 | 0,n=>n
 | m+1,n=>Nat.gcd (m+1) n
noncomputable def Qs(i:Int):Bool:=decide (-(2 ^ 64) < i)&&decide (i<2 ^ 64)
noncomputable def Qc9(i:Int):Bool:=decide (i.natAbs<2 ^ 4096)
noncomputable def QlE:U->U->Option U
 | .int i m,.int j n=>some (.int (i-j) (gz m n))
 | _,_=>none
noncomputable def QjV:U->U->Option U
 | .int i 0,.int j 0=>if Qs i||Qs j||(Qc9 i&&Qc9 j)then some (.int (i*j) 0)else none
 | .int i (m+1),.int j 0=>if Qs j then some (.int (i*j) ((m+1)*j.natAbs))else none
 | _,_=>none
noncomputable def JZ:U->U->Option U
 | .int i 0,.int j 0=>if 0<j&&decide (j<1606938044258990275541962092341162602522202993782792835301376)then some (.int (i / j) 0)else none
 | .int i (m+1),.int j 0=>if 0<j&&decide (j<1606938044258990275541962092341162602522202993782792835301376)&&decide ((m+1) % j.toNat=0)then some (.int (i / j) ((m+1) / j.toNat))else none
 | _,_=>none
noncomputable def Yk:U->U->Option U
 | .int i 0,.int j 0=>if 0<j then some (.int (i % j) 0)else none
 | .int i (m+1),.int j 0=>if 0<j&&decide ((m+1) % j.toNat=0)then some (.int (i % j) 0)else none
 | _,_=>none
noncomputable def QkC:U->U->Option U
 | .int i 0,.int j 0=>if 0<=j&&decide (j<=1000)&&Qs i then some (.int (i ^ j.toNat) 0)else none
 | _,_=>none
noncomputable def QjX(a b:Nat)(x y:O)(hs:Hs):Option (U×Hs):=match x,y with
 | .lst xs,.lst ys=>if xs.length+ys.length<=1000000 then some (.ref hs.length,hs++[.lst (xs++ys)])else none
 | .tup xs,.tup ys=>if xs.isEmpty then some (.ref b,hs)else if xs.length+ys.length<=1000000 then(if ys.isEmpty then some (.ref a,hs)else some (.ref hs.length,hs++[.tup (xs++ys)]))else none
 | _,_=>none
noncomputable def Qm(u w:U)(hs:Hs):Option (U×Hs):=match u,w with
 | .int i m,.int j n=>some (.int (i+j) (gz m n),hs)
 | .str x,.str y=>if x.length+y.length<=1000000 then some (.str (x++y),hs)else none
 | .ref a,.ref b=>match hs[a]?,hs[b]? with
  | some x,some y=>QjX a b x y hs
  | _,_=>none
 | _,_=>none
noncomputable def QjR(a:Nat)(w:U)(hs:Hs):Option (U×Hs):=match hs[a]?,w with
 | some (.lst xs),.int k 0=>if -9223372036854775808<=k/\k<9223372036854775808/\xs.length*k.toNat<=1000000 then some (.ref hs.length,hs++[.lst (List.replicate k.toNat xs).flatten])else none
 | _,_=>none
noncomputable def opU(o:Operator)(u w:U)(hs:Hs):Option (U×Hs):=match o with
 | .Add=>Qm u w hs
 | .Sub=>(QlE u w).map fun r=>(r,hs)
 | .Mult=>(match u with
  | .ref a=>QjR a w hs
  | u=>(QjV u w).map fun r=>(r,hs))
 | .FloorDiv=>(JZ u w).map fun r=>(r,hs)
 | .Mod=>(Yk u w).map fun r=>(r,hs)
 | .Pow=>(QkC u w).map fun r=>(r,hs)
 | _=>none
noncomputable def eqS:U->U->Option Bool
 | .int i 0,.int j 0=>some (decide (i=j))
 | .str x,.str y=>some (decide (x=y))
 | .bl a,.bl b=>some (decide (a=b))
 | .non,.non=>some true
 | .non,.int _ _=>some false|.int _ _,.non=>some false|.non,.bl _=>some false|.bl _,.non=>some false|.non,.str _=>some false|.str _,.non=>some false
 | .int _ _,.str _=>some false|.str _,.int _ _=>some false|.bl _,.str _=>some false|.str _,.bl _=>some false
 | _,_=>none
noncomputable def Q8(T:Tbl)(u:U)(hs:Hs):Option (List U):=match u with
 | .ref n=>match hs[n]? with
  | some (.lst xs)=>some xs
  | some (.tup xs)=>some xs
  | _=>none
 | .con k=>match T.cons[k]? with
  | some (.lst xs)=>some xs
  | some (.tup xs)=>some xs
  | _=>none
 | .scr=>some T.scr
 | _=>none
noncomputable def Qax:U->Bool
 | .int _ 0=>true
 | .str _=>true
 | .non=>true
 | _=>false
noncomputable def eqF:U->U->Bool
 | .int i _,.int j _=>decide (i=j)
 | .str x,.str y=>decide (x=y)
 | .non,.non=>true
 | _,_=>false
noncomputable def inU(x:U)(ys:List U):Option Bool:=if Qax x&&ys.all Qax then some (ys.any fun y=>eqF y x)else none
noncomputable def QM(T:Tbl)(u:U)(hs:Hs):Option (List U):=match u with
 | .ref n=>match hs[n]? with
  | some (.lst xs)=>some xs
  | _=>none
 | .con k=>match T.cons[k]? with
  | some (.lst xs)=>some xs
  | _=>none
 | .scr=>some T.scr
 | _=>none
noncomputable def ZK(T:Tbl)(u:U)(hs:Hs):Option (List U):=match u with
 | .ref n=>match hs[n]? with
  | some (.tup xs)=>some xs
  | _=>none
 | .con k=>match T.cons[k]? with
  | some (.tup xs)=>some xs
  | _=>none
 | _=>none
noncomputable def okW(T:Tbl):Nat->U->Hs->Bool
 | 0,_,_=>false
 | n+1,u,hs=>match QM T u hs with
  | some xs=>xs.all fun x=>okW T n x hs
  | none=>match ZK T u hs with
   | some xs=>xs.all fun x=>okW T n x hs
   | none=>match u with
    | .non=>true
    | .bl _=>true
    | .int _ m=>m==0
    | .str x=>x.all fun c=>decide (c<128)
    | _=>false
noncomputable def eqB:U->U->Bool
 | .non,.non=>true
 | .bl a,.bl b=>a==b
 | .bl a,.int j _=>(if a then 1 else 0)==j
 | .int i _,.bl b=>i==(if b then 1 else 0)
 | .int i _,.int j _=>i==j
 | .str x,.str y=>x==y
 | _,_=>false
noncomputable def eqW(T:Tbl):Nat->U->U->Hs->Bool
 | 0,_,_,_=>false
 | n+1,u,w,hs=>match QM T u hs with
  | some xs=>(match QM T w hs with
   | some ys=>(xs.length==ys.length)&&(xs.zip ys).all fun p=>eqW T n p.1 p.2 hs
   | none=>false)
  | none=>match ZK T u hs with
   | some xs=>(match QM T w hs with
    | some _=>false
    | none=>match ZK T w hs with
     | some ys=>(xs.length==ys.length)&&(xs.zip ys).all fun p=>eqW T n p.1 p.2 hs
     | none=>false)
   | none=>(match QM T w hs with
    | some _=>false
    | none=>match ZK T w hs with
     | some _=>false
     | none=>eqB u w)
noncomputable def Jg(T:Tbl)(u w:U)(hs:Hs):Bool:=match QM T u hs,QM T w hs with
 | some xs,some ys=>decide (xs.length≠ys.length)
 | _,_=>false
noncomputable def Qad(T:Tbl)(u w:U)(hs:Hs):Bool:=match QM T u hs,QM T w hs with
 | some xs,some ys=>decide (xs=ys)&&xs.all fun x=>match x with|.ref _=>true|_=>false
 | _,_=>false
noncomputable def eqA(T:Tbl)(u w:U)(hs:Hs):Option Bool:=match eqS u w with
 | some b=>some b
 | none=>if Jg T u w hs=true then some false else if Qad T u w hs=true then some true else if okW T 20 u hs&&okW T 20 w hs then some (eqW T 20 u w hs)else none
noncomputable def JH(kvs:List (U×U))(k:U):Option U:=match kvs with
 | []=>none
 | (x,v)::r=>if x=k then some v else JH r k
noncomputable def Qhb:U->Bool
 | .int _ 0=>true
 | .str _=>true
 | _=>false
noncomputable def QkV{κ:Type}[DecidableEq κ](kvs:List (κ×U))(k:κ):Option U:=(kvs.find? fun p=>decide (p.1=k)).map (·.2)
noncomputable def Qnh{κ:Type}[DecidableEq κ](kvs:List (κ×U))(k:κ)(v:U):List (κ×U):=if(kvs.any fun p=>decide (p.1=k))=true then kvs.map (fun p=>if p.1=k then(p.1,v)else p)else kvs++[(k,v)]
noncomputable def QiE(kvs more:List (U×U)):List (U×U):=more.foldl (fun acc p=>Qnh acc p.1 p.2) kvs
noncomputable def inS(x y:List Nat):Bool:=!(Builtin.Str.occurrences ⟨y.toArray⟩ ⟨x.toArray⟩ 0 (Str.length ⟨y.toArray⟩) 1).isEmpty
noncomputable def QjJ(T:Tbl)(w u:U):Option Bool:=match w with
 | .con k=>(match T.cons[k]? with
  | some (.tab kvs)=>if Qhb u=true then some (JH kvs u).isSome else none
  | _=>none)
 | .str y=>(match u with
  | .str x=>some (inS x y)
  | _=>none)
 | _=>none
noncomputable def inD(T:Tbl)(w u:U)(hs:Hs):Option Bool:=match w with
 | .ref _=>none
 | w=>QjJ T w u
noncomputable def Qo(T:Tbl)(o:CmpOp)(u w:U)(hs:Hs):Option Bool:=match o with
 | .Eq=>eqA T u w hs
 | .NotEq=>(eqA T u w hs).map (!·)
 | .Lt=>match u,w with|.int i 0,.int j 0=>some (decide (i<j))|_,_=>none
 | .LtE=>match u,w with|.int i 0,.int j 0=>some (decide (i<=j))|_,_=>none
 | .Gt=>match u,w with|.int i 0,.int j 0=>some (decide (j<i))|_,_=>none
 | .GtE=>match u,w with|.int i 0,.int j 0=>some (decide (j<=i))|_,_=>none
 | .In=>match Q8 T w hs with|some xs=>inU u xs|none=>inD T w u hs
 | .NotIn=>match Q8 T w hs with|some xs=>(inU u xs).map (!·)|none=>(inD T w u hs).map (!·)
 | .Is=>match w with|.non=>some (decide (u=.non))|_=>none
 | .IsNot=>match w with|.non=>some (!decide (u=.non))|_=>none
noncomputable def Qi(T:Tbl)(u:U)(hs:Hs):Option Bool:=match u with
 | .non=>some false
 | .bl b=>some b
 | .int i 0=>some (decide (i≠0))
 | .str x=>if x.length<=1000000 then some (!x.isEmpty)else none
 | u=>(Q8 T u hs).map fun xs=>!xs.isEmpty
noncomputable def ixU(n:Nat)(i:Int):Option Nat:=if 0<=i then(if i<n then some i.toNat else none)else if -(n:Int)<=i then some (i+n).toNat else none
noncomputable def atU{α:Type}(xs:List α)(i:Int):Option α:=match ixU xs.length i with
 | some j=>xs[j]?
 | none=>none
noncomputable def Qk(T:Tbl)(u w:U)(hs:Hs):Option U:=match u,w with
 | .str x,.int i 0=>if x.length<=1000000 then(atU x i).map fun c=>.str [c]else none
 | .ref n,w=>match hs[n]?,w with
  | some (.lst xs),.int i 0=>atU xs i
  | some (.tup xs),.int i 0=>atU xs i
  | _,_=>none
 | u,.int i 0=>match Q8 T u hs with
  | some xs=>atU xs i
  | none=>none
 | _,_=>none
noncomputable def Qdr(T:Tbl)(k:Nat)(w:U):Option U:=match T.cons[k]? with
 | some (.tab kvs)=>if Qhb w then JH kvs w else none
 | _=>none
noncomputable def ZX(n d:Nat):Option Int->Nat
 | none=>d
 | some v=>if v<0 then(v+(n:Int)).toNat else min v.toNat n
noncomputable def ZV{α:Type}(xs:List α)(lo hi:Option Int):List α:=(xs.drop (ZX xs.length 0 lo)).take (ZX xs.length xs.length hi-ZX xs.length 0 lo)
noncomputable def slU(T:Tbl)(u:U)(lo hi:Option Int)(hs:Hs):Option (U×Hs):=match u with
 | .scr=>some (.ref hs.length,hs++[.lst (ZV T.scr lo hi)])
 | .ref n=>match hs[n]? with
  | some (.lst xs)=>some (.ref hs.length,hs++[.lst (ZV xs lo hi)])
  | some (.tup xs)=>if ZX xs.length 0 lo=0/\ZX xs.length xs.length hi=xs.length then none else some (.ref hs.length,hs++[.tup (ZV xs lo hi)])
  | _=>none
 | .str x=>if x.length<=1000000 then some (.str (ZV x lo hi),hs)else none
 | _=>none
noncomputable def Z5(n:Nat):List Nat:=(Nat.toDigits 10 n).map Char.toNat
noncomputable def QmC(x:List Nat):Bool:=x.all (fun c=>decide (48<=c)&&decide (c<=57))&&!x.isEmpty&&decide (x.length<=640)
noncomputable def Qlb(x:List Nat):Nat:=x.foldl (fun acc c=>acc*10+(c-48)) 0
noncomputable def Qbz:List U->Option (List Int)
 | []=>some []
 | .int i 0::r=>(Qbz r).map (i::·)
 | _=>none
noncomputable def Qdj:List Int->Int->Int
 | [],z=>z
 | a::r,z=>Qdj r (if a<z then a else z)
noncomputable def QkT:List Int->Option Int
 | []=>none
 | z::r=>some (Qdj r z)
theorem Qcx:∀(r:List Int) (z:Int),Qdj r z<=z/\∀a∈r,Qdj r z<=a
 | [],z=>⟨Int.le_refl _,fun a h=>by cases h⟩
 | a::r,z=>by
  have ih:=Qcx r (if a<z then a else z);unfold Qdj;refine⟨?_,fun b hb=>?_⟩
  ·have:=ih.1;split at this<;>rename_i c<;>simp only [c,if_true,if_false]<;>omega
  ·rcases List.mem_cons.mp hb with rfl|hb
   ·have:=ih.1;split at this<;>rename_i c<;>simp only [c,if_true,if_false]<;>omega
   ·exact ih.2 b hb
theorem Qa1:∀(r:List Int) (z:Int),Qdj r z=z\/Qdj r z∈r
 | [],z=>.inl rfl
 | a::r,z=>by
  have ih:=Qa1 r (if a<z then a else z);unfold Qdj
  rcases ih with e|m
  ·rw [e];split
   ·exact .inr List.mem_cons_self
   ·exact .inl rfl
  ·exact .inr (List.mem_cons_of_mem _ m)
theorem Qge{ns:List Int}{m M:Int}(h:QkT ns=some m)(h1:M∈ns)(h2:∀a∈ns,M<=a):M=m:=by
 cases ns with
 | nil=>cases h
 | cons z r =>
  simp only [QkT,Option.some.injEq]at h;subst h;have g:=Qcx r z
  have a:Qdj r z<=M:=by
   rcases List.mem_cons.mp h1 with rfl|hb
   ·exact g.1
   ·exact g.2 M hb
  have b:M<=Qdj r z:=by
   rcases Qa1 r z with e|e
   ·rw [e];exact h2 z List.mem_cons_self
   ·exact h2 _ (List.mem_cons_of_mem _ e)
  omega
noncomputable def biL(T:Tbl)(b:Bi)(us:List U)(hs:Hs):Option (U×Hs):=match b,us with
 | .min,[u]=>(QM T u hs).bind fun xs=>(Qbz xs).bind fun ns=>(QkT ns).map fun m=>(.int m 0,hs)
 | .min,[.int i 0,.int j 0]=>some (.int (if j<i then j else i) 0,hs)
 | _,_=>none
noncomputable def biU(T:Tbl)(b:Bi)(us:List U)(hs:Hs):Option (U×Hs):=match b,us with
 | .len,[.str x]=>if x.length<=1000000 then some (.int x.length 0,hs)else none
 | .len,[u]=>match Q8 T u hs with
  | some xs=>some (.int xs.length 0,hs)
  | none=>none
 | .int,[.int i m]=>some (.int i m,hs)
 | .int,[.bl b]=>some (.int (if b then 1 else 0) 0,hs)
 | .int,[.str x]=>if QmC x then some (.int (Qlb x:Nat) 0,hs)else none
 | .str,[.int i 0]=>if 0<=i&&decide (i.natAbs.log2<1920)then some (.str (Z5 i.toNat),hs)else none
 | .tuple,[.ref n]=>match hs[n]? with
  | some (.lst xs)=>some (.ref hs.length,hs++[.tup xs])
  | some (.tup _)=>some (.ref n,hs)
  | _=>none
 | .list,[u]=>match Q8 T u hs with
  | some xs=>some (.ref hs.length,hs++[.lst xs])
  | none=>none
 | .len,_=>none
 | .int,_=>none
 | .str,_=>none
 | .tuple,_=>none
 | .list,_=>none
 | b,us=>biL T b us hs
noncomputable def Qas(u:U)(hs:Hs):Option Ty:=match u with
 | .non=>some .non
 | .bl _=>some .bool
 | .int _ _=>some .int
 | .str _=>some .str
 | .ref n=>match hs[n]? with
  | some (.lst _)=>some .list
  | some (.tup _)=>some .tuple
  | some (.ins c _)=>some (.cls c)
  | _=>none
 | _=>none
noncomputable def Qk1(k t:Ty):Option Bool:=match k,t with
 | .cls _,_=>none
 | _,.cls _=>none
 | .bool,.int=>some true
 | k,t=>some (decide (k=t))
noncomputable def YN(T:Tbl)(t:Ty)(u:U)(hs:Hs):Option Bool:=match Qas u hs with
 | none=>none
 | some k=>match Qk1 k t with
  | some b=>some b
  | none=>T.isi.lookup (k,t)
noncomputable def Yb:List U->Option (List (List Nat))
 | []=>some []
 | .str x::r=>(Yb r).map (x::·)
 | _=>none
noncomputable def bmL(b:Bm)(n:Nat)(xs:List U)(us:List U)(hs:Hs):Option (U×Hs):=match b,us with
 | .append,[u]=>if xs.length<1000000 then some (.non,hs.set n (.lst (xs++[u])))else none
 | .pop,[]=>match xs[xs.length-1]? with
  | some y=>some (y,hs.set n (.lst xs.dropLast))
  | none=>none
 | _,_=>none
noncomputable def bmS(T:Tbl)(b:Bm)(x:List Nat)(us:List U)(hs:Hs):Option (U×Hs):=match b,us with
 | .join,[w]=>match QM T w hs with
  | some ys=>match Yb ys with
   | some ts=>if ts.length*x.length+(ts.map List.length).sum<=1000000 then some (.str (Qj x ts),hs)else none
   | none=>none
  | none=>none
 | _,_=>none
noncomputable def bmD(b:Bm)(n:Nat)(kvs:List (U×U))(us:List U)(hs:Hs):Option (U×Hs):=match b with
 | .setdef=>(match us with
  | [k,v]=>if Qhb k=true/\kvs.length<1000000 then(match JH kvs k with
   | some x=>some (x,hs)
   | none=>some (v,hs.set n (.dic (kvs++[(k,v)]))))else none
  | _=>none)
 | .get=>(match us with
  | [k,v]=>if Qhb k=true then some ((QkV kvs k).getD v,hs)else none
  | _=>none)
 | .update=>(match us with
  | [.ref m]=>(match hs[m]? with
   | some (.dic more)=>if n≠m/\kvs.length+more.length<=1000000 then some (.non,hs.set n (.dic (QiE kvs more)))else none
   | _=>none)
  | _=>none)
 | _=>none
noncomputable def bmU(T:Tbl)(b:Bm)(o:U)(us:List U)(hs:Hs):Option (U×Hs):=match o with
 | .ref n=>match hs[n]? with
  | some (.lst xs)=>bmL b n xs us hs
  | some (.dic kvs)=>bmD b n kvs us hs
  | _=>none
 | .str x=>bmS T b x us hs
 | _=>none
noncomputable def bL:Bm->Bool
 | .setdef=>false|.get=>false|.update=>false|.join=>false|.split=>false|.find=>false|.index=>false|_=>true
noncomputable def bS:Bm->Bool
 | .join=>true|.split=>true|.find=>true|.index=>true|_=>false
noncomputable def bD:Bm->Bool
 | .setdef=>true|.get=>true|.update=>true|_=>false
noncomputable def Zd(b:Bm)(u:U)(hs:Hs):Bool:=match u with
 | .ref n=>match hs[n]? with
  | some (.lst _)=>bL b
  | some (.dic _)=>bD b
  | _=>false
 | .str _=>bS b
 | _=>false
noncomputable def Qbp(f:Nat)(u:U):List (Nat×U)->List (Nat×U)
 | []=>[(f,u)]
 | (g,x)::r=>if g=f then(g,u)::r else(g,x)::Qbp f u r
inductive Wk where
 | seqL (u:U)|seqT (u:U)|rng (lo:Int) (n:Nat)|zipB (b c:Bool) (x y:U)|revL (u:U) (n:Nat)|rngC (lo c:Int) (n:Nat)|enmL (u:U)|strW (x:List Nat)
inductive Im where
 | one (u:U)|two (u w:U)
noncomputable def sqU(T:Tbl)(b:Bool)(u:U)(hs:Hs):Option (List U):=if b then QM T u hs else ZK T u hs
noncomputable def two(xs ys:List U)(i:Nat):Option Im:=match xs[i]?,ys[i]? with
 | some x,some y=>some (.two x y)
 | _,_=>none
noncomputable def itm(T:Tbl)(k:Wk)(i:Nat)(hs:Hs):Option (Option Im):=match k with
 | .seqL u=>(QM T u hs).map fun xs=>(xs[i]?).map .one
 | .seqT u=>(ZK T u hs).map fun xs=>(xs[i]?).map .one
 | .rng lo n=>some (if i<n then some (.one (.int (lo+i) 0))else none)
 | .zipB b c x y=>match sqU T b x hs,sqU T c y hs with
  | some xs,some ys=>some (two xs ys i)
  | _,_=>none
 | .revL _ _=>none
 | .rngC _ _ _=>none
 | .enmL _=>none
 | .strW _=>none
noncomputable def Qnd(a b c:Int):Nat:=if a<b then((b-a-1) / c+1).toNat else 0
noncomputable def Qd(T:Tbl)(k:Wk)(hs:Hs):Nat:=match k with
 | .seqL u=>((QM T u hs).getD []).length+1
 | .seqT u=>((ZK T u hs).getD []).length+1
 | .rng _ n=>n+1
 | .zipB b _ x _=>((sqU T b x hs).getD []).length+1
 | .revL _ _=>0
 | .rngC _ _ _=>0
 | .enmL _=>0
 | .strW _=>0
noncomputable def tgt(t:Tg)(x:Im)(ρ:Rho)(hs:Hs):Option Rho:=match t,x with
 | .name i,.one u=>some (ρ.set i (some u))
 | .pair i j,.two u w=>some ((ρ.set i (some u)).set j (some w))
 | .pair i j,.one (.ref n)=>match hs[n]? with
  | some (.tup [u,w])=>some ((ρ.set i (some u)).set j (some w))
  | _=>none
 | _,_=>none
noncomputable abbrev Cf:=Nat->List U->Hs->Option (U×Hs)
noncomputable abbrev Ev:=E->Rho->Hs->Option (U×Hs)
noncomputable def evs(f:Ev)(ρ:Rho):List E->Hs->Option (List U×Hs)
 | [],hs=>some ([],hs)
 | e::es,hs=>bd (f e ρ hs) fun u h1=>bd (evs f ρ es h1) fun us h2=>some (u::us,h2)
noncomputable def evO(f:Ev)(ρ:Rho):Option E->Hs->Option (Option Int×Hs)
 | none,hs=>some (none,hs)
 | some e,hs=>bd (f e ρ hs) fun u h1=>match u with|.int i 0=>some (some i,h1)|_=>none
noncomputable def wkS(T:Tbl)(u:U)(hs:Hs):Option Wk:=match QM T u hs with
 | some _=>some (.seqL u)
 | none=>match ZK T u hs with
  | some _=>some (.seqT u)
  | none=>none
noncomputable def wkZ(T:Tbl)(u w:U)(hs:Hs):Option Wk :=
 let b:=(QM T u hs).isSome;let c:=(QM T w hs).isSome
 if(sqU T b u hs).isSome&&(sqU T c w hs).isSome then some (.zipB b c u w)else none
noncomputable def Ql(T:Tbl)(f:Ev)(ρ:Rho):Src->Hs->Option (Wk×Hs)
 | .seq e,hs=>bd (f e ρ hs) fun u h1=>(wkS T u h1).map fun k=>(k,h1)
 | .rng a,hs=>bd (f a ρ hs) fun u h1=>match u with|.int i 0=>if Qs (i*4)then some (.rng 0 i.toNat,h1)else none|_=>none
 | .rng2 a b,hs=>bd (f a ρ hs) fun u h1=>bd (f b ρ h1) fun w h2=>match u,w with|.int i 0,.int j 0=>if Qs (i*4)&&Qs (j*4)then some (.rng i (j-i).toNat,h2)else none|_,_=>none
 | .rngA _,_=>none
 | .zip a b,hs=>bd (f a ρ hs) fun u h1=>bd (f b ρ h1) fun w h2=>(wkZ T u w h2).map fun k=>(k,h2)
 | .revd _,_=>none
 | .enm _,_=>none
 | .rngR _,_=>none
noncomputable def Zo(T:Tbl)(cf:Cf)(c:Nat)(us:List U)(hs:Hs):Option (U×Hs):=match T.cls[c]? with
 | none=>none
 | some C=>match C.init with
  | none=>if us=[]then some (.ref hs.length,hs++[.ins c []])else none
  | some f=>match cf f (.ref hs.length::us) (hs++[.ins c []])with
   | some (.non,h2)=>some (.ref hs.length,h2)
   | _=>none
noncomputable def JG(T:Tbl)(m:Nat)(o:U)(hs:Hs):Option Nat:=match o with
 | .ref n=>match hs[n]? with
  | some (.ins c _)=>match T.cls[c]? with
   | some C=>C.meths.lookup m
   | none=>none
  | _=>none
 | _=>none
noncomputable def tgN(b:Bool)(n:Nat):Tg:=if b then .pair n (n+1)else .name n
noncomputable def Qdi(b:Bool):Rho:=if b then [none,none]else [none]
noncomputable def Zt(T:Tbl)(f:Ev)(ft:Rho->Hs->Option (Bool×Hs))(w:Wk)(b:Bool)(el:E)(ρ:Rho):Nat->Nat->List U->Hs->Option (List U×Hs)
 | 0,_,_,_=>none
 | k+1,i,acc,hs=>match itm T w i hs with
  | none=>none
  | some none=>some (acc,hs)
  | some (some x)=>match tgt (tgN b ρ.length) x (ρ++Qdi b) hs with
   | none=>none
   | some ρ'=>if acc.length<1000000 then bd (ft ρ' hs) fun c h1=>if c=true then bd (f el ρ' h1) fun u h2=>Zt T f ft w b el ρ k (i+1) (acc++[u]) h2 else Zt T f ft w b el ρ k (i+1) acc h1 else none
noncomputable def JO(ft:E->Rho->Hs->Option (Bool×Hs))(t:Option E)(ρ:Rho)(hs:Hs):Option (Bool×Hs):=match t with
 | none=>some (true,hs)
 | some e=>ft e ρ hs
mutual
noncomputable def ev(T:Tbl)(cf:Cf):Nat->Ev
 | 0,_,_,_=>none
 | d+1,e,ρ,hs=>match e with
  | .c u=>some (u,hs)
  | .con k=>some (.con k,hs)
  | .var i=>match ρ[i]? with
   | some (some u)=>some (u,hs)
   | _=>none
  | .op o a b=>bd (ev T cf d a ρ hs) fun u h1=>bd (ev T cf d b ρ h1) fun w h2=>opU o u w h2
  | .neg a=>bd (ev T cf d a ρ hs) fun u h1=>match u with|.int i m=>some (.int (-i) m,h1)|_=>none
  | .cmp o a b=>bd (ev T cf d a ρ hs) fun u h1=>bd (ev T cf d b ρ h1) fun w h2=>(Qo T o u w h2).map fun c=>(.bl c,h2)
  | .and a b=>bd (ev T cf d a ρ hs) fun u h1=>match u with|.bl true=>ev T cf d b ρ h1|.bl false=>some (.bl false,h1)|_=>none
  | .or a b=>bd (ev T cf d a ρ hs) fun u h1=>match u with|.bl true=>some (.bl true,h1)|.bl false=>ev T cf d b ρ h1|_=>none
  | .not a=>bd (ev T cf d a ρ hs) fun u h1=>(Qi T u h1).map fun c=>(.bl (!c),h1)
  | .ife t a b=>bd (evT T cf d t ρ hs) fun c h1=>if c=true then ev T cf d a ρ h1 else ev T cf d b ρ h1
  | .tup es=>bd (evs (ev T cf d) ρ es hs) fun us h1=>some (.ref h1.length,h1++[.tup us])
  | .lst es=>bd (evs (ev T cf d) ρ es hs) fun us h1=>some (.ref h1.length,h1++[.lst us])
  | .dis _ _=>none
  | .ix a b=>bd (ev T cf d a ρ hs) fun u h1=>bd (ev T cf d b ρ h1) fun w h2=>(Qk T u w h2).map fun x=>(x,h2)
  | .tab k b=>bd (ev T cf d b ρ hs) fun w h1=>(Qdr T k w).map fun x=>(x,h1)
  | .sl a lo hi=>bd (ev T cf d a ρ hs) fun u h1=>bd (evO (ev T cf d) ρ lo h1) fun l h2=>bd (evO (ev T cf d) ρ hi h2) fun r h3=>slU T u l r h3
  | .rev _=>none
  | .tupR _=>none
  | .fld a f=>bd (ev T cf d a ρ hs) fun u h1=>match u with
   | .ref n=>match h1[n]? with
    | some (.ins _ fs)=>(fs.lookup f).map fun x=>(x,h1)
    | _=>none
   | _=>none
  | .call f es=>bd (evs (ev T cf d) ρ es hs) fun us h1=>cf f us h1
  | .meth m o es=>bd (ev T cf d o ρ hs) fun u h1=>match JG T m u h1 with
   | some f=>bd (evs (ev T cf d) ρ es h1) fun us h2=>cf f (u::us) h2
   | none=>none
  | .make c es=>bd (evs (ev T cf d) ρ es hs) fun us h1=>Zo T cf c us h1
  | .bi b es=>bd (evs (ev T cf d) ρ es hs) fun us h1=>biU T b us h1
  | .isi a t=>bd (ev T cf d a ρ hs) fun u h1=>(YN T t u h1).map fun b=>(.bl b,h1)
  | .bm b o es=>bd (ev T cf d o ρ hs) fun u h1=>if Zd b u h1=true then bd (evs (ev T cf d) ρ es h1) fun us h2=>bmU T b u us h2 else none
  | .comp s b t el=>bd (Ql T (ev T cf d) ρ s hs) fun w h1=>bd (Zt T (ev T cf d) (JO (evT T cf d) t) w b el ρ (Qd T w h1) 0 [] h1) fun us h2=>some (.ref h2.length,h2++[.lst us])
  | .dnew=>some (.ref hs.length,hs++[.dic []])
  | .dnewT=>none
  | .zap _=>none
  | .dsp _ _=>none
  | .chain _ _ _ _ _=>none
noncomputable def evT(T:Tbl)(cf:Cf):Nat->E->Rho->Hs->Option (Bool×Hs)
 | 0,_,_,_=>none
 | d+1,e,ρ,hs=>match e with
  | .not a=>bd (evT T cf d a ρ hs) fun c h1=>some (!c,h1)
  | .and a b=>bd (evT T cf d a ρ hs) fun c h1=>if c=true then evT T cf d b ρ h1 else some (false,h1)
  | .or a b=>bd (evT T cf d a ρ hs) fun c h1=>if c=true then some (true,h1)else evT T cf d b ρ h1
  | e=>bd (ev T cf d e ρ hs) fun u h1=>(Qi T u h1).map fun b=>(b,h1)
end
noncomputable abbrev Ex:=Rho->Hs->Option (Fl×Rho×Hs)
noncomputable def JL(T:Tbl)(w:Wk)(t:Tg)(body:Ex):Nat->Nat->Ex
 | 0,_,_,_=>none
 | k+1,i,ρ,hs=>match itm T w i hs with
  | none=>none
  | some none=>some (.next,ρ,hs)
  | some (some x)=>match tgt t x ρ hs with
   | none=>none
   | some ρ'=>match body ρ' hs with
    | some (.next,ρ2,h2)=>JL T w t body k (i+1) ρ2 h2
    | some (.cont,ρ2,h2)=>JL T w t body k (i+1) ρ2 h2
    | some (.brk,ρ2,h2)=>some (.next,ρ2,h2)
    | r=>r
noncomputable def Q9(test:Rho->Hs->Option (Bool×Hs))(body:Ex):Nat->Ex
 | 0,_,_=>none
 | k+1,ρ,hs=>match test ρ hs with
  | none=>none
  | some (false,h1)=>some (.next,ρ,h1)
  | some (true,h1)=>match body ρ h1 with
   | some (.next,ρ2,h2)=>Q9 test body k ρ2 h2
   | some (.cont,ρ2,h2)=>Q9 test body k ρ2 h2
   | some (.brk,ρ2,h2)=>some (.next,ρ2,h2)
   | r=>r
noncomputable def Qn5(o:Operator)(u w:U):Option U:=match o with
 | .Add=>(match u,w with|.int i 0,.int j 0=>some (.int (i+j) 0)|_,_=>none)
 | .Sub=>(match u,w with|.int i 0,.int j 0=>some (.int (i-j) 0)|_,_=>none)
 | _=>none
noncomputable def QhW(x k u:U)(hs:Hs):Option Hs:=match x with
 | .ref n=>(match hs[n]? with
  | some (.lst xs)=>(match k with
   | .int j 0=>(ixU xs.length j).map fun p=>hs.set n (.lst (xs.set p u))
   | _=>none)
  | _=>none)
 | _=>none
mutual
noncomputable def ex(T:Tbl)(cf:Cf):Nat->S->Ex
 | 0,_,_,_=>none
 | d+1,s,ρ,hs=>match s with
  | .pass=>some (.next,ρ,hs)
  | .bad=>none
  | .aug _ _ _=>none
  | .brk=>some (.brk,ρ,hs)
  | .cont=>some (.cont,ρ,hs)
  | .expr e=>bd (ev T cf d e ρ hs) fun _ h1=>some (.next,ρ,h1)
  | .set i e=>bd (ev T cf d e ρ hs) fun u h1=>some (.next,ρ.set i (some u),h1)
  | .fld o f e=>bd (ev T cf d e ρ hs) fun u h1=>bd (ev T cf d o ρ h1) fun x h2=>match x with
   | .ref n=>match h2[n]? with
    | some (.ins c fs)=>if fs.length<500 then some (.next,ρ,h2.set n (.ins c (Qbp f u fs)))else none
    | _=>none
   | _=>none
  | .ret e=>bd (ev T cf d e ρ hs) fun u h1=>some (.ret u,ρ,h1)
  | .retN=>some (.ret .non,ρ,hs)
  | .ite t a b=>match evT T cf d t ρ hs with
   | some (true,h1)=>exs T cf d a ρ h1
   | some (false,h1)=>exs T cf d b ρ h1
   | none=>none
  | .loop t s body=>bd (Ql T (ev T cf d) ρ s hs) fun w h1=>JL T w t (exs T cf d body) (Qd T w h1) 0 ρ h1
  | .loopC _ _ _=>none
  | .loopD _ _ _=>none
  | .loopK _ _ _=>none
  | .while t body=>Q9 (evT T cf d t) (exs T cf d body) 1000000 ρ hs
  | .put o i e=>bd (ev T cf d e ρ hs) fun u h1=>bd (ev T cf d o ρ h1) fun x h2=>bd (ev T cf d i ρ h2) fun k h3=>(QhW x k u h3).map fun h4=>(.next,ρ,h4)
  | .unp _ _ _=>none
  | .par _ _ _ _=>none
  | .rse _ _=>none
  | .tryS _ _ _ _ _=>none
  | .cal _ _ _=>none
noncomputable def exs(T:Tbl)(cf:Cf):Nat->List S->Ex
 | 0,_,_,_=>none
 | d+1,ss,ρ,hs=>match ss with
  | []=>some (.next,ρ,hs)
  | s::r=>match ex T cf d s ρ hs with
   | some (.next,ρ1,h1)=>exs T cf d r ρ1 h1
   | x=>x
end
noncomputable def dd:Nat:=100
noncomputable def fin:Option (Fl×Rho×Hs)->Option (U×Hs)
 | some (.ret u,_,h)=>some (u,h)
 | some (.next,_,h)=>some (.non,h)
 | _=>none
noncomputable def QjQ(us:List U)(n:Nat):Rho:=us.map some++List.replicate (n-us.length) none
noncomputable def Qa(T:Tbl):Nat->Cf
 | 0,_,_,_=>none
 | n+1,f,us,hs=>match T.fns[f]? with
  | none=>none
  | some F=>if us.length=F.np then fin (exs T (Qa T n) dd F.body (QjQ us F.nN) hs)else none
end Iv
namespace Iv
open PySem
end Iv
namespace Iv
open PySem
variable {m:Nat}
inductive G where
 | fn (i:Nat)|cls (i:Nat)|con (k:Nat)|txt (x:List Nat)
structure Ctx where
 T:Tbl
 N:List Str
 names:List (Str×NameKind)
 gl:List (Str×G)
 bl:List Str
 lc:Bool:=false
noncomputable def idx(x:Str):List Str->Option Nat
 | []=>none
 | y::r=>if y=x then some 0 else(idx x r).map (· + 1)
noncomputable def Qd7(C:Ctx)(x:Str):Bool:=match C.names.lookup x with
 | some .local=>true|some .cell=>true|some .free=>true|_=>false
noncomputable def Qau(C:Ctx)(x:Str):Bool:=match C.names.lookup x with
 | some .local=>true|some .cell=>true|_=>false
noncomputable def YW(C:Ctx)(x:Str):Bool:=match C.names.lookup x with
 | some .globalImplicit=>true|_=>false
noncomputable def Ze:Expr->Bool
 | .Call (.Name _ _) [] [] _=>false
 | _=>true
noncomputable def ZE:Expr->Bool
 | .Slice ..=>false
 | _=>true
noncomputable def Qho(C:Ctx)(x:Str):Option Ty:=match C.gl.lookup x with
 | some (.cls i)=>some (.cls i)
 | some _=>none
 | none=>if C.bl.contains x=false then none else if x="int" then some .int else if x="str" then some .str else if x="bool" then some .bool else if x="list" then some .list else if x="tuple" then some .tuple else if x="dict" then some .dict else if x="ValueError" then some .vale else none
noncomputable def Qjq(x:Str):Option Bi:=none
noncomputable def Qj0(C:Ctx)(x:Str):Option Bi:=match C.gl.lookup x with
 | some _=>none
 | none=>if C.bl.contains x=false then none else if x="len" then some .len else if x="int" then some .int else if x="str" then some .str else if x="tuple" then some .tuple else if x="min" then some .min else Qjq x
noncomputable def Qjp(x:Str):Option Bm:=none
noncomputable def QjZ(x:Str):Option Bm:=if x="append" then some .append else if x="pop" then some .pop else if x="join" then some .join else Qjp x
noncomputable def QeF:E->Bool
 | .and _ _=>false
 | .or _ _=>false
 | .not _=>false
 | _=>true
noncomputable def okT:Expr->E->Bool
 | .BoolOp ..,_=>true
 | .UnaryOp .Not ..,_=>true
 | .Compare ..,_=>true
 | _,ir=>QeF ir
noncomputable def Qcd(C:Ctx)(f:Str)(args:List Expr):Option (List Expr):=none
noncomputable def Qcz(C:Ctx)(f:Str)(args:List Expr):Option Expr:=none
noncomputable def Qi9:Expr->Option U
 | .Constant (.int i) _ _=>some (.int i 0)
 | .Constant (.str x) _ _=>some (.str x.cps.toList)
 | _=>none
noncomputable def Qla:List (Option Expr)->List Expr->Option (List (U×U))
 | [],[]=>some []
 | some k::ks,v::vs=>(Qi9 k).bind fun k'=>(Qi9 v).bind fun v'=>(Qla ks vs).bind fun r=>if r.any (fun p=>decide (p.1=k'))then none else some ((k',v')::r)
 | _,_=>none
noncomputable def Ctx.inner(C:Ctx)(xs:List Str)(scope:Scope):Ctx:={ C with N:=L2.hideN xs C.N++xs,names:=L2.relN C.names scope.names,lc:=false }
noncomputable def hdC(C:Ctx):Bool:=decide (C.bl=[("isinstance":Str)])
noncomputable def Y1(C:Ctx)(xs:List Str)(scope:Scope):Bool:=(scope.kind==.function)&&xs.all (fun x=>(scope.names.lookup x==some .local)&&(scope.names.lookup (L2.mang x)==none))&&decide (L2.hideN xs C.N++xs).Nodup&&scope.names.all (fun y=>match y.2 with
  | .local=>(xs.contains y.1||decide (y.1=".0"))&&(scope.names.lookup y.1==some .local)
  | .free=>(C.names.lookup y.1==some .cell)||(C.names.lookup y.1==some .free)
  | .cell=>false
  | _=>true)&&!(C.N.contains ".0")
noncomputable def QjW:Src->Bool
 | .zip _ _=>true
 | .enm _=>true
 | _=>false
noncomputable def Qcs:Src->Tg->Bool
 | .zip _ _,.name _=>false
 | .enm _,.name _=>false
 | .revd _,.pair _ _=>false
 | _,_=>true
noncomputable def Qkd:Expr->Option (Bool×List Str)
 | .Name x _=>some (false,[x])
 | .Tuple es _ _=>(match es with
  | [a,b]=>(match a,b with
   | .Name x _,.Name y _=>some (true,[x,y])
   | _,_=>none)
  | _=>none)
 | _=>none
noncomputable def Qmx:List Expr->Option (Option Expr)
 | []=>some none
 | [t]=>some (some t)
 | _=>none
structure Gn where
 b:Bool
 xs:List Str
 iter:Expr
 tl:Option Expr
noncomputable def Qee:List Comprehension->Option Gn
 | [g]=>if g.is_async=0 then(Qkd g.target).bind fun t=>(Qmx g.ifs).map fun tl=>⟨t.1,t.2,g.iter,tl⟩else none
 | _=>none
noncomputable def Qj1(tg:Expr)(b:Bool)(xs:List Str):Prop:=(b=false/\∃x p,tg=.Name x p/\xs=[x])\/(b=true/\∃x p y q k pt,tg=.Tuple [.Name x p,.Name y q] k pt/\xs=[x,y])
theorem Qfg{tg:Expr}{b:Bool}{xs:List Str}(h:Qkd tg=some (b,xs)):Qj1 tg b xs:=by
 unfold Qkd at h;split at h
 ·cases h;exact .inl ⟨rfl,_,_,rfl,rfl⟩
 ·split at h
  ·split at h
   ·cases h;exact .inr ⟨rfl,_,_,_,_,_,_,rfl,rfl⟩
   ·cases h
  ·cases h
 ·cases h
theorem QbD{gens:List Comprehension}{g:Gn}(h:Qee gens=some g):∃tg,gens=[⟨tg,g.iter,g.tl.toList,0⟩]/\Qj1 tg g.b g.xs:=by
 unfold Qee at h;split at h
 ·rename_i c;split at h
  ·rename_i e;simp only [Option.bind_eq_some_iff,Option.map_eq_some_iff]at h;obtain⟨⟨b,xs⟩,h1,tl,h2,rfl⟩:=h;obtain⟨tg,iter,ifs,ia⟩:=c;simp only at e h1 h2;subst e;refine⟨tg,?_,Qfg h1⟩
   have:ifs=tl.toList:=by
    unfold Qmx at h2;split at h2<;>cases h2<;>rfl
   rw [this]
  ·cases h
 ·cases h
inductive Sl where
 | cut (lo hi:Option Expr)|rev|bad
noncomputable def Qg8:Expr->Option Sl
 | .Slice lo hi st _=>(match st with
  | none=>some (.cut lo hi)
  | some e=>some .bad)
 | _=>none
inductive He where
 | tab (ks:List (Option Expr)) (vs:List Expr)|nm (x:Str)|any
noncomputable def Qi4:Expr->He
 | .Name x _=>.nm x
 | _=>.any
noncomputable def Qfi(C:Ctx)(x:Str):Option Nat:=if YW C x&&decide (x≠"__debug__")then(match C.gl.lookup x with
 | some (.con k)=>(match C.T.cons[k]? with|some (.tab _)=>some k|_=>none)
 | _=>none)else none
noncomputable def QjT(C:Ctx)(i:Nat)(es:List E):Option E:=match C.T.dfl.lookup i with
 | none=>some (.call i es)
 | some D=>if es.length<=D.np/\D.np<=es.length+D.ds.length then some (.call i (es++(D.ds.drop (D.ds.length-(D.np-es.length))).map .c))else none
mutual
noncomputable def Qf:Nat->Ctx->Expr->Option E
 | 0,_,_=>none
 | m+1,C,e=>match e with
  | .Constant (.int i) _ _=>some (.c (.int i 0))
  | .Constant (.bool b) _ _=>some (.c (.bl b))
  | .Constant .none _ _=>some (.c .non)
  | .Constant (.str x) _ _=>some (.c (.str x.cps.toList))
  | .Name x _ => if x = "__debug__" \/ x = "__classdict__" then none else if Qd7 C x then (idx x C.N).map .var else if YW C x then (match C.gl.lookup x with | some (.con k) => some (.con k) | some (.txt t) => some (.c (.str t)) | _ => none) else none
  | .BinOp a o b _=>(Qf m C a).bind fun a'=>(Qf m C b).bind fun b'=>some (.op o a' b')
  | .UnaryOp .USub a _=>(Qf m C a).bind fun a'=>some (.neg a')
  | .UnaryOp .Not a _=>(compT m C a).bind fun a'=>some (.not a')
  | .BoolOp .And (a::r) p=>compAnd m C a r p
  | .BoolOp .Or (a::r) p=>compOr m C a r p
  | .Compare a [o] [b] _=>(Qf m C a).bind fun a'=>(Qf m C b).bind fun b'=>some (.cmp o a' b')
  | .IfExp t a b _=>(compT m C t).bind fun t'=>(Qf m C a).bind fun a'=>(Qf m C b).bind fun b'=>some (.ife t' a' b')
  | .Tuple es _ _=>if es.length<=1000000 then(compA m C es).bind fun es'=>some (.tup es')else none
  | .List es _=>if es.length<=1000000 then(compA m C es).bind fun es'=>some (.lst es')else none
  | .Subscript a b _=>match Qg8 b with
   | some (.cut lo hi)=>(Qf m C a).bind fun a'=>(compO m C lo).bind fun l=>(compO m C hi).bind fun h=>some (.sl a' l h)
   | some .rev=>(Qf m C a).bind fun a'=>some (.rev a')
   | some .bad=>none
   | none=>(Qf m C b).bind fun b'=>match Qi4 a with
    | .tab ks vs=>if decide (ks.length<=15)&&!ks.isEmpty then(Qla ks vs).bind fun kvs=>some (.dis kvs b')else none
    | .nm x=>(match Qfi C x with|some k=>some (.tab k b')|none=>(Qf m C a).bind fun a'=>some (.ix a' b'))
    | .any=>(Qf m C a).bind fun a'=>some (.ix a' b')
  | .Attribute a f _=>if Ze a then(Qf m C a).bind fun a'=>(idx f C.T.fns').bind fun k=>some (.fld a' k)else none
  | .Call (.Name f _) args [] _ => if f = "__debug__" \/ f = "__name__" \/ YW C f = false then none else match C.gl.lookup f with
   | some (.fn i)=>if hdC C=true then none else(compA m C args).bind fun es=>QjT C i es
   | some (.cls i)=>if hdC C=true then none else(compA m C args).bind fun es=>some (.make i es)
   | some (.con _)=>none
   | some (.txt _)=>none
   | none=>if C.bl.contains f=false then none else if f="isinstance" then(match args with
     | [a, .Name t _] => if YW C t /\ t ≠ "__debug__" /\ t ≠ "__name__" then (Qf m C a).bind fun a' => (Qho C t).bind fun ty => some (.isi a' ty) else none
     | _=>none)
    else if hdC C=true then none else match Qcd C f args with
     | some ra=>(compA m C ra).bind fun es=>some (.tupR es)
     | none=>match Qcz C f args with
      | some a=>(Qf m C a).bind fun a'=>some (.rev a')
      | none=>(Qj0 C f).bind fun b=>(compA m C args).bind fun es=>some (.bi b es)
  | .Call (.Attribute o x p) args [] q=>if Ze o&&(p.endLine==q.line)&&decide (args.length<29)then match idx x C.T.mns with
   | some k=>if hdC C=true then none else(Qf m C o).bind fun o'=>(compA m C args).bind fun es=>some (.meth k o' es)
   | none=>(QjZ x).bind fun b=>(Qf m C o).bind fun o'=>(compA m C args).bind fun es=>some (.bm b o' es)else none
  | .ListComp elt gens scope _=>(match Qee gens with
   | some g=>if Y1 C g.xs scope&&!hdC C then(compSrc m C g.iter).bind fun src=>if Qcs src (tgN g.b 0)then(compTO m (C.inner g.xs scope) g.tl).bind fun t=>(Qf m (C.inner g.xs scope) elt).bind fun el=>some (.comp src g.b t el)else none else none
   | none=>none)
  | .Dict [] [] _=>some .dnew
  | _=>none
noncomputable def compT:Nat->Ctx->Expr->Option E
 | 0,_,_=>none
 | m+1,C,e=>match e with
  | .IfExp ..=>none
  | .NamedExpr ..=>none
  | e=>(Qf m C e).bind fun ir=>if okT e ir then some ir else none
noncomputable def compTO:Nat->Ctx->Option Expr->Option (Option E)
 | 0,_,_=>none
 | m+1,C,none=>some none
 | m+1,C,some e=>(compT m C e).bind fun e'=>some (some e')
noncomputable def compAnd:Nat->Ctx->Expr->List Expr->Pos->Option E
 | 0,_,_,_,_=>none
 | m+1,C,a,r,p=>match r with
  | []=>compT m C a
  | b::r=>(compT m C a).bind fun a'=>(compAnd m C b r p).bind fun b'=>some (.and a' b')
noncomputable def compOr:Nat->Ctx->Expr->List Expr->Pos->Option E
 | 0,_,_,_,_=>none
 | m+1,C,a,r,p=>match r with
  | []=>compT m C a
  | b::r=>(compT m C a).bind fun a'=>(compOr m C b r p).bind fun b'=>some (.or a' b')
noncomputable def compA:Nat->Ctx->List Expr->Option (List E)
 | 0,_,_=>none
 | m+1,C,es=>match es with
  | []=>some []
  | e::r=>(Qf m C e).bind fun e'=>(compA m C r).bind fun r'=>some (e'::r')
noncomputable def compO:Nat->Ctx->Option Expr->Option (Option E)
 | 0,_,_=>none
 | m+1,C,none=>some none
 | m+1,C,some e=>(Qf m C e).bind fun e'=>some (some e')
noncomputable def compSrc:Nat->Ctx->Expr->Option Src
 | 0,_,_=>none
 | m+1,C,e=>match e with
  | .Call (.Name f p) args [] q=>if YW C f then(match C.gl.lookup f with
   | some _=>(Qf m C (.Call (.Name f p) args [] q)).map .seq
   | none=>if C.bl.contains f=false then none else if f="range" then(match args with
     | [a]=>(Qf m C a).map .rng
     | [a,b]=>(Qf m C a).bind fun a'=>(Qf m C b).map fun b'=>.rng2 a' b'
     | _=>none)
    else if f="zip" then(match args with
     | [a,b]=>(Qf m C a).bind fun a'=>(Qf m C b).map fun b'=>.zip a' b'
     | _=>none)
    else(Qf m C (.Call (.Name f p) args [] q)).map .seq)else none
  | e=>(Qf m C e).map .seq
end
theorem cE4 {C : Ctx} {x w1} : Qf (m + 1) C (.Name x w1) = (if x = "__debug__" \/ x = "__classdict__" then none else if Qd7 C x then (idx x C.N).map .var else if YW C x then (match C.gl.lookup x with | some (.con k) => some (.con k) | some (.txt t) => some (.c (.str t)) | _ => none) else none) := rfl
theorem cE5{C:Ctx}{a o b w1}:Qf (m+1) C (.BinOp a o b w1)=((Qf m C a).bind fun a'=>(Qf m C b).bind fun b'=>some (.op o a' b')):=rfl
theorem cE6{C:Ctx}{a w1}:Qf (m+1) C (.UnaryOp .USub a w1)=((Qf m C a).bind fun a'=>some (.neg a')):=rfl
theorem cE7{C:Ctx}{a w1}:Qf (m+1) C (.UnaryOp .Not a w1)=((compT m C a).bind fun a'=>some (.not a')):=rfl
theorem QnU{C:Ctx}{a o b w1}:Qf (m+1) C (.Compare a [o] [b] w1)=((Qf m C a).bind fun a'=>(Qf m C b).bind fun b'=>some (.cmp o a' b')):=rfl
theorem QnT{C:Ctx}{t a b w1}:Qf (m+1) C (.IfExp t a b w1)=((compT m C t).bind fun t'=>(Qf m C a).bind fun a'=>(Qf m C b).bind fun b'=>some (.ife t' a' b')):=rfl
theorem QnS{C:Ctx}{es w1 w2}:Qf (m+1) C (.Tuple es w1 w2)=(if es.length<=1000000 then(compA m C es).bind fun es'=>some (.tup es')else none):=rfl
theorem QnR{C:Ctx}{es w1}:Qf (m+1) C (.List es w1)=(if es.length<=1000000 then(compA m C es).bind fun es'=>some (.lst es')else none):=rfl
theorem QnQ{C:Ctx}{a b w1}:Qf (m+1) C (.Subscript a b w1)=(match Qg8 b with
   | some (.cut lo hi)=>(Qf m C a).bind fun a'=>(compO m C lo).bind fun l=>(compO m C hi).bind fun h=>some (.sl a' l h)
   | some .rev=>(Qf m C a).bind fun a'=>some (.rev a')
   | some .bad=>none
   | none=>(Qf m C b).bind fun b'=>match Qi4 a with
    | .tab ks vs=>if decide (ks.length<=15)&&!ks.isEmpty then(Qla ks vs).bind fun kvs=>some (.dis kvs b')else none
    | .nm x=>(match Qfi C x with|some k=>some (.tab k b')|none=>(Qf m C a).bind fun a'=>some (.ix a' b'))
    | .any=>(Qf m C a).bind fun a'=>some (.ix a' b')):=rfl
theorem QnP{C:Ctx}{a f w1}:Qf (m+1) C (.Attribute a f w1)=(if Ze a then(Qf m C a).bind fun a'=>(idx f C.T.fns').bind fun k=>some (.fld a' k)else none):=rfl
theorem QnO {C : Ctx} {f w1 args w2} : Qf (m + 1) C (.Call (.Name f w1) args [] w2) = (if f = "__debug__" \/ f = "__name__" \/ YW C f = false then none else match C.gl.lookup f with
   | some (.fn i)=>if hdC C=true then none else(compA m C args).bind fun es=>QjT C i es
   | some (.cls i)=>if hdC C=true then none else(compA m C args).bind fun es=>some (.make i es)
   | some (.con _)=>none
   | some (.txt _)=>none
   | none=>if C.bl.contains f=false then none else if f="isinstance" then(match args with
     | [a, .Name t _] => if YW C t /\ t ≠ "__debug__" /\ t ≠ "__name__" then (Qf m C a).bind fun a' => (Qho C t).bind fun ty => some (.isi a' ty) else none
     | _=>none)
    else if hdC C=true then none else match Qcd C f args with
     | some ra=>(compA m C ra).bind fun es=>some (.tupR es)
     | none=>match Qcz C f args with
      | some a=>(Qf m C a).bind fun a'=>some (.rev a')
      | none=>(Qj0 C f).bind fun b=>(compA m C args).bind fun es=>some (.bi b es)):=rfl
theorem QnN{C:Ctx}{o x p args q}:Qf (m+1) C (.Call (.Attribute o x p) args [] q)=(if Ze o&&(p.endLine==q.line)&&decide (args.length<29)then match idx x C.T.mns with
   | some k=>if hdC C=true then none else(Qf m C o).bind fun o'=>(compA m C args).bind fun es=>some (.meth k o' es)
   | none=>(QjZ x).bind fun b=>(Qf m C o).bind fun o'=>(compA m C args).bind fun es=>some (.bm b o' es)else none):=rfl
theorem QmG{C:Ctx}{elt gens scope w1}:Qf (m+1) C (.ListComp elt gens scope w1)=((match Qee gens with
   | some g=>if Y1 C g.xs scope&&!hdC C then(compSrc m C g.iter).bind fun src=>if Qcs src (tgN g.b 0)then(compTO m (C.inner g.xs scope) g.tl).bind fun t=>(Qf m (C.inner g.xs scope) elt).bind fun el=>some (.comp src g.b t el)else none else none
   | none=>none)):=rfl
theorem QnM{C:Ctx}{w1}:Qf (m+1) C (.Dict [] [] w1)=(some .dnew):=rfl
noncomputable def Y0(C:Ctx):Expr->Option Tg
 | .Name x _=>if Qau C x then(idx x C.N).map .name else none
 | .Tuple [.Name x _,.Name y _] _ _=>if Qau C x&&Qau C y&&decide (x≠y)then(idx x C.N).bind fun i=>(idx y C.N).map fun j=>.pair i j else none
 | _=>none
noncomputable def QmB:Expr->Option Bool
 | .Constant c _ _=>(match c with|.str _=>some true|_=>none)
 | .ListComp ..=>some false
 | _=>none
inductive As where
 | nm (x:Str)|at (o:Expr) (f:Str)|sub (o i:Expr)|two (x:Str) (p:Pos) (y:Str) (q:Pos)
noncomputable def QbV:Expr->Expr->Option As
 | .Name x p,.Name y q=>some (.two x p y q)
 | _,_=>none
noncomputable def as1:Expr->Option As
 | .Name x _=>some (.nm x)
 | .Attribute o f _=>some (.at o f)
 | .Subscript o i _=>some (.sub o i)
 | .Tuple es _ _=>(match es with|[a,b]=>QbV a b|_=>none)
 | _=>none
noncomputable def Qhf:List Expr->Option As
 | [t]=>as1 t
 | _=>none
noncomputable def QeO(C:Ctx)(x:Str):Bool:=match C.names.lookup x with
 | some .local=>true|_=>false
noncomputable def Qih:Expr->Option (Expr×Expr)
 | .Tuple es _ _=>(match es with|[a,b]=>some (a,b)|_=>none)
 | _=>none
noncomputable def QmF(m:Nat)(C:Ctx)(s:Stmt)(s0:S):Option S:=some s0
mutual
noncomputable def Z6:Nat->Ctx->Stmt->Option S
 | 0,_,_=>none
 | m+1,C,s=>match s with
  | .Pass _=>some .pass
  | .Break _=>some .brk
  | .Continue _=>some .cont
  | .Expr e _=>(match QmB e with
   | some true=>some .pass
   | some false=>none
   | none=>(Qf m C e).map .expr)
  | .Return v _=>(match v with
   | none=>some .retN
   | some e=>(Qf m C e).map .ret)
  | .Assign ts e _=>(match Qhf ts with
   | some (.nm x)=>if Qau C x then(idx x C.N).bind fun i=>(Qf m C e).bind fun e'=>some (.set i e')else none
   | some (.at o f)=>if Ze o then(Qf m C e).bind fun e'=>(Qf m C o).bind fun o'=>(idx f C.T.fns').bind fun k=>some (.fld o' k e')else none
   | some (.sub o i)=>if ZE i then(Qf m C e).bind fun e'=>(Qf m C o).bind fun o'=>(Qf m C i).bind fun i'=>some (.put o' i' e')else none
   | some (.two x p y q)=>if QeO C x&&QeO C y&&decide (x≠y)then(idx x C.N).bind fun i=>(idx y C.N).bind fun j=>(match Qih e with
     | some _=>none
     | none=>none)else none
   | none=>none)
  | .Raise _ _ _=>some .bad
  | .If t a b _=>(compT m C t).bind fun t'=>(compSs m C a).bind fun a'=>(compSs m C b).bind fun b'=>some (.ite t' a' b')
  | .While t a [] _=>(compT m C t).bind fun t'=>(compSs m C a).bind fun a'=>some (.while t' a')
  | .For tg it a [] _=>(Y0 C tg).bind fun tg'=>(compSrc m C it).bind fun it'=>if Qcs it' tg' then(compSs m C a).bind fun a'=>some (.loop tg' it' a')else none
  | _=>none
noncomputable def compSs:Nat->Ctx->List Stmt->Option (List S)
 | 0,_,_=>none
 | m+1,C,ss=>match ss with
  | []=>some []
  | s::r=>(Z6 m C s).bind fun s0=>(QmF m C s s0).bind fun s'=>(compSs m C r).bind fun r'=>some (s'::r')
end
end Iv
namespace L2
open PySem PySem.Spec PyProof.Rows
section
variable {X:Cx}
noncomputable def QhT(K:PySem.W.Frag):R2:=fun x y H Q=>∃a b ys,x=.ref a/\y=.ref b/\SqT K H a []/\SqT K H b ys/\Q (.ref b) H
theorem QdQ:OpR X (binaryOp .Add) (QhT X.K):=by
 intro pins s σ H x y v u Q I rx ry h;obtain⟨a,b,ys,rfl,rfl,ha,hb,q⟩:=h;cases rx;cases ry;obtain⟨i1,r1,ht,_⟩:=I.tuple ha;obtain⟨i2,r2,hb,_⟩:=I.tuple hb;cases r1;obtain⟨⟨cls,dd,data,sl⟩,ho,hc,n,hd⟩:=id ht;obtain⟨⟨cls2,dd2,data2,sl2⟩,ho2,hc2,n2,hd2⟩:=id hb;simp only at hc hd hc2 hd2;subst hc hd hc2 hd2
 exact concat_meets ⟨_,ho,rfl⟩ ⟨_,ho2,rfl⟩ noFill_tuple_add seq_tuple_add PySem.F.slot_tuple_add PySem.F.entry_tuple_add (PySem.F.args_tuple_add_2 _ _)
  (tuple_addW0 a b _ _ n n2 dd dd2 sl sl2 (by simp)) ⟨ho,ho2,⟨.ref b,H,I.tok _,rfl,q⟩⟩
structure Mk0(K:PySem.W.Frag)(C:Addr):Prop where
 makes:PySem.W.makesIn K C=true
 init:PySem.W.findIn K (.ref C) "__init__"=some (some (.builtin "object.__init__"))
 kp:PySem.W.keepIn K (.ref C)=true
noncomputable def Qfl(C:Addr):TE:=fun _ H Q=>∀x dx,H x=none->H dx=none->dx≠x->Q (.ref x) (upd (upd H dx (.own x)) x (.ins C dx []))
theorem Qbo{pins:List (Addr×Obj)}{σ:St}{H:Hp}{s:Shared}{Q:VK}{C:Addr}(M:Mk0 X.K C)(I:Inv X pins σ H s)
  (h:∀x dx,H x=none->H dx=none->dx≠x->Q (.ref x) (upd (upd H dx (.own x)) x (.ins C dx []))):
  wpAny (model X.prog X.w) X.A (call (.ref C) []) (EP X pins σ Q) X.xe s:=by
 have hq:=h (s.heap.objs.size+1) s.heap.objs.size (I.hok.fresh (Nat.le_succ _)) (I.hok.fresh (Nat.le_refl _)) (Nat.ne_of_lt (Nat.lt_succ_self _));have I2:=Inv.made (C:=C) I;have Y:=PySem.W.makes_of (M:=model X.prog X.w) I.kIn M.makes
 have hob:((s.heap.push PySem.W.emptyDict).push (PySem.W.instObj C s.heap.objs.size)).get? (s.heap.objs.size+1)=some (PySem.W.instObj C s.heap.objs.size):=by
  have e:(s.heap.push PySem.W.emptyDict).objs.size=s.heap.objs.size+1:=Heap.size_push ..;rw [<-e];exact Heap.get?_push_size _ rfl
 have t1:PySem.W.Looks (model X.prog X.w) ((s.heap.push PySem.W.emptyDict).push (PySem.W.instObj C s.heap.objs.size)) (typeOf (.ref (s.heap.objs.size+1))) (.ref C):=(PySem.W.Looks.ld hob).andThen .now
 have t2:PySem.W.Looks (model X.prog X.w) ((s.heap.push PySem.W.emptyDict).push (PySem.W.instObj C s.heap.objs.size)) (isInstance (.ref (s.heap.objs.size+1)) (.type "object")) true :=
  t1.andThen (Y.top.keeps fun b o e=>Heap.get?_push_of_some _ (Heap.get?_push_of_some _ e))
 refine wpAny_call (Qcy I.kIn M.makes M.init (fun self=>PySem.W.Looks.of_pure (PySem.W.oi_bind self)) ?_);obtain⟨hh,g,d,t,os⟩:=s;refine codeAny_call_builtin PySem.W.oi_plain PySem.W.entry_oi (@PySem.W.check_slot (model X.prog X.w) _ _ _ "object.__init__" "object" "__init__" (.ref (hh.objs.size+1)) [] [] _ PySem.W.oi_kind PySem.W.oi_split t2 (PySem.W.oi_args (.ref (hh.objs.size+1))) ?_);rw [PySem.W.oi_run];exact wpAny_pure (And.intro rfl ⟨V.ref (hh.objs.size+1),_,I2,rfl,hq⟩)
theorem Qck{C:Addr}{x:Str}{p pos:Pos}(M:Mk0 X.K C)(hg:Gl X x)(hm:X.mg x=some (.ref C))(hdb:(x==("__debug__":Str))=false:=by decide):PE X (.Call (.Name x p) [] [] pos) (Qfl C):=by
 intro pins s σ H Q I h;refine wpAny_Call_Name_kw (ZL I hg hm ?_ hdb);exact PySem.W.callWith_K0 I.kIn M.kp (Qbo M I h)
noncomputable def QmE:V->Option Value
 | .ty n=>some (.type n)
 | .ref a=>some (.ref a)
 | _=>none
noncomputable def TyE(K:PySem.W.Frag)(H:Hp)(x:V)(t:Value):Prop:=TyOf K H x t\/False
theorem Qel : CallR X (.builtin "isinstance") (fun xs H Q => ∃ x c cv t b, xs = [x, c] /\ QmE c = some cv /\ TyE X.K H x t /\ PySem.W.kitOne X.K t cv = some b /\ Q (.bl b) H) := by
 intro pins s σ H xs us Q I r h;obtain⟨x,c,cv,t,b,rfl,hc,ty,e,q⟩:=h
 rcases ty with ty|ty
 case inr=>exact ty.elim
 obtain⟨u,w',rfl,rx,rc⟩:=Qfe r
 have ec:w'=cv:=by
  cases c with
  | ty n=>cases(show w'=Value.type n from rc);exact Option.some.inj hc
  | ref a=>cases(show w'=Value.ref a from rc);exact Option.some.inj hc
  | _=>cases hc
 subst ec;exact QcH I rx ty e fun tk=>⟨.bl b,H,I.tok tk,rfl,q⟩
end
end L2
namespace Iv
open PySem PySem.Spec PyProof.Rows L2
variable {a p:Addr}{e:Expr}{ho:HO}{H:Hp}{n:Nat}{o:O}{T:Tbl}
noncomputable abbrev St:=L2.St
structure Adr where
 f:Nat->Addr
 c:Nat->Addr
 k:Nat->Addr
 s:Addr
noncomputable def Cg(i r:Int)(m:Nat):Prop:=∃q:Int,i=r+m*q
theorem Cg.exact{i r:Int}(h:Cg i r 0):i=r:=by obtain⟨q,e⟩:=h;simpa using e
theorem Cg.refl(i:Int)(m:Nat):Cg i i m:=⟨0,by simp⟩
noncomputable def RU(A:Adr)(α:List Addr):U->V->Prop
 | .non,v=>v=.non
 | .bl b,v=>v=.bl b
 | .int r m,v=>∃i,v=.int i/\Cg i r m
 | .str x,v=>v=.str ⟨x.toArray⟩
 | .ref n,v=>∃a,α[n]?=some a/\v=.ref a
 | .con k,v=>v=.ref (A.k k)
 | .scr,v=>v=.ref A.s
noncomputable abbrev RUs(A:Adr)(α:List Addr):List U->List V->Prop:=Paired (RU A α)
noncomputable def RF(T:Tbl)(A:Adr)(α:List Addr):List (Nat×U)->List (Str×V)->Prop:=Paired fun p q=>T.fns'[p.1]?=some q.1/\RU A α p.2 q.2
noncomputable def RK:U->Key->Prop
 | .int i m,k=>m=0/\k=Sum.inl i
 | .str x,k=>k=Sum.inr ⟨x.toArray⟩
 | _,_=>False
noncomputable def RD(A:Adr)(α:List Addr):List (U×U)->List (Key×V)->Prop:=Paired fun p q=>RK p.1 q.1/\RU A α p.2 q.2
noncomputable abbrev RKs:List U->List Key->Prop:=Paired RK
noncomputable def RT(A:Adr)(α:List Addr):List (List U×U)->List (List Key×V)->Prop:=Paired fun p q=>RKs p.1 q.1/\RU A α p.2 q.2
noncomputable def EF(T:Tbl)(H:Hp)(c:Nat)(dd:Option Addr):Prop:=∀f,T.efl.contains (c,f)=true->∃d od x,dd=some d/\T.fns'[f]?=some x/\H d=some (.frz od (.xd [(x,.non)]))
theorem EF.fz{H':Hp}{c:Nat}{dd:Option Addr}(h:EF T H c dd)(k:∀b o fs,H b=some (.frz o (.xd fs))->H' b=some (.frz o (.xd fs))):EF T H' c dd:=fun f q=>by
 obtain⟨d,od,x,e1,e2,e3⟩:=h f q;exact⟨d,od,x,e1,e2,k _ _ _ e3⟩
noncomputable def RO(T:Tbl)(A:Adr)(α:List Addr)(H:Hp)(a:Addr):O->Prop
 | .lst xs=>∃vs,H a=some (.lst vs)/\RUs A α xs vs
 | .tup xs=>∃vs,H a=some (.tup vs)/\RUs A α xs vs
 | .ins c fs=>∃dx fv,H a=some (.ins (A.c c) dx fv)/\RF T A α fs fv/\c<T.cls.length
 | .dic kvs=>∃kv,H a=some (.dK kv)/\RD A α kvs kv
 | .dct kvs=>∃kv,H a=some (.dT kv)/\RT A α kvs kv
 | .fzd kvs=>∃kv ob,H a=some (.frz ob (.dK kv))/\RD A α kvs kv
 | .fzt kvs=>∃kv ob,H a=some (.frz ob (.dT kv))/\RT A α kvs kv
 | .err c=>∃dd,H a=some (QnB a (A.c c) dd)/\T.ers.contains c=true/\EF T H c dd
structure RH(T:Tbl)(A:Adr)(α:List Addr)(hs:Hs)(H:Hp):Prop where
 len:α.length=hs.length
 nd:∀(i j:Nat) a,α[i]?=some a->α[j]?=some a->i=j\/∃vs,H a=some (.tup vs)
 ob:∀(n:Nat) a o,α[n]?=some a->hs[n]?=some o->RO T A α H a o
noncomputable def Qlw(K:PySem.W.Frag)(H:Hp)(a:Addr)(xs:List V):Prop:=(∃o,H a=some (.frz o (.lst xs))) \/
 ∃ (o : Obj) (its : Array Value) (n : Nat), K.lookup a = some o /\ o.cls = .type "list" /\ o.dict = none /\ o.data = .seq its n /\ its.size <= sizeLine /\ Vals xs its.toList
noncomputable def Scr(T:Tbl)(A:Adr)(K:PySem.W.Frag)(H:Hp):Prop:=∃vs,RUs A [] T.scr vs/\Qlw K H A.s vs
structure Rep(T:Tbl)(A:Adr)(K:PySem.W.Frag)(α:List Addr)(hs:Hs)(H:Hp):Prop where
 h:RH T A α hs H
 s:Scr T A K H
structure Ext(α α':List Addr)(H H':Hp):Prop where
 pre:∀(n:Nat) a,α[n]?=some a->α'[n]?=some a
 new:∀(n:Nat) a,α'[n]?=some a->α.length<=n->H a=none\/∃vs,H a=some (.tup vs)
 keep:∀b o,H b=some o->b∉α->H' b=some o
 fz:∀b o u,H b=some (.frz o u)->H' b=some (.frz o u)
 tr:∀b o,H b=some o->∃o',H' b=some o'/\∀vs,o=.tup vs↔o'=.tup vs
structure RS(A:Adr)(α:List Addr)(ρ:Rho)(σ:St):Prop where
 len:ρ.length=σ.length
 val:∀(i:Nat) u,ρ[i]?=some (some u)->∃v,σ[i]?=some (some v)/\RU A α u v
section
variable {A:Adr}{K:PySem.W.Frag}{α α' α1 α2:List Addr}{hs hs' h1 h2:Hs}{H' H1 H2:Hp}{u:U}{v:V}{us:List U}{vs:List V}{ρ:Rho}{σ:St}
theorem RU.mono(p:∀(n:Nat) a,α[n]?=some a->α'[n]?=some a)(h:RU A α u v):RU A α' u v:=by
 cases u with
 | ref n=>obtain⟨a,e,r⟩:=h;exact⟨a,p _ _ e,r⟩
 | _=>exact h
theorem RUs.mono(p:∀(n:Nat) a,α[n]?=some a->α'[n]?=some a)(h:RUs A α us vs):RUs A α' us vs:=Paired.mapP h fun _ _ r=>RU.mono p r
theorem RF.mono{fs:List (Nat×U)}{fv:List (Str×V)}(p:∀(n:Nat) a,α[n]?=some a->α'[n]?=some a)(h:RF T A α fs fv):RF T A α' fs fv:=Paired.mapP h fun _ _ r=>⟨r.1,r.2.mono p⟩
theorem RD.mono{fs:List (U×U)}{fv:List (Key×V)}(p:∀(n:Nat) a,α[n]?=some a->α'[n]?=some a)(h:RD A α fs fv):RD A α' fs fv:=Paired.mapP h fun _ _ r=>⟨r.1,r.2.mono p⟩
theorem RT.mono{fs:List (List U×U)}{fv:List (List Key×V)}(p:∀(n:Nat) a,α[n]?=some a->α'[n]?=some a)(h:RT A α fs fv):RT A α' fs fv:=Paired.mapP h fun _ _ r=>⟨r.1,r.2.mono p⟩
theorem RS.mono(p:∀(n:Nat) a,α[n]?=some a->α'[n]?=some a)(h:RS A α ρ σ):RS A α' ρ σ:=⟨h.len,fun i u e=>let ⟨v,e1,r⟩:=h.val i u e;⟨v,e1,r.mono p⟩⟩
theorem Ext.refl:Ext α α H H:=⟨fun _ _ e=>e,fun n a e l=>by
 have:=(List.getElem?_eq_some_iff.mp e).1
 omega,fun _ _ e _=>e,fun _ _ _ e=>e,fun _ o e=>⟨o,e,fun _=>Iff.rfl⟩⟩
theorem getElem?_lt(e:α[n]?=some a):n < α.length:=(List.getElem?_eq_some_iff.mp e).1
theorem Ext.trans(a:Ext α α1 H H1)(b:Ext α1 α2 H1 H2)(R:RH T A α2 h2 H2):Ext α α2 H H2 where
 fz:=fun c o kv e=>b.fz c o kv (a.fz c o kv e)
 pre:=fun n x e=>b.pre n x (a.pre n x e)
 tr:=fun c o e=>by
  obtain⟨o1,e1,q1⟩:=a.tr c o e;obtain⟨o2,e2,q2⟩:=b.tr c o1 e1;exact⟨o2,e2,fun vs=>(q1 vs).trans (q2 vs)⟩
 new:=fun n x e l=>by
  by_cases hn:n < α1.length
  ·have e1:α1[n]?=some α1[n]:=List.getElem?_eq_getElem hn;have e2:=b.pre n _ e1;rw [e]at e2;cases e2;exact a.new n _ e1 l
  ·cases q:H x with
   | none=>exact .inl rfl
   | some o =>
    obtain⟨o1,e1,q1⟩:=a.tr x o q
    rcases b.new n x e (by omega)with z|⟨vs,z⟩
    ·rw [e1]at z;cases z
    ·rw [e1]at z;cases z;exact .inr ⟨vs,congrArg some ((q1 vs).mpr rfl)⟩
 keep:=fun c o e hc=>by
  by_cases hm:c∈α1
  ·obtain⟨n,hn⟩:=List.getElem?_of_mem hm;by_cases l:n < α.length
   ·have e1:α[n]?=some α[n]:=List.getElem?_eq_getElem l;have:=a.pre n _ e1;rw [hn]at this;cases this;exact absurd (List.getElem_mem l) hc
   ·rcases a.new n c hn (by omega)with z|⟨vs,z⟩
    ·rw [z]at e;cases e
    ·rw [e]at z;cases z;obtain⟨o1,e1,q1⟩:=a.tr c _ e;obtain⟨o2,e2,q2⟩:=b.tr c o1 e1;rw [e2,((q1 vs).trans (q2 vs)).mp rfl]
  ·exact b.keep c o (a.keep c o e hc) hm
theorem RO.trk(h:RO T A α H a o):∃x,H a=some x/\(∀ob u,x≠.frz ob (.lst u))/\∀ob u,x≠.frz ob (.xd u):=by
 cases o with
 | lst xs=>obtain⟨vs,e,_⟩:=h;exact⟨_,e,(fun _ _ z=>nomatch z),fun _ _ z=>nomatch z⟩
 | tup xs=>obtain⟨vs,e,_⟩:=h;exact⟨_,e,(fun _ _ z=>nomatch z),fun _ _ z=>nomatch z⟩
 | ins c fs=>obtain⟨dx,fv,e,_⟩:=h;exact⟨_,e,(fun _ _ z=>nomatch z),fun _ _ z=>nomatch z⟩
 | dic _=>obtain⟨kv,e,_⟩:=h;exact⟨_,e,(fun _ _ z=>nomatch z),fun _ _ z=>nomatch z⟩
 | dct _=>obtain⟨kv,e,_⟩:=h;exact⟨_,e,(fun _ _ z=>nomatch z),fun _ _ z=>nomatch z⟩
 | fzd _=>obtain⟨kv,ob,e,_⟩:=h;exact⟨_,e,(fun _ _ z=>nomatch z),fun _ _ z=>nomatch z⟩
 | fzt _=>obtain⟨kv,ob,e,_⟩:=h;exact⟨_,e,(fun _ _ z=>nomatch z),fun _ _ z=>nomatch z⟩
 | err _=>obtain⟨dd,e,_⟩:=h;exact⟨_,e,(fun _ _ z=>nomatch z),fun _ _ z=>nomatch z⟩
theorem RH.trk(R:RH T A α hs H)(e:α[n]?=some a):∃o,hs[n]?=some o/\RO T A α H a o:=by
 have l:=getElem?_lt e;rw [R.len]at l;exact⟨hs[n],List.getElem?_eq_getElem l,R.ob n a _ e (List.getElem?_eq_getElem l)⟩
theorem RH.notIn(R:RH T A α hs H)(h:H p=none):p∉α:=fun m=>by
 obtain⟨n,e⟩:=List.getElem?_of_mem m;obtain⟨o,_,r⟩:=R.trk e;obtain⟨x,e,_⟩:=r.trk;rw [h]at e;cases e
theorem RH.nd_keep(R:RH T A α hs H)(k:∀b x,b∈α->H b=some x->H' b=some x):∀(i j:Nat) a,α[i]?=some a->α[j]?=some a->i=j\/∃vs,H' a=some (.tup vs):=fun i j a e1 e2 =>
 (R.nd i j a e1 e2).imp id fun⟨vs,q⟩=>⟨vs,k a _ (List.mem_of_getElem? e1) q⟩
theorem Qcw(h:∀(i j:Nat) a,α[i]?=some a->α[j]?=some a->i=j\/∃vs,H a=some (.tup vs))(n:p∉α):∀(i j:Nat) a,(α++[p])[i]?=some a->(α++[p])[j]?=some a->i=j\/∃vs,H a=some (.tup vs):=fun i j a e1 e2=>by
 have cs:∀{k:Nat},(α++[p])[k]?=some a->α[k]?=some a\/(k=α.length/\a=p):=fun {k} e=>by
  by_cases l:k < α.length
  ·rw [List.getElem?_append_left l]at e;exact .inl e
  ·rw [List.getElem?_append_right (by omega)]at e
   have:=(List.getElem?_eq_some_iff.mp e).1;simp at this
   have hk:k=α.length:=by omega
   subst hk;simp at e;exact .inr ⟨rfl,e.symm⟩
 rcases cs e1 with q1|⟨q1,w1⟩
 ·rcases cs e2 with q2|⟨q2,w2⟩
  ·exact h i j a q1 q2
  ·exact absurd (w2▸List.mem_of_getElem? q1) n
 ·rcases cs e2 with q2|⟨q2,w2⟩
  ·exact absurd (w1▸List.mem_of_getElem? q2) n
  ·exact .inl (q1.trans q2.symm)
theorem RO.keep(h:RO T A α H a o)(p:∀(n:Nat) a,α[n]?=some a->α'[n]?=some a)(k:∀b x,H b=some x->(b=a\/∃o fs,x=.frz o (.xd fs))->H' b=some x):RO T A α' H' a o:=by
 have kx:=k;have k:=fun x e=>kx a x e (.inl rfl)
 cases o with
 | lst xs=>obtain⟨vs,e,r⟩:=h;exact⟨vs,k _ e,RUs.mono p r⟩
 | tup xs=>obtain⟨vs,e,r⟩:=h;exact⟨vs,k _ e,RUs.mono p r⟩
 | ins c fs=>obtain⟨dx,fv,e,r,l⟩:=h;exact⟨dx,fv,k _ e,RF.mono p r,l⟩
 | dic _=>obtain⟨kv,e,r⟩:=h;exact⟨kv,k _ e,RD.mono p r⟩
 | dct _=>obtain⟨kv,e,r⟩:=h;exact⟨kv,k _ e,RT.mono p r⟩
 | fzd _=>obtain⟨kv,ob,e,r⟩:=h;exact⟨kv,ob,k _ e,RD.mono p r⟩
 | fzt _=>obtain⟨kv,ob,e,r⟩:=h;exact⟨kv,ob,k _ e,RT.mono p r⟩
 | err _=>obtain⟨dd,e,l,q⟩:=h;exact⟨dd,k _ e,l,q.fz fun b o fs e=>kx b _ e (.inr ⟨o,fs,rfl⟩)⟩
theorem Scr.keep(h:Scr T A K H)(k:∀x,H A.s=some x->(∃o u,x=.frz o (.lst u))->H' A.s=some x):Scr T A K H':=by
 obtain⟨vs,r,q|q⟩:=h
 ·obtain⟨o,e⟩:=q;exact⟨vs,r,.inl ⟨o,k _ e ⟨_,_,rfl⟩⟩⟩
 ·exact⟨vs,r,.inr q⟩
theorem Scr.sq(h:Scr T A K H):∃vs,RUs A α T.scr vs/\SqL K H A.s vs:=by
 obtain⟨vs,r,q⟩:=h
 refine⟨vs,RUs.mono (fun n a e=>by simp at e) r,?_⟩
 rcases q with⟨o,e⟩|q
 ·exact .inl (.inr ⟨o,e⟩)
 ·exact .inr q
theorem QW:(α++[p])[α.length]?=some p:=by simp
theorem QI:∀(n:Nat) a,α[n]?=some a->(α++[p])[n]?=some a:=fun n a e=>by
 rw [List.getElem?_append_left (getElem?_lt e)];exact e
theorem QO{β:Type}{l:List β}{p a:β}(e:(l++[p])[n]?=some a):l[n]?=some a\/(n=l.length/\a=p):=by
 by_cases h:n<l.length
 ·rw [List.getElem?_append_left h]at e;exact .inl e
 ·rw [List.getElem?_append_right (by omega)]at e
  have:n-l.length=0:=by
   cases q:n-l.length with
   | zero=>rfl
   | succ k=>rw [q]at e;simp at e
  rw [this]at e;simp at e
  exact .inr ⟨by omega,e.symm⟩
theorem Rep.new(R:Rep T A K α hs H)(hp:H p=none)(r:RO T A (α++[p]) (upd H p ho) p o):Rep T A K (α++[p]) (hs++[o]) (upd H p ho)/\Ext α (α++[p]) H (upd H p ho):=by
 have ne:∀b x,H b=some x->b≠p:=fun b x e z=>by rw [z,hp]at e;cases e
 refine⟨⟨⟨by simp [R.h.len],Qcw (R.h.nd_keep fun b x _ e=>by rw [Qh (ne _ _ e)];exact e) (R.h.notIn hp),fun n a ob e1 e2=>?_⟩,R.s.keep fun x e _=>by rw [Qh (ne _ _ e)];exact e⟩,⟨QI,fun n a e l=>?_,fun b x e _=>by rw [Qh (ne _ _ e)];exact e,fun b x kv e=>by rw [Qh (ne _ _ e)];exact e,fun b x e=>⟨x,by rw [Qh (ne _ _ e)];exact e,fun _=>Iff.rfl⟩⟩⟩
 ·rcases QO e1 with q|⟨q1,q2⟩
  ·rcases QO e2 with z|⟨z,_⟩
   ·exact RO.keep (R.h.ob n a ob q z) QI fun _ x e _=>by rw [Qh (ne _ _ e)];exact e
   ·have:=getElem?_lt q;rw [R.h.len]at this;omega
  ·subst q2
   rcases QO e2 with z|⟨_,z⟩
   ·have:=(List.getElem?_eq_some_iff.mp z).1;rw [<-R.h.len]at this;omega
   ·subst z;exact r
 ·rcases QO e with q|⟨_,q⟩
  ·have:=getElem?_lt q;omega
  ·rw [q];exact .inl hp
theorem Rep.put0(R:Rep T A K α hs H)(ha:α[n]?=some a)(r:RO T A α (upd H a ho) a o)(ht:∀vs,H a≠some (.tup vs):=by intro _ z;simp only [*,Option.some.injEq,reduceCtorEq]at z):Rep T A K α (hs.set n o) (upd H a ho):=by
 have ta:=R.h.trk ha;obtain⟨o0,_,r0⟩:=ta;obtain⟨x0,e0,nf,nx⟩:=r0.trk
 have nd:∀(i j:Nat) c,α[i]?=some c->α[j]?=some c->i=j\/∃vs,upd H a ho c=some (.tup vs):=fun i j c e1 e2=>by
  rcases R.h.nd i j c e1 e2 with q|⟨vs,q⟩
  ·exact .inl q
  ·exact .inr ⟨vs,by rw [Qh (fun(z:c=a)=>ht vs (z▸q))];exact q⟩
 refine⟨⟨by simp [R.h.len],nd,fun m b ob e1 e2=>?_⟩,R.s.keep fun x e z=>?_⟩
 ·by_cases hm:m=n
  ·subst hm;rw [ha]at e1;cases e1
   have l:m<hs.length:=by rw [<-R.h.len];exact getElem?_lt ha
   rw [List.getElem?_set_self l]at e2;cases e2;exact r
  ·rw [List.getElem?_set_ne (Ne.symm hm)]at e2
   have hb:b≠a:=fun z=>by
    rcases R.h.nd m n a (z▸e1) ha with q|⟨vs,q⟩
    ·exact hm q
    ·exact ht vs q
   refine RO.keep (R.h.ob m b ob e1 e2) (fun _ _ e=>e) fun c x e w=>?_
   rcases w with rfl|⟨oz,fs,rfl⟩
   ·rw [Qh hb];exact e
   ·rw [Qh (fun z=>by rw [z,e0]at e;cases e;exact nx _ _ rfl)];exact e
 ·obtain⟨ob,u,z⟩:=z
  have hb:A.s≠a:=fun q=>by rw [q,e0]at e;cases e;exact nf _ _ z
  rw [Qh hb];exact e
theorem Rep.put(R:Rep T A K α hs H)(ha:α[n]?=some a)(r:RO T A α (upd H a ho) a o)(hz:∀ob u,H a≠some (.frz ob u):=by intro _ _ z;simp only [*,Option.some.injEq,reduceCtorEq]at z)(ht:∀vs,H a≠some (.tup vs):=by intro _ z;simp only [*,Option.some.injEq,reduceCtorEq]at z)(hh:∀vs,ho≠.tup vs:=by intro _ z;cases z):Rep T A K α (hs.set n o) (upd H a ho)/\Ext α α H (upd H a ho):=by
 refine⟨R.put0 ha r ht,⟨fun _ _ e=>e,fun m b e l=>by have:=getElem?_lt e;omega,fun b x e hb=>?_,fun b ob kv e=>?_,fun b x e=>?_⟩⟩
 ·have hb':b≠a:=fun z=>hb (z▸List.mem_of_getElem? ha);rw [Qh hb'];exact e
 ·have hb':b≠a:=fun z=>hz ob kv (z▸e);rw [Qh hb'];exact e
 ·by_cases hb':b=a
  ·subst hb';exact⟨ho,Qq,fun vs=>⟨fun z=>absurd (z▸e) (ht vs),fun z=>absurd z (hh vs)⟩⟩
  ·exact⟨x,by rw [Qh hb'];exact e,fun _=>Iff.rfl⟩
theorem RS.get(R:RS A α ρ σ){i:Nat}{u:U}(e:ρ[i]?=some (some u)):∃v,σ[i]?=some (some v)/\RU A α u v:=R.val i u e
theorem RS.set(R:RS A α ρ σ)(i:Nat)(r:RU A α u v):RS A α (ρ.set i (some u)) (σ.set i (some v)):=by
 refine⟨by simp [R.len],fun j w e=>?_⟩
 by_cases h:j=i
 ·subst h
  have l:j < ρ.length:=by
   have:=(List.getElem?_eq_some_iff.mp e).1;simpa using this
  rw [List.getElem?_set_self l]at e;cases e
  exact⟨v,List.getElem?_set_self (by rw [<-R.len];exact l),r⟩
 ·rw [List.getElem?_set_ne (Ne.symm h)]at e;rw [List.getElem?_set_ne (Ne.symm h)];exact R.val j w e
end
noncomputable def flE(A:Adr)(α:List Addr)(D:Ends)(σ:St)(H:Hp):Fl->Prop
 | .next=>D.nx σ H
 | .brk=>D.bk σ H
 | .cont=>D.ct σ H
 | .ret u=>∀v,RU A α u v->D.rt v H
section
variable (T:Tbl)(A:Adr)(K:PySem.W.Frag)
noncomputable def TI(f:Rho->Hs->Option (U×Hs)):TE:=fun σ H Q=>∃α ρ hs u hs',RS A α ρ σ/\Rep T A K α hs H/\f ρ hs=some (u,hs') /\
 ∀α' v H',Ext α α' H H'->Rep T A K α' hs' H'->RU A α' u v->Q v H'
noncomputable def TIT(f:Rho->Hs->Option (Bool×Hs)):TT:=fun σ H Q=>∃α ρ hs u hs',RS A α ρ σ/\Rep T A K α hs H/\f ρ hs=some (u,hs') /\
 ∀α' H',Ext α α' H H'->Rep T A K α' hs' H'->Q u H'
noncomputable def TIA(f:Rho->Hs->Option (List U×Hs)):TA:=fun σ H Q=>∃α ρ hs us hs',RS A α ρ σ/\Rep T A K α hs H/\f ρ hs=some (us,hs') /\
 ∀α' vs H',Ext α α' H H'->Rep T A K α' hs' H'->RUs A α' us vs->Q vs H'
noncomputable def TIS(f:Ex):TS:=fun D σ H=>∃α ρ hs fl ρ' hs',RS A α ρ σ/\Rep T A K α hs H/\f ρ hs=some (fl,ρ',hs') /\
 ∀α' σ' H',Ext α α' H H'->Rep T A K α' hs' H'->RS A α' ρ' σ'->flE A α' D σ' H' fl
end
section
variable {A:Adr}{K:PySem.W.Frag}{α:List Addr}{ρ:Rho}{σ:St}{hs h1:Hs}
theorem TI.run{f:Rho->Hs->Option (U×Hs)}{u:U}{Q:VK}(rs:RS A α ρ σ)(rp:Rep T A K α hs H)(h:f ρ hs=some (u,h1))
  (k:∀α1 v H1,Ext α α1 H H1->Rep T A K α1 h1 H1->RU A α1 u v->RS A α1 ρ σ->Q v H1):TI T A K f σ H Q :=
 ⟨α,ρ,hs,u,h1,rs,rp,h,fun α1 v H1 e r q=>k α1 v H1 e r q (rs.mono e.pre)⟩
theorem TIT.run{f:Rho->Hs->Option (Bool×Hs)}{u:Bool}{Q:Bool->Hp->Prop}(rs:RS A α ρ σ)(rp:Rep T A K α hs H)(h:f ρ hs=some (u,h1))
  (k:∀α1 H1,Ext α α1 H H1->Rep T A K α1 h1 H1->RS A α1 ρ σ->Q u H1):TIT T A K f σ H Q :=
 ⟨α,ρ,hs,u,h1,rs,rp,h,fun α1 H1 e r=>k α1 H1 e r (rs.mono e.pre)⟩
theorem TIA.run{f:Rho->Hs->Option (List U×Hs)}{us:List U}{Q:List V->Hp->Prop}(rs:RS A α ρ σ)(rp:Rep T A K α hs H)(h:f ρ hs=some (us,h1))
  (k:∀α1 vs H1,Ext α α1 H H1->Rep T A K α1 h1 H1->RUs A α1 us vs->RS A α1 ρ σ->Q vs H1):TIA T A K f σ H Q :=
 ⟨α,ρ,hs,us,h1,rs,rp,h,fun α1 v H1 e r q=>k α1 v H1 e r q (rs.mono e.pre)⟩
end
section
variable {X:Cx}
theorem QR{t t':TE}(h:PE X e t)(i:∀σ H Q,t' σ H Q->t σ H Q):PE X e t':=fun pins s σ H Q I q=>h pins s σ H Q I (i σ H Q q)
theorem Qg3{t t':TT}(h:PT X e t)(i:∀σ H Q,t' σ H Q->t σ H Q):PT X e t':=fun pins s σ H Q I q=>h pins s σ H Q I (i σ H Q q)
theorem QjD{t t':TT}(h:PW X e t)(i:∀σ H Q,t' σ H Q->t σ H Q):PW X e t':=fun wh pins s σ H Q I q=>h wh pins s σ H Q I (i σ H Q q)
theorem QjF{es:List Expr}{t t':TA}(h:PA X es t)(i:∀σ H Q,t' σ H Q->t σ H Q):PA X es t':=fun pos pins s σ H Q I q=>h pos pins s σ H Q I (i σ H Q q)
theorem Z8{st:Stmt}{t t':TS}(h:PS X st t)(i:∀D σ H,t' D σ H->t D σ H):PS X st t':=fun pins s σ H D I q=>h pins s σ H D I (i D σ H q)
theorem Qe6{st:List Stmt}{t t':TS}(h:PSs X st t)(i:∀D σ H,t' D σ H->t D σ H):PSs X st t':=fun pins s σ H D I q=>h pins s σ H D I (i D σ H q)
end
end Iv
namespace Iv
open PySem PySem.Spec PyProof.Rows L2
variable {A:Adr}{C:Ctx}{X:Cx}{x:Str}{mg:Str->Option Value}{T:Tbl}
noncomputable def tyV:Ty->String
 | .non=>"NoneType"|.bool=>"bool"|.int=>"int"|.str=>"str"|.list=>"list"|.tuple=>"tuple"|.dict=>"dict"|.cls _=>"object"|.vale=>"ValueError"
noncomputable def tyW(A:Adr):Ty->Value
 | .cls c=>.ref (A.c c)
 | t=>.type (tyV t)
structure ClOk(T:Tbl)(A:Adr)(K:PySem.W.Frag)(i:Nat)(C:Cl):Prop where
 cls:Cls K (A.c i)
 nf:∀x∈T.fns',NoAttr K (A.c i) x
 me:∀m f,C.meths.lookup m=some f->∃x,T.mns[m]?=some x/\Meth K (A.c i) x (A.f f)
 mks:PySem.W.makesIn K (A.c i)=true
 kp:PySem.W.keepIn K (.ref (A.c i))=true
 ini:match C.init with
  | some f => PySem.W.findIn K (.ref (A.c i)) "__init__" = some (some (.ref (A.f f))) /\ PySem.W.isFn K (.ref (A.f f)) = true
  | none=>PySem.W.findIn K (.ref (A.c i)) "__init__"=some (some (.builtin "object.__init__"))
 ty:∀(H:Hp) (a dx:Addr) (fs:List (Str×V)),H a=some (.ins (A.c i) dx fs)->TyOf K H (.ref a) (.ref (A.c i))
structure FunD(K:PySem.W.Frag)(x qual:Str)(st:Stmt)(f:Addr)(fd:FuncData):Prop where
 ex:∃(oc:Value) (od:Option Addr) (dV kV doc pm:Value) (an:Option Addr) (cdv ct:Value) (osl:Array (Option Value)),
  fd=PySem.W.fnOf x qual (Jk st) (ZC st) (QB st) dV kV doc pm an cdv ct/\K.lookup f=some ⟨oc,od,.func fd,osl⟩/\PySem.W.codeIn K cdv qual=true
 kp:PySem.W.keepIn K (.ref f)=true
theorem FunD.ok{P:Program}{w:World}{K:PySem.W.Frag}{base:Heap}{qual:Str}{st:Stmt}{f:Addr}{fd:FuncData}{N ps:List Str}{k:Nat}{sp:Sp}(F:FunD K x qual st f fd)(S:FnScope N ps (QB st))(len:∀vs H Q E,sp vs H Q E->vs.length=ps.length)
  (hbody:∀(cdv:Value) (A:Around) (outer:List Env) (s:Shared) (H:Hp) (vs:List V) (Q:VK) (E:XK),Room k (A.deeper (envOfC qual (QB st) s.heap.objs.size f cdv))->sp vs H Q E ->
   ∃t,PSs (QeU CX0 P w K mg base N qual (QB st) f cdv A outer s H E).nox (ZC st) t/\t { nx:=fun _ H'=>Q .non H',rt:=Q } (start N vs) H):FnOk P w K mg base CX0 (k+1) f fd ps sp:=by
 obtain⟨oc,od,dV,kV,doc,pm,an,cdv,ct,osl,rfl,lk,hcd⟩:=F.ex;refine Qk7 lk hcd S len fun A outer s H vs Q E hr hsp=>?_;obtain⟨t,h,q⟩:=hbody cdv A outer s H vs Q E hr hsp;exact⟨t,h.nox,q⟩
theorem FunD.same{K:PySem.W.Frag}{y q q':Str}{st st':Stmt}{f:Addr}{fd fd':FuncData}(a:FunD K x q st f fd)(b:FunD K y q' st' f fd'):fd=fd':=by
 obtain⟨_,_,_,_,_,_,_,_,_,_,_,l1,_⟩:=a.ex;obtain⟨_,_,_,_,_,_,_,_,_,_,_,l2,_⟩:=b.ex;rw [l1]at l2;cases l2;rfl
noncomputable def kg{β:Type}(us ws:List β):List β:=us++ws.take 1
noncomputable def QjI(A:Adr)(K:PySem.W.Frag)(fd:FuncData)(D:Df):Prop:=∃(ds:List Value) (dvs:List V),RUs A [] D.ds dvs/\Vals dvs ds/\(∀n,Binds K fd D.ps (ds.drop n))/\KBinds K fd D.ps [D.last] kg kg
noncomputable def Qdg(K:PySem.W.Frag)(mg:Str->Option Value)(C:Addr)(x:Str):Prop:=PySem.W.hasDictIn K C=true/\PySem.W.findIn K (.ref C) x=some none/\∃fI fd ps,Exi K C fI/\Binds K fd ps [.none]/\∀P w base,FnOk P w K mg base CX0 2 fI fd ps (spI C x .non)
structure Txt(T:Tbl)(A:Adr)(K:PySem.W.Frag)(mg:Str->Option Value):Prop where
 fn:∀i F,T.fns[i]?=some F->∃fd,FunD K F.name F.qual F.st (A.f i) fd/\Binds K fd F.ps []/\FnScope F.N F.ps (QB F.st)/\F.ps.length=F.np/\F.N.length=F.nN
 df:∀i D,T.dfl.lookup i=some D->∃fd x q st,FunD K x q st (A.f i) fd/\QjI A K fd D/\∀F,T.fns[i]?=some F->F.ps=D.ps/\F.np=D.np
 cl:∀i C,T.cls[i]?=some C->ClOk T A K i C
 fm:∀x∈T.fns',x∉T.mns
 fd:T.fns'.Nodup
 isi:∀k t b,T.isi.lookup (k,t)=some b->PySem.W.kitOne K (tyW A k) (tyW A t)=some b
 co:∀k c,T.cons[k]?=some c->match c with
  | Co.tup xs=>∃vs,RUs A [] xs vs/\∀H,SqT K H (A.k k) vs
  | Co.lst xs=>∃vs,RUs A [] xs vs/\∀H,SqL K H (A.k k) vs
  | Co.tab _=>True
 er : ∀ c, T.ers.contains c = true -> ErrCls K (A.c c) /\ ((∀ f, T.efl.contains (c, f) = false) /\ PySem.W.excIn K (A.c c) Qdo "ValueError.__new__" = true \/ ∃ f x, T.efl.contains (c, f) = true /\ (∀ f', T.efl.contains (c, f') = true -> f' = f) /\ T.fns'[f]? = some x /\ Qdg K mg (A.c c) x)
 es:∀c c',T.esb.contains (c,c')=true->PySem.W.exmOne K (.ref (A.c c)) (.ref (A.c c'))=some true
noncomputable def Qd4:U->Key->Prop
 | .int i 0,k=>k=.inl i
 | .str x,k=>k=.inr ⟨x.toArray⟩
 | _,_=>False
noncomputable def JY(P:Program)(w:World)(T:Tbl)(A:Adr)(K:PySem.W.Frag):Prop:=∀k kvs,T.cons[k]?=some (.tab kvs) ->
 ∃vs:List (Key×Value),(A.k k==sysModules)=false/\(∀h:Heap,K.In h->h.DictOf (Zn P w) (A.k k) vs)/\Paired (fun(p:U×U) (q:Key×Value)=>Qd4 p.1 q.1/\∃v,RU A [] p.2 v/\RelV v q.2) kvs vs
structure GX(T:Tbl)(A:Adr)(C:Ctx)(X:Cx):Prop where
 CT:C.T=T
 N:X.N=C.N
 nd:X.N.Nodup
 sc:X.env.scope.names=C.names
 calm:hdC C=false->X.calm=true
 kind:X.env.scope.kind=.function
 xe:X.xe=fun _ _=>False
 gfn:∀x i,C.gl.lookup x=some (.fn i)->X.mg x=some (.ref (A.f i))
 gcl:∀x i,C.gl.lookup x=some (.cls i)->X.mg x=some (.ref (A.c i))
 gco:∀x k,C.gl.lookup x=some (.con k)->X.mg x=some (.ref (A.k k))
 gtx:∀x t,C.gl.lookup x=some (.txt t)->∃k,X.mg x=some (.str ⟨t.toArray⟩ k)
 blt:∀x,¬C.bl.contains x=false->X.mg x=none
 txt:Txt T A X.K X.mg
 tab:JY X.prog X.w T A X.K
noncomputable def spC(T:Tbl)(A:Adr)(K:PySem.W.Frag)(cf:Cf)(f:Nat):Sp:=fun vs H Q _=>∃α us hs u hs',RUs A α us vs/\Rep T A K α hs H/\cf f us hs=some (u,hs')/\(∃F,T.fns[f]?=some F/\us.length=F.np) /\
 ∀α' v H',Ext α α' H H'->Rep T A K α' hs' H'->RU A α' u v->Q v H'
noncomputable def spX(T:Tbl)(A:Adr)(K:PySem.W.Frag)(xf:Nat->List U->Hs->Option (Nat×Hs))(f:Nat):Sp:=fun vs H _ E=>∃α us hs c hs',RUs A α us vs/\Rep T A K α hs H/\xf f us hs=some (c,hs')/\(∃F,T.fns[f]?=some F/\us.length=F.np) /\
 ∀α' H' dd,Ext α α' H H'->Rep T A K α' hs' H'->EF T H' c dd->E (.ref (A.c c)) dd H'
theorem ZB{x:Str}:∀{N:List Str} {i:Nat},idx x N=some i->N[i]?=some x
 | [],_,h=>by simp [idx]at h
 | y::r,i,h=>by
  unfold idx at h;split at h
  ·rename_i e;cases h;simp [e]
  ·cases q:idx x r with
   | none=>rw [q]at h;cases h
   | some j =>
    rw [q]at h;cases h;simpa using ZB q
theorem Qhl(g:GX T A C X)(h:Qd7 C x=true):Vis X.env.scope x:=by
 unfold Qd7 at h;unfold Vis;rw [g.sc];split at h<;>simp_all
theorem QcD(g:GX T A C X)(h:Qau C x=true):L2.Loc X.env.scope x:=by
 unfold Qau at h;unfold L2.Loc;rw [g.sc];split at h<;>simp_all
theorem Zf(g:GX T A C X)(h:YW C x=true):Gl X x:=by
 unfold YW at h;show X.env.scope.names.lookup x=some .globalImplicit;rw [g.sc];split at h
 ·assumption
 ·cases h
theorem QY{y:Str}(h:x≠y):(x==y)=false:=by simpa using h
theorem Zb{o:Expr}{f:Str}{env:Env}{w:Sem Value}(h:Ze o=true):attributeBase o f env w=w:=by
 unfold attributeBase;split
 ·cases h
 ·rfl
theorem YT{b:Expr}(h:ZE b=true):Qdb b:=by
 intro o i
 cases b<;>first|rfl|cases h
theorem Qn{e:Expr}{es:List Expr}{env:Env}(h:∀x p,e≠.Starred x p):starEach (e::es) env=(false,eval e env)::starEach es env:=by
 cases e<;>first|rfl|exact absurd rfl (h _ _)
noncomputable def Y4(es:List Expr):Prop:=∀e∈es,∀x p,e≠.Starred x p
theorem Zl{env:Env}{pos:Pos}:∀{es:List Expr},Y4 es->(backTo pos (starEach es env)).any (·.1)=false
 | [],_=>rfl
 | e::r,h=>by
  rw [Qn (h e (List.mem_cons_self ..))];have ih:=Zl (env:=env) (pos:=pos) (es:=r) fun x hx=>h x (List.mem_cons_of_mem _ hx);unfold backTo at ih ⊢;rw [List.map_cons,List.any_cons,ih];rfl
theorem QE{m:Nat}{e:Expr}{ir:E}(h:Qf m C e=some ir):∀x p,e≠.Starred x p:=by
 rintro x p rfl
 cases m<;>first|exact nomatch (show(none:Option E)=some _ from h)|simp [Qf]at h
theorem Qv{C:Ctx}:∀{m:Nat} {es:List Expr} {irs:List E},compA m C es=some irs->Y4 es
 | 0,_,_,h=>by simp [compA]at h
 | m+1,[],_,_=>fun _ h=>nomatch h
 | m+1,e::r,irs,h=>by
  simp only [compA,Option.bind_eq_some_iff]at h;obtain⟨e',he,r',hr,_⟩:=h;intro x hx
  rcases List.mem_cons.mp hx with rfl|hx
  ·exact QE he
  ·exact Qv hr x hx
section
variable {K:PySem.W.Frag}{α:List Addr}{hs hs':Hs}{H:Hp}{u w:U}{v y:V}
theorem RUs.length{us:List U}{vs:List V}(r:RUs A α us vs):us.length=vs.length:=Paired.length r
theorem RUs.get:∀{us:List U} {vs:List V} {i:Nat} {u:U},RUs A α us vs->us[i]?=some u->∃v,vs[i]?=some v/\RU A α u v
 | _,_,_,_,.nil,e=>by simp at e
 | _,_,0,_,.cons r _,e=>by simp at e;subst e;exact⟨_,rfl,r⟩
 | _,_,i+1,u,.cons _ t,e=>by
  obtain⟨v,h1,h2⟩:=RUs.get (i:=i) (u:=u) t (by simpa using e)
  exact⟨v,by simpa using h1,h2⟩
theorem RUs.append:∀{us ws:List U} {vs ys:List V},RUs A α us vs->RUs A α ws ys->RUs A α (us++ws) (vs++ys)
 | _,_,_,_,.nil,s=>s
 | _,_,_,_,.cons r t,s=>.cons r (RUs.append t s)
theorem Yr{xs:List U}{K':PySem.W.Frag}(tx:Txt T A K mg)(R:Rep T A K α hs H)(h:Q8 T u hs=some xs)(r:RU A α u v):∃a vs,v=.ref a/\RUs A α xs vs/\(SqL K H a vs\/SqT K H a vs):=by
 cases u with
 | ref n =>
  obtain⟨a,ha,rfl⟩:=r;simp only [Q8]at h;split at h
  ·rename_i ys e;cases h;obtain⟨vs,q,rr⟩:=R.h.ob n a _ ha e;exact⟨a,vs,rfl,rr,.inl (SqL.of q)⟩
  ·rename_i ys e;cases h;obtain⟨vs,q,rr⟩:=R.h.ob n a _ ha e;exact⟨a,vs,rfl,rr,.inr (SqT.of q)⟩
  ·cases h
 | con k =>
  simp only [Q8]at h;split at h
  ·rename_i ys e;cases h;obtain⟨vs,rr,q⟩:=tx.co k _ e
   exact⟨_,vs,r,RUs.mono (fun n a e=>by simp at e) rr,.inl (q H)⟩
  ·rename_i ys e;cases h;obtain⟨vs,rr,q⟩:=tx.co k _ e
   exact⟨_,vs,r,RUs.mono (fun n a e=>by simp at e) rr,.inr (q H)⟩
  ·cases h
 | scr =>
  simp only [Q8]at h;cases h;obtain⟨vs,rr,q⟩:=R.s.sq (α:=α);exact⟨_,vs,r,rr,.inl q⟩
 | _=>simp [Q8]at h
theorem Zg(x:List Nat):({ cps:=x.toArray }:Str).length=x.length:=by simp [Str.length]
theorem big:(1000000:Nat)<=sizeLine:=by decide
theorem QbX{b:Bool}(tx:Txt T A K mg)(R:Rep T A K α hs H)(h:Qi T u hs=some b)(r:RU A α u v):QjC K v H b:=by
 have sq:∀{xs:List U},Q8 T u hs=some xs->b=!xs.isEmpty->QjC K v H b:=fun {xs} e1 e2=>by
  obtain⟨a,vs,rfl,rr,q⟩:=Yr (K':=K) tx R e1 r
  have e3:b=!vs.isEmpty:=by
   rw [e2];cases rr<;>rfl
  rcases q with q|q
  ·exact .inl ⟨vs,q,e3⟩
  ·exact .inr (.inl ⟨vs,q,e3⟩)
 cases u with
 | non=>simp only [Qi]at h;cases h;cases r;rfl
 | bl c=>simp only [Qi]at h;cases h;cases r;rfl
 | int i m =>
  cases m with
  | zero =>
   simp only [Qi]at h;cases h;obtain⟨j,rfl,c⟩:=r;cases c.exact;show decide (i≠0)=(i != 0);by_cases q:i=0<;>simp [q]
  | succ m=>simp [Qi,Q8]at h
 | str x =>
  simp only [Qi]at h;split at h
  ·rename_i l;cases h;cases(show v=.str ⟨x.toArray⟩from r)
   refine⟨by rw [Zg];exact Nat.le_trans l big,?_⟩
   rw [Zg];cases x<;>simp;omega
  ·cases h
 | ref n =>
  simp only [Qi,Option.map_eq_some_iff]at h;obtain⟨xs,e1,e2⟩:=h;exact sq e1 e2.symm
 | con n =>
  simp only [Qi,Option.map_eq_some_iff]at h;obtain⟨xs,e1,e2⟩:=h;exact sq e1 e2.symm
 | scr =>
  simp only [Qi,Option.map_eq_some_iff]at h;obtain⟨xs,e1,e2⟩:=h;exact sq e1 e2.symm
end
end Iv
namespace Iv
open PySem PySem.Spec PyProof.Rows L2
variable {i i' j:Int}{m:Nat}
theorem QeY{j':Int}{n:Nat}(a:Cg i' i m)(b:Cg j' j n):Cg (i'+j') (i+j) (gz m n):=by
 obtain⟨p,rfl⟩:=a;obtain⟨q,rfl⟩:=b
 cases m with
 | zero=>exact⟨q,by simp [gz];omega⟩
 | succ m =>
  obtain⟨x,hx⟩:=Nat.gcd_dvd_left (m+1) n;obtain⟨y,hy⟩:=Nat.gcd_dvd_right (m+1) n;refine⟨x*p+y*q,?_⟩
  have e1:((m+1:Nat):Int)=(Nat.gcd (m+1) n:Int)*(x:Int):=by
   have:=congrArg (fun z:Nat=>(z:Int)) hx;simpa using this
  have e2:(n:Int)=(Nat.gcd (m+1) n:Int)*(y:Int):=by
   have:=congrArg (fun z:Nat=>(z:Int)) hy;simpa using this
  show i+((m+1:Nat):Int)*p+(j+(n:Int)*q)=i+j+(Nat.gcd (m+1) n:Int)*(x*p+y*q);rw [Int.mul_add,<-Int.mul_assoc,<-Int.mul_assoc,<-e1,<-e2];omega
theorem QeX(a:Cg i' i m):Cg (-i') (-i) m:=by
 obtain⟨p,rfl⟩:=a
 exact⟨-p,by rw [Int.mul_neg];omega⟩
theorem Qjc{j':Int}{n:Nat}(a:Cg i' i m)(b:Cg j' j n):Cg (i'-j') (i-j) (gz m n):=by
 have:=QeY a (QeX b);rw [Int.sub_eq_add_neg,Int.sub_eq_add_neg];exact this
theorem Qjd(a:Cg i' i m):Cg (i'*j) (i*j) (m*j.natAbs):=by
 obtain⟨p,rfl⟩:=a
 rcases Int.natAbs_eq j with e|e
 ·refine⟨p,?_⟩;rw [Int.add_mul,Int.natCast_mul,<-e,Int.mul_right_comm]
 ·refine⟨-p,?_⟩
  have e':(j.natAbs:Int)=-j:=by omega
  rw [Int.add_mul,Int.natCast_mul,e',Int.mul_neg,Int.mul_neg,Int.neg_mul,Int.neg_neg,Int.mul_right_comm]
theorem Qjf(a:Cg i' i m)(hj:0<j)(hd:m % j.toNat=0):Cg (i' / j) (i / j) (m / j.toNat):=by
 obtain⟨p,rfl⟩:=a
 have e:(m:Int)=j*((m / j.toNat:Nat):Int):=by
  have h:=Nat.div_add_mod m j.toNat;rw [hd,Nat.add_zero]at h;have h2:=congrArg (fun z:Nat=>(z:Int)) h
  have h3:((j.toNat:Nat):Int)=j:=by omega
  simp only [Int.natCast_mul,h3]at h2;exact h2.symm
 refine⟨p,?_⟩
 rw [e,Int.mul_assoc,Int.add_mul_ediv_left _ _ (by omega)]
theorem Qje(a:Cg i' i m)(hj:0<j)(hd:m % j.toNat=0):i' % j=i % j:=by
 obtain⟨p,rfl⟩:=a
 have e:(m:Int)=j*((m / j.toNat:Nat):Int):=by
  have h:=Nat.div_add_mod m j.toNat;rw [hd,Nat.add_zero]at h;have h2:=congrArg (fun z:Nat=>(z:Int)) h
  have h3:((j.toNat:Nat):Int)=j:=by omega
  simp only [Int.natCast_mul,h3]at h2;exact h2.symm
 rw [e,Int.mul_assoc,Int.add_mul_emod_self_left]
theorem Zh(h:Qs i=true):-(2 ^ 64) < i/\i<2 ^ 64:=by
 unfold Qs at h;rw [Bool.and_eq_true,decide_eq_true_eq,decide_eq_true_eq]at h;exact h
theorem Qfq(x y:List Nat):({ cps:=x.toArray }:Str)++({ cps:=y.toArray }:Str)={ cps:=(x++y).toArray }:=by
 show Str.append _ _=_;simp [Str.append]
noncomputable def OpS(X:Cx)(T:Tbl)(A:Adr)(o:Operator):Prop:=∃r,OpR X (binaryOp o) r/\∀{α:List Addr} {u w u':U} {hs hs':Hs} {v y:V} {H:Hp} {Q:VK},opU o u w hs=some (u',hs')->RU A α u v->RU A α w y->Rep T A X.K α hs H ->
 (∀α' v' H',Ext α α' H H'->Rep T A X.K α' hs' H'->RU A α' u' v'->Q v' H')->r v y H Q
section
variable {X:Cx}{T:Tbl}{A:Adr}
theorem QdR{o:Operator}(h:∀u w hs,opU o u w hs=none):OpS X T A o:=⟨fun _ _ _ _=>False,fun _ _ _ _ _ _ _ _ _ _ _ _ h=>h.elim,fun e=>by rw [h]at e;cases e⟩
theorem QaZ{o:Operator}{f:U->U->Option U}{r:R2}(ho:OpR X (binaryOp o) r)(hf:∀u w hs,opU o u w hs=(f u w).map fun z=>(z,hs))
  (h:∀{α:List Addr} {u w z:U} {v y:V} {H:Hp} {Q:VK},f u w=some z->RU A α u v->RU A α w y->(∀v',RU A α z v'->Q v' H)->r v y H Q):OpS X T A o:=by
 refine⟨r,ho,?_⟩;intro α u w u' hs hs' v y H Q e ru rw R k;rw [hf,Option.map_eq_some_iff]at e;obtain⟨z,e,q⟩:=e;cases q;exact h e ru rw fun v' r'=>k α v' H Ext.refl R r'
theorem Zc{α:List Addr}{v:V}(r:RU A α (.int i 0) v):v=.int i:=by
 obtain⟨j,rfl,c⟩:=r;cases c.exact;rfl
theorem QfY:OpS X T A .Sub:=QaZ Qii (fun _ _ _=>rfl) fun {α u w z v y H Q} h ru rw k=>by
 unfold QlE at h;split at h
 ·cases h;obtain⟨i',rfl,a⟩:=ru;obtain⟨j',rfl,b⟩:=rw;exact⟨i',j',rfl,rfl,k _ ⟨_,rfl,Qjc a b⟩⟩
 ·cases h
theorem QfW:OpR X (binaryOp .Mult) (rI IntMulOk fun i j=>.int (i*j)):=opI fun _ _ _ _ _ _ _ hc q=>mul_int q hc
theorem Qc8(h:Qc9 i=true):Builtin.Int.intBits i<=4096:=by
 have h:=of_decide_eq_true h;unfold Builtin.Int.intBits;split
 ·omega
 ·rename_i z
  have n0:i.natAbs≠0:=by simpa using z
  exact Nat.succ_le_of_lt ((Nat.log2_lt n0).mpr h)
theorem QiC(h:(Qs i||Qs j||(Qc9 i&&Qc9 j))=true):IntMulOk i j:=by
 rw [Bool.or_eq_true,Bool.or_eq_true,Bool.and_eq_true]at h
 rcases h with(h|h)|h
 ·exact CMul.ok (.inl (Zh h))
 ·exact CMul.ok (.inr (Zh h))
 ·have h1:=Qc8 h.1;have h2:=Qc8 h.2;unfold IntMulOk
  have:Builtin.Int.intTooBig (Builtin.Int.intBits i+Builtin.Int.intBits j)=false:=by
   unfold Builtin.Int.intTooBig;rw [bitsLine_eq]
   exact decide_eq_false (by omega)
  rw [this];simp
theorem RUs.rep{α:List Addr}{us:List U}{vs:List V}(r:RUs A α us vs):∀n:Nat,RUs A α (List.replicate n us).flatten (List.replicate n vs).flatten
 | 0=>.nil
 | n+1=>by
  rw [List.replicate_succ,List.replicate_succ,List.flatten_cons,List.flatten_cons];exact RUs.append r (RUs.rep r n)
theorem Qf0:OpS X T A .Mult:=by
 refine⟨_,OpR.or QfW Qij,?_⟩;intro α u w u' hs hs' v y H Q e ru rw R k;by_cases isr:∃a,u=.ref a
 ·obtain⟨a,rfl⟩:=isr;simp only [opU]at e;unfold QjR at e;split at e
  ·rename_i xs j e1;split at e
   ·rename_i c;cases e;cases Zc rw;obtain⟨pa,ha,rfl⟩:=ru;obtain⟨vs,q1,r1⟩:=R.h.ob _ pa _ ha e1;refine .inr ⟨pa,j,vs,rfl,rfl,q1,c.1,c.2.1,?_,fun p hp=>?_⟩
    ·rw [<-r1.length];exact Nat.le_trans c.2.2 big
    ·obtain⟨R',E'⟩:=R.new (o:=.lst (List.replicate j.toNat xs).flatten) hp ⟨_,Qq,RUs.mono QI (r1.rep j.toNat)⟩
     exact k _ _ _ E' R' ⟨p,by rw [<-R.h.len];exact QW,rfl⟩
   ·cases e
  ·cases e
 have e:(QjV u w).map (fun r=>(r,hs))=some (u',hs'):=by
  cases u with
  | ref a=>exact absurd ⟨a,rfl⟩ isr
  | _=>exact e
 rw [Option.map_eq_some_iff]at e;obtain⟨z,h,q⟩:=e;cases q;refine .inl ?_;have k:∀v',RU A α u' v'->Q v' H:=fun v' r'=>k α v' H Ext.refl R r';unfold QjV at h;split at h
 ·split at h
  ·rename_i c;cases h;cases Zc ru;cases Zc rw;exact⟨_,_,rfl,rfl,QiC c,k _ ⟨_,rfl,Cg.refl _ _⟩⟩
  ·cases h
 ·split at h
  ·rename_i c;cases h;obtain⟨i',rfl,a⟩:=ru;cases Zc rw;exact⟨i',_,rfl,rfl,CMul.ok (.inr (Zh c)),k _ ⟨_,rfl,Qjd a⟩⟩
  ·cases h
 ·cases h
noncomputable def QlA(i j:Int):Prop:=0<j/\j<1606938044258990275541962092341162602522202993782792835301376
theorem QdP{X:Cx}:OpR X (binaryOp .FloorDiv) (rI QlA fun i j=>.int (i / j)):=opI fun i j _ _ _ _ _ hc q=>by
 have h1:(0:Int) < j:=hc.1;have h2:j<1606938044258990275541962092341162602522202993782792835301376:=hc.2
 have h3:j.natAbs.log2<9000:=by
  have h4:j.natAbs<2 ^ 9000:=Nat.lt_of_lt_of_le (show j.natAbs<2 ^ 200 by omega) (Nat.pow_le_pow_right (by decide) (by decide))
  rcases Nat.eq_zero_or_pos j.natAbs with z|z
  ·rw [z];decide
  ·exact(Nat.log2_lt (by omega)).mpr h4
 exact floordiv_int (by omega) (by rw [Int.fdiv_eq_ediv_of_nonneg i (by omega)];exact q) (.inl (PyProof.noPylong_of_log2 h3))
theorem QdS:OpS X T A .FloorDiv:=QaZ QdP (fun _ _ _=>rfl) fun {α u w z v y H Q} h ru rw k=>by
 unfold JZ at h;split at h
 ·split at h
  ·rename_i c;cases h;cases Zc ru;cases Zc rw;simp only [Bool.and_eq_true,decide_eq_true_eq]at c;exact⟨_,_,rfl,rfl,c,k _ ⟨_,rfl,Cg.refl _ _⟩⟩
  ·cases h
 ·split at h
  ·rename_i c;cases h;obtain⟨i',rfl,a⟩:=ru;cases Zc rw;simp only [Bool.and_eq_true,decide_eq_true_eq]at c;exact⟨i',_,rfl,rfl,c.1,k _ ⟨_,rfl,Qjf a c.1.1 c.2⟩⟩
  ·cases h
 ·cases h
theorem Qf1:OpS X T A .Mod:=QaZ Qio (fun _ _ _=>rfl) fun {α u w z v y H Q} h ru rw k=>by
 unfold Yk at h;split at h
 ·split at h
  ·rename_i c;cases h;cases Zc ru;cases Zc rw;exact⟨_,_,rfl,rfl,c,k _ ⟨_,rfl,Cg.refl _ _⟩⟩
  ·cases h
 ·split at h
  ·rename_i c;cases h;obtain⟨i',rfl,a⟩:=ru;cases Zc rw;simp only [Bool.and_eq_true,decide_eq_true_eq]at c
   exact⟨i',_,rfl,rfl,c.1,k _ ⟨_,rfl,by rw [Qje a c.1 c.2];exact Cg.refl _ _⟩⟩
  ·cases h
 ·cases h
theorem QfZ:OpS X T A .Pow:=QaZ Qik (fun _ _ _=>rfl) fun {α u w z v y H Q} h ru rw k=>by
 unfold QkC at h;split at h
 ·split at h
  ·rename_i i j c;cases h;cases Zc ru;cases Zc rw;simp only [Bool.and_eq_true,decide_eq_true_eq]at c;obtain⟨h1,h2⟩:=Zh c.2
   exact⟨_,_,rfl,rfl,⟨c.1.1,by omega,by omega⟩,k _ ⟨_,rfl,Cg.refl _ _⟩⟩
  ·cases h
 ·cases h
theorem Qf2:OpS X T A .Add:=by
 refine⟨_,OpR.or Qiv (OpR.or Qbs (OpR.or Qiu (OpR.or QdQ QfX))),?_⟩;intro α u w u' hs hs' v y H Q h ru rw R k;have h:Qm u w hs=some (u',hs'):=h;unfold Qm at h;split at h
 ·cases h;obtain⟨i',rfl,a⟩:=ru;obtain⟨j',rfl,b⟩:=rw;exact .inl ⟨i',j',rfl,rfl,k α _ H Ext.refl R ⟨_,rfl,QeY a b⟩⟩
 ·split at h
  ·rename_i c;cases h;cases(show v=_ from ru);cases(show y=_ from rw);refine .inr (.inl ⟨_,_,rfl,rfl,?_,k α _ H Ext.refl R ?_⟩)
   ·rw [Zg,Zg];exact Nat.le_trans c big
   ·rw [Qfq];rfl
  ·cases h
 ·rename_i a b;obtain⟨pa,ha,rfl⟩:=ru;obtain⟨pb,hb,rfl⟩:=rw;split at h
  ·rename_i ox oy e1 e2;have o1:=R.h.ob _ pa _ ha e1;have o2:=R.h.ob _ pb _ hb e2;unfold QjX at h;split at h
   ·rename_i xs ys;split at h
    ·rename_i c;cases h;obtain⟨vs,q1,r1⟩:=o1;obtain⟨ws,q2,r2⟩:=o2;refine .inr (.inr (.inl ⟨pa,pb,vs,ws,rfl,rfl,q1,q2,?_,fun p hp=>?_⟩))
     ·rw [<-r1.length,<-r2.length];exact Nat.le_trans c big
     ·obtain⟨R',E'⟩:=R.new (o:=.lst (xs++ys)) hp ⟨_,Qq,RUs.mono QI (r1.append r2)⟩
      exact k _ _ _ E' R' ⟨p,by rw [<-R.h.len];exact QW,rfl⟩
    ·cases h
   ·rename_i xs ys;obtain⟨vs,q1,r1⟩:=o1;obtain⟨ws,q2,r2⟩:=o2;split at h
    ·rename_i z;cases h;have z:=List.isEmpty_iff.mp z;subst z;cases r1;exact .inr (.inr (.inr (.inl ⟨pa,pb,ws,rfl,rfl,SqT.of q1,SqT.of q2,k α _ H Ext.refl R ⟨pb,hb,rfl⟩⟩)))
    ·rename_i nx
     have nv:vs≠[]:=fun z=>nx (by rw [z]at r1;cases r1;rfl)
     split at h
     ·rename_i c
      have sz:vs.length+ws.length<=sizeLine:=by
       rw [<-r1.length,<-r2.length];exact Nat.le_trans c big
      split at h
      ·rename_i z;cases h;have z:=List.isEmpty_iff.mp z;subst z;cases r2;exact .inr (.inr (.inr (.inr ⟨pa,pb,vs,[],rfl,rfl,SqT.of q1,SqT.of q2,nv,sz,fun _=>k α _ H Ext.refl R ⟨pa,ha,rfl⟩,fun z=>absurd rfl z⟩)))
      ·rename_i ny;cases h
       refine .inr (.inr (.inr (.inr ⟨pa,pb,vs,ws,rfl,rfl,SqT.of q1,SqT.of q2,nv,sz,fun z=>absurd (by rw [z]at r2;cases r2;rfl) ny,fun _ p hp=>?_⟩)))
       obtain⟨R',E'⟩:=R.new (o:=.tup (xs++ys)) hp ⟨_,Qq,RUs.mono QI (r1.append r2)⟩
       exact k _ _ _ E' R' ⟨p,by rw [<-R.h.len];exact QW,rfl⟩
     ·cases h
   ·cases h
  ·cases h
 ·cases h
theorem opS(o:Operator):OpS X T A o:=by
 cases o with
 | Add=>exact Qf2
 | Sub=>exact QfY
 | Mult=>exact Qf0
 | FloorDiv=>exact QdS
 | Mod=>exact Qf1
 | Pow=>exact QfZ
 | _=>exact QdR fun u w hs=>rfl
end
end Iv
namespace Iv
open PySem PySem.Spec PyProof.Rows L2
section
variable {X:Cx}{T:Tbl}{A:Adr}{α:List Addr}{hs:Hs}{H:Hp}{u w:U}{v y:V}
theorem Q6{xs:List U}(tx:Txt T A X.K X.mg)(R:Rep T A X.K α hs H)(h:QM T u hs=some xs)(r:RU A α u v):∃a vs,v=.ref a/\RUs A α xs vs/\SqL X.K H a vs:=by
 cases u with
 | ref n =>
  obtain⟨a,ha,rfl⟩:=r;simp only [QM]at h;split at h
  ·rename_i ys e;cases h;obtain⟨vs,q,rr⟩:=R.h.ob n a _ ha e;exact⟨a,vs,rfl,rr,SqL.of q⟩
  ·cases h
 | con k =>
  simp only [QM]at h;split at h
  ·rename_i ys e;cases h;obtain⟨vs,rr,q⟩:=tx.co k _ e
   exact⟨_,vs,r,RUs.mono (fun n a e=>by simp at e) rr,q H⟩
  ·cases h
 | scr =>
  simp only [QM]at h;cases h;obtain⟨vs,rr,q⟩:=R.s.sq (α:=α);exact⟨_,vs,r,rr,q⟩
 | _=>simp [QM]at h
theorem Yq{xs:List U}(tx:Txt T A X.K X.mg)(R:Rep T A X.K α hs H)(h:ZK T u hs=some xs)(r:RU A α u v):∃a vs,v=.ref a/\RUs A α xs vs/\SqT X.K H a vs:=by
 cases u with
 | ref n =>
  obtain⟨a,ha,rfl⟩:=r;simp only [ZK]at h;split at h
  ·rename_i ys e;cases h;obtain⟨vs,q,rr⟩:=R.h.ob n a _ ha e;exact⟨a,vs,rfl,rr,SqT.of q⟩
  ·cases h
 | con k =>
  simp only [ZK]at h;split at h
  ·rename_i ys e;cases h;obtain⟨vs,rr,q⟩:=tx.co k _ e
   exact⟨_,vs,r,RUs.mono (fun n a e=>by simp at e) rr,q H⟩
  ·cases h
 | _=>simp [ZK]at h
noncomputable def scP:U->PyData
 | .bl b=>.bool b
 | .int i _=>.int i
 | .str x=>.str ⟨x.toArray⟩
 | _=>.none
noncomputable def toP(T:Tbl):Nat->U->Hs->PyData
 | 0,_,_=>.none
 | n+1,u,hs=>match QM T u hs with
  | some xs=>.list (xs.map fun x=>toP T n x hs)
  | none=>match ZK T u hs with
   | some xs=>.tuple (xs.map fun x=>toP T n x hs)
   | none=>scP u
theorem Yt{h:Heap}{f:U->PyData}:∀{xs:List U} {vs:List V} {its:List Value},RUs A α xs vs->Vals vs its->(∀x∈xs,∀v u,RU A α x v->RelV v u->∃as,Reads h u (f x) as)->∃as,ReadsAll h its (xs.map f) as
 | _,_,_,.nil,.nil,_=>⟨[],.nil⟩
 | _,_,_,.cons (a:=x) r t,.cons q p,k=>by
  obtain⟨as,h1⟩:=k x List.mem_cons_self _ _ r q;obtain⟨bs,h2⟩:=Yt t p fun x m=>k x (List.mem_cons_of_mem _ m);exact⟨as++bs,.cons h1 h2⟩
theorem ZQ{pins:List (Addr×Obj)}{s:Shared}{σ:L2.St}(tx:Txt T A X.K X.mg)(I:Inv X pins σ H s)(R:Rep T A X.K α hs H):∀(n:Nat) {u:U} {v:V} {z:Value},okW T n u hs=true->RU A α u v->RelV v z->∃as,Reads s.heap z (toP T n u hs) as
 | 0,_,_,_,h,_,_=>by cases h
 | n+1,u,v,z,h,r,q=>by
  have ih:=fun {u:U} {v:V} {z:Value}=>ZQ tx I R n (u:=u) (v:=v) (z:=z);simp only [okW,toP]at h ⊢
  cases el:QM T u hs with
  | some xs =>
   rw [el]at h;have h:=List.all_eq_true.mp h;obtain⟨a,vs,rfl,rr,sq⟩:=Q6 tx R el r;cases q;obtain⟨its,rv,pl,_⟩:=I.list sq;obtain⟨o,ho,hc,m,hd⟩:=pl.isList;obtain⟨as,ra⟩:=Yt (h:=s.heap) (f:=fun x=>toP T n x hs) rr rv fun x m v u h1 h2=>ih (h x m) h1 h2;exact⟨_,.list ho hc hd ra⟩
  | none =>
   rw [el]at h
   cases et:ZK T u hs with
   | some xs =>
    rw [et]at h;have h:=List.all_eq_true.mp h;obtain⟨a,vs,rfl,rr,sq⟩:=Yq tx R et r;cases q;obtain⟨its,rv,pl,_⟩:=I.tuple sq;obtain⟨o,ho,hc,m,hd⟩:=pl;obtain⟨as,ra⟩:=Yt (h:=s.heap) (f:=fun x=>toP T n x hs) rr rv fun x m v u h1 h2=>ih (h x m) h1 h2;exact⟨_,.tuple ho hc hd ra⟩
   | none =>
    rw [et]at h
    cases u with
    | non=>cases(show v=_ from r);cases q;exact⟨[],.none⟩
    | bl b=>cases(show v=_ from r);cases q;exact⟨[],.bool b⟩
    | int i m =>
     have h:(m==0)=true:=h;have h:=eq_of_beq h;subst h;cases Zc r;obtain⟨t,rfl⟩:=q;exact⟨[],.int i t⟩
    | str x=>cases(show v=_ from r);obtain⟨t,rfl⟩:=q;exact⟨[],.str _ t⟩
    | _=>cases h
theorem Qar{f:U->PyData}{n:Nat}:∀{xs:List U},(∀x∈xs,(f x).canLay0=true/\(f x).depth<=n)->PyData.canLayAll0 (xs.map f)=true/\PyData.depthAll (xs.map f)<=n
 | [],_=>⟨rfl,Nat.zero_le _⟩
 | x::r,h=>by
  obtain⟨h1,h2⟩:=h x List.mem_cons_self;obtain⟨h3,h4⟩:=Qar (xs:=r) fun y m=>h y (List.mem_cons_of_mem _ m);refine⟨?_,?_⟩
  ·show((f x).canLay0&&PyData.canLayAll0 (r.map f))=true;rw [h1,h3];rfl
  ·show max (f x).depth (PyData.depthAll (r.map f))<=n;omega
theorem JI:∀(n:Nat) {u:U},okW T n u hs=true->(toP T n u hs).canLay0=true/\(toP T n u hs).depth<=n
 | 0,_,h=>by cases h
 | n+1,u,h=>by
  have ih:=fun(u:U)=>JI n (u:=u);simp only [okW,toP]at h ⊢
  cases el:QM T u hs with
  | some xs =>
   rw [el]at h;obtain⟨h1,h2⟩:=Qar (f:=fun x=>toP T n x hs) (n:=n) fun x m=>ih x (List.all_eq_true.mp h x m);exact⟨h1,Nat.succ_le_succ h2⟩
  | none =>
   rw [el]at h
   cases et:ZK T u hs with
   | some xs =>
    rw [et]at h;obtain⟨h1,h2⟩:=Qar (f:=fun x=>toP T n x hs) (n:=n) fun x m=>ih x (List.all_eq_true.mp h x m);exact⟨h1,Nat.succ_le_succ h2⟩
   | none =>
    rw [et]at h
    cases u with
    | str x =>
     refine⟨?_,Nat.zero_le _⟩;show PyData.strOk ⟨x.toArray⟩=true;unfold PyData.strOk;have h:=List.all_eq_true.mp h;rw [Array.all_eq_true'];intro c hc
     have:=of_decide_eq_true (h c (by simpa using hc))
     exact decide_eq_true (by omega)
    | non=>exact⟨rfl,Nat.zero_le _⟩
    | bl b=>exact⟨rfl,Nat.zero_le _⟩
    | int i m=>exact⟨rfl,Nat.zero_le _⟩
    | _=>cases h
theorem Qay{f:U->PyData}{g:U->U->Bool}:∀{xs ys:List U},(∀x∈xs,∀y∈ys,PyData.eqv (f x) (f y)=g x y)->PyData.eqvAll (xs.map f) (ys.map f)=((xs.length==ys.length)&&(xs.zip ys).all fun p=>g p.1 p.2)
 | [],[],_=>rfl
 | [],_::_,_=>rfl
 | _::_,[],_=>rfl
 | x::r,y::t,h=>by
  have h1:=h x List.mem_cons_self y List.mem_cons_self;have h2:=Qay (xs:=r) (ys:=t) fun a ma b mb=>h a (List.mem_cons_of_mem _ ma) b (List.mem_cons_of_mem _ mb);show(PyData.eqv (f x) (f y)&&PyData.eqvAll (r.map f) (t.map f))=_;rw [h1,h2];simp only [List.length_cons,List.zip_cons_cons,List.all_cons]
  have e:(r.length+1==t.length+1)=(r.length==t.length):=by simp
  rw [e];cases g x y<;>cases(r.length==t.length)<;>simp
theorem Qfp{x y:List Nat}:((⟨x.toArray⟩:Str)==⟨y.toArray⟩)=(x==y):=by
 by_cases h:x=y
 ·subst h;simp
 ·have:(⟨x.toArray⟩:Str)≠⟨y.toArray⟩:=fun z=>h (by
   have:=congrArg (fun s:Str=>s.cps.toList) z
   simpa using this)
  rw [beq_eq_false_iff_ne.mpr this,beq_eq_false_iff_ne.mpr h]
theorem QcR:∀(n:Nat) {u w:U},okW T n u hs=true->okW T n w hs=true->PyData.eqv (toP T n u hs) (toP T n w hs)=eqW T n u w hs
 | 0,_,_,h,_=>by cases h
 | n+1,u,w,h,h'=>by
  have ih:=fun(u w:U)=>QcR n (u:=u) (w:=w);simp only [okW,toP,eqW]at h h' ⊢
  cases el:QM T u hs with
  | some xs =>
   rw [el]at h
   cases el':QM T w hs with
   | some ys =>
    rw [el']at h';exact Qay (g:=fun a b=>eqW T n a b hs) fun x mx y my=>ih x y (List.all_eq_true.mp h x mx) (List.all_eq_true.mp h' y my)
   | none =>
    rw [el']at h'
    cases et':ZK T w hs with
    | some ys=>rfl
    | none=>rw [et']at h';cases w<;>first|rfl|(cases h';done)
  | none =>
   rw [el]at h
   cases et:ZK T u hs with
   | some xs =>
    rw [et]at h
    cases el':QM T w hs with
    | some ys=>rfl
    | none =>
     rw [el']at h'
     cases et':ZK T w hs with
     | some ys =>
      rw [et']at h';exact Qay (g:=fun a b=>eqW T n a b hs) fun x mx y my=>ih x y (List.all_eq_true.mp h x mx) (List.all_eq_true.mp h' y my)
     | none=>rw [et']at h';cases w<;>first|rfl|(cases h';done)
   | none =>
    rw [et]at h
    cases el':QM T w hs with
    | some ys=>cases u<;>first|rfl|(cases h;done)
    | none =>
     rw [el']at h'
     cases et':ZK T w hs with
     | some ys=>cases u<;>first|rfl|(cases h;done)
     | none =>
      rw [et']at h'
      cases u<;>first|(cases h;done)|(cases w<;>first|(cases h';done)|rfl|exact Qfp)
noncomputable def Qmo(T:Tbl)(A:Adr)(K:PySem.W.Frag)(neg:Bool):R2:=fun x y H Q=>∃α u w hs,RU A α u x/\RU A α w y/\Rep T A K α hs H/\okW T 20 u hs=true/\okW T 20 w hs=true/\Q (.bl (if neg then !(eqW T 20 u w hs)else eqW T 20 u w hs)) H
theorem ZP{d:PyData}{n:Nat}(h:d.canLay0=true/\d.depth<=n)(hn:n<=64):SeqAt.shaped d=true:=by
 unfold SeqAt.shaped;rw [h.1,Bool.true_and];exact decide_eq_true (Nat.le_trans h.2 hn)
theorem Qit(tx:Txt T A X.K X.mg)(hu:X.A.units+64<cLine):OpR X (compareOp .Eq) (Qmo T A X.K false):=by
 intro pins s σ H x y v u Q I rx ry h;obtain⟨α,u1,w1,hs,r1,r2,R,o1,o2,q⟩:=h;obtain⟨as,ra⟩:=ZQ tx I R 20 o1 r1 rx;obtain⟨bs,rb⟩:=ZQ tx I R 20 o2 r2 ry
 refine eq_dataH ra rb (ZP (JI 20 o1) (by decide)) (ZP (JI 20 o2) (by decide)) hu ?_
 rw [QcR 20 o1 o2];exact⟨.bl _,H,I,rfl,q⟩
noncomputable def Qmk(T:Tbl)(A:Adr)(K:PySem.W.Frag)(b:Bool):R2:=fun x y H Q=>∃α u w hs,RU A α u x/\RU A α w y/\Rep T A K α hs H/\Jg T u w hs=true/\Q (.bl b) H
theorem Qa2{pins:List (Addr×Obj)}{s:Shared}{σ:L2.St}{H:Hp}{α:List Addr}{hs:Hs}{u w:U}{x y:V}{v z:Value}(tx:Txt T A X.K X.mg)(I:Inv X pins σ H s)(R:Rep T A X.K α hs H)(h:Jg T u w hs=true)(r1:RU A α u x)(r2:RU A α w y)(rx:RelV x v)(ry:RelV y z):
  ∃(a b:Addr) (i1 i2:List Value),v=.ref a/\z=.ref b/\s.heap.IsList a i1.toArray/\s.heap.IsList b i2.toArray/\(i1.toArray.size != i2.toArray.size)=true:=by
 unfold Jg at h;split at h
 ·rename_i xs ys e1 e2;obtain⟨a,vs,rfl,rr,sq⟩:=Q6 tx R e1 r1;obtain⟨b,ws,rfl,rr',sq'⟩:=Q6 tx R e2 r2;obtain⟨i1,q1,p1,_⟩:=I.list sq;obtain⟨i2,q2,p2,_⟩:=I.list sq';cases rx;cases ry;have l1:=rr.length;have l2:=rr'.length;have l3:=q1.length;have l4:=q2.length;have h:=of_decide_eq_true h;refine⟨a,b,i1,i2,rfl,rfl,p1.isList,p2.isList,?_⟩;simp only [List.size_toArray,bne_iff_ne,ne_eq];omega
 ·cases h
theorem Qis(tx:Txt T A X.K X.mg)(hu:X.A.units+64<cLine):OpR X (compareOp .Eq) (Qmk T A X.K false):=by
 intro pins s σ H x y v u Q I rx ry h;obtain⟨α,u1,w1,hs,r1,r2,R,o1,q⟩:=h;obtain⟨a,b,i1,i2,rfl,rfl,p1,p2,z⟩:=Qa2 tx I R o1 r1 r2 rx ry
 exact SeqAt.RcAt.lists_lengths p1 p2 z (by omega) _ _ _ _ ⟨.bl _,H,I,rfl,q⟩
theorem Qim(tx:Txt T A X.K X.mg)(hu:X.A.units+64<cLine):OpR X (compareOp .NotEq) (Qmk T A X.K true):=by
 intro pins s σ H x y v u Q I rx ry h;obtain⟨α,u1,w1,hs,r1,r2,R,o1,q⟩:=h;obtain⟨a,b,i1,i2,rfl,rfl,p1,p2,z⟩:=Qa2 tx I R o1 r1 r2 rx ry
 exact SeqAt.RcNeAt.lists_lengths p1 p2 z (by omega) _ _ _ _ ⟨.bl _,H,I,rfl,q⟩
noncomputable def QhS(T:Tbl)(A:Adr)(K:PySem.W.Frag)(b:Bool):R2:=fun x y H Q=>∃α u w hs,RU A α u x/\RU A α w y/\Rep T A K α hs H/\Qad T u w hs=true/\Q (.bl b) H
theorem Jr{α:List Addr}:∀{xs:List U} {vs ws:List V} {i1 i2:List Value},(xs.all fun x=>match x with|.ref _=>true|_=>false)=true->RUs A α xs vs->RUs A α xs ws->Vals vs i1->Vals ws i2->i1=i2
 | [],_,_,_,_,_,r1,r2,q1,q2=>by cases r1;cases r2;cases q1;cases q2;rfl
 | x::xs,_,_,_,_,h,.cons a r1,.cons b r2,.cons c q1,.cons d q2=>by
  rw [List.all_cons,Bool.and_eq_true]at h
  cases x with
  | ref n =>
   obtain⟨p,hp,rfl⟩:=a;obtain⟨p',hp',rfl⟩:=b;rw [hp]at hp';cases hp';cases c;cases d;rw [Jr h.2 r1 r2 q1 q2]
  | _=>exact absurd h.1 (by simp)
theorem QaP{pins:List (Addr×Obj)}{s:Shared}{σ:L2.St}{H:Hp}{α:List Addr}{hs:Hs}{u w:U}{x y:V}{v z:Value}(tx:Txt T A X.K X.mg)(I:Inv X pins σ H s)(R:Rep T A X.K α hs H)(h:Qad T u w hs=true)(r1:RU A α u x)(r2:RU A α w y)(rx:RelV x v)(ry:RelV y z):
  ∃(a b:Addr) (i1:List Value),v=.ref a/\z=.ref b/\s.heap.IsList a i1.toArray/\s.heap.IsList b i1.toArray:=by
 unfold Qad at h;split at h
 ·rename_i xs ys e1 e2;rw [Bool.and_eq_true]at h;obtain⟨h0,h⟩:=h;have h0:=of_decide_eq_true h0;subst h0;obtain⟨a,vs,rfl,rr,sq⟩:=Q6 tx R e1 r1;obtain⟨b,ws,rfl,rr',sq'⟩:=Q6 tx R e2 r2;obtain⟨i1,q1,p1,_⟩:=I.list sq;obtain⟨i2,q2,p2,_⟩:=I.list sq';cases rx;cases ry;cases Jr h rr rr' q1 q2;exact⟨a,b,i1,rfl,rfl,p1.isList,p2.isList⟩
 ·cases h
theorem Qir(tx:Txt T A X.K X.mg)(hu:X.A.units+64<cLine):OpR X (compareOp .Eq) (QhS T A X.K true):=by
 intro pins s σ H x y v u Q I rx ry h;obtain⟨α,u1,w1,hs,r1,r2,R,o1,q⟩:=h;obtain⟨a,b,i1,rfl,rfl,p1,p2⟩:=QaP tx I R o1 r1 r2 rx ry
 have rc:=SeqAt.RcAt.lists (A:=X.A) (e:=fun _=>true) p1 p2 rfl (by omega) fun j h1 h2=>SeqAt.EqAt.same _
 have al:(List.range i1.toArray.size).all (fun _=>true)=true:=by simp
 rw [al]at rc;exact rc _ _ _ _ ⟨.bl _,H,I,rfl,q⟩
theorem Qil(tx:Txt T A X.K X.mg)(hu:X.A.units+64<cLine):OpR X (compareOp .NotEq) (QhS T A X.K false):=by
 intro pins s σ H x y v u Q I rx ry h;obtain⟨α,u1,w1,hs,r1,r2,R,o1,q⟩:=h;obtain⟨a,b,i1,rfl,rfl,p1,p2⟩:=QaP tx I R o1 r1 r2 rx ry
 have rc:=SeqAt.RcNeAt.lists (A:=X.A) (e:=fun _=>true) p1 p2 rfl (by omega) fun j h1 h2=>SeqAt.EqAt.same _
 have al:(!(List.range i1.toArray.size).all (fun _=>true))=false:=by simp
 rw [al]at rc;exact rc _ _ _ _ ⟨.bl _,H,I,rfl,q⟩
theorem Qin(tx:Txt T A X.K X.mg)(hu:X.A.units+64<cLine):OpR X (compareOp .NotEq) (Qmo T A X.K true):=by
 intro pins s σ H x y v u Q I rx ry h;obtain⟨α,u1,w1,hs,r1,r2,R,o1,o2,q⟩:=h;obtain⟨as,ra⟩:=ZQ tx I R 20 o1 r1 rx;obtain⟨bs,rb⟩:=ZQ tx I R 20 o2 r2 ry
 refine ne_dataH ra rb (ZP (JI 20 o1) (by decide)) (ZP (JI 20 o2) (by decide)) hu ?_
 rw [QcR 20 o1 o2];exact⟨.bl _,H,I,rfl,q⟩
end
end Iv
namespace Iv
open PySem PySem.Spec PyProof.Rows L2
section
variable {κ κ':Type}[DecidableEq κ][DecidableEq κ']{P:κ->κ'->Prop}{A:Adr}{α:List Addr}{w:κ}{k:κ'}{u:U}{v:V}
noncomputable abbrev RG(P:κ->κ'->Prop)(A:Adr)(α:List Addr):List (κ×U)->List (κ'×V)->Prop:=Paired fun p q=>P p.1 q.1/\RU A α p.2 q.2
end
section
variable {X:Cx}{T:Tbl}{A:Adr}{K:PySem.W.Frag}{α:List Addr}{hs:Hs}{H:Hp}{n:Nat}{a:Addr}{o:O}{w:U}{y:V}
noncomputable def Qkx:R2:=fun _ _ _ _=>False
theorem Qgm(hu:X.A.units+1<cLine):IxR X Qkx:=by
 intro value slice pins s σ H x y v u Q I rx ry h hs;exact h.elim
noncomputable def Qky(neg:Bool):R2:=fun _ _ _ _=>False
theorem Qiq(hu:X.A.units+1<cLine):OpR X (compareOp .In) (Qky false):=by
 intro pins s σ H x y v u Q I rx ry h;exact h.elim
theorem Qcn(hu:X.A.units+1<cLine):OpR X (compareOp .NotIn) (Qky true):=by
 intro pins s σ H x y v u Q I rx ry h;exact h.elim
theorem QeP{u w:U}{v y:V}{c neg:Bool}{Q:VK}(R:Rep T A K α hs H)(h:inD T w u hs=some c)(ru:RU A α u v)(rw':RU A α w y)(q:Q (.bl (if neg then !c else c)) H):Qky neg v y H Q\/QjJ T w u=some c:=by
 unfold inD at h;split at h
 ·cases h
 ·exact .inr h
noncomputable def Qkv:V->V->V->Hp->(Hp->Prop)->Prop:=fun _ _ _ _ _=>False
theorem QdA(hu:X.A.units+1<cLine):Qhh X Qkv:=by
 intro pins s σ H o i v ov iv u Q I ro ri rv h;exact h.elim
theorem QhD{t t':Qj2}(h:Qhh X t)(h':Qhh X t'):Qhh X (fun o i v H Q=>t o i v H Q\/t' o i v H Q):=fun pins s σ H o i v ov iv u Q I ro ri rv q=>q.elim (h pins s σ H o i v ov iv u Q I ro ri rv) (h' pins s σ H o i v ov iv u Q I ro ri rv)
end
end Iv
namespace Iv
open PySem PySem.Spec PyProof.Rows L2
variable {H:Hp}{i:Int}{α:List Addr}{u w x:U}{v y:V}{Q:VK}
section
variable {X:Cx}{T:Tbl}{A:Adr}
theorem Qld{j:Int}:decide (V.int i=V.int j)=decide (i=j):=by
 by_cases e:i=j
 ·subst e;simp
 ·have:¬V.int i=V.int j:=fun q=>e (V.int.inj q);rw [decide_eq_false this,decide_eq_false e]
theorem Qlc{x y:List Nat}:decide (V.str ⟨x.toArray⟩=V.str ⟨y.toArray⟩)=decide (x=y):=by
 by_cases e:x=y
 ·subst e;simp
 ·have:¬V.str ⟨x.toArray⟩=V.str ⟨y.toArray⟩:=fun q=>e (by
   have q1:=V.str.inj q;have q2:=congrArg (fun s:Str=>s.cps.toList) q1
   simpa using q2)
  rw [decide_eq_false this,decide_eq_false e]
theorem Qle{x y:Bool}:decide (V.bl x=V.bl y)=decide (x=y):=by cases x<;>cases y<;>rfl
theorem QeS{c:Bool}(h:eqS u w=some c)(ru:RU A α u v)(rw':RU A α w y):Qkl v y=true/\decide (v=y)=c:=by
 cases u with
 | non =>
  cases(show v=_ from ru)
  cases w with
  | non=>cases(show y=_ from rw');cases h;exact⟨rfl,rfl⟩
  | bl b=>cases(show y=_ from rw');cases h;exact⟨rfl,rfl⟩
  | int j n=>obtain⟨_,rfl,_⟩:=rw';cases h;exact⟨rfl,rfl⟩
  | str x=>cases(show y=_ from rw');cases h;exact⟨rfl,rfl⟩
  | _=>exact nomatch (show(none:Option Bool)=some _ from h)
 | bl b =>
  cases(show v=_ from ru)
  cases w with
  | non=>cases(show y=_ from rw');cases h;exact⟨rfl,rfl⟩
  | bl b=>cases(show y=_ from rw');cases h;exact⟨rfl,Qle⟩
  | str x=>cases(show y=_ from rw');cases h;exact⟨rfl,rfl⟩
  | _=>exact nomatch (show(none:Option Bool)=some _ from h)
 | str x =>
  cases(show v=_ from ru)
  cases w with
  | non=>cases(show y=_ from rw');cases h;exact⟨rfl,rfl⟩
  | bl b=>cases(show y=_ from rw');cases h;exact⟨rfl,rfl⟩
  | int j n=>obtain⟨_,rfl,_⟩:=rw';cases h;exact⟨rfl,rfl⟩
  | str z=>cases(show y=_ from rw');cases h;exact⟨rfl,Qlc⟩
  | _=>exact nomatch (show(none:Option Bool)=some _ from h)
 | int i m =>
  obtain⟨i',rfl,a⟩:=ru
  cases w with
  | non=>cases(show y=_ from rw');cases m<;>cases h<;>exact⟨rfl,rfl⟩
  | str x=>cases(show y=_ from rw');cases m<;>cases h<;>exact⟨rfl,rfl⟩
  | int j n =>
   obtain⟨j',rfl,b⟩:=rw'
   cases m with
   | succ m=>exact nomatch (show(none:Option Bool)=some _ from h)
   | zero =>
    cases n with
    | succ n=>exact nomatch (show(none:Option Bool)=some _ from h)
    | zero=>cases a.exact;cases b.exact;cases h;exact⟨rfl,Qld⟩
  | _=>cases m<;>exact nomatch (show(none:Option Bool)=some _ from h)
 | _=>cases w<;>exact nomatch (show(none:Option Bool)=some _ from h)
theorem Qaw(h:Qax x=true)(r:RU A α x v):YO v=true:=by
 cases x with
 | non=>cases(show v=_ from r);rfl
 | int i m=>obtain⟨_,rfl,_⟩:=r;rfl
 | str z=>cases(show v=_ from r);rfl
 | _=>cases h
theorem Qi7{y:U}{w:V}(hx:Qax x=true)(hy:Qax y=true)(rx:RU A α x v)(ry:RU A α y w):eqV w v=eqF y x:=by
 cases y with
 | non =>
  cases(show w=_ from ry)
  cases x with
  | non=>cases(show v=_ from rx);rfl
  | int i m=>obtain⟨_,rfl,_⟩:=rx;rfl
  | str z=>cases(show v=_ from rx);rfl
  | _=>cases hx
 | str z =>
  cases(show w=_ from ry)
  cases x with
  | non=>cases(show v=_ from rx);rfl
  | int i m=>obtain⟨_,rfl,_⟩:=rx;rfl
  | str z' =>
   cases(show v=_ from rx);show(({ cps:=z.toArray }:Str)=={ cps:=z'.toArray })=decide (z=z');by_cases e:z=z'
   ·subst e;simp
   ·rw [decide_eq_false e,beq_eq_false_iff_ne];intro q;have q2:=congrArg (fun s:Str=>s.cps.toList) q
    exact e (by simpa using q2)
  | _=>cases hx
 | int j n =>
  obtain⟨j',rfl,b⟩:=ry
  cases n with
  | succ n=>cases hy
  | zero =>
   cases b.exact
   cases x with
   | non=>cases(show v=_ from rx);rfl
   | str z=>cases(show v=_ from rx);rfl
   | int i m =>
    obtain⟨i',rfl,a⟩:=rx
    cases m with
    | succ m=>cases hx
    | zero =>
     cases a.exact;show(j==i)=decide (j=i);by_cases e:j=i<;>simp [e]
   | _=>cases hx
 | _=>cases hy
theorem QcK{α:List Addr}{x:U}{v:V}(hx:Qax x=true)(rx:RU A α x v):∀{ys:List U} {ws:List V},RUs A α ys ws->ys.all Qax=true->ws.all YO=true/\inV v ws=ys.any fun y=>eqF y x
 | _,_,.nil,_=>⟨rfl,rfl⟩
 | _,_,.cons (a:=y) (b:=w) r t,h=>by
  rw [List.all_cons,Bool.and_eq_true]at h;obtain⟨h1,h2⟩:=QcK hx rx t h.2
  refine⟨by rw [List.all_cons,h1,Qaw h.1 r];rfl,?_⟩
  show(eqV w v||inV v _)=(eqF y x||_);rw [h2,Qi7 hx h.1 rx r]
theorem Qfh{vs:List (Key×Value)}{y:U}{yv:V}(ky:Qhb y=true)(ry:RU A α y yv):∀{kvs:List (U×U)},Paired (fun(p:U×U) (q:Key×Value)=>Qd4 p.1 q.1/\∃v,RU A [] p.2 v/\RelV v q.2) kvs vs ->
  ∃key,yv=kV key/\(valueAt vs key).isSome=(JH kvs y).isSome:=by
 obtain⟨key,hy,hk⟩:∃key,yv=kV key/\Qd4 y key:=by
  cases y with
  | int i m =>
   cases m with
   | zero=>obtain⟨j,rfl,c⟩:=ry;cases c.exact;exact⟨.inl i,rfl,rfl⟩
   | succ m=>cases ky
  | str z=>cases(show yv=_ from ry);exact⟨.inr ⟨z.toArray⟩,rfl,rfl⟩
  | _=>cases ky
 have inj:∀{p:U} {q:Key},Qd4 p q->(p=y↔q=key):=by
  intro p q hp
  cases y with
  | int i m =>
   cases m with
   | succ m=>cases ky
   | zero =>
    cases(show key=_ from hk)
    cases p with
    | int j n =>
     cases n with
     | succ n=>exact(show False from hp).elim
     | zero=>cases(show q=_ from hp);exact⟨fun e=>(by cases e;rfl),fun e=>(by cases e;rfl)⟩
    | str z=>cases(show q=_ from hp);exact⟨fun e=>(by cases e),fun e=>(by cases e)⟩
    | _=>exact(show False from hp).elim
  | str z =>
   cases(show key=_ from hk)
   cases p with
   | int j n =>
    cases n with
    | succ n=>exact(show False from hp).elim
    | zero=>cases(show q=_ from hp);exact⟨fun e=>(by cases e),fun e=>(by cases e)⟩
   | str z' =>
    cases(show q=_ from hp)
    refine⟨fun e=>(by cases e;rfl),fun e=>?_⟩
    have e1:=Sum.inr.inj e;have e2:=congrArg (fun s:Str=>s.cps.toList) e1
    have e3:z'=z:=by simpa using e2
    rw [e3]
   | _=>exact(show False from hp).elim
  | _=>cases ky
 intro kvs r;refine⟨key,hy,?_⟩
 induction r with
 | nil=>rfl
 | @cons p q ps qs hpq t ih =>
  obtain⟨pk,pv⟩:=p;obtain⟨qk,qv⟩:=q;obtain⟨h1,v,h2,h3⟩:=hpq;simp only [JH];by_cases e:pk=y
  ·have e2:qk=key:=(inj h1).mp e;rw [if_pos e];simp [valueAt,e2]
  ·have e2:¬qk=key:=fun z=>e ((inj h1).mpr z);rw [if_neg e,<-ih];simp only [valueAt,List.find?_cons];rw [decide_eq_false e2]
noncomputable def Qkt(P:Program)(w:World)(K:PySem.W.Frag)(neg:Bool):R2:=fun x y H Q=>∃a vs key,y=.ref a/\(a==sysModules)=false/\x=kV key/\(∀h:Heap,K.In h->h.DictOf (Zn P w) a vs)/\Q (.bl (if neg then !(valueAt vs key).isSome else(valueAt vs key).isSome)) H
theorem Qco:OpR X (compareOp .In) (Qkt X.prog X.w X.K false):=by
 intro pins s σ H x y v u Q I rx ry h;obtain⟨a,vs,key,rfl,ns,rfl,hd,q⟩:=h;cases ry;exact wpAny_in_of (Qgk rx) ns (hd s.heap I.kIn).mapOf ⟨.bl _,H,I.tok _,rfl,q⟩
theorem JD:OpR X (compareOp .NotIn) (Qkt X.prog X.w X.K true):=by
 intro pins s σ H x y v u Q I rx ry h;obtain⟨a,vs,key,rfl,ns,rfl,hd,q⟩:=h;cases ry;exact wpAny_notIn_of (Qgk rx) ns (hd s.heap I.kIn).mapOf ⟨.bl _,H,I.tok _,rfl,q⟩
theorem Qbr{f:Value->Value->Sem Value}{r r':R2}(h:OpR X f r)(h':OpR X f r'):OpR X f (fun x y H Q=>r x y H Q\/r' x y H Q):=fun pins s σ H x y v u Q I rx ry q=>q.elim (h pins s σ H x y v u Q I rx ry) (h' pins s σ H x y v u Q I rx ry)
theorem Qb0{neg:Bool}{c:Bool}(tab:JY X.prog X.w T A X.K)(h:QjJ T w u=some c)(ru:RU A α u v)(rw':RU A α w y)(q:Q (.bl (if neg then !c else c)) H):Qkt X.prog X.w X.K neg v y H Q\/∃i j,v=.str i/\y=.str j/\Q (.bl (if neg then !(!(Builtin.Str.occurrences j i 0 j.length 1).isEmpty)else !(Builtin.Str.occurrences j i 0 j.length 1).isEmpty)) H:=by
 unfold QjJ at h;split at h
 case h_3=>cases h
 case h_2 =>
  split at h
  ·rename_i y' x';cases h;cases(show v=_ from ru);cases(show y=_ from rw');exact .inr ⟨_,_,rfl,rfl,q⟩
  ·cases h
 rename_i k;refine .inl ?_;split at h
 case h_2=>cases h
 rename_i kvs ec;split at h
 case isFalse=>cases h
 rename_i ky;cases h;obtain⟨vs,ns,hd,hp⟩:=tab k kvs ec;obtain⟨key,ev,e⟩:=Qfh ky ru hp;cases(show y=_ from rw')
 exact⟨_,vs,key,rfl,ns,ev,hd,by rw [e];exact q⟩
noncomputable def QmI(X:Cx)(T:Tbl)(A:Adr)(o:CmpOp):Prop:=∃r,OpR X (compareOp o) r/\∀{α:List Addr} {u w:U} {hs:Hs} {v y:V} {H:Hp} {Q:VK} {c:Bool},Qo T o u w hs=some c->RU A α u v->RU A α w y->Rep T A X.K α hs H->Q (.bl c) H->r v y H Q
theorem Qbc{o:CmpOp}{p:Int->Int->Bool}(ho:OpR X (compareOp o) (rI0 fun i j=>.bl (p i j)))(hc:∀u w hs,Qo T o u w hs=match u,w with|.int i 0,.int j 0=>some (p i j)|_,_=>none):QmI X T A o:=by
 refine⟨_,ho,?_⟩;intro α u w hs v y H Q c h ru rw' R q;rw [hc]at h;split at h
 ·cases h;obtain⟨i',rfl,a⟩:=ru;obtain⟨j',rfl,b⟩:=rw';cases a.exact;cases b.exact;exact⟨_,_,rfl,rfl,q⟩
 ·cases h
theorem QnG(tx:Txt T A X.K X.mg)(tab:JY X.prog X.w T A X.K)(hu:X.A.units+64<cLine)(o:CmpOp):QmI X T A o:=by
 cases o with
 | Eq =>
  refine⟨_,OpR.or QkO (OpR.or (Qis tx hu) (OpR.or (Qir tx hu) (Qit tx hu))),?_⟩;intro α u w hs v y H Q c h ru rw' R q;simp only [Qo,eqA]at h;split at h
  ·rename_i b e;cases h;obtain⟨h1,h2⟩:=QeS e ru rw'
   exact .inl ⟨h1,by rw [h2];exact q⟩
  ·split at h
   ·rename_i c;cases h;exact .inr (.inl ⟨α,u,w,hs,ru,rw',R,c,q⟩)
   ·split at h
    ·rename_i c;cases h;exact .inr (.inr (.inl ⟨α,u,w,hs,ru,rw',R,c,q⟩))
    ·split at h
     ·rename_i c;cases h;rw [Bool.and_eq_true]at c;exact .inr (.inr (.inr ⟨α,u,w,hs,ru,rw',R,c.1,c.2,q⟩))
     ·cases h
 | NotEq =>
  refine⟨_,OpR.or QkJ (OpR.or (Qim tx hu) (OpR.or (Qil tx hu) (Qin tx hu))),?_⟩;intro α u w hs v y H Q c h ru rw' R q;simp only [Qo,Option.map_eq_some_iff,eqA]at h;obtain⟨d,h,e⟩:=h;split at h
  ·rename_i b eb;cases h;obtain⟨h1,h2⟩:=QeS eb ru rw'
   exact .inl ⟨h1,by rw [h2,e];exact q⟩
  ·split at h
   ·rename_i cc;cases h;refine .inr (.inl ⟨α,u,w,hs,ru,rw',R,cc,?_⟩);rw [show(true:Bool)=c from e];exact q
   ·split at h
    ·rename_i cc;cases h;refine .inr (.inr (.inl ⟨α,u,w,hs,ru,rw',R,cc,?_⟩));rw [show(false:Bool)=c from e];exact q
    ·split at h
     ·rename_i cc;cases h;rw [Bool.and_eq_true]at cc;refine .inr (.inr (.inr ⟨α,u,w,hs,ru,rw',R,cc.1,cc.2,?_⟩));rw [if_pos rfl,e];exact q
     ·cases h
 | Lt=>exact Qbc QkK fun _ _ _=>rfl
 | LtE=>exact Qbc QkL fun _ _ _=>rfl
 | Gt=>exact Qbc QkM fun _ _ _=>rfl
 | GtE=>exact Qbc QkN fun _ _ _=>rfl
 | Is =>
  refine⟨_,Qip,?_⟩;intro α u w hs v y H Q c h ru rw' R q;simp only [Qo]at h;split at h
  ·cases h;refine⟨rw',?_⟩
   have e:decide (v=.non)=decide (u=.non):=by
    cases u with
    | non=>cases(show v=_ from ru);rfl
    | bl b=>cases(show v=_ from ru);rfl
    | int i m=>obtain⟨_,rfl,_⟩:=ru;rfl
    | str x=>cases(show v=_ from ru);rfl
    | ref n=>obtain⟨_,_,rfl⟩:=ru;rfl
    | con k=>cases(show v=_ from ru);rfl
    | scr=>cases(show v=_ from ru);rfl
   rw [e];exact q
  ·cases h
 | IsNot =>
  refine⟨_,QfV,?_⟩;intro α u w hs v y H Q c h ru rw' R q;simp only [Qo]at h;split at h
  ·cases h;refine⟨rw',?_⟩
   have e:decide (v=.non)=decide (u=.non):=by
    cases u with
    | non=>cases(show v=_ from ru);rfl
    | bl b=>cases(show v=_ from ru);rfl
    | int i m=>obtain⟨_,rfl,_⟩:=ru;rfl
    | str x=>cases(show v=_ from ru);rfl
    | ref n=>obtain⟨_,_,rfl⟩:=ru;rfl
    | con k=>cases(show v=_ from ru);rfl
    | scr=>cases(show v=_ from ru);rfl
   rw [e];exact q
  ·cases h
 | In =>
  refine⟨_,Qbr Qcq (Qbr (Qiq (by omega)) (Qbr Qco Qcp)),?_⟩
  intro α u w hs v y H Q c h ru rw' R q;simp only [Qo]at h;split at h
  ·rename_i xs e;obtain⟨a,vs,rfl,rr,sq⟩:=Yr (K':=X.K) tx R e rw';unfold inU at h;split at h
   ·rename_i f;cases h;rw [Bool.and_eq_true]at f;obtain⟨h1,h2⟩:=QcK f.1 ru rr f.2
    exact .inl ⟨a,vs,rfl,sq,Qaw f.1 ru,h1,by rw [h2];exact q⟩
   ·cases h
  ·exact .inr ((QeP (neg:=false) R h ru rw' q).imp id fun h=>Qb0 (neg:=false) tab h ru rw' q)
 | NotIn =>
  refine⟨_,Qbr JE (Qbr (Qcn (by omega)) (Qbr JD JC)),?_⟩
  intro α u w hs v y H Q c h ru rw' R q;simp only [Qo]at h;split at h
  ·rename_i xs e;obtain⟨a,vs,rfl,rr,sq⟩:=Yr (K':=X.K) tx R e rw';simp only [Option.map_eq_some_iff]at h;obtain⟨d,h,e2⟩:=h;unfold inU at h;split at h
   ·rename_i f;cases h;rw [Bool.and_eq_true]at f;obtain⟨h1,h2⟩:=QcK f.1 ru rr f.2
    exact .inl ⟨a,vs,rfl,sq,Qaw f.1 ru,h1,by rw [h2];simp only [if_true];rw [e2];exact q⟩
   ·cases h
  ·simp only [Option.map_eq_some_iff]at h;obtain⟨d,h,e2⟩:=h
   have q':Q (.bl (if true=true then !d else d)) H:=by simp only [if_true];rw [e2];exact q
   exact .inr ((QeP (neg:=true) R h ru rw' q').imp id fun h=>Qb0 (neg:=true) tab h ru rw' q')
theorem QjB{us:List U}{vs:List V}(r:RUs A α us vs)(h:atU us i=some u):∃v,atI vs i=some v/\RU A α u v:=by
 unfold atU at h;split at h
 ·rename_i j e;obtain⟨v,h1,h2⟩:=r.get h;refine⟨v,?_,h2⟩
  have e':ixN vs.length i=some j:=by rw [<-r.length];exact e
  unfold atI;rw [e'];exact h1
 ·cases h
theorem Qlt{xs:List Nat}{c:Nat}(h:atU xs i=some c):atI xs i=some c:=by
 unfold atU at h;split at h
 ·rename_i j e;have e':ixN xs.length i=some j:=e;unfold atI;rw [e'];exact h
 ·cases h
theorem Qfn{hs:Hs}(tx:Txt T A X.K X.mg)(h:Qk T u w hs=some x)(ru:RU A α u v)(rw':RU A α w y)(R:Rep T A X.K α hs H)(k:∀z,RU A α x z->Q z H):rIx X.K v y H Q\/Qkx v y H Q:=by
 have seq:∀{xs:List U} {i:Int},Q8 T u hs=some xs->w=.int i 0->atU xs i=some x->rIx X.K v y H Q\/Qkx v y H Q:=fun {xs i} e1 e2 e3=>by
  subst e2;obtain⟨j,rfl,c⟩:=rw';cases c.exact;obtain⟨a,vs,rfl,rr,sq⟩:=Yr (K':=X.K) tx R e1 ru;obtain⟨z,h1,h2⟩:=QjB rr e3
  rcases sq with sq|sq
  ·exact .inl (.inl ⟨a,vs,i,z,rfl,rfl,sq,h1,k z h2⟩)
  ·exact .inl (.inr (.inl ⟨a,vs,i,z,rfl,rfl,sq,h1,k z h2⟩))
 cases u with
 | str z =>
  cases w with
  | int i m =>
   cases m with
   | succ m=>simp [Qk,Q8]at h
   | zero =>
    simp only [Qk]at h;split at h
    ·rename_i l;simp only [Option.map_eq_some_iff]at h;obtain⟨c,e,rfl⟩:=h;cases(show v=_ from ru);obtain⟨j,rfl,q⟩:=rw';cases q.exact
     exact .inl (.inr (.inr ⟨_,i,c,rfl,rfl,by rw [Zg];exact Nat.le_trans l big,by simpa using Qlt e,k _ (by show _=_;rfl)⟩))
    ·cases h
  | _=>simp [Qk,Q8]at h
 | ref n =>
  simp only [Qk]at h;split at h
  ·rename_i xs i e
   exact seq (by simp only [Q8,e]) rfl h
  ·rename_i xs i e
   exact seq (by simp only [Q8,e]) rfl h
  ·cases h
 | con n =>
  cases w with
  | int i m =>
   cases m with
   | succ m=>simp [Qk]at h
   | zero =>
    simp only [Qk]at h;split at h
    ·rename_i xs e;exact seq e rfl h
    ·cases h
  | _=>simp [Qk]at h
 | scr =>
  cases w with
  | int i m =>
   cases m with
   | succ m=>simp [Qk]at h
   | zero =>
    simp only [Qk]at h;split at h
    ·rename_i xs e;exact seq e rfl h
    ·cases h
  | _=>simp [Qk]at h
 | _ =>
  cases w with
  | int i m=>cases m<;>simp [Qk,Q8]at h
  | _=>simp [Qk]at h
theorem RUs.drop{α:List Addr}:∀(n:Nat) {us:List U} {vs:List V},RUs A α us vs->RUs A α (us.drop n) (vs.drop n)
 | 0,_,_,r=>r
 | _+1,_,_,.nil=>.nil
 | n+1,_,_,.cons _ t=>RUs.drop n t
theorem RUs.take{α:List Addr}:∀(n:Nat) {us:List U} {vs:List V},RUs A α us vs->RUs A α (us.take n) (vs.take n)
 | 0,_,_,_=>.nil
 | _+1,_,_,.nil=>.nil
 | n+1,_,_,.cons r t=>.cons r (RUs.take n t)
theorem ZW(n d:Nat)(o:Option Int):ZX n d o=HT.sIx n d o:=by cases o<;>rfl
theorem RUs.cut{us:List U}{vs:List V}(r:RUs A α us vs)(lo hi:Option Int):RUs A α (ZV us lo hi) (QeW vs lo hi):=by
 unfold ZV QeW;rw [ZW,ZW,r.length];exact RUs.take _ (RUs.drop _ r)
theorem Qek(x:List Nat)(lo hi:Option Int):(Txt.slice ⟨x.toArray⟩ lo hi)=⟨(ZV x lo hi).toArray⟩:=by
 have h:=Qb5 ⟨x.toArray⟩ lo hi
 have e:(⟨x.toArray⟩:Str).length=x.length:=by simp [Str.length]
 rw [e]at h;apply Str.ext';apply Array.toList_inj.mp;rw [h];simp only [ZV,ZW]
theorem QhB{hs hs':Hs}{lo hi:Option Int}(h:slU T u lo hi hs=some (x,hs'))(ru:RU A α u v)(R:Rep T A X.K α hs H)(k:∀α' z H',Ext α α' H H'->Rep T A X.K α' hs' H'->RU A α' x z->Q z H'):Qmj X.K v lo hi H Q\/(Qmh X.K v lo hi H Q\/Qmi v lo hi H Q):=by
 cases u with
 | scr =>
  simp only [slU]at h;cases h;obtain⟨vs,rr,q⟩:=R.s.sq (α:=α);refine .inl ⟨_,vs,ru,q,fun p hp=>?_⟩;obtain⟨R',E'⟩:=R.new (o:=.lst (ZV T.scr lo hi)) hp ⟨_,Qq,RUs.mono QI (rr.cut lo hi)⟩
  exact k _ _ _ E' R' ⟨p,by rw [<-R.h.len];exact QW,rfl⟩
 | ref n =>
  simp only [slU]at h;split at h
  ·rename_i xs e;cases h;obtain⟨a,ha,rfl⟩:=ru;obtain⟨vs,q,rr⟩:=R.h.ob n a _ ha e;refine .inl ⟨_,vs,rfl,SqL.of q,fun p hp=>?_⟩;obtain⟨R',E'⟩:=R.new (o:=.lst (ZV xs lo hi)) hp ⟨_,Qq,RUs.mono QI (rr.cut lo hi)⟩
   exact k _ _ _ E' R' ⟨p,by rw [<-R.h.len];exact QW,rfl⟩
  ·rename_i xs e;split at h
   ·cases h
   rename_i hw;cases h;obtain⟨a,ha,rfl⟩:=ru;obtain⟨vs,q,rr⟩:=R.h.ob n a _ ha e;refine .inr (.inl ⟨_,vs,rfl,SqT.of q,?_,fun p hp=>?_⟩)
   ·rw [ZW,ZW,rr.length]at hw;exact hw
   obtain⟨R',E'⟩:=R.new (o:=.tup (ZV xs lo hi)) hp ⟨_,Qq,RUs.mono QI (rr.cut lo hi)⟩
   exact k _ _ _ E' R' ⟨p,by rw [<-R.h.len];exact QW,rfl⟩
  ·cases h
 | str y =>
  simp only [slU]at h;split at h
  ·rename_i l;cases h;cases(show v=_ from ru)
   refine .inr (.inr ⟨_,rfl,by rw [Zg];exact Nat.le_trans l big,?_⟩)
   rw [Qek];exact k α _ H Ext.refl R rfl
  ·cases h
 | _=>simp [slU]at h
end
end Iv
namespace Iv
open PySem PySem.Spec PyProof.Rows L2
variable {hs:Hs}{α:List Addr}{us:List U}{vs:List V}{u:U}{v:V}
section
variable {X:Cx}{T:Tbl}{A:Adr}{C:Ctx}
theorem ZM{e:Expr}{t:TE}(h:∀σ H Q,¬t σ H Q):PE X e t:=fun _ _ σ H Q _ q=>(h σ H Q q).elim
theorem QkX(K:PySem.W.Frag){k t:Ty}{b:Bool}(h:Qk1 k t=some b)(A:Adr):PySem.W.kitOne K (tyW A k) (tyW A t)=some b:=by
 cases k<;>cases t<;>simp only [Qk1]at h<;>first|(cases h;done)|(cases h;rfl)|(cases h;kernel_rfl)
theorem Qgj{H:Hp}{k:Ty}(tx:Txt T A X.K X.mg)(h:Qas u hs=some k)(r:RU A α u v)(R:Rep T A X.K α hs H):TyE X.K H v (tyW A k):=by
 cases u with
 | non=>cases h;cases(show v=_ from r);exact .inl .non
 | bl b=>cases h;cases(show v=_ from r);exact .inl (.bl b)
 | int i m=>cases h;obtain⟨j,rfl,_⟩:=r;exact .inl (.int j)
 | str x=>cases h;cases(show v=_ from r);exact .inl (.str _)
 | ref n =>
  obtain⟨a,ha,rfl⟩:=r;simp only [Qas]at h;split at h
  ·rename_i xs e;cases h;obtain⟨vs,q,_⟩:=R.h.ob n a _ ha e;exact .inl (.lst q)
  ·rename_i xs e;cases h;obtain⟨vs,q,_⟩:=R.h.ob n a _ ha e;exact .inl (.tup q)
  ·rename_i c fs e;cases h;obtain⟨dx,fv,q,_,l⟩:=R.h.ob n a _ ha e;exact .inl ((tx.cl c _ (List.getElem?_eq_getElem l)).ty H a dx fv q)
  ·cases h
 | _=>simp [Qas]at h
theorem QiT{H:Hp}{t:Ty}{b:Bool}(tx:Txt T A X.K X.mg)(h:YN T t u hs=some b)(r:RU A α u v)(R:Rep T A X.K α hs H):∃tv,TyE X.K H v tv/\PySem.W.kitOne X.K tv (tyW A t)=some b:=by
 unfold YN at h;split at h
 ·cases h
 ·rename_i k e;refine⟨tyW A k,Qgj tx e r R,?_⟩;split at h
  ·rename_i b' e';cases h;exact QkX X.K e' A
  ·exact tx.isi k t b h
theorem Qz(r:RUs A α (u::us) vs):∃v ws,vs=v::ws/\RU A α u v/\RUs A α us ws:=by cases r with|cons a b=>exact⟨_,_,rfl,a,b⟩
theorem QN(r:RUs A α [] vs):vs=[]:=by cases r;rfl
theorem Qej(n:Nat):((toString (n:Int):String):Str)=⟨(Z5 n).toArray⟩:=by
 apply Str.ext';apply Array.toList_inj.mp;exact PySem.W.KIN.signs_num n
theorem Qc2 : CallR X (.type "int") (fun xs H Q => ((∃ i, xs = [.int i] /\ Q (.int i) H) \/ ∃ k, xs = [.bl k] /\ Q (.int (if k then 1 else 0)) H) \/ ∃ x, xs = [.str x] /\ NumText.AllDigits x.cps.toList /\ x.cps.toList ≠ [] /\ x.length <= 640 /\ Q (.int ((NumText.digitsVal x.cps.toList : Nat) : Int)) H) := by
 intro pins s σ H xs us Q I r h
 rcases h with h|h
 ·exact Qc3 pins s σ H xs us Q I r h
 ·exact Jn pins s σ H xs us Q I r h
noncomputable def BiS(X:Cx)(T:Tbl)(A:Adr)(b:Bi)(f:Value):Prop:=∃r,CallR X f r/\∀{α:List Addr} {us:List U} {u':U} {hs hs':Hs} {vs:List V} {H:Hp} {Q:VK},biU T b us hs=some (u',hs')->RUs A α us vs->Rep T A X.K α hs H ->
 (∀α' v' H',Ext α α' H H'->Rep T A X.K α' hs' H'->RU A α' u' v'->Q v' H')->r vs H Q
theorem Qjg{f:Value}:CallR X f (fun _ _ _=>False):=fun pins s σ H xs us Q I r h=>h.elim
theorem QgX(tx:Txt T A X.K X.mg):BiS X T A .len (.builtin "len"):=by
 refine⟨_,CallR.or (CallR.or JS JR) Qjg,?_⟩;intro α us u' hs hs' vs H Q h r R k
 have seq:∀{u:U} {xs:List U},us=[u]->Q8 T u hs=some xs->(u',hs')=(U.int xs.length 0,hs)->(∃p ys,vs=[V.ref p]/\(SqL X.K H p ys\/SqT X.K H p ys)/\Q (.int ys.length) H):=fun {u xs} e1 e2 e3=>by
  subst e1;cases e3;obtain⟨v,ws,rfl,ru,rn⟩:=Qz r;cases QN rn;obtain⟨a,ys,rfl,rr,sq⟩:=Yr (K':=X.K) tx R e2 ru
  exact⟨a,ys,rfl,sq,k α _ H Ext.refl R ⟨_,rfl,by rw [rr.length];exact Cg.refl _ _⟩⟩
 cases us with
 | nil=>first|exact nomatch (show(none:Option (U×Hs))=some _ from h)|simp [biU]at h
 | cons u t =>
  cases t with
  | cons _ _=>cases u<;>first|exact nomatch (show(none:Option (U×Hs))=some _ from h)|simp [biU]at h
  | nil =>
   cases u with
   | str x =>
    unfold biU at h;try dsimp only at h;split at h
    ·rename_i l;cases h;obtain⟨v,ws,rfl,ru,rn⟩:=Qz r;cases QN rn;cases(show v=_ from ru)
     refine .inl (.inr ⟨_,rfl,by rw [Zg];exact Nat.le_trans l big,k α _ H Ext.refl R ⟨_,rfl,?_⟩⟩)
     rw [Zg];exact Cg.refl _ _
    ·cases h
   | ref n =>
    unfold biU at h;try dsimp only at h;split at h
    ·rename_i xs e;exact .inl (.inl (seq rfl e (Option.some.inj h).symm))
    ·cases h
   | con n =>
    unfold biU at h;try dsimp only at h;split at h
    ·rename_i xs e;exact .inl (.inl (seq rfl e (Option.some.inj h).symm))
    ·cases h
   | scr =>
    unfold biU at h;try dsimp only at h;split at h
    ·rename_i xs e;exact .inl (.inl (seq rfl e (Option.some.inj h).symm))
    ·cases h
   | _=>unfold biU at h;simp [Q8]at h
theorem QgY:BiS X T A .int (.type "int"):=by
 refine⟨_,Qc2,?_⟩;intro α us u' hs hs' vs H Q h r R k
 cases us with
 | nil=>first|exact nomatch (show(none:Option (U×Hs))=some _ from h)|simp [biU]at h
 | cons u t =>
  cases t with
  | cons _ _=>cases u<;>first|exact nomatch (show(none:Option (U×Hs))=some _ from h)|simp [biU]at h
  | nil =>
   obtain⟨v,ws,rfl,ru,rn⟩:=Qz r;cases QN rn
   cases u with
   | int i m =>
    cases h;obtain⟨j,rfl,c⟩:=ru;exact .inl (.inl ⟨j,rfl,k α _ H Ext.refl R ⟨_,rfl,c⟩⟩)
   | bl b =>
    cases h;cases(show v=_ from ru);refine .inl (.inr ⟨b,rfl,k α _ H Ext.refl R ⟨_,rfl,?_⟩⟩);cases b<;>exact Cg.refl _ _
   | str x =>
    unfold biU at h;try dsimp only at h;split at h
    case isFalse=>cases h
    rename_i c;cases h;cases(show v=_ from ru);unfold QmC at c;simp only [Bool.and_eq_true,List.all_eq_true,decide_eq_true_eq,Bool.not_eq_true',List.isEmpty_eq_false_iff]at c;obtain⟨⟨c1,c2⟩,c3⟩:=c
    exact .inr ⟨_,rfl,c1,c2,by rw [Zg];exact c3,k α _ H Ext.refl R ⟨_,rfl,Cg.refl _ _⟩⟩
   | _=>first|exact nomatch (show(none:Option (U×Hs))=some _ from h)|simp [biU]at h
theorem QgV:BiS X T A .str (.type "str"):=by
 refine⟨_,JQ,?_⟩;intro α us u' hs hs' vs H Q h r R k
 cases us with
 | nil=>simp [biU]at h
 | cons u t =>
  cases t with
  | cons _ _=>cases u<;>simp [biU]at h
  | nil =>
   obtain⟨v,ws,rfl,ru,rn⟩:=Qz r;cases QN rn
   cases u with
   | int i m =>
    cases m with
    | succ m=>simp [biU]at h
    | zero =>
     simp only [biU]at h;split at h
     ·rename_i c;cases h;obtain⟨j,rfl,q⟩:=ru;cases q.exact;simp only [Bool.and_eq_true,decide_eq_true_eq]at c;obtain⟨n,rfl⟩:=Int.eq_ofNat_of_zero_le c.1;exact⟨(n:Int),rfl,c.2,k α _ H Ext.refl R (congrArg V.str (Qej n))⟩
     ·cases h
   | _=>simp [biU]at h
theorem Qda:BiS X T A .tuple (.type "tuple"):=by
 refine⟨_,Jm,?_⟩;intro α us u' hs hs' vs H Q h r R k
 cases us with
 | nil=>first|exact nomatch (show(none:Option (U×Hs))=some _ from h)|simp [biU]at h
 | cons u t =>
  cases t with
  | cons _ _=>cases u<;>first|exact nomatch (show(none:Option (U×Hs))=some _ from h)|simp [biU]at h
  | nil =>
   obtain⟨v,ws,rfl,ru,rn⟩:=Qz r;cases QN rn
   cases u with
   | ref n =>
    obtain⟨a,ha,rfl⟩:=ru;unfold biU at h;try dsimp only at h;split at h
    ·rename_i xs e;cases h;obtain⟨ys,q,rr⟩:=R.h.ob n a _ ha e;refine⟨a,ys,rfl,.inl ⟨SqL.of q,fun p hp=>?_⟩⟩;obtain⟨R',E'⟩:=R.new (o:=.tup xs) hp ⟨_,Qq,RUs.mono QI rr⟩
     exact k _ _ _ E' R' ⟨p,by rw [<-R.h.len];exact QW,rfl⟩
    ·rename_i xs e;cases h;obtain⟨ys,q,rr⟩:=R.h.ob n a _ ha e;exact⟨a,ys,rfl,.inr ⟨SqT.of q,k α _ H Ext.refl R ⟨a,ha,rfl⟩⟩⟩
    ·cases h
   | _=>first|exact nomatch (show(none:Option (U×Hs))=some _ from h)|simp [biU]at h
theorem Qa7{α:List Addr}:∀{ys:List U} {ns:List Int} {vs:List V},Qbz ys=some ns->RUs A α ys vs->vs=ns.map V.int
 | [],_,_,h,r=>by cases h;cases QN r;rfl
 | u::ys,ns,vs,h,r=>by
  cases u with
  | int i m =>
   cases m with
   | succ m=>simp [Qbz]at h
   | zero =>
    simp only [Qbz,Option.map_eq_some_iff]at h;obtain⟨ns',h,rfl⟩:=h;obtain⟨v,ws,rfl,ru,rn⟩:=Qz r;obtain⟨j,rfl,c⟩:=ru;cases c.exact;rw [Qa7 h rn];rfl
  | _=>simp [Qbz]at h
theorem QeQ{i:Int}(r:RU A α (.int i 0) v):v=.int i:=by
 obtain⟨j,rfl,c⟩:=r;cases c.exact;rfl
theorem CallR.or{f:Value}{r1 r2:List V->Hp->VK->Prop}(h1:CallR X f r1)(h2:CallR X f r2):CallR X f (fun xs H Q=>r1 xs H Q\/r2 xs H Q):=by
 intro pins s σ H xs us Q I r h
 rcases h with h|h
 ·exact h1 pins s σ H xs us Q I r h
 ·exact h2 pins s σ H xs us Q I r h
theorem QgW(tx:Txt T A X.K X.mg)(hc:X.calm=true):BiS X T A .min (.builtin "min"):=by
 refine⟨_,CallR.or (Qc0 hc) (Qc1 hc),?_⟩;intro α us u' hs hs' vs H Q h r R k;have h:biL T .min us hs=some (u',hs'):=h;unfold biL at h;split at h<;>try contradiction
 ·simp only [Option.bind_eq_some_iff,Option.map_eq_some_iff]at h;obtain⟨xs,el,ns,en,m,em,h⟩:=h;cases h;obtain⟨v,ws,rfl,ru,rn⟩:=Qz r;cases QN rn;obtain⟨a,vs,rfl,rr,sq⟩:=Q6 tx R el ru;cases Qa7 en rr;refine .inl ⟨a,ns,rfl,sq,?_,fun M h1 h2=>?_⟩
  ·cases ns with
   | nil=>cases em
   | cons _ _=>exact Nat.succ_pos _
  ·cases Qge em h1 h2;exact k α _ H Ext.refl R ⟨_,rfl,Cg.refl _ _⟩
 ·refine .inr ?_;cases h;obtain⟨v,ws,rfl,ru,rn⟩:=Qz r;obtain⟨v2,ws,rfl,ru2,rn⟩:=Qz rn;cases QN rn;cases QeQ ru;cases QeQ ru2;exact⟨_,_,rfl,k α _ H Ext.refl R ⟨_,rfl,Cg.refl _ _⟩⟩
noncomputable def BmS(X:Cx)(T:Tbl)(A:Adr)(b:Bm)(id:String):Prop:=∃r,MtR X id r/\∀{α:List Addr} {o u':U} {us:List U} {hs hs':Hs} {x:V} {vs:List V} {H:Hp} {Q:VK},bmU T b o us hs=some (u',hs')->RU A α o x->RUs A α us vs->Rep T A X.K α hs H ->
 (∀α' v' H',Ext α α' H H'->Rep T A X.K α' hs' H'->RU A α' u' v'->Q v' H')->r x vs H Q
theorem Qc7{b:Bm}{o u':U}{hs':Hs}(h:bmU T b o us hs=some (u',hs'))(hb:∀x,bmS T b x us hs=none)(hd:∀n kvs,bmD b n kvs us hs=none):∃n xs,o=.ref n/\hs[n]?=some (.lst xs):=by
 cases o with
 | ref n =>
  simp only [bmU]at h;split at h
  ·rename_i xs e;exact⟨n,xs,rfl,e⟩
  ·rw [hd]at h;cases h
  ·cases h
 | str x =>
  simp only [bmU]at h;rw [hb]at h;cases h
 | _=>simp [bmU]at h
theorem QbI:BmS X T A .append "list.append":=by
 refine⟨_,JF,?_⟩;intro α o u' us hs hs' x vs H Q h ro r R k;obtain⟨n,xs,rfl,e⟩:=Qc7 h (fun _=>rfl) (fun _ _=>rfl);obtain⟨a,ha,rfl⟩:=ro
 cases us with
 | nil=>simp [bmU,bmL,e]at h
 | cons u t =>
  cases t with
  | cons _ _=>simp [bmU,bmL,e]at h
  | nil =>
   simp only [bmU,bmL,e]at h;split at h
   ·rename_i l;cases h;obtain⟨v,ws,rfl,ru,rn⟩:=Qz r;cases QN rn;obtain⟨ys,q,rr⟩:=R.h.ob n a _ ha e;refine⟨a,ys,v,rfl,rfl,q,?_,?_⟩
    ·rw [<-rr.length];exact Nat.lt_of_lt_of_le l big
    ·obtain⟨R',E'⟩:=R.put (o:=.lst (xs++[u])) ha ⟨_,Qq,rr.append (.cons ru .nil)⟩;exact k _ _ _ E' R' rfl
   ·cases h
theorem RUs.dropLast(r:RUs A α us vs):RUs A α us.dropLast vs.dropLast:=by
 rw [List.dropLast_eq_take,List.dropLast_eq_take,r.length];exact RUs.take _ r
theorem QgT:BmS X T A .pop "list.pop":=by
 refine⟨_,QiD,?_⟩;intro α o u' us hs hs' x vs H Q h ro r R k;obtain⟨n,xs,rfl,e⟩:=Qc7 h (fun _=>rfl) (fun _ _=>rfl);obtain⟨a,ha,rfl⟩:=ro
 cases us with
 | cons u t=>simp [bmU,bmL,e]at h
 | nil =>
  simp only [bmU,bmL,e]at h;split at h
  ·rename_i y l;cases h;cases QN r;obtain⟨ys,q,rr⟩:=R.h.ob n a _ ha e;obtain⟨v,hv,rv⟩:=rr.get l
   refine⟨a,ys,v,rfl,rfl,q,by rw [<-rr.length];exact hv,?_⟩
   obtain⟨R',E'⟩:=R.put (o:=.lst xs.dropLast) ha ⟨_,Qq,rr.dropLast⟩;exact k _ _ _ E' R' rv
  ·cases h
theorem QaL{α:List Addr}:∀{ys:List U} {ts:List (List Nat)} {vs:List V},Yb ys=some ts->RUs A α ys vs->vs=(ts.map fun t=>(⟨t.toArray⟩:Str)).map V.str
 | [],_,_,h,r=>by cases h;cases QN r;rfl
 | u::ys,ts,vs,h,r=>by
  cases u with
  | str x =>
   simp only [Yb,Option.map_eq_some_iff]at h;obtain⟨ts',h,rfl⟩:=h;obtain⟨v,ws,rfl,ru,rn⟩:=Qz r;cases(show v=_ from ru);rw [QaL h rn];rfl
  | _=>simp [Yb]at h
theorem Jw(k:Nat):∀(ts:List (List Nat)) (a:Nat),(ts.map fun t=>(⟨t.toArray⟩:Str)).foldl (· + ·.length+k) a=a+ts.length*k+(ts.map List.length).sum
 | [],a=>by simp
 | t::r,a=>by
  rw [List.map_cons,List.foldl_cons,Jw k r]
  have:(⟨t.toArray⟩:Str).length=t.length:=by simp [Str.length]
  rw [this];simp only [List.length_cons,List.map_cons,List.sum_cons,Nat.succ_mul];omega
theorem Qd5(x:List Nat)(ts:List (List Nat)):Txt.join ⟨x.toArray⟩ (ts.map fun t=>(⟨t.toArray⟩:Str))=⟨(Qj x ts).toArray⟩:=by
 apply Str.ext';apply Array.toList_inj.mp;show(Builtin.Str.glued _ _).cps.toList=_;rw [StrLaws.glued_eq_join,Qa4,List.map_map]
 have:((fun t:Str=>t.cps.toList)∘fun t:List Nat=>(⟨t.toArray⟩:Str))=id:=by funext t;simp
 rw [this,List.map_id]
theorem Qep(tx:Txt T A X.K X.mg):BmS X T A .join "str.join":=by
 refine⟨_,Qga,?_⟩;intro α o u' us hs hs' x vs H Q h ro r R k
 cases o with
 | ref n =>
  simp only [bmU]at h;split at h
  ·simp [bmL]at h
  ·simp [bmD]at h
  ·cases h
 | str z =>
  cases(show x=_ from ro);simp only [bmU]at h
  match us,h with
  | [],h=>simp [bmS]at h
  | _::_::_,h=>simp [bmS]at h
  | [w],h =>
   simp only [bmS]at h;split at h
   case h_2=>cases h
   rename_i ys el;split at h
   case h_2=>cases h
   rename_i ts es;split at h
   case isFalse=>cases h
   rename_i c;cases h;obtain⟨v,ws,rfl,ru,rn⟩:=Qz r;cases QN rn;obtain⟨a,vs,rfl,rr,sq⟩:=Q6 tx R el ru;have ev:=QaL es rr;subst ev;refine⟨_,a,_,rfl,rfl,sq,?_,?_⟩
   ·unfold JoinOk;rw [List.foldl_toArray,Zg,Jw];unfold Builtin.Str.tooLong;simp only [Bool.not_eq_true',decide_eq_false_iff_not];have:=big;omega
   ·rw [Qd5];exact k α _ H Ext.refl R rfl
 | _=>simp [bmU]at h
end
end Iv
namespace Iv
open PySem PySem.Spec PyProof.Rows L2
variable {ir:E}{a e:Expr}{d:Nat}{p:Pos}
noncomputable def TIO(T:Tbl)(A:Adr)(K:PySem.W.Frag)(f:Rho->Hs->Option (Option Int×Hs)):TO:=fun σ H Q=>∃α ρ hs u hs',RS A α ρ σ/\Rep T A K α hs H/\f ρ hs=some (u,hs') /\
 ∀α' H',Ext α α' H H'->Rep T A K α' hs' H'->Q u H'
structure Fc(X:Cx)(T:Tbl)(A:Adr)(cf:Cf)(k:Nat):Prop where
 ok:∀f F,T.fns[f]?=some F->∃fd,FnOk X.prog X.w X.K X.mg X.base CX0 k (A.f f) fd F.ps (spC T A X.K cf f)/\Binds X.K fd F.ps []/\PySem.W.keepIn X.K (.ref (A.f f))=true
 some:∀f us hs r,cf f us hs=some r->∃F,T.fns[f]?=some F/\us.length=F.np
 df:∀i D F,T.dfl.lookup i=Option.some D->T.fns[i]?=Option.some F->∃fd,FnOk X.prog X.w X.K X.mg X.base CX0 k (A.f i) fd D.ps (spC T A X.K cf i)/\PySem.W.keepIn X.K (.ref (A.f i))=true/\QjI A X.K fd D
 xf:∀f F,T.fns[f]?=Option.some F->∃fd,FnOk X.prog X.w X.K X.mg X.base (CXw X.prog X.w) k (A.f f) fd F.ps (spX T A X.K T.xf f)/\Binds X.K fd F.ps []/\PySem.W.keepIn X.K (.ref (A.f f))=true
structure Snd(T:Tbl)(A:Adr)(C:Ctx)(X:Cx)(cf:Cf)(m:Nat):Prop where
 e:∀d e ir,Qf m C e=some ir->PE X e (TI T A X.K (ev T cf d ir))
 t:∀d e ir,compT m C e=some ir->PT X e (TIT T A X.K (evT T cf d ir))/\PE X e (TI T A X.K (ev T cf d ir))
 an:∀d a r p ir,compAnd m C a r p=some ir->PW X (.BoolOp .And (a::r) p) (TIT T A X.K (evT T cf d ir))/\PE X (.BoolOp .And (a::r) p) (TI T A X.K (ev T cf d ir))
 orr:∀d a r p ir,compOr m C a r p=some ir->PW X (.BoolOp .Or (a::r) p) (TIT T A X.K (evT T cf d ir))/\PE X (.BoolOp .Or (a::r) p) (TI T A X.K (ev T cf d ir))
 a:∀d es irs,compA m C es=some irs->PA X es (TIA T A X.K (fun ρ hs=>evs (ev T cf d) ρ irs hs))
 o:∀d e ir,compO m C e=some ir->PO X e (TIO T A X.K (fun ρ hs=>evO (ev T cf d) ρ ir hs))
section
variable {X:Cx}{T:Tbl}{A:Adr}{C:Ctx}{cf:Cf}{m:Nat}
theorem QaF{t:TT}(h:∀σ H Q,¬t σ H Q):PT X e t:=fun _ _ σ H Q _ q=>(h σ H Q q).elim
theorem Qg2{t:TT}(h:∀σ H Q,¬t σ H Q):PW X e t:=fun _ _ _ σ H Q _ q=>(h σ H Q q).elim
theorem QkS{K:PySem.W.Frag}:∀σ H Q,¬TI T A K (ev T cf 0 ir) σ H Q:=fun _ _ _ ⟨_,_,_,_,_,_,_,h,_⟩=>nomatch h
theorem Qcu{K:PySem.W.Frag}:∀σ H Q,¬TIT T A K (evT T cf 0 ir) σ H Q:=fun _ _ _ ⟨_,_,_,_,_,_,_,h,_⟩=>nomatch h
theorem QD(h:∀d',PE X e (TI T A X.K (ev T cf (d'+1) ir))):PE X e (TI T A X.K (ev T cf d ir)):=by
 cases d with
 | zero=>exact ZM QkS
 | succ d=>exact h d
theorem QfA{c:Const}{k:Nat}(h:Qf (m+1) C (.Constant c k p)=some ir):PE X (.Constant c k p) (TI T A X.K (ev T cf d ir)):=by
 refine QD fun d=>?_
 cases c with
 | int i=>cases h;exact QR Qid fun σ H Q ⟨α,ρ,hs,u,hs',rs,R,e,q⟩=>by cases e;exact q α _ H Ext.refl R ⟨i,rfl,Cg.refl _ _⟩
 | bool b=>cases h;exact QR QkI fun σ H Q ⟨α,ρ,hs,u,hs',rs,R,e,q⟩=>by cases e;exact q α _ H Ext.refl R rfl
 | none=>cases h;exact QR Qib fun σ H Q ⟨α,ρ,hs,u,hs',rs,R,e,q⟩=>by cases e;exact q α _ H Ext.refl R rfl
 | str x=>cases h;exact QR Qia fun σ H Q ⟨α,ρ,hs,u,hs',rs,R,e,q⟩=>by cases e;exact q α _ H Ext.refl R rfl
 | _=>first|exact nomatch (show(none:Option E)=some _ from h)|simp [Qf]at h
theorem QhK{x:Str}(g:GX T A C X)(h:Qf (m+1) C (.Name x p)=some ir):PE X (.Name x p) (TI T A X.K (ev T cf d ir)):=by
 refine QD fun d=>?_;simp only [cE4]at h;split at h
 ·cases h
 ·rename_i hn;have n1:(x==("__debug__":Str))=false:=QY fun z=>hn (.inl z);have n2:(x==("__classdict__":Str))=false:=QY fun z=>hn (.inr z);split at h
  ·rename_i hv;simp only [Option.map_eq_some_iff]at h;obtain⟨i,hi,rfl⟩:=h
   refine QR (Qh8 (i:=i) (by rw [g.N];exact ZB hi) (Qhl g hv) n1 n2) ?_
   rintro σ H Q ⟨α,ρ,hs,u,hs',rs,R,e,q⟩;simp only [ev]at e;split at e
   ·rename_i w e';cases e;obtain⟨v,h1,h2⟩:=rs.get e';exact⟨v,h1,q α v H Ext.refl R h2⟩
   ·cases e
  ·split at h
   ·rename_i hg;split at h
    ·rename_i k hk;cases h;refine QR (Qai (Zf g hg) (g.gco x k hk) (v:=.ref (A.k k)) rfl n1) ?_;rintro σ H Q ⟨α,ρ,hs,u,hs',rs,R,e,q⟩;cases e;exact q α _ H Ext.refl R rfl
    ·rename_i t hk;cases h;obtain⟨k,hm⟩:=g.gtx x t hk;refine QR (Qai (Zf g hg) hm (v:=.str ⟨t.toArray⟩) ⟨_,rfl⟩ n1) ?_;rintro σ H Q ⟨α,ρ,hs,u,hs',rs,R,e,q⟩;simp only [ev]at e;cases e;exact q α _ H Ext.refl R rfl
    ·cases h
   ·cases h
theorem Qkp{b:Expr}{o:Operator}(S:Snd T A C X cf m)(h:Qf (m+1) C (.BinOp a o b p)=some ir):PE X (.BinOp a o b p) (TI T A X.K (ev T cf d ir)):=by
 refine QD fun d=>?_;simp only [cE5,Option.bind_eq_some_iff]at h;obtain⟨a',ha,b',hb,h⟩:=h;cases h;obtain⟨r,ho,hr⟩:=opS (X:=X) (T:=T) (A:=A) o;refine QR (QkF ho (S.e d a a' ha) (S.e d b b' hb)) ?_;rintro σ H Q ⟨α,ρ,hs,u,hs',rs,R,e,q⟩;simp only [ev]at e;obtain⟨u1,h1,e1,e⟩:=Qc e;obtain⟨u2,h2,e2,e⟩:=Qc e;refine TI.run rs R e1 fun α1 x H1 E1 R1 r1 rs1=>?_;refine TI.run rs1 R1 e2 fun α2 y H2 E2 R2 r2 rs2=>?_;exact hr e (r1.mono E2.pre) r2 R2 fun α3 v H3 E3 R3 r3=>q α3 v H3 ((E1.trans E2 R2.h).trans E3 R3.h) R3 r3
theorem Qkn(S:Snd T A C X cf m)(h:Qf (m+1) C (.UnaryOp .USub a p)=some ir):PE X (.UnaryOp .USub a p) (TI T A X.K (ev T cf d ir)):=by
 refine QD fun d=>?_;simp only [cE6,Option.bind_eq_some_iff]at h;obtain⟨a',ha,h⟩:=h;cases h;refine QR (QkD Qhn (S.e d a a' ha)) ?_;rintro σ H Q ⟨α,ρ,hs,u,hs',rs,R,e,q⟩;simp only [ev]at e;obtain⟨u1,h1,e1,e⟩:=Qc e;refine TI.run rs R e1 fun α1 x H1 E1 R1 r1 rs1=>?_;split at e
 ·cases e;obtain⟨i,rfl,c⟩:=r1;exact⟨i,rfl,q α1 _ H1 E1 R1 ⟨_,rfl,QeX c⟩⟩
 ·cases e
theorem QhJ(tx:Txt T A X.K X.mg)(S:Snd T A C X cf m)(h:Qf (m+1) C (.UnaryOp .Not a p)=some ir):PE X (.UnaryOp .Not a p) (TI T A X.K (ev T cf d ir))/\PT X (.UnaryOp .Not a p) (TIT T A X.K (evT T cf d ir)):=by
 simp only [cE7,Option.bind_eq_some_iff]at h;obtain⟨a',ha,h⟩:=h;cases h;constructor
 ·refine QD fun d=>?_;intro pins s σ H Q I hw;obtain⟨α,ρ,hs,u,hs',rs,R,e,q⟩:=hw;simp only [ev]at e;obtain⟨u1,h1,e1,e⟩:=Qc e;simp only [Option.map_eq_some_iff]at e;obtain⟨c,e2,e⟩:=e;cases e;refine UnaryOp_ (thn ((S.t d a a' ha).2 pins s σ H (fun v H'=>QjC X.K v H' c/\Q (.bl (!c)) H') I ⟨α,ρ,hs,u1,_,rs,R,e1,fun α' v H' E' R' r'=>⟨QbX tx R' e2 r',q α' _ H' E' R' rfl⟩⟩) fun v s1 ⟨x,H1,I1,r1,q1,q2⟩=>?_)
  exact not_of (thn (Qey pins s1 σ H1 x v (fun b H'=>b=c/\H'=H1) I1 r1 ⟨c,q1,rfl,rfl⟩) fun b s2 ⟨H2,I2,eb,eH⟩=>⟨.bl (!c),H2,I2,by rw [eb];rfl,by rw [eH];exact q2⟩)
 ·cases d with
  | zero=>exact QaF Qcu
  | succ d =>
   refine Qg3 (QhY (S.t d a a' ha).1) ?_;rintro σ H Q ⟨α,ρ,hs,u,hs',rs,R,e,q⟩;simp only [evT]at e;obtain⟨c,h1,e1,e⟩:=Qc e;cases e;exact TIT.run rs R e1 fun α1 H1 E1 R1 rs1=>q α1 H1 E1 R1
end
end Iv
namespace Iv
open PySem PySem.Spec PyProof.Rows L2
variable {ir:E}{a b e:Expr}{d:Nat}{p:Pos}
section
variable {X:Cx}{T:Tbl}{A:Adr}{C:Ctx}{cf:Cf}{m:Nat}
theorem QaU(h:∀d',PT X e (TIT T A X.K (evT T cf (d'+1) ir))):PT X e (TIT T A X.K (evT T cf d ir)):=by
 cases d with
 | zero=>exact QaF Qcu
 | succ d=>exact h d
theorem QaT(h:∀d',PW X e (TIT T A X.K (evT T cf (d'+1) ir))):PW X e (TIT T A X.K (evT T cf d ir)):=by
 cases d with
 | zero=>exact Qg2 Qcu
 | succ d=>exact h d
theorem QhR(S:Snd T A C X cf m)(d:Nat)(a:Expr)(r:List Expr)(p:Pos)(ir:E)(h:compAnd (m+1) C a r p=some ir):
  PW X (.BoolOp .And (a::r) p) (TIT T A X.K (evT T cf d ir))/\PE X (.BoolOp .And (a::r) p) (TI T A X.K (ev T cf d ir)):=by
 cases r with
 | nil=>exact⟨QfF (S.t d a ir h).1,QeH (S.t d a ir h).2⟩
 | cons b r =>
  simp only [compAnd,Option.bind_eq_some_iff]at h;obtain⟨a',ha,b',hb,h⟩:=h;cases h;constructor
  ·refine QaT fun d=>?_;refine QjD (QhV (S.t d a a' ha).1 (S.an d b r p b' hb).1) ?_;rintro σ H Q ⟨α,ρ,hs,u,hs',rs,R,e,q⟩;simp only [evT]at e;obtain⟨c,h1,e1,e⟩:=Qc e;refine TIT.run rs R e1 fun α1 H1 E1 R1 rs1=>?_
   cases c with
   | true=>exact TIT.run rs1 R1 e fun α2 H2 E2 R2 rs2=>q α2 H2 (E1.trans E2 R2.h) R2
   | false=>cases e;exact q α1 H1 E1 R1
  ·refine QD fun d=>?_;refine QR (Qig (S.t d a a' ha).2 (S.an d b r p b' hb).2) ?_;rintro σ H Q ⟨α,ρ,hs,u,hs',rs,R,e,q⟩;simp only [ev]at e;obtain⟨u1,h1,e1,e⟩:=Qc e;refine TI.run rs R e1 fun α1 x H1 E1 R1 r1 rs1=>?_;split at e
   ·cases(show x=_ from r1);exact⟨true,rfl,TI.run rs1 R1 e fun α2 v H2 E2 R2 r2 rs2=>q α2 v H2 (E1.trans E2 R2.h) R2 r2⟩
   ·cases(show x=_ from r1);cases e;exact⟨false,rfl,q α1 _ H1 E1 R1 rfl⟩
   ·cases e
theorem Qmf(S:Snd T A C X cf m)(d:Nat)(a:Expr)(r:List Expr)(p:Pos)(ir:E)(h:compOr (m+1) C a r p=some ir):
  PW X (.BoolOp .Or (a::r) p) (TIT T A X.K (evT T cf d ir))/\PE X (.BoolOp .Or (a::r) p) (TI T A X.K (ev T cf d ir)):=by
 cases r with
 | nil=>exact⟨QhU (S.t d a ir h).1,QeH (S.t d a ir h).2⟩
 | cons b r =>
  simp only [compOr,Option.bind_eq_some_iff]at h;obtain⟨a',ha,b',hb,h⟩:=h;cases h;constructor
  ·refine QaT fun d=>?_;refine QjD (QkA (S.t d a a' ha).1 (S.orr d b r p b' hb).1) ?_;rintro σ H Q ⟨α,ρ,hs,u,hs',rs,R,e,q⟩;simp only [evT]at e;obtain⟨c,h1,e1,e⟩:=Qc e;refine TIT.run rs R e1 fun α1 H1 E1 R1 rs1=>?_
   cases c with
   | false=>exact TIT.run rs1 R1 e fun α2 H2 E2 R2 rs2=>q α2 H2 (E1.trans E2 R2.h) R2
   | true=>cases e;exact q α1 H1 E1 R1
  ·refine QD fun d=>?_;refine QR (QkE (S.t d a a' ha).2 (S.orr d b r p b' hb).2) ?_;rintro σ H Q ⟨α,ρ,hs,u,hs',rs,R,e,q⟩;simp only [ev]at e;obtain⟨u1,h1,e1,e⟩:=Qc e;refine TI.run rs R e1 fun α1 x H1 E1 R1 r1 rs1=>?_;split at e
   ·cases(show x=_ from r1);cases e;exact⟨true,rfl,q α1 _ H1 E1 R1 rfl⟩
   ·cases(show x=_ from r1);exact⟨false,rfl,TI.run rs1 R1 e fun α2 v H2 E2 R2 r2 rs2=>q α2 v H2 (E1.trans E2 R2.h) R2 r2⟩
   ·cases e
theorem QiA{b':E}{o:CmpOp}(h:Qf m C b=some b'):behindInMarks o b=false:=by
 cases b<;>first|rfl|skip
 cases m<;>first|exact nomatch (show(none:Option E)=some _ from h)|simp [Qf]at h
theorem QhO{o:CmpOp}(tx:Txt T A X.K X.mg)(tab:JY X.prog X.w T A X.K)(hu:X.A.units+64<cLine)(S:Snd T A C X cf m)(h:Qf (m+1) C (.Compare a [o] [b] p)=some ir):
  PE X (.Compare a [o] [b] p) (TI T A X.K (ev T cf d ir))/\PT X (.Compare a [o] [b] p) (TIT T A X.K (evT T cf d ir)):=by
 simp only [QnU,Option.bind_eq_some_iff]at h;obtain⟨a',ha,b',hb,h⟩:=h;cases h;obtain⟨r,ho,hr⟩:=QnG (X:=X) (T:=T) (A:=A) tx tab hu o
 have key:∀(d:Nat) (σ:St) (H:Hp) (Q:VK) (α:List Addr) (ρ:Rho) (hs hs':Hs) (u:U),RS A α ρ σ->Rep T A X.K α hs H->ev T cf (d+1) (.cmp o a' b') ρ hs=some (u,hs') ->
   (∀α' c H',u=.bl c->Ext α α' H H'->Rep T A X.K α' hs' H'->Q (.bl c) H')->tOp r (TI T A X.K (ev T cf d a')) (TI T A X.K (ev T cf d b')) σ H Q:=by
  intro d σ H Q α ρ hs hs' u rs R e q;simp only [ev]at e;obtain⟨u1,h1,e1,e⟩:=Qc e;obtain⟨u2,h2,e2,e⟩:=Qc e;simp only [Option.map_eq_some_iff]at e;obtain⟨c,e3,e⟩:=e;cases e;refine TI.run rs R e1 fun α1 x H1 E1 R1 r1 rs1=>?_;refine TI.run rs1 R1 e2 fun α2 y H2 E2 R2 r2 rs2=>?_;exact hr e3 (r1.mono E2.pre) r2 R2 (q α2 c H2 rfl (E1.trans E2 R2.h) R2)
 constructor
 ·refine QD fun d=>?_;refine QR (QfS ho (S.e d a a' ha) (S.e d b b' hb) (QiA hb)) ?_;rintro σ H Q ⟨α,ρ,hs,u,hs',rs,R,e,q⟩
  exact key d σ H Q α ρ hs hs' u rs R e fun α' c H' eu E' R'=>q α' _ H' E' R' (by rw [eu];rfl)
 ·refine QaU fun d=>?_
  cases d with
  | zero=>exact QaF fun _ _ _ ⟨_,_,_,_,_,_,_,h,_⟩=>by simp [evT,ev,bd]at h
  | succ d =>
   refine Qg3 (QfG ho (S.e d a a' ha) (S.e d b b' hb) (QiA hb)) ?_;rintro σ H Q ⟨α,ρ,hs,u,hs',rs,R,e,q⟩;simp only [evT]at e;obtain⟨u1,h1,e1,e⟩:=Qc e;simp only [Option.map_eq_some_iff]at e;obtain⟨c,e3,e⟩:=e;cases e;refine key d σ H _ α ρ hs _ u1 rs R e1 fun α' c' H' eu E' R'=>⟨c',rfl,?_⟩;rw [eu]at e3;cases e3;exact q α' H' E' R'
theorem Qfz{t:Expr}(S:Snd T A C X cf m)(h:Qf (m+1) C (.IfExp t a b p)=some ir):PE X (.IfExp t a b p) (TI T A X.K (ev T cf d ir)):=by
 refine QD fun d=>?_;simp only [QnT,Option.bind_eq_some_iff]at h;obtain⟨t',ht,a',ha,b',hb,h⟩:=h;cases h;refine QR (QdN (S.t d t t' ht).1 (S.e d a a' ha) (S.e d b b' hb)) ?_;rintro σ H Q ⟨α,ρ,hs,u,hs',rs,R,e,q⟩;simp only [ev]at e;obtain⟨c,h1,e1,e⟩:=Qc e;refine TIT.run rs R e1 fun α1 H1 E1 R1 rs1=>?_
 cases c with
 | true=>exact TI.run rs1 R1 e fun α2 v H2 E2 R2 r2 rs2=>q α2 v H2 (E1.trans E2 R2.h) R2 r2
 | false=>exact TI.run rs1 R1 e fun α2 v H2 E2 R2 r2 rs2=>q α2 v H2 (E1.trans E2 R2.h) R2 r2
theorem Ji{f:Ev}{ρ:Rho}:∀{es:List E} {hs hs':Hs} {us:List U},evs f ρ es hs=some (us,hs')->us.length=es.length
 | [],_,_,_,h=>by cases h;rfl
 | e::r,hs,hs',us,h=>by
  simp only [evs]at h;obtain⟨u,h1,e1,h⟩:=Qc h;obtain⟨ws,h2,e2,h⟩:=Qc h;cases h;simp [Ji e2]
theorem QL{C:Ctx}:∀{m:Nat} {es:List Expr} {irs:List E},compA m C es=some irs->irs.length=es.length
 | 0,_,_,h=>by simp [compA]at h
 | m+1,[],_,h=>by cases h;rfl
 | m+1,e::r,irs,h=>by
  simp only [compA,Option.bind_eq_some_iff]at h;obtain⟨e',he,r',hr,h⟩:=h;cases h;simp [QL hr]
theorem QeC(S:Snd T A C X cf m)(d:Nat)(es:List Expr)(irs:List E)(h:compA (m+1) C es=some irs):PA X es (TIA T A X.K (fun ρ hs=>evs (ev T cf d) ρ irs hs)):=by
 cases es with
 | nil =>
  cases h;refine QjF JB ?_;rintro σ H Q ⟨α,ρ,hs,u,hs',rs,R,e,q⟩;cases e;exact q α [] H Ext.refl R .nil
 | cons e r =>
  simp only [compA,Option.bind_eq_some_iff]at h;obtain⟨e',he,r',hr,h⟩:=h;cases h;refine QjF (Zz (S.e d e e' he) (S.a d r r' hr) (Qn (QE he))) ?_;rintro σ H Q ⟨α,ρ,hs,u,hs',rs,R,e,q⟩;simp only [evs]at e;obtain⟨u1,h1,e1,e⟩:=Qc e;obtain⟨us,h2,e2,e⟩:=Qc e;cases e;refine TI.run rs R e1 fun α1 x H1 E1 R1 r1 rs1=>?_;exact TIA.run rs1 R1 e2 fun α2 xs H2 E2 R2 r2 rs2=>q α2 _ H2 (E1.trans E2 R2.h) R2 (.cons (r1.mono E2.pre) r2)
theorem QhI(S:Snd T A C X cf m)(d:Nat)(e:Option Expr)(ir:Option E)(h:compO (m+1) C e=some ir):PO X e (TIO T A X.K (fun ρ hs=>evO (ev T cf d) ρ ir hs)):=by
 cases e with
 | none =>
  cases h;intro pins s σ H Q I hw;refine QfN pins s σ H Q I ?_;obtain⟨α,ρ,hs,u,hs',rs,R,e,q⟩:=hw;cases e;exact q α H Ext.refl R
 | some e =>
  simp only [compO,Option.bind_eq_some_iff]at h;obtain⟨e',he,h⟩:=h;cases h;intro pins s σ H Q I hw;refine QfM (S.e d e e' he) pins s σ H Q I ?_;obtain⟨α,ρ,hs,u,hs',rs,R,e,q⟩:=hw;simp only [evO]at e;obtain⟨u1,h1,e1,e⟩:=Qc e;refine TI.run rs R e1 fun α1 x H1 E1 R1 r1 rs1=>?_;split at e
  ·cases e;obtain⟨i,rfl,c⟩:=r1;cases c.exact;exact⟨_,rfl,q α1 H1 E1 R1⟩
  ·cases e
theorem TIO.run{T:Tbl}{A:Adr}{K:PySem.W.Frag}{α:List Addr}{ρ:Rho}{σ:St}{hs h1:Hs}{H:Hp}{f:Rho->Hs->Option (Option Int×Hs)}{u:Option Int}{Q:Option Int->Hp->Prop}(rs:RS A α ρ σ)(rp:Rep T A K α hs H)(h:f ρ hs=some (u,h1))
  (k:∀α1 H1,Ext α α1 H H1->Rep T A K α1 h1 H1->RS A α1 ρ σ->Q u H1):TIO T A K f σ H Q :=
 ⟨α,ρ,hs,u,h1,rs,rp,h,fun α1 H1 e r=>k α1 H1 e r (rs.mono e.pre)⟩
theorem Qfw{es:List Expr}{k:Nat}(S:Snd T A C X cf m)(h:Qf (m+1) C (.Tuple es k p)=some ir):PE X (.Tuple es k p) (TI T A X.K (ev T cf d ir)):=by
 refine QD fun d=>?_;simp only [QnS]at h;split at h
 case isFalse=>cases h
 rename_i hz;simp only [Option.bind_eq_some_iff]at h;obtain⟨es',he,h⟩:=h;cases h;refine QR (Qh9 (S.a d es es' he)) ?_;rintro σ H Q ⟨α,ρ,hs,u,hs',rs,R,e,q⟩;simp only [ev]at e;obtain⟨us,h1,e1,e⟩:=Qc e;cases e;refine TIA.run rs R e1 fun α1 vs H1 E1 R1 r1 rs1=>⟨?_,fun p hp=>?_⟩
 ·rw [<-r1.length,Ji e1,QL he];exact Nat.le_trans hz big
 ·obtain⟨R',E'⟩:=R1.new (o:=.tup us) hp ⟨_,Qq,RUs.mono QI r1⟩
  exact q _ _ _ (E1.trans E' R'.h) R' ⟨p,by rw [<-R1.h.len];exact QW,rfl⟩
theorem QhN{es:List Expr}(S:Snd T A C X cf m)(h:Qf (m+1) C (.List es p)=some ir):PE X (.List es p) (TI T A X.K (ev T cf d ir)):=by
 refine QD fun d=>?_;simp only [QnR]at h;split at h
 case isFalse=>cases h
 rename_i hz;simp only [Option.bind_eq_some_iff]at h;obtain⟨es',he,h⟩:=h;cases h;refine QR (Qic (S.a d es es' he)) ?_;rintro σ H Q ⟨α,ρ,hs,u,hs',rs,R,e,q⟩;simp only [ev]at e;obtain⟨us,h1,e1,e⟩:=Qc e;cases e;refine TIA.run rs R e1 fun α1 vs H1 E1 R1 r1 rs1=>⟨?_,fun p hp=>?_⟩
 ·rw [<-r1.length,Ji e1,QL he];exact Nat.le_trans hz big
 ·obtain⟨R',E'⟩:=R1.new (o:=.lst us) hp ⟨_,Qq,RUs.mono QI r1⟩
  exact q _ _ _ (E1.trans E' R'.h) R' ⟨p,by rw [<-R1.h.len];exact QW,rfl⟩
theorem Qfy{lo hi:Option Expr}{p2:Pos}(S:Snd T A C X cf m)(h:((Qf m C a).bind fun a'=>(compO m C lo).bind fun l=>(compO m C hi).bind fun h=>some (E.sl a' l h))=some ir):PE X (.Subscript a (.Slice lo hi none p2) p) (TI T A X.K (ev T cf d ir)):=by
 refine QD fun d=>?_;simp only [Option.bind_eq_some_iff]at h;obtain⟨a',ha,l',hl,h',hh,h⟩:=h;cases h;refine QR (QdL (sl_list.or (sl_tup.or QhA)) (S.e d a a' ha) (S.o d lo l' hl) (S.o d hi h' hh)) ?_;rintro σ H Q ⟨α,ρ,hs,u,hs',rs,R,e,q⟩;simp only [ev]at e;obtain⟨u1,h1,e1,e⟩:=Qc e;obtain⟨u2,h2,e2,e⟩:=Qc e;obtain⟨u3,h3,e3,e⟩:=Qc e;refine TI.run rs R e1 fun α1 x H1 E1 R1 r1 rs1=>?_;refine TIO.run rs1 R1 e2 fun α2 H2 E2 R2 rs2=>?_;refine TIO.run rs2 R2 e3 fun α3 H3 E3 R3 rs3=>?_;exact QhB e ((r1.mono E2.pre).mono E3.pre) R3 fun α4 z H4 E4 R4 r4=>q α4 z H4 (((E1.trans E2 R2.h).trans E3 R3.h).trans E4 R4.h) R4 r4
theorem Qgn{a' b':E}(hu:X.A.units+1<cLine)(tx:Txt T A X.K X.mg)(ha:PE X a (TI T A X.K (ev T cf d a')))(hb:PE X b (TI T A X.K (ev T cf d b')))(hs:ZE b=true):PE X (.Subscript a b p) (TI T A X.K (ev T cf (d+1) (.ix a' b'))):=by
 refine QR (QkG (ix_seq.or (Qgm hu)) ha hb (YT hs)) ?_;rintro σ H Q ⟨α,ρ,hs,u,hs',rs,R,e,q⟩;simp only [ev]at e;obtain⟨u1,h1,e1,e⟩:=Qc e;obtain⟨u2,h2,e2,e⟩:=Qc e;simp only [Option.map_eq_some_iff]at e;obtain⟨x,e3,e⟩:=e;cases e;refine TI.run rs R e1 fun α1 x H1 E1 R1 r1 rs1=>?_;refine TI.run rs1 R1 e2 fun α2 y H2 E2 R2 r2 rs2=>?_;exact Qfn tx e3 (r1.mono E2.pre) r2 R2 fun z rz=>q α2 z H2 (E1.trans E2 R2.h) R2 rz
theorem RF.look{α:List Addr}{x:Str}{k:Nat}{u:U}(hk:T.fns'[k]?=some x)(nd:T.fns'.Nodup):∀{fs:List (Nat×U)} {fv:List (Str×V)},RF T A α fs fv->fs.lookup k=some u->∃v,fv.lookup x=some v/\RU A α u v
 | _,_,.nil,h=>by cases h
 | _,_,.cons (a:=p) (b:=q) r t,h=>by
  obtain⟨pk,pu⟩:=p;obtain⟨qx,qv⟩:=q;rw [List.lookup_cons]at h ⊢;by_cases e:k=pk
  ·subst e;rw [beq_self_eq_true]at h;cases h;have e2:x=qx:=Option.some.inj (hk.symm.trans r.1);subst e2;rw [beq_self_eq_true];exact⟨qv,rfl,r.2⟩
  ·have n1:(k==pk)=false:=by simpa using e
   rw [n1]at h
   have n2:(x==qx)=false:=by
    rw [beq_eq_false_iff_ne];rintro rfl;obtain⟨l1,q1⟩:=List.getElem?_eq_some_iff.mp hk;obtain⟨l2,q2⟩:=List.getElem?_eq_some_iff.mp r.1;exact e ((List.getElem_inj nd).mp (q1.trans q2.symm))
   rw [n2];exact RF.look hk nd t h
theorem QnZ{t t':TE}(h:PE X e t)(h':PE X e t'):PE X e (fun σ H Q=>t σ H Q\/t' σ H Q):=fun pins s σ H Q I z=>z.elim (h pins s σ H Q I) (h' pins s σ H Q I)
theorem Qnl:PE X e (fun _ _ _=>False):=fun pins s σ H Q I h=>h.elim
theorem QhQ{f:Str}(g:GX T A C X)(S:Snd T A C X cf m)(h:Qf (m+1) C (.Attribute a f p)=some ir):PE X (.Attribute a f p) (TI T A X.K (ev T cf d ir)):=by
 refine QD fun d=>?_;simp only [QnP]at h;split at h
 ·rename_i hn;simp only [Option.bind_eq_some_iff]at h;obtain⟨a',ha,k,hk,h⟩:=h;cases h
  have hk':T.fns'[k]?=some f:=by rw [<-g.CT];exact ZB hk
  refine QR (QnZ (Qie (S.e d a a' ha) (Zb hn)) Qnl) ?_;rintro σ H Q ⟨α,ρ,hs,u,hs',rs,R,e,q⟩;simp only [ev]at e;obtain⟨u1,h1,e1,e⟩:=Qc e;split at e
  ·rename_i n;split at e
   ·rename_i c fs eo;refine .inl (TI.run rs R e1 fun α1 x H1 E1 R1 r1 rs1=>?_);obtain⟨pa,hpa,rfl⟩:=r1;simp only [Option.map_eq_some_iff]at e;obtain⟨w,el,e⟩:=e;cases e;obtain⟨dx,fv,q1,rf,lc⟩:=R1.h.ob n pa _ hpa eo;obtain⟨v,l1,rv⟩:=RF.look hk' g.txt.fd rf el;have cl:=g.txt.cl c _ (List.getElem?_eq_getElem lc);exact⟨pa,A.c c,dx,fv,v,rfl,q1,cl.cls,cl.nf f (List.mem_of_getElem? hk'),l1,q α1 v H1 E1 R1 rv⟩
   ·cases e
  ·cases e
 ·cases h
end
end Iv
namespace Iv
open PySem PySem.Spec PyProof.Rows L2
variable {α:List Addr}{es:List E}{args:List Expr}{vs:List V}{d i:Nat}{p pos:Pos}{x:Str}
section
variable {X:Cx}{T:Tbl}{A:Adr}{C:Ctx}{cf:Cf}{m k:Nat}
theorem Qdq{vs:List (Key×Value)}{y:U}{x:U}{yv:V}(ky:Qhb y=true)(ry:RU A α y yv):∀{kvs:List (U×U)},Paired (fun(p:U×U) (q:Key×Value)=>Qd4 p.1 q.1/\∃v,RU A [] p.2 v/\RelV v q.2) kvs vs->JH kvs y=some x ->
  ∃key v u,yv=kV key/\valueAt vs key=some u/\RU A [] x v/\RelV v u:=by
 obtain⟨key,hy,hk⟩:∃key,yv=kV key/\Qd4 y key:=by
  cases y with
  | int i m =>
   cases m with
   | zero=>obtain⟨j,rfl,c⟩:=ry;cases c.exact;exact⟨.inl i,rfl,rfl⟩
   | succ m=>cases ky
  | str z=>cases(show yv=_ from ry);exact⟨.inr ⟨z.toArray⟩,rfl,rfl⟩
  | _=>cases ky
 have inj:∀{p:U} {q:Key},Qd4 p q->(p=y↔q=key):=by
  intro p q hp
  cases y with
  | int i m =>
   cases m with
   | succ m=>cases ky
   | zero =>
    cases(show key=_ from hk)
    cases p with
    | int j n =>
     cases n with
     | succ n=>exact(show False from hp).elim
     | zero=>cases(show q=_ from hp);exact⟨fun e=>(by cases e;rfl),fun e=>(by cases e;rfl)⟩
    | str z=>cases(show q=_ from hp);exact⟨fun e=>(by cases e),fun e=>(by cases e)⟩
    | _=>exact(show False from hp).elim
  | str z =>
   cases(show key=_ from hk)
   cases p with
   | int j n =>
    cases n with
    | succ n=>exact(show False from hp).elim
    | zero=>cases(show q=_ from hp);exact⟨fun e=>(by cases e),fun e=>(by cases e)⟩
   | str z' =>
    cases(show q=_ from hp)
    refine⟨fun e=>(by cases e;rfl),fun e=>?_⟩
    have e1:=Sum.inr.inj e;have e2:=congrArg (fun s:Str=>s.cps.toList) e1
    have e3:z'=z:=by simpa using e2
    rw [e3]
   | _=>exact(show False from hp).elim
  | _=>cases ky
 intro kvs r
 induction r with
 | nil=>intro h;cases h
 | @cons p q ps qs hpq t ih =>
  intro h;obtain⟨pk,pv⟩:=p;obtain⟨qk,qv⟩:=q;obtain⟨h1,v,h2,h3⟩:=hpq;simp only [JH]at h;by_cases e:pk=y
  ·rw [if_pos e]at h;cases h;have e2:qk=key:=(inj h1).mp e
   exact⟨key,v,qv,hy,by simp [valueAt,e2],h2,h3⟩
  ·rw [if_neg e]at h;obtain⟨key',v',u',g1,g2,g3,g4⟩:=ih h
   have e1:key'=key:=by
    rw [hy]at g1;cases key<;>cases key'<;>simp_all [kV]
   subst e1;have e2:¬qk=key':=fun z=>e ((inj h1).mpr z);refine⟨key',v',u',g1,?_,g3,g4⟩;simp only [valueAt,List.find?_cons];rw [decide_eq_false e2];exact g2
theorem Qkm{b:Expr}{b':E}(g:GX T A C X)(hb:PE X b (TI T A X.K (ev T cf d b')))(hs:ZE b=true)(hg:YW C x=true)(hn:x≠"__debug__") (hx:C.gl.lookup x=some (.con i)):
  PE X (.Subscript (.Name x p) b pos) (TI T A X.K (ev T cf (d+1) (.tab i b'))):=by
 intro pins s σ H Q I h;obtain⟨α,ρ,hs',u,hs2,rs,R,e,q⟩:=h;simp only [ev]at e;obtain⟨w,h1,e1,e⟩:=Qc e;simp only [Option.map_eq_some_iff]at e;obtain⟨z,e2,e⟩:=e;cases e;unfold Qdr at e2;split at e2
 case h_2=>cases e2
 rename_i kvs ec;split at e2
 case isFalse=>cases e2
 rename_i ky;obtain⟨vs,_,hd,hp⟩:=g.tab i kvs ec;refine Qfo PySem.F.slot_dict_getitem.lookup (YT hs) (ZL I (Zf g hg) (g.gco x i hx) ?_ (QY hn));refine thn (hb pins s σ H (fun y H1=>∃α1,Ext α α1 H H1/\Rep T A X.K α1 hs2 H1/\RU A α1 w y) I (TI.run rs R e1 fun α1 y H1 E1 R1 r1 rs1=>⟨α1,E1,R1,r1⟩)) fun iv s1 ⟨y,H1,I1,ry,α1,E1,R1,r1⟩=>?_;obtain⟨key,v,u',ey,ev',rv,rl⟩:=Qdq ky r1 hp e2;have dd:=hd s1.heap I1.kIn;subst ey
 exact⟨dd.typeIs,wpAny_getItem_of (Qgk ry) dd.mapOf ev' ⟨v,H1,I1.tok _,rl,q α1 v H1 E1 R1 (RU.mono (fun n a e=>by simp at e) rv)⟩⟩
theorem QaO{us:List U}{hs hs':Hs}{H:Hp}{u:U}{f:Nat}{Q:VK}{E:XK}(F:Fc X T A cf k)(r:RUs A α us vs)(R:Rep T A X.K α hs H)(e:cf f us hs=some (u,hs'))
  (q:∀α' v H',Ext α α' H H'->Rep T A X.K α' hs' H'->RU A α' u v->Q v H'):spC T A X.K cf f vs H Q E:=⟨α,us,hs,u,hs',r,R,e,F.some f us hs _ e,q⟩
theorem QhP(g:GX T A C X)(F:Fc X T A cf k)(hr:Room k X.A)(S:Snd T A C X cf m)(hg:YW C x=true)(hn:x≠"__debug__") (hx:C.gl.lookup x=some (.fn i)) (ha:compA m C args=some es):
  PE X (.Call (.Name x p) args [] pos) (TI T A X.K (ev T cf (d+1) (.call i es))):=by
 cases hF:T.fns[i]? with
 | none =>
  refine ZM ?_;rintro σ H Q ⟨α,ρ,hs,u,hs',rs,R,e,q⟩;simp only [ev]at e;obtain⟨us,h1,e1,e⟩:=Qc e;obtain⟨F',h,_⟩:=F.some _ _ _ _ e;rw [hF]at h;cases h
 | some Fn =>
  obtain⟨fd,G,b,kp⟩:=F.ok i Fn hF;have pa:=S.a d args es ha
  have key:∀σ H Q,TI T A X.K (ev T cf (d+1) (.call i es)) σ H Q->Qdt (spC T A X.K cf i) [] E0 (TIA T A X.K (fun ρ hs=>evs (ev T cf d) ρ es hs)) σ H Q:=by
   rintro σ H Q ⟨α,ρ,hs,u,hs',rs,R,e,q⟩;simp only [ev]at e;obtain⟨us,h1,e1,e⟩:=Qc e;refine TIA.run rs R e1 fun α1 vs H1 E1 R1 r1 rs1=>?_;rw [List.append_nil];exact QaO F r1 R1 e fun α2 v H2 E2 R2 r2=>q α2 v H2 (E1.trans E2 R2.h) R2 r2
  cases args with
  | nil =>
   have ee:es=[]:=by
    have:=QL ha;simpa using this
   subst ee;refine QR (QaX G hr (Zf g hg) (g.gfn x i hx) kp b .nil Qaj (QY hn)) fun σ H Q h=>?_;have h2:=key σ H Q h;obtain⟨α,ρ,hs,us,hs',rs,R,e,q⟩:=h2;cases e;exact q α [] H Ext.refl R .nil
  | cons a r=>exact QR (Qcm G hr (Zf g hg) (g.gfn x i hx) kp b .nil Qaj pa (QY hn) (Qn (Qv ha a (List.mem_cons_self ..))) (Zl fun z hz=>Qv ha z (List.mem_cons_of_mem _ hz))) key
theorem QcQ{f:Ev}{ρ:Rho}:∀{a b:List E} {us:List U} {hs h2:Hs},evs f ρ (a++b) hs=some (us,h2)->∃ua ub h1,evs f ρ a hs=some (ua,h1)/\evs f ρ b h1=some (ub,h2)/\us=ua++ub
 | [],b,us,hs,h2,h=>⟨[],us,hs,rfl,h,rfl⟩
 | e::a,b,us,hs,h2,h=>by
  have h:bd (f e ρ hs) (fun u h1=>bd (evs f ρ (a++b) h1) fun us h2=>some (u::us,h2))=some (us,h2):=h;obtain⟨u,h1,e1,h⟩:=Qc h;obtain⟨ws,h3,e2,h⟩:=Qc h;cases h;obtain⟨ua,ub,h4,e3,e4,rfl⟩:=QcQ e2;refine⟨u::ua,ub,h4,?_,e4,rfl⟩;show bd (f e ρ hs) (fun u h1=>bd (evs f ρ a h1) fun us h2=>some (u::us,h2))=_;rw [e1];show bd (evs f ρ a h1) _=_;rw [e3];rfl
theorem QcP{d:Nat}{ρ:Rho}:∀{cs us:List U} {hs h2:Hs},evs (ev T cf d) ρ (cs.map .c) hs=some (us,h2)->us=cs/\h2=hs
 | [],us,hs,h2,h=>by cases h;exact⟨rfl,rfl⟩
 | c::cs,us,hs,h2,h=>by
  have h:bd (ev T cf d (.c c) ρ hs) (fun u h1=>bd (evs (ev T cf d) ρ (cs.map .c) h1) fun us h2=>some (u::us,h2))=some (us,h2):=h;obtain⟨u,h1,e1,h⟩:=Qc h;obtain⟨ws,h3,e2,h⟩:=Qc h;cases h
  cases d with
  | zero=>simp [ev]at e1
  | succ d =>
   simp only [ev]at e1;cases e1;obtain⟨rfl,rfl⟩:=QcP e2;exact⟨rfl,rfl⟩
theorem RUs.app{us ws:List U}{zs:List V}(a:RUs A α us vs)(b:RUs A α ws zs):RUs A α (us++ws) (vs++zs):=a.append b
theorem Vals.dropN{us:List Value}(r:Vals vs us):∀n,Vals (vs.drop n) (us.drop n):=fun n=>by
 induction r generalizing n with
 | nil=>simp;exact .nil
 | cons a t ih =>
  cases n with
  | zero=>exact .cons a t
  | succ n=>exact ih n
theorem QfB{ir:E}(g:GX T A C X)(F:Fc X T A cf k)(hr:Room k X.A)(S:Snd T A C X cf m)(hg:YW C x=true)(hn:x≠"__debug__") (hx:C.gl.lookup x=some (.fn i)) (ha:compA m C args=some es) (h:QjT C i es=some ir):
  PE X (.Call (.Name x p) args [] pos) (TI T A X.K (ev T cf (d+1) ir)):=by
 unfold QjT at h;rw [g.CT]at h;split at h
 ·cases h;exact QhP g F hr S hg hn hx ha
 rename_i D hD;split at h
 case isFalse=>cases h
 cases h;generalize D.ds.length-(D.np-es.length)=n
 cases hF:T.fns[i]? with
 | none =>
  refine ZM ?_;rintro σ H Q ⟨α,ρ,hs,u,hs',rs,R,e,q⟩;simp only [ev]at e;obtain⟨us,h1,e1,e⟩:=Qc e;obtain⟨F',h,_⟩:=F.some _ _ _ _ e;rw [hF]at h;cases h
 | some Fn =>
  obtain⟨fd,G,kp,ds,dvs,rd,vd,hb,_⟩:=F.df i D Fn hD hF;have pa:=S.a d args es ha
  have key:∀σ H Q,TI T A X.K (ev T cf (d+1) (.call i (es++(D.ds.drop n).map .c))) σ H Q->Qdt (spC T A X.K cf i) (dvs.drop n) E0 (TIA T A X.K (fun ρ hs=>evs (ev T cf d) ρ es hs)) σ H Q:=by
   rintro σ H Q ⟨α,ρ,hs,u,hs',rs,R,e,q⟩;simp only [ev]at e;obtain⟨us,h1,e1,e⟩:=Qc e;obtain⟨ua,ub,h2,e2,e3,rfl⟩:=QcQ e1;obtain⟨rfl,rfl⟩:=QcP e3;refine TIA.run rs R e2 fun α1 vs H1 E1 R1 r1 rs1=>?_
   exact QaO F (r1.app (RUs.mono (fun n a e=>by simp at e) (RUs.drop n rd))) R1 e fun α2 v H2 E2 R2 r2=>q α2 v H2 (E1.trans E2 R2.h) R2 r2
  cases args with
  | nil =>
   have ee:es=[]:=by
    have:=QL ha;simpa using this
   subst ee;refine QR (QaX G hr (Zf g hg) (g.gfn x i hx) kp (hb n) (Vals.dropN vd n) Qaj (QY hn)) fun σ H Q h=>?_;have h2:=key σ H Q h;obtain⟨α,ρ,hs,us,hs',rs,R,e,q⟩:=h2;cases e;exact q α [] H Ext.refl R .nil
  | cons a r=>exact QR (Qcm G hr (Zf g hg) (g.gfn x i hx) kp (hb n) (Vals.dropN vd n) Qaj pa (QY hn) (Qn (Qv ha a (List.mem_cons_self ..))) (Zl fun z hz=>Qv ha z (List.mem_cons_of_mem _ hz))) key
theorem QhM(g:GX T A C X)(F:Fc X T A cf k)(hr:Room (k+1) X.A)(S:Snd T A C X cf m)(hg:YW C x=true)(hn:x≠"__debug__") (hx:C.gl.lookup x=some (.cls i)) (ha:compA m C args=some es):
  PE X (.Call (.Name x p) args [] pos) (TI T A X.K (ev T cf (d+1) (.make i es))):=by
 cases hC:T.cls[i]? with
 | none =>
  refine ZM ?_;rintro σ H Q ⟨α,ρ,hs,u,hs',rs,R,e,q⟩;simp only [ev]at e;obtain⟨us,h1,e1,e⟩:=Qc e;simp [Zo,hC]at e
 | some Cl =>
  have cl:=g.txt.cl i Cl hC;have li:i<T.cls.length:=(List.getElem?_eq_some_iff.mp hC).1;have pa:=S.a d args es ha
  -- the new instance
  have new:∀{α:List Addr} {hs:Hs} {H:Hp} (R:Rep T A X.K α hs H) (x dx:Addr),H x=none->H dx=none->dx≠x ->
    Rep T A X.K (α++[x]) (hs++[.ins i []]) (upd (upd H dx (.own x)) x (.ins (A.c i) dx []))/\Ext α (α++[x]) H (upd (upd H dx (.own x)) x (.ins (A.c i) dx [])):=by
   intro α hs H R x dx hx hd hne
   have ne:∀b y,H b=some y->b≠dx:=fun b y e z=>by rw [z,hd]at e;cases e
   have R0:Rep T A X.K α hs (upd H dx (.own x)):=⟨⟨R.h.len,R.h.nd_keep fun b x _ e=>by rw [Qh (ne _ _ e)];exact e,fun n a o e1 e2=>RO.keep (R.h.ob n a o e1 e2) (fun _ _ e=>e) fun _ y e _=>by rw [Qh (ne _ _ e)];exact e⟩,R.s.keep fun y e _=>by rw [Qh (ne _ _ e)];exact e⟩
   obtain⟨R1,E1⟩:=R0.new (p:=x) (o:=.ins i []) (ho:=.ins (A.c i) dx []) (by rw [Qh (Ne.symm hne)];exact hx) ⟨dx,[],Qq,.nil,li⟩
   refine⟨R1,⟨E1.pre,fun n a e l=>?_,fun b o e hb=>E1.keep b o (by rw [Qh (ne _ _ e)];exact e) hb,fun b o kv e=>E1.fz b o kv (by rw [Qh (ne _ _ e)];exact e),fun b o e=>E1.tr b o (by rw [Qh (ne _ _ e)];exact e)⟩⟩
   rcases QO e with z|⟨_,z⟩
   ·have:=getElem?_lt z;omega
   ·rw [z];exact .inl hx
  cases hi:Cl.init with
  | none =>
   have ini:=cl.ini;rw [hi]at ini
   cases args with
   | cons a r =>
    refine ZM ?_;rintro σ H Q ⟨α,ρ,hs,u,hs',rs,R,e,q⟩;simp only [ev]at e;obtain⟨us,h1,e1,e⟩:=Qc e;have l1:=Ji e1;rw [QL ha]at l1;simp only [Zo,hC,hi]at e;split at e
    ·rename_i z;rw [z]at l1;simp at l1
    ·cases e
   | nil =>
    refine QR (Qck (C:=A.c i) ⟨cl.mks,ini,cl.kp⟩ (Zf g hg) (g.gcl x i hx) (QY hn)) ?_;rintro σ H Q ⟨α,ρ,hs,u,hs',rs,R,e,q⟩
    have ee:es=[]:=by
     have:=QL ha;simpa using this
    subst ee;simp only [ev,evs,bd,Zo,hC,hi,if_true]at e;cases e;intro y dx h1 h2 h3;obtain⟨R1,E1⟩:=new R y dx h1 h2 h3
    exact q _ _ _ E1 R1 ⟨y,by rw [<-R.h.len];exact QW,rfl⟩
  | some f =>
   have ini:=cl.ini;rw [hi]at ini
   have key:∀σ H Q,TI T A X.K (ev T cf (d+1) (.make i es)) σ H Q->TIA T A X.K (fun ρ hs=>evs (ev T cf d) ρ es hs) σ H fun vs H1=>∀x dx,H1 x=none->H1 dx=none->dx≠x ->
     spC T A X.K cf f (.ref x::(vs++[])) (upd (upd H1 dx (.own x)) x (.ins (A.c i) dx [])) (fun v H2=>v=.non/\Q (.ref x) H2) E0:=by
    rintro σ H Q ⟨α,ρ,hs,u,hs',rs,R,e,q⟩;simp only [ev]at e;obtain⟨us,h1,e1,e⟩:=Qc e;simp only [Zo,hC,hi]at e;split at e
    case h_2=>cases e
    rename_i h2 e2;cases e;refine TIA.run rs R e1 fun α1 vs H1 E1 R1 r1 rs1=>?_;intro y dx g1 g2 g3;obtain⟨R2,E2⟩:=new R1 y dx g1 g2 g3;rw [List.append_nil]
    have at1:(α1++[y])[h1.length]?=some y:=by rw [<-R1.h.len];exact QW
    refine QaO F (us:=.ref h1.length::us) (.cons ⟨y,at1,rfl⟩ (RUs.mono E2.pre r1)) R2 e2 fun α3 v H3 E3 R3 r3=>⟨r3,?_⟩;exact q α3 _ H3 (((E1.trans E2 R2.h)).trans E3 R3.h) R3 ⟨y,E3.pre _ _ at1,rfl⟩
   cases hF:T.fns[f]? with
   | none =>
    refine ZM ?_;rintro σ H Q ⟨α,ρ,hs,u,hs',rs,R,e,q⟩;simp only [ev]at e;obtain⟨us,h1,e1,e⟩:=Qc e;simp only [Zo,hC,hi]at e;split at e
    case h_2=>cases e
    rename_i h2 e2;obtain⟨F',h,_⟩:=F.some _ _ _ _ e2;rw [hF]at h;cases h
   | some Fn =>
    obtain⟨fd,G,b,kp⟩:=F.ok f Fn hF;have M:Mk X.K (A.c i) (A.f f):=⟨cl.mks,ini.1,ini.2,cl.kp⟩
    cases args with
    | nil =>
     have ee:es=[]:=by
      have:=QL ha;simpa using this
     subst ee;refine QR (QdM M G hr (Zf g hg) (g.gcl x i hx) b .nil Qaj (QY hn)) fun σ H Q h=>?_;obtain⟨α,ρ,hs,us,hs',rs,R,e,q⟩:=key σ H Q h;cases e;exact q α [] H Ext.refl R .nil
    | cons a r=>exact QR (QfR M G hr (Zf g hg) (g.gcl x i hx) b .nil Qaj pa (QY hn) (Qn (Qv ha a (List.mem_cons_self ..))) (Zl fun z hz=>Qv ha z (List.mem_cons_of_mem _ hz))) key
end
end Iv
namespace Iv
open PySem PySem.Spec PyProof.Rows L2
variable {b:Bm}{o':E}{env:Env}{o:Expr}{hs:Hs}{es:List E}{args:List Expr}{d:Nat}{p pos q:Pos}{x:Str}
section
variable {X:Cx}{T:Tbl}{A:Adr}{C:Ctx}{cf:Cf}{m k:Nat}
theorem Y8{env:Env}{pos:Pos}:∀{es:List Expr},Y4 es->(backTo pos (starEach es env)).all (fun x=>!x.1)=true
 | [],_=>rfl
 | e::r,h=>by
  rw [Qn (h e (List.mem_cons_self ..))];have ih:=Y8 (env:=env) (pos:=pos) (es:=r) fun x hx=>h x (List.mem_cons_of_mem _ hx);unfold backTo at ih ⊢;rw [List.map_cons,List.all_cons,ih];rfl
theorem QgH(hn:Y4 args)(hl:args.length<29):methodCallForm (args.length+([]:List Keyword).length) (backTo pos (starEach args env)) (backToKw pos (keywordEach [] env))=true:=by
 unfold methodCallForm;rw [Y8 hn]
 have:(args.length+([]:List Keyword).length+(if(backToKw pos (keywordEach [] env)).isEmpty then 0 else 1) < 30):=by
  simp only [List.length_nil];split<;>omega
 simp only [decide_eq_true this,Bool.and_true,Bool.true_and];rfl
theorem Qgf(h1:Ze o=true)(h2:(p.endLine==q.line)=true)(h3:args.length<29)(h4:Y4 args):
  eval (.Call (.Attribute o x p) args [] q) env=(do
   let ov <-eval o env
   standAt p.atName
   let (f,first) <-holding [ov] (getMethod ov x (do return (<-importBound o env).getD true))
   callWith q f first (backTo q (starEach args env)) (backToKw q (keywordEach [] env))):=by
 rw [PySem.arm_eval_Call,Zb h1];unfold methodCall;rw [QgH h4 h3];unfold calleeOf methodCallPos;rw [h2];rfl
theorem RF.none_of{α:List Addr}{x:Str}(hx:x∉T.fns'):∀{fs:List (Nat×U)} {fv:List (Str×V)},RF T A α fs fv->fv.lookup x=none
 | _,_,.nil=>rfl
 | _,_,.cons (a:=p) (b:=q) r t=>by
  obtain⟨qx,qv⟩:=q;rw [List.lookup_cons]
  have n2:(x==qx)=false:=by
   rw [beq_eq_false_iff_ne];rintro rfl;exact hx (List.mem_of_getElem? r.1)
  rw [n2];exact RF.none_of hx t
theorem Qbt{i f:Nat}{u:U}(h:JG T i u hs=some f):∃n c fs Cl,u=.ref n/\hs[n]?=some (.ins c fs)/\T.cls[c]?=some Cl/\Cl.meths.lookup i=some f:=by
 cases u with
 | ref n =>
  simp only [JG]at h;split at h
  ·rename_i c fs e;split at h
   ·rename_i Cl e2;exact⟨n,c,fs,Cl,rfl,e,e2,h⟩
   ·cases h
  ·cases h
 | _=>simp [JG]at h
theorem QhL{i:Nat}(g:GX T A C X)(F:Fc X T A cf k)(hr:Room k X.A)(S:Snd T A C X cf m)(h1:Ze o=true)(h2:(p.endLine==q.line)=true)(h3:args.length<29)
  (hx:idx x C.T.mns=some i) (ho:Qf m C o=some o') (ha:compA m C args=some es):PE X (.Call (.Attribute o x p) args [] q) (TI T A X.K (ev T cf (d+1) (.meth i o' es))):=by
 intro pins s σ H Q I hw;obtain⟨α,ρ,hs,u,hs',rs,R,e,q'⟩:=hw;simp only [ev]at e;obtain⟨u1,h1',e1,e⟩:=Qc e;split at e
 case h_2=>cases e
 rename_i f hf;obtain⟨us,h2',e2,e⟩:=Qc e
 have hx':T.mns[i]?=some x:=by rw [<-g.CT];exact ZB hx
 have hns:=Qv ha;refine PySem.W.methodCall_KW (thn (S.e d o o' ho pins s σ H (fun v H1=>∃α1,Ext α α1 H H1/\Rep T A X.K α1 h1' H1/\RU A α1 u1 v/\RS A α1 ρ σ) I (TI.run rs R e1 fun α1 v H1 E1 R1 r1 rs1=>⟨α1,E1,R1,r1,rs1⟩)) fun ov s1 ⟨v,H1,I1,rv,α1,E1,R1,r1,rs1⟩=>?_) (Qgf h1 h2 h3 hns);obtain⟨n,c,fs,Cl,rfl,eo,hC,hf⟩:=Qbt hf;obtain⟨pa',hpa,rfl⟩:=r1;cases(show ov=_ from rv);obtain⟨dx,fv,q1,rf,lc⟩:=R1.h.ob n pa' _ hpa eo;have cl:=g.txt.cl c Cl hC;obtain⟨x',hx2,hm⟩:=cl.me i f hf;have ex:x=x':=Option.some.inj (hx'.symm.trans hx2);subst ex;have nx:x∉T.fns':=fun z=>g.txt.fm x z (List.mem_of_getElem? hx');obtain⟨Fn,hF,_⟩:=F.some _ _ _ _ e;obtain⟨fd,G,b,kp⟩:=F.ok f Fn hF;refine QbB I1 q1 cl.cls hm (RF.none_of nx rf) ?_
 have fin:∀(s2:Shared) (H2:Hp) (α2:List Addr) (vs:List V) (ws:List Value),Inv X pins σ H2 s2->Ext α1 α2 H1 H2->Rep T A X.K α2 h2' H2->RUs A α2 us vs->Vals vs ws ->
   wpAny (model X.prog X.w) X.A (call (.ref (A.f f)) (.ref pa'::ws)) (EP X pins σ Q) X.xe s2:=by
  intro s2 H2 α2 vs ws I2 E2 R2 r2 rw';refine Qcb (us:=.ref pa'::ws) (vs:=.ref pa'::vs) G hr b .nil Qaj I2 (.cons rfl rw') ?_;rw [List.append_nil];exact QaO F (us:=.ref n::us) (.cons ⟨pa',E2.pre _ _ hpa,rfl⟩ r2) R2 e fun α3 v H3 E3 R3 r3=>q' α3 v H3 ((E1.trans E2 R2.h).trans E3 R3.h) R3 r3
 cases args with
 | nil =>
  have ee:es=[]:=by
   have:=QL ha;simpa using this
  subst ee;cases e2
  exact PySem.W.callWith_K0 (first:=[.ref pa']) I1.kIn hm.kp (fin s1 H1 α1 [] [] I1 Ext.refl R1 .nil .nil)
 | cons a r =>
  refine PySem.W.callWith_K (first:=[.ref pa']) (h₀:=X.base) I.ok.mod.kin hm.kp (thn (S.a d (a::r) es ha q pins s1 σ H1 (fun vs H2=>∃α2,Ext α1 α2 H1 H2/\Rep T A X.K α2 h2' H2/\RUs A α2 us vs) I1 (TIA.run rs1 R1 e2 fun α2 vs H2 E2 R2 r2 rs2=>⟨α2,E2,R2,r2⟩)) fun ws s2 ⟨vs,H2,I2,rw',α2,E2,R2,r2⟩=>⟨I2.kIn,?_⟩)
   (Qn (hns a (List.mem_cons_self ..))) (Zl fun z hz=>hns z (List.mem_cons_of_mem _ hz))
  exact fin s2 H2 α2 vs ws I2 E2 R2 r2 rw'
theorem Qi5{e:Expr}{es:List Expr}(hn:Y4 (e::es))(hl:(e::es).length<29):((backTo pos (starEach (e::es) env)).all (fun x=>!x.1)&&(backToKw pos (keywordEach [] env)).all (fun x=>x.1.isSome)
   && decide ((e::es).length+([]:List Keyword).length+(if([]:List Keyword).isEmpty then 0 else 1) < 30))=true:=by
 rw [Y8 hn]
 have:(e::es).length+([]:List Keyword).length+(if([]:List Keyword).isEmpty then 0 else 1) < 30:=by
  simp only [List.length_nil,List.isEmpty_nil,if_true];omega
 rw [decide_eq_true this];rfl
theorem QaD{id ty:String}(S:Snd T A C X cf m)(B:BmS X T A b id)(pa:PlainAttrs ty)(slot:Slot ty x id)(hty:typeOf (.builtin id)=pure (.type "method_descriptor"))
  (ty:∀{u:U} {hs:Hs} {α:List Addr} {v:V} {H:Hp},Zd b u hs=true->RU A α u v->Rep T A X.K α hs H->L2.tyV X.K ty v H) (h1:Ze o=true) (h2:(p.endLine==q.line)=true) (h3:args.length<29)
  (ho:Qf m C o=some o') (ha:compA m C args=some es):PE X (.Call (.Attribute o x p) args [] q) (TI T A X.K (ev T cf (d+1) (.bm b o' es))):=by
 obtain⟨r,hm,hB⟩:=B;have hns:=Qv ha
 cases args with
 | nil =>
  have ee:es=[]:=by
   have:=QL ha;simpa using this
  subst ee;refine QR (Qif pa slot hty hm (S.e d o o' ho) (Zb h1) h2) ?_;rintro σ H Q ⟨α,ρ,hs,u,hs',rs,R,e,q⟩;simp only [ev,evs]at e;obtain⟨u1,h1',e1,e⟩:=Qc e;split at e
  case isFalse=>cases e
  rename_i il;obtain⟨us,h2',e2,e⟩:=Qc e;cases e2;exact TI.run rs R e1 fun α1 v H1 E1 R1 r1 rs1=>⟨ty il r1 R1,hB e r1 .nil R1 fun α2 v2 H2 E2 R2 r2=>q α2 v2 H2 (E1.trans E2 R2.h) R2 r2⟩
 | cons a t =>
  refine QR (QkH pa slot hty hm (S.e d o o' ho) (S.a d (a::t) es ha) (Zb h1) (Qi5 hns h3) h2 (Qn (hns a (List.mem_cons_self ..))) (Zl fun z hz=>hns z (List.mem_cons_of_mem _ hz))) ?_;rintro σ H Q ⟨α,ρ,hs,u,hs',rs,R,e,q⟩;simp only [ev]at e;obtain⟨u1,h1',e1,e⟩:=Qc e;split at e
  case isFalse=>cases e
  rename_i il;obtain⟨us,h2',e2,e⟩:=Qc e;exact TI.run rs R e1 fun α1 v H1 E1 R1 r1 rs1=>⟨ty il r1 R1,TIA.run rs1 R1 e2 fun α2 vs H2 E2 R2 r2 rs2=>hB e (r1.mono E2.pre) r2 R2 fun α3 v2 H3 E3 R3 r3=>q α3 v2 H3 ((E1.trans E2 R2.h).trans E3 R3.h) R3 r3⟩
noncomputable def kdB:Bm->String
 | .setdef=>"dict"
 | .get=>"dict"
 | .update=>"dict"
 | .join=>"str"
 | .split=>"str"
 | .find=>"str"
 | .index=>"str"
 | _=>"list"
theorem Qcf{u:U}{α:List Addr}{v:V}{H:Hp}(e:Zd b u hs=true)(r:RU A α u v)(R:Rep T A X.K α hs H):L2.tyV X.K (kdB b) v H:=by
 cases u with
 | ref n =>
  obtain⟨a,ha,rfl⟩:=r;simp only [Zd]at e;split at e
  ·rename_i xs eo;obtain⟨vs,q,_⟩:=R.h.ob n a _ ha eo
   have:kdB b="list":=by cases b<;>first|rfl|cases e
   rw [this];exact .inl ⟨rfl,vs,SqL.of q⟩
  ·rename_i kvs eo;obtain⟨kv,q,_⟩:=R.h.ob n a _ ha eo
   have:kdB b="dict":=by cases b<;>first|rfl|cases e
   rw [this];exact .inr (.inr (.inl ⟨rfl,.inl ⟨kv,q⟩⟩))
  ·cases e
 | str x =>
  cases(show v=_ from r)
  have:kdB b="str":=by cases b<;>first|rfl|cases e
  exact this
 | _=>cases e
theorem Qm8(hu:X.A.units+1<cLine)(tx:Txt T A X.K X.mg)(S:Snd T A C X cf m)(hb:QjZ x=some b)(h1:Ze o=true)(h2:(p.endLine==q.line)=true)(h3:args.length<29)
  (ho:Qf m C o=some o') (ha:compA m C args=some es):PE X (.Call (.Attribute o x p) args [] q) (TI T A X.K (ev T cf (d+1) (.bm b o' es))):=by
 unfold QjZ at hb;split at hb
 ·rename_i e;subst e;cases hb;exact QaD S QbI PySem.F.plainAttrs_list PySem.F.slot_list_append PySem.F.type_list_append (fun e r R=>Qcf e r R) h1 h2 h3 ho ha
 split at hb
 ·rename_i e;subst e;cases hb;exact QaD S QgT PySem.F.plainAttrs_list PySem.F.slot_list_pop PySem.F.type_list_pop (fun e r R=>Qcf e r R) h1 h2 h3 ho ha
 split at hb
 ·rename_i e;subst e;cases hb;exact QaD S (Qep tx) PySem.F.plainAttrs_str PySem.F.slot_str_join PySem.F.type_str_join (fun e r R=>Qcf e r R) h1 h2 h3 ho ha
 unfold Qjp at hb
 ·cases hb
theorem YG{args:List Expr}{b:Bi}{fv:Value}{r:List V->Hp->VK->Prop}{e0:Expr}(hB:∀{α:List Addr} {us:List U} {u':U} {hs hs':Hs} {vs:List V} {H:Hp} {Q:VK},biU T b us hs=some (u',hs')->RUs A α us vs->Rep T A X.K α hs H ->
   (∀α' v' H',Ext α α' H H'->Rep T A X.K α' hs' H'->RU A α' u' v'->Q v' H')->r vs H Q)
  (h:PE X e0 (tCB r (TIA T A X.K (fun ρ hs=>evs (ev T cf d) ρ es hs)))):PE X e0 (TI T A X.K (ev T cf (d+1) (.bi b es))):=by
 refine QR h ?_;rintro σ H Q ⟨α,ρ,hs,u,hs',rs,R,e,q⟩;simp only [ev]at e;obtain⟨us,h1,e1,e⟩:=Qc e;exact TIA.run rs R e1 fun α1 vs H1 E1 R1 r1 rs1=>hB e r1 R1 fun α2 v2 H2 E2 R2 r2=>q α2 v2 H2 (E1.trans E2 R2.h) R2 r2
theorem QgU{b:Bi}:biU T b [] hs=none:=by cases b<;>rfl
theorem Qm9{b:Bi}(g:GX T A C X)(hh:hdC C=false)(hu:X.A.units+2<cLine)(S:Snd T A C X cf m)(hg:YW C x=true)(hn:x≠"__debug__") (hn2:x≠"__name__") (hx:Qj0 C x=some b) (ha:compA m C args=some es):
  PE X (.Call (.Name x p) args [] pos) (TI T A X.K (ev T cf (d+1) (.bi b es))):=by
 have hns:=Qv ha
 cases args with
 | nil =>
  refine ZM ?_;rintro σ H Q ⟨α,ρ,hs,u,hs',rs,R,e,q⟩
  have ee:es=[]:=by
   have:=QL ha;simpa using this
  subst ee;simp [ev,evs,bd,QgU]at e
 | cons a t =>
  unfold Qj0 at hx;split at hx
  ·cases hx
  split at hx
  ·cases hx
  rename_i hl;have hm:X.mg x=none:=g.blt x hl;have pa:=S.a d (a::t) es ha;have st:=Qn (env:=X.env) (es:=t) (hns a (List.mem_cons_self ..));have sa:=Zl (env:=X.env) (pos:=pos) (es:=t) fun z hz=>hns z (List.mem_cons_of_mem _ hz);split at hx
  ·rename_i e;subst e;cases hx;obtain⟨r,hc,hB⟩:=QgX (X:=X) (A:=A) g.txt
   exact YG (fv:=.builtin "len") (args:=[]) hB (Je hc (Zf g hg) hm (by decide +kernel) pa hn2 (QY hn) st sa)
  split at hx
  ·rename_i e;subst e;cases hx;obtain⟨r,hc,hB⟩:=QgY (X:=X) (A:=A) (T:=T)
   exact YG (fv:=.none) (args:=[]) hB (Yw hc (Zf g hg) hm (by decide +kernel) pa hn2 (QY hn) st sa)
  split at hx
  ·rename_i e;subst e;cases hx;obtain⟨r,hc,hB⟩:=QgV (X:=X) (A:=A) (T:=T)
   exact YG (fv:=.none) (args:=[]) hB (Yw hc (Zf g hg) hm (by decide +kernel) pa hn2 (QY hn) st sa)
  split at hx
  ·rename_i e;subst e;cases hx;obtain⟨r,hc,hB⟩:=Qda (X:=X) (A:=A) (T:=T)
   exact YG (fv:=.none) (args:=[]) hB (Yw hc (Zf g hg) hm (by decide +kernel) pa hn2 (QY hn) st sa)
  split at hx
  ·rename_i e;subst e;cases hx;obtain⟨r,hc,hB⟩:=QgW (X:=X) (A:=A) g.txt (g.calm hh)
   exact YG (fv:=.builtin "min") (args:=[]) hB (Je hc (Zf g hg) hm (by decide +kernel) pa hn2 (QY hn) st sa)
  unfold Qjq at hx
  ·cases hx
theorem Qm6 {t : Str} {ty : Ty} (g : GX T A C X) (hg : YW C t = true) (hn : t ≠ "__debug__") (hn2 : t ≠ "__name__") (h : Qho C t = some ty) : ∃ v, PE X (.Name t p) (tC v) /\ QmE v = some (tyW A ty) := by
 unfold Qho at h;split at h
 ·rename_i i e;cases h;exact⟨.ref (A.c i),Qai (Zf g hg) (g.gcl t i e) rfl (QY hn),rfl⟩
 ·cases h
 ·split at h
  ·cases h
  rename_i e;have hm:X.mg t=none:=g.blt t e;have fin:∀n:String,bootBuiltins t=some (.type n)->PE X (.Name t p) (tC (.ty n)):=fun n hb=>QfT (Zf g hg) hm hb rfl hn2 (QY hn);split at h
  ·rename_i e;subst e;cases h;exact⟨_,fin "int" (by decide +kernel),rfl⟩
  split at h
  ·rename_i e;subst e;cases h;exact⟨_,fin "str" (by decide +kernel),rfl⟩
  split at h
  ·rename_i e;subst e;cases h;exact⟨_,fin "bool" (by decide +kernel),rfl⟩
  split at h
  ·rename_i e;subst e;cases h;exact⟨_,fin "list" (by decide +kernel),rfl⟩
  split at h
  ·rename_i e;subst e;cases h;exact⟨_,fin "tuple" (by decide +kernel),rfl⟩
  split at h
  ·rename_i e;subst e;cases h;exact⟨_,fin "dict" (by decide +kernel),rfl⟩
  split at h
  ·rename_i e;subst e;cases h;exact⟨_,fin "ValueError" (by decide +kernel),rfl⟩
  ·cases h
theorem Qko{a:Expr}{t:Str}{ty:Ty}{a':E}{p1:Pos}(g:GX T A C X)(S:Snd T A C X cf m)(hi:YW C "isinstance"=true) (hl:¬C.bl.contains ("isinstance":Str)=false) (hg:YW C t=true) (hn:t≠"__debug__") (hn2:t≠"__name__") (h:Qho C t=some ty) (ha:Qf m C a=some a'):
  PE X (.Call (.Name "isinstance" p) [a,.Name t p1] [] pos) (TI T A X.K (ev T cf (d+1) (.isi a' ty))):=by
 obtain⟨v,hv,hc⟩:=Qm6 (p:=p1) g hg hn hn2 h;have s1:starEach [a,.Name t p1] X.env=(false,eval a X.env)::starEach [.Name t p1] X.env:=Qn (QE ha)
 refine QR (Je Qel (Zf g hi) (g.blt _ hl) (by decide +kernel) (Zz (S.e d a a' ha) (Zz hv JB) s1) (by decide) (by decide) s1 rfl) ?_
 rintro σ H Q ⟨α,ρ,hs,u,hs',rs,R,e,q⟩;simp only [ev]at e;obtain⟨u1,h1,e1,e⟩:=Qc e;simp only [Option.map_eq_some_iff]at e;obtain⟨b,e2,e⟩:=e;cases e;refine TI.run rs R e1 fun α1 x H1 E1 R1 r1 rs1=>?_;obtain⟨tv,h1,h2⟩:=QiT g.txt e2 r1 R1;exact⟨x,v,_,tv,b,rfl,hc,h1,h2,q α1 _ H1 E1 R1 rfl⟩
end
end Iv
namespace L2
open PySem PySem.Spec PyProof.Rows
open Sem (wp)
variable {xs ys:Array Value}{k1 k2:Nat}{a b x:Value}{Q:Value->Shared->Prop}
structure Nx(prog:Program)(w:World)(it l:Addr)(P:Nat->Heap->Prop)(L:Array Value->Heap->Prop):Prop where
 item:∀(A:Around) (E:Value->Shared->Prop) (s:Shared) (k:Nat) (xs:Array Value) (x:Value) (Q:Value->Shared->Prop),P k s.heap->L xs s.heap->xs[k]?=some x->(∀h',P (k+1) h'->Heap.SameBut it s.heap h'->Q x { s with heap:=h' }) ->
  wpAny (model prog w) A (Builtin.SmallTypes.nextOf (.ref it)) Q E s
 done:∀(A:Around) (E:Value->Shared->Prop) (s:Shared) (k:Nat) (xs:Array Value) (Q:Value->Shared->Prop),A.handled=none->P k s.heap->L xs s.heap->xs[k]?=none ->
  (∀ h' e, Heap.ExtBut it s.heap h' -> (∃ o, h'.get? e = some o /\ o.cls = .type "StopIteration") -> E (.ref e) { s with heap := h' }) -> wpAny (model prog w) A (Builtin.SmallTypes.nextOf (.ref it)) Q E s
 keepP:∀k h h',P k h->(∀o,h.get? it=some o->h'.get? it=some o)->P k h'
 keepL:∀xs h h',L xs h->(∀o,h.get? l=some o->h'.get? l=some o)->L xs h'
 obj:∀k h,P k h->∃o vs,h.get? it=some o/\o.data=.fields vs
theorem Qf5(prog:Program)(w:World)(it l:Addr):Nx prog w it l (fun k h=>h.IsListIter it l k) (fun xs h=>h.IsList l xs) where
 item:=fun A E s k xs x Q p q e h=>wpAny_nextOf_list_item p q e h
 done:=fun A E s k xs Q hh p q e h=>wpAny_nextOf_list_end hh p q e h
 keepP:=fun k h h' p f=>p.at fun o e=>f o e
 keepL:=fun xs h h' p f=>p.at fun o e=>f o e
 obj:=fun k h ⟨o,e,_,d⟩=>⟨o,_,e,d⟩
section
variable {prog:Program}{w:World}{A:Around}{E:Value->Shared->Prop}{s:Shared}
theorem Z3{it t:Addr}{i:Nat}{items:Array Value}(hit:s.heap.IsTupleIter it t i)
  (ht:s.heap.IsTuple t items) (hx:items[i]?=some x) (hQ:∀h',h'.IsTupleIter it t (i+1)->Heap.SameBut it s.heap h'->Q x { s with heap:=h' }):
  wpAny (model prog w) A (Builtin.SmallTypes.nextOf (.ref it)) Q E s:=by
 obtain⟨o,ho,hc,hd⟩:=id hit;obtain⟨ol,hol,_,nl,hdl⟩:=ht;unfold Builtin.SmallTypes.nextOf
 refine wpAny_bind (wpAny_callSpecial?_slot (name:=Str.ofString "__next__") hit.typeIs F.slot_tuple_iterator_next
  (wpAny_call_entry F.slot_tuple_iterator_next hit.typeIs F.entry_tuple_iterator_next ?_ (F.args_tuple_iterator_next_1 _)))
 show wpAny _ _ (field (.ref it) 0 >>= _) _ _ s;refine wpAny_bind (wpAny_field ho hd (x:=.ref t) rfl ?_);show wpAny _ _ (if(Value.ref t==Value.none)=true then _ else _) _ _ s;rw [if_neg (show ¬((Value.ref t==Value.none)=true)from Bool.false_ne_true)];show wpAny _ _ (field (.ref it) 1 >>= _) _ _ s;refine wpAny_bind (wpAny_field ho hd (x:=.int i 0) rfl ?_);show wpAny _ _ (seqItems? (.ref t) >>= _) _ _ s;refine wpAny_bind (wpAny_seqItems hol hdl ?_);simp only [Int.toNat_natCast,hx]
 refine wpAny_bind (wpAny_setField ho hd (by simp) (wpAny_pure ⟨x,rfl,wpAny_pure (hQ _ ?_ (Heap.SameBut.update ..))⟩))
 exact⟨_,Heap.get?_update_self _ ho (Obj.isFreed_of_fields (Obj.data_mapFields hd _)),(Obj.cls_mapFields ..).trans hc,by
  rw [Obj.data_mapFields hd];simp [rawInt]⟩
theorem Ye{it t:Addr}{i:Nat}{items:Array Value}(hh:A.handled=none)
  (hit:s.heap.IsTupleIter it t i) (ht:s.heap.IsTuple t items) (hx:items[i]?=none)
  (hE : ∀ h' e, Heap.ExtBut it s.heap h' -> (∃ o, h'.get? e = some o /\ o.cls = .type "StopIteration") -> E (.ref e) { s with heap := h' }) :
  wpAny (model prog w) A (Builtin.SmallTypes.nextOf (.ref it)) Q E s:=by
 obtain⟨o,ho,hc,hd⟩:=id hit;obtain⟨ol,hol,_,nl,hdl⟩:=ht;unfold Builtin.SmallTypes.nextOf
 refine wpAny_bind (wpAny_callSpecial?_slot (name:=Str.ofString "__next__") hit.typeIs F.slot_tuple_iterator_next
  (wpAny_call_entry F.slot_tuple_iterator_next hit.typeIs F.entry_tuple_iterator_next ?_ (F.args_tuple_iterator_next_1 _)))
 show wpAny _ _ (field (.ref it) 0 >>= _) _ _ s;refine wpAny_bind (wpAny_field ho hd (x:=.ref t) rfl ?_);show wpAny _ _ (if(Value.ref t==Value.none)=true then _ else _) _ _ s;rw [if_neg (show ¬((Value.ref t==Value.none)=true)from Bool.false_ne_true)];show wpAny _ _ (field (.ref it) 1 >>= _) _ _ s;refine wpAny_bind (wpAny_field ho hd (x:=.int i 0) rfl ?_);show wpAny _ _ (seqItems? (.ref t) >>= _) _ _ s;refine wpAny_bind (wpAny_seqItems hol hdl ?_);simp only [Int.toNat_natCast,hx]
 refine wpAny_bind (wpAny_rule (wpAny_bind (wpAny_setField ho hd (by simp) ?_)))
 show wpAny _ _ (newExc (.type "StopIteration") [] >>= _) _ _ _;refine wpAny_bind ?_;simp only [newExc,newTuple]
 refine wpAny_bind (wpAny_newObj_type ?_ (by size_fits))
 refine wpAny_bind (m:=firstArgMember _ _) (wpAny_of_eq (a:=Value.none) (by first|rfl|(simp only [firstArgMember];rfl)) ?_)
 refine wpAny_newObj_type ?_ (by size_fits)
 simp only [raiseNew];refine wpAny_bind (wpAny_handled ?_)
 first|rw [show A.in1.handled=none from hh]|rw [hh]
 refine wpAny_bind (wpAny_pure (wpAny_throw ?_));exact hE _ _ (((Heap.SameBut.update ..).extBut.push _).push _) ⟨_,Heap.get?_push_size _ rfl,rfl⟩
end
theorem QdT(prog:Program)(w:World)(it l:Addr):Nx prog w it l (fun k h=>h.IsTupleIter it l k) (fun xs h=>h.IsTuple l xs) where
 item:=fun A E s k xs x Q p q e h=>Z3 p q e h
 done:=fun A E s k xs Q hh p q e h=>Ye hh p q e h
 keepP:=fun k h h' p f=>p.at fun o e=>f o e
 keepL:=fun xs h h' p f=>p.at fun o e=>f o e
 obj:=fun k h ⟨o,e,_,d⟩=>⟨o,_,e,d⟩
section
variable {prog:Program}{w:World}{A:Around}{E:Value->Shared->Prop}{s:Shared}{z TI TO i1 i2 l1 l2:Addr}{P1 P2:Nat->Heap->Prop}{L1 L2:Array Value->Heap->Prop}
theorem QbM{y:Value}(N1:Nx prog w i1 l1 P1 L1)(N2:Nx prog w i2 l2 P2 L2)(D:ZipApart z TI TO i1 i2 l1 l2)
  (hz:IsZip s.heap z TI TO .none) (hTI:IsPair s.heap TI (.ref i1) (.ref i2)) (hTO:IsPair s.heap TO a b)
  (h1:P1 k1 s.heap) (h2:P2 k2 s.heap) (hl1:L1 xs s.heap) (hl2:L2 ys s.heap) (hx:xs[k1]?=some x) (hy:ys[k2]?=some y)
  (hQ:∀h',IsZip h' z TI TO (rawInt s.heap.objs.size)->IsPair h' TO x y->P1 (k1+1) h'->P2 (k2+1) h'->IsPair h' s.heap.objs.size x y->h'.objs.size=s.heap.objs.size+1 ->
   (∀c o,c≠z->c≠TO->c≠i1->c≠i2->s.heap.get? c=some o->h'.get? c=some o)->Q (.ref s.heap.objs.size) { s with heap:=h' }):
  wpAny (model prog w) A (Builtin.«zip.__next__» ⟨[.ref z],[]⟩) (fun fin s'=>∃v,fin=.done (.ret v)/\Q v s') E s:=by
 have kP1:∀{k:Nat} {h h':Heap} {c:Addr},P1 k h->Heap.SameBut c h h'->i1≠c->P1 k h':=fun {k h h' c} p sb ne=>N1.keepP k h h' p fun o e=>(sb.2 i1 ne).trans e;have kP2:∀{k:Nat} {h h':Heap} {c:Addr},P2 k h->Heap.SameBut c h h'->i2≠c->P2 k h':=fun {k h h' c} p sb ne=>N2.keepP k h h' p fun o e=>(sb.2 i2 ne).trans e;have kL1:∀{h h':Heap} {c:Addr},L1 xs h->Heap.SameBut c h h'->l1≠c->L1 xs h':=fun {h h' c} p sb ne=>N1.keepL xs h h' p fun o e=>(sb.2 l1 ne).trans e;have kL2:∀{h h':Heap} {c:Addr},L2 ys h->Heap.SameBut c h h'->l2≠c->L2 ys h':=fun {h h' c} p sb ne=>N2.keepL ys h h' p fun o e=>(sb.2 l2 ne).trans e;show wpAny _ _ (field (.ref z) 2 >>= _) _ _ _;refine wpAny_bind (wpAny_field hz rfl (x:=.bool false) rfl ?_);show wpAny _ _ (field (.ref z) 3 >>= _) _ _ _;refine wpAny_bind (wpAny_field hz rfl (x:=.ref TI) rfl ?_);refine wpAny_bind (wpAny_seqItems hTI rfl ?_);show wpAny _ _ (Builtin.SmallTypes.ownedTupleIsFree (.ref z) >>= _) _ _ _;refine wpAny_bind ?_;unfold Builtin.SmallTypes.ownedTupleIsFree;refine wpAny_bind (wpAny_field hz rfl (x:=.none) rfl (wpAny_pure ?_));simp only [if_true];refine wpAny_bind (wpAny_rule ?_);refine wpAny_bind (wpAny_field hz rfl (x:=.ref TO) rfl ?_)
 refine wpAny_bind (wpAny_setField_rec hz (by simp) fun h₁ hz₁ hs₁=>?_)
 replace hz₁:IsZip h₁ z TI TO .ellipsis:=hz₁;refine wpAny_bind ?_;simp only [List.zipIdx_cons,List.zipIdx_nil,List.forIn_cons,List.forIn_nil];refine wpAny_bind (wpAny_bind (wpAny_onRaise ?_));show wpAny _ _ (Builtin.SmallTypes.nextOf (.ref i1) >>= _) _ _ _;refine wpAny_bind (N1.item _ _ _ _ _ _ _ (kP1 h1 hs₁ D.i1z) (kL1 hl1 hs₁ D.l1z) hx fun h₂ h1₂ hs₂=>wpAny_pure ?_);have hTO₂:IsPair h₂ TO a b:=hs₂.extBut _ _ D.TOi1 (hs₁.extBut _ _ D.TOz hTO);refine wpAny_bind (wpAny_seqItems hTO₂ rfl ?_);refine wpAny_bind (wpAny_updateSeq_pair hTO₂ fun h₃ hTO₃ hs₃=>?_);replace hTO₃:IsPair h₃ TO x b:=hTO₃;refine wpAny_bind (wpAny_letGo (wpAny_pure ?_));refine wpAny_bind (wpAny_bind (wpAny_onRaise ?_));show wpAny _ _ (Builtin.SmallTypes.nextOf (.ref i2) >>= _) _ _ _;refine wpAny_bind (N2.item _ _ _ _ _ _ _ (kP2 (kP2 (kP2 h2 hs₁ D.i2z) hs₂ D.i12.symm) hs₃ D.TOi2.symm) (kL2 (kL2 (kL2 hl2 hs₁ D.l2z) hs₂ D.l2i1) hs₃ D.l2TO) hy fun h₄ h2₄ hs₄=>wpAny_pure ?_);have hTO₄:IsPair h₄ TO x b:=hs₄.extBut _ _ D.TOi2 hTO₃;refine wpAny_bind (wpAny_seqItems hTO₄ rfl ?_);refine wpAny_bind (wpAny_updateSeq_pair hTO₄ fun h₅ hTO₅ hs₅=>?_);replace hTO₅:IsPair h₅ TO x y:=hTO₅;refine wpAny_bind (wpAny_letGo (wpAny_pure (wpAny_pure ?_)));refine wpAny_bind (wpAny_seqItems hTO₅ rfl ?_);refine wpAny_bind (wpAny_newTuple ?_)
 have hsz:h₅.objs.size=s.heap.objs.size:=by rw [hs₅.1,hs₄.1,hs₃.1,hs₂.1,hs₁.1]
 have hz₅:IsZip h₅ z TI TO .ellipsis:=hs₅.extBut _ _ D.TOz.symm (hs₄.extBut _ _ D.i2z.symm (hs₃.extBut _ _ D.TOz.symm (hs₂.extBut _ _ D.i1z.symm hz₁)))
 have hk₅:∀c o,c≠z->c≠TO->c≠i1->c≠i2->s.heap.get? c=some o->h₅.get? c=some o:=fun c o c1 c2 c3 c4 e =>
  hs₅.extBut _ _ c2 (hs₄.extBut _ _ c4 (hs₃.extBut _ _ c2 (hs₂.extBut _ _ c3 (hs₁.extBut _ _ c1 e))))
 have h1₅:P1 (k1+1) h₅:=kP1 (kP1 (kP1 h1₂ hs₃ D.TOi1.symm) hs₄ D.i12) hs₅ D.TOi1.symm;have h2₅:P2 (k2+1) h₅:=kP2 h2₄ hs₅ D.TOi2.symm;have hzlt:z<h₅.objs.size:=Heap.lt_size hz₅;show wpAny _ _ (Builtin.SmallTypes.ownedTupleHandOut (.ref z) (.ref h₅.objs.size) >>= _) _ _ _;refine wpAny_bind ?_;unfold Builtin.SmallTypes.ownedTupleHandOut;have hz₆:IsZip (h₅.push { cls:=.type "tuple",data:=.seq #[x,y] }) z TI TO .ellipsis:=Heap.get?_push_of_some _ hz₅
 refine wpAny_bind (wpAny_setField_rec hz₆ (by simp) fun h₇ hz₇ hs₇=>?_)
 replace hz₇:IsZip h₇ z TI TO (rawInt h₅.objs.size):=hz₇
 refine wpAny_setField_rec hz₇ (by simp) fun h₈ hz₈ hs₈=>?_
 replace hz₈:IsZip h₈ z TI TO (rawInt h₅.objs.size):=hz₈;have up:∀c o,c≠z->h₅.get? c=some o->h₈.get? c=some o:=fun c o c1 e=>hs₈.extBut _ _ c1 (hs₇.extBut _ _ c1 (Heap.get?_push_of_some _ e));have hT₈:IsPair h₈ h₅.objs.size x y:=hs₈.extBut _ _ (Nat.ne_of_gt hzlt) (hs₇.extBut _ _ (Nat.ne_of_gt hzlt) (Heap.get?_push_size _ rfl))
 have hz8:h₈.objs.size=h₅.objs.size+1:=by rw [hs₈.1,hs₇.1,Heap.size_push]
 rw [hsz]at hz₈ hT₈ hz8;refine wpAny_pure ⟨_,rfl,?_⟩;show Q (.ref h₅.objs.size) _;rw [hsz];exact hQ h₈ hz₈ (up _ _ D.TOz hTO₅) (N1.keepP _ _ _ h1₅ fun o e=>up _ o D.i1z e) (N2.keepP _ _ _ h2₅ fun o e=>up _ o D.i2z e) hT₈ hz8 fun c o c1 c2 c3 c4 e=>up c o c1 (hk₅ c o c1 c2 c3 c4 e)
theorem Qdk{Q:Fin->Shared->Prop}(N1:Nx prog w i1 l1 P1 L1)(N2:Nx prog w i2 l2 P2 L2)(hh:A.handled=none)(D:ZipApart z TI TO i1 i2 l1 l2)
  (hz:IsZip s.heap z TI TO .none) (hTI:IsPair s.heap TI (.ref i1) (.ref i2)) (hTO:IsPair s.heap TO a b)
  (h1:P1 k1 s.heap) (h2:P2 k2 s.heap) (hl1:L1 xs s.heap) (hl2:L2 ys s.heap) (hend:xs[k1]?=none\/ys[k2]?=none)
  (hE : ∀ h' e, (∀ c o, c ≠ z -> c ≠ TO -> c ≠ i1 -> c ≠ i2 -> s.heap.get? c = some o -> h'.get? c = some o) -> (∃ o, h'.get? e = some o /\ o.cls = .type "StopIteration") -> E (.ref e) { s with heap := h' }) :
  wpAny (model prog w) A (Builtin.«zip.__next__» ⟨[.ref z],[]⟩) Q E s:=by
 have kP1:∀{k:Nat} {h h':Heap} {c:Addr},P1 k h->Heap.SameBut c h h'->i1≠c->P1 k h':=fun {k h h' c} p sb ne=>N1.keepP k h h' p fun o e=>(sb.2 i1 ne).trans e;have kP2:∀{k:Nat} {h h':Heap} {c:Addr},P2 k h->Heap.SameBut c h h'->i2≠c->P2 k h':=fun {k h h' c} p sb ne=>N2.keepP k h h' p fun o e=>(sb.2 i2 ne).trans e;have kL1:∀{h h':Heap} {c:Addr},L1 xs h->Heap.SameBut c h h'->l1≠c->L1 xs h':=fun {h h' c} p sb ne=>N1.keepL xs h h' p fun o e=>(sb.2 l1 ne).trans e;have kL2:∀{h h':Heap} {c:Addr},L2 ys h->Heap.SameBut c h h'->l2≠c->L2 ys h':=fun {h h' c} p sb ne=>N2.keepL ys h h' p fun o e=>(sb.2 l2 ne).trans e;show wpAny _ _ (field (.ref z) 2 >>= _) _ _ _;refine wpAny_bind (wpAny_field hz rfl (x:=.bool false) rfl ?_);show wpAny _ _ (field (.ref z) 3 >>= _) _ _ _;refine wpAny_bind (wpAny_field hz rfl (x:=.ref TI) rfl ?_);refine wpAny_bind (wpAny_seqItems hTI rfl ?_);show wpAny _ _ (Builtin.SmallTypes.ownedTupleIsFree (.ref z) >>= _) _ _ _;refine wpAny_bind ?_;unfold Builtin.SmallTypes.ownedTupleIsFree;refine wpAny_bind (wpAny_field hz rfl (x:=.none) rfl (wpAny_pure ?_));simp only [if_true];refine wpAny_bind (wpAny_rule ?_);refine wpAny_bind (wpAny_field hz rfl (x:=.ref TO) rfl ?_)
 refine wpAny_bind (wpAny_setField_rec hz (by simp) fun h₁ hz₁ hs₁=>?_)
 replace hz₁:IsZip h₁ z TI TO .ellipsis:=hz₁;refine wpAny_bind ?_;simp only [List.zipIdx_cons,List.zipIdx_nil,List.forIn_cons,List.forIn_nil];refine wpAny_bind (wpAny_bind (wpAny_onRaise ?_));show wpAny _ _ (Builtin.SmallTypes.nextOf (.ref i1) >>= _) _ _ _
 cases hx:xs[k1]? with
 | none =>
  refine wpAny_bind (N1.done _ _ _ _ _ _ hh (kP1 h1 hs₁ D.i1z) (kL1 hl1 hs₁ D.l1z) hx fun h₂ e hs₂ he=>?_);obtain⟨oe,hoe,hce⟩:=he;have hz₂:IsZip h₂ z TI TO .ellipsis:=hs₂ _ _ D.i1z.symm hz₁
  have hez:e≠z:=fun x=>by subst x;rw [hz₂]at hoe;cases hoe;simp at hce
  refine wpAny_setField_rec hz₂ (by simp) fun h₃ _ hs₃=>hE h₃ e (fun c o c1 _ c3 _ x=>hs₃.extBut _ _ c1 (hs₂ _ _ c3 (hs₁.extBut _ _ c1 x))) ⟨oe,hs₃.extBut _ _ hez hoe,hce⟩
 | some x =>
  have hy:ys[k2]?=none:=by rcases hend with h|h;rw [hx]at h;cases h;exact h
  refine wpAny_bind (N1.item _ _ _ _ _ _ _ (kP1 h1 hs₁ D.i1z) (kL1 hl1 hs₁ D.l1z) hx fun h₂ h1₂ hs₂=>wpAny_pure ?_);have hTO₂:IsPair h₂ TO a b:=hs₂.extBut _ _ D.TOi1 (hs₁.extBut _ _ D.TOz hTO);refine wpAny_bind (wpAny_seqItems hTO₂ rfl ?_);refine wpAny_bind (wpAny_updateSeq_pair hTO₂ fun h₃ hTO₃ hs₃=>?_);refine wpAny_bind (wpAny_letGo (wpAny_pure ?_));refine wpAny_bind (wpAny_bind (wpAny_onRaise ?_));show wpAny _ _ (Builtin.SmallTypes.nextOf (.ref i2) >>= _) _ _ _;refine wpAny_bind (N2.done _ _ _ _ _ _ hh (kP2 (kP2 (kP2 h2 hs₁ D.i2z) hs₂ D.i12.symm) hs₃ D.TOi2.symm) (kL2 (kL2 (kL2 hl2 hs₁ D.l2z) hs₂ D.l2i1) hs₃ D.l2TO) hy fun h₄ e hs₄ he=>?_);obtain⟨oe,hoe,hce⟩:=he;have hz₄:IsZip h₄ z TI TO .ellipsis:=hs₄ _ _ D.i2z.symm (hs₃.extBut _ _ D.TOz.symm (hs₂.extBut _ _ D.i1z.symm hz₁))
  have hez:e≠z:=fun x=>by subst x;rw [hz₄]at hoe;cases hoe;simp at hce
  refine wpAny_setField_rec hz₄ (by simp) fun h₅ _ hs₅=>hE h₅ e (fun c o c1 c2 c3 c4 x=>hs₅.extBut _ _ c1 (hs₄ _ _ c4 (hs₃.extBut _ _ c2 (hs₂.extBut _ _ c3 (hs₁.extBut _ _ c1 x))))) ⟨oe,hs₅.extBut _ _ hez hoe,hce⟩
theorem Yd{y:Value}{Q:Option Value->Shared->Prop}(N1:Nx prog w i1 l1 P1 L1)(N2:Nx prog w i2 l2 P2 L2)(D:ZipApart z TI TO i1 i2 l1 l2)
  (hz:IsZip s.heap z TI TO .none) (hTI:IsPair s.heap TI (.ref i1) (.ref i2)) (hTO:IsPair s.heap TO a b)
  (h1:P1 k1 s.heap) (h2:P2 k2 s.heap) (hl1:L1 xs s.heap) (hl2:L2 ys s.heap) (hx:xs[k1]?=some x) (hy:ys[k2]?=some y)
  (hQ:∀h',IsZip h' z TI TO (rawInt s.heap.objs.size)->IsPair h' TO x y->P1 (k1+1) h'->P2 (k2+1) h'->IsPair h' s.heap.objs.size x y->h'.objs.size=s.heap.objs.size+1 ->
   (∀c o,c≠z->c≠TO->c≠i1->c≠i2->s.heap.get? c=some o->h'.get? c=some o)->Q (some (.ref s.heap.objs.size)) { s with heap:=h' }):
  wpAny (model prog w) A (pyNext (.ref z)) Q E s:=by
 have hT:s.TypeIs (.ref z) "zip":=⟨_,hz,rfl⟩;unfold pyNext
 exact wpAny_bind (wpAny_attempt (wpAny_callSpecial?_slot (name:=Str.ofString "__next__") hT F.slot_zip_next
  (wpAny_call_entry F.slot_zip_next hT F.entry_zip_next
   (QbM N1 N2 D hz hTI hTO h1 h2 hl1 hl2 hx hy fun h' a1 a2 a3 a4 a5 a6 a7=>wpAny_pure (hQ h' a1 a2 a3 a4 a5 a6 a7)) (F.args_zip_next_1 _))))
theorem Yu{Q:Option Value->Shared->Prop}(N1:Nx prog w i1 l1 P1 L1)(N2:Nx prog w i2 l2 P2 L2)(hh:A.handled=none)(D:ZipApart z TI TO i1 i2 l1 l2)
  (hz:IsZip s.heap z TI TO .none) (hTI:IsPair s.heap TI (.ref i1) (.ref i2)) (hTO:IsPair s.heap TO a b)
  (h1:P1 k1 s.heap) (h2:P2 k2 s.heap) (hl1:L1 xs s.heap) (hl2:L2 ys s.heap) (hend:xs[k1]?=none\/ys[k2]?=none)
  (hQ:∀h',(∀c o,c≠z->c≠TO->c≠i1->c≠i2->s.heap.get? c=some o->h'.get? c=some o)->Q none { s with heap:=h' }):wpAny (model prog w) A (pyNext (.ref z)) Q E s:=by
 have hT:s.TypeIs (.ref z) "zip":=⟨_,hz,rfl⟩;unfold pyNext
 refine wpAny_bind (wpAny_attempt (wpAny_callSpecial?_slot (name:=Str.ofString "__next__") hT F.slot_zip_next
  (wpAny_call_entry F.slot_zip_next hT F.entry_zip_next (Qdk N1 N2 hh D hz hTI hTO h1 h2 hl1 hl2 hend fun h' e hk he=>?_) (F.args_zip_next_1 _))))
 obtain⟨o,ho,hc⟩:=he;refine wpAny_bind (wpAny_isInstance (T:="StopIteration") (b:=true) ⟨o,ho,hc⟩ isSubtype_stop ?_);exact wpAny_pure (hQ _ hk)
end
end L2
namespace L2
open PySem PySem.Spec PyProof.Rows
variable {b:Bool}{X:Cx}{H:Hp}{pins:List (Addr×Obj)}{s:Shared}{σ:St}
section
variable {h':Heap}
theorem Inv.turnedLay{t':Nat}{ch:List Addr}{p:Addr}{vs:List V}{its:List Value}(I:Inv X pins σ H s)(hf:∀b∈ch,QaH X pins H b)(k:∀b o,b∉ch->s.heap.get? b=some o->h'.get? b=some o)
  (there:∀b o,b∈ch->s.heap.get? b=some o->∃o',h'.get? b=some o')
  (hp:s.heap.objs.size<=p) (hv:Vals vs its) (ht:IsTup h' p its.toArray) (hz:vs.length<=sizeLine):Inv X pins σ (upd H p (.tup vs)) { s with heap:=h',toks:=t' }:=by
 have hn:H p=none:=I.hok.fresh hp
 have ne:∀b o,s.heap.get? b=some o->b≠p:=fun b o e z=>by
  have:=Heap.lt_size e;rw [z]at this;exact absurd (Nat.lt_of_lt_of_le this hp) (Nat.lt_irrefl _)
 have nch:∀b u,H b=some u->b∉ch:=fun b u e z=>by rw [(hf b z).1]at e;cases e
 have up:∀b u,H b=some u->upd H p (.tup vs) b=some u:=fun b u e=>by rw [Qh (Q3 e hn)];exact e
 refine I.step (g':=s.gens) (d':=s.drawn) (ch:=ch) (fun b hb=>?_) (fun b o _ _ hc e _=>k b o hc e) (fun b o _ _ hc e _=>⟨o.slots,k b o hc e⟩) (fun b o _ e n=>by rw [Qh (ne b o e)];exact n)
  (fun b o hc e=>⟨o,k b o hc e⟩) (fun b xs e=>up b _ e) (fun b o u e=>up b _ e) (fun b ps e=>⟨#[],by rw [up b _ e];simp⟩) (fun m hm=>?_) (fun b u e=>?_) I.bare
 ·obtain⟨_,f1,_,f3,f4,f5⟩:=hf b hb;exact⟨f3,f1,f4,f5⟩
 ·obtain⟨o,es,ep,ho,r⟩:=hm;refine⟨o,es,ep,k _ o (fun z=>(hf _ z).2.1 rfl) ho,r⟩
 ·by_cases hb:b=p
  ·subst hb;rw [Qq]at e;cases e;exact⟨hz,its,hv,ht⟩
  ·rw [Qh hb]at e;refine(I.hok b u e).stay (fun c v hc q=>k c v ?_ q) (fun c q=>up c _ q) fun c xs q=>up c _ q
   rcases hc with z|z
   ·rw [z];exact nch b u e
   ·exact nch c _ z
theorem Inv.turnedL{t':Nat}{ch:List Addr}(I:Inv X pins σ H s)(hf:∀b∈ch,QaH X pins H b)(k:∀b o,b∉ch->s.heap.get? b=some o->h'.get? b=some o):Inv X pins σ H { s with heap:=h',toks:=t' }:=by
 have nch:∀b u,H b=some u->b∉ch:=fun b u e z=>by rw [(hf b z).1]at e;cases e
 refine I.step (g':=s.gens) (d':=s.drawn) (ch:=ch) (fun b hb=>?_) (fun b o _ _ hc e _=>k b o hc e) (fun b o _ _ hc e _=>⟨o.slots,k b o hc e⟩) (fun b o _ e n=>n)
  (fun b o hc e=>⟨o,k b o hc e⟩) (fun b xs e=>e) (fun b o u e=>e) (fun b ps e=>⟨#[],by rw [e];simp⟩) (fun m hm=>?_) (fun b u e=>?_) I.bare
 ·obtain⟨_,f1,_,f3,f4,f5⟩:=hf b hb;exact⟨f3,f1,f4,f5⟩
 ·obtain⟨o,es,ep,ho,r⟩:=hm;exact⟨o,es,ep,k _ o (fun z=>(hf _ z).2.1 rfl) ho,r⟩
 ·refine(I.hok b u e).stay (fun c v hc q=>k c v ?_ q) (fun c q=>q) fun c xs q=>q
  rcases hc with z|z
  ·rw [z];exact nch b u e
  ·exact nch c _ z
end
noncomputable def SqB:Bool->PySem.W.Frag->Hp->Addr->List V->Prop
 | true=>SqL
 | false=>SqT
noncomputable def LB:Bool->Addr->Array Value->Heap->Prop
 | true,l=>fun xs h=>h.IsList l xs
 | false,l=>fun xs h=>h.IsTuple l xs
noncomputable def PB:Bool->Addr->Addr->Nat->Heap->Prop
 | true,it,l=>fun k h=>h.IsListIter it l k
 | false,it,l=>fun k h=>h.IsTupleIter it l k
theorem nxB(b:Bool)(prog:Program)(w:World)(it l:Addr):Nx prog w it l (PB b it l) (LB b l):=by
 cases b with
 | true=>exact Qf5 prog w it l
 | false=>exact QdT prog w it l
theorem Inv.sqB{a:Addr}{xs:List V}(I:Inv X pins σ H s)(h:SqB b X.K H a xs):∃its:List Value,Vals xs its/\LB b a its.toArray s.heap/\xs.length<=sizeLine:=by
 cases b with
 | true=>obtain⟨its,r,p,z⟩:=I.list h;exact⟨its,r,p.isList,z⟩
 | false=>obtain⟨its,r,p,z⟩:=I.tuple h;exact⟨its,r,p,z⟩
theorem Inv.sqB_inj{a:Addr}{xs ys:List V}(I:Inv X pins σ H s)(h:SqB b X.K H a xs)(h':SqB b X.K H a ys):xs=ys:=by
 cases b with
 | true=>exact I.list_inj h h'
 | false=>exact I.tuple_inj h h'
noncomputable def Itz(b c:Bool)(K:PySem.W.Frag)(a1 a2:Addr):It :=
 ⟨fun i H=>∃xs ys x y,SqB b K H a1 xs/\SqB c K H a2 ys/\xs[i]?=some x/\ys[i]?=some y,
   fun i H x H'=>∃p v w,H p=none/\x=.ref p/\H'=upd H p (.tup [v,w])/\(∀xs,SqB b K H a1 xs->xs[i]?=some v)/\∀ys,SqB c K H a2 ys->ys[i]?=some w,
   fun i H=>∃xs ys,SqB b K H a1 xs/\SqB c K H a2 ys/\(xs.length<=i\/ys.length<=i)⟩
theorem Qdp{P:Program}{w:World}{K:PySem.W.Frag}{elts:List Expr}{kt:Nat}{pt:Pos}(b b':Bool)(a1 a2 z TI TO i1 i2:Addr)(D:ZipApart z TI TO i1 i2 a1 a2):
  Turn P w K (.Tuple elts kt pt) (Itz b b' K a1 a2) [z,TI,TO,i1,i2] z (fun i h=>IsZip h z TI TO .none/\IsPair h TI (.ref i1) (.ref i2)/\(∃a c,IsPair h TO a c)/\PB b i1 a1 i h/\PB b' i2 a2 i h) where
 mem:=by simp
 obj:=fun i h st c hc=>by
  obtain⟨hz,hTI,⟨a,c',hTO⟩,p1,p2⟩:=st
  have hc':c=z\/c=TI\/c=TO\/c=i1\/c=i2:=by simpa using hc
  rcases hc' with rfl|rfl|rfl|rfl|rfl
  ·exact⟨_,hz,fun v q=>nomatch q⟩
  ·exact⟨_,hTI,fun v q=>nomatch q⟩
  ·exact⟨_,hTO,fun v q=>nomatch q⟩
  ·obtain⟨o,vs,e,d⟩:=(nxB b P w c a1).obj i h p1
   exact⟨o,e,fun v q=>by rw [d]at q;cases q⟩
  ·obtain⟨o,vs,e,d⟩:=(nxB b' P w c a2).obj i h p2
   exact⟨o,e,fun v q=>by rw [d]at q;cases q⟩
 keep:=fun i h h' st k=>by
  obtain⟨hz,hTI,⟨a,c',hTO⟩,p1,p2⟩:=st
  exact⟨k z (by simp) _ hz,k TI (by simp) _ hTI,⟨a,c',k TO (by simp) _ hTO⟩,(nxB b P w i1 a1).keepP i h h' p1 fun o e=>k i1 (by simp) o e,(nxB b' P w i2 a2).keepP i h h' p2 fun o e=>k i2 (by simp) o e⟩
 item:=by
  intro X hP hw hK hc i pins s σ H E I hf st hg;subst hP hw hK;obtain⟨hz,hTI,⟨a,c',hTO⟩,p1,p2⟩:=st;obtain⟨xs,ys,x,y,q1,q2,ex,ey⟩:=hg;obtain⟨it1,r1,l1,_⟩:=I.sqB q1;obtain⟨it2,r2,l2,_⟩:=I.sqB q2;obtain⟨u,hu,ru⟩:=r1.get ex;obtain⟨v,hv,rv⟩:=r2.get ey
  have ltz:∀c,c∈[z,TI,TO,i1,i2]->c<s.heap.objs.size:=fun c hc=>by
   have hc':c=z\/c=TI\/c=TO\/c=i1\/c=i2:=by simpa using hc
   rcases hc' with rfl|rfl|rfl|rfl|rfl
   ·exact Heap.lt_size hz
   ·exact Heap.lt_size hTI
   ·exact Heap.lt_size hTO
   ·obtain⟨o,vs,e,d⟩:=(nxB b X.prog X.w c a1).obj i _ p1;exact Heap.lt_size e
   ·obtain⟨o,vs,e,d⟩:=(nxB b' X.prog X.w c a2).obj i _ p2;exact Heap.lt_size e
  refine Yd (nxB b X.prog X.w i1 a1) (nxB b' X.prog X.w i2 a2) D hz hTI hTO p1 p2 l1 l2 (x:=u) (y:=v) (by simpa using hu) (by simpa using hv) fun h' b1 b2 b3 b4 b5 b6 b7=>?_
  refine⟨_,rfl,?_⟩;refine wpAny_letOwnedTupleGo_zip (s:={ s with heap:=h' }) b1 fun h2 c1 c2=>?_;have nep:∀c,c∈[z,TI,TO,i1,i2]->c≠s.heap.objs.size:=fun c hc=>Nat.ne_of_lt (ltz c hc);have up:∀c o,c≠z->h'.get? c=some o->h2.get? c=some o:=fun c o hc e=>c2.extBut _ _ hc e
  have kp:∀c o,c∉[z,TO,i1,i2]->s.heap.get? c=some o->h2.get? c=some o:=fun c o hc e=>by
   have hc':¬(c=z\/c=TO\/c=i1\/c=i2):=by simpa using hc
   exact up c o (fun q=>hc' (.inl q)) (b7 c o (fun q=>hc' (.inl q)) (fun q=>hc' (.inr (.inl q))) (fun q=>hc' (.inr (.inr (.inl q)))) (fun q=>hc' (.inr (.inr (.inr q)))) e)
  have hf':∀c∈[z,TO,i1,i2],QaH X pins H c:=fun c hc=>hf c (by
   have hc':c=z\/c=TO\/c=i1\/c=i2:=by simpa using hc
   rcases hc' with rfl|rfl|rfl|rfl<;>simp)
  have hT:IsPair h2 s.heap.objs.size u v:=up _ _ (Ne.symm (nep z (by simp))) b5
  have I2:Inv X pins σ (upd H s.heap.objs.size (.tup [x,y])) { s with heap:=h2 }:=I.turnedLay (t':=s.toks) (its:=[u,v]) hf' kp (fun c o _ e=>by
   by_cases hc:c∈[z,TO,i1,i2]
   ·have hc':c=z\/c=TO\/c=i1\/c=i2:=by simpa using hc
    rcases hc' with rfl|rfl|rfl|rfl
    ·exact⟨_,c1⟩
    ·exact⟨_,up _ _ D.TOz b2⟩
    ·obtain⟨o,vs,e,d⟩:=(nxB b X.prog X.w c a1).obj _ _ b3;exact⟨o,up _ _ D.i1z e⟩
    ·obtain⟨o,vs,e,d⟩:=(nxB b' X.prog X.w c a2).obj _ _ b4;exact⟨o,up _ _ D.i2z e⟩
   ·exact⟨o,kp c o hc e⟩) (Nat.le_refl _) (.cons ru (.cons rv .nil)) ⟨_,hT,rfl,_,rfl⟩ (by show 2<=sizeLine;decide)
  have hn:H s.heap.objs.size=none:=I.hok.fresh (Nat.le_refl _)
  refine⟨.ref s.heap.objs.size,_,I2,rfl,⟨_,x,y,hn,rfl,rfl,fun ws hw=>by rw [I.sqB_inj hw q1];exact ex,fun ws hw=>by rw [I.sqB_inj hw q2];exact ey⟩,⟨c1,?_,⟨_,_,up _ _ D.TOz b2⟩,?_,?_⟩,fun c hc=>?_⟩
  ·exact kp _ _ (by
    have d1:=D.TIz;have d2:=D.TITO;have d3:=D.TIi1;have d4:=D.TIi2
    simp [d1,d2,d3,d4]) hTI
  ·exact(nxB b X.prog X.w i1 a1).keepP _ _ _ b3 fun o e=>up _ _ D.i1z e
  ·exact(nxB b' X.prog X.w i2 a2).keepP _ _ _ b4 fun o e=>up _ _ D.i2z e
  ·rw [Qh (nep c hc)];exact(hf c hc).1
 done:=by
  intro X hP hw hK hc i pins s σ H E I hf st hg;subst hP hw hK;obtain⟨hz,hTI,⟨a,c',hTO⟩,p1,p2⟩:=st;obtain⟨xs,ys,q1,q2,hl⟩:=hg;obtain⟨it1,r1,l1,_⟩:=I.sqB q1;obtain⟨it2,r2,l2,_⟩:=I.sqB q2;have e1:=r1.length;have e2:=r2.length
  refine Yu (nxB b X.prog X.w i1 a1) (nxB b' X.prog X.w i2 a2) (I.ok.hd hc) D hz hTI hTO p1 p2 l1 l2 (by
   rcases hl with q|q
   ·exact .inl (by simp;omega)
   ·exact .inr (by simp;omega)) fun h' kp=>⟨rfl,I.turnedL (t':=s.toks) (ch:=[z,TO,i1,i2]) (fun c hc=>hf c (by
    have hc':c=z\/c=TO\/c=i1\/c=i2:=by simpa using hc
    rcases hc' with rfl|rfl|rfl|rfl<;>simp)) fun c o hc e=>?_⟩
  have hc':¬(c=z\/c=TO\/c=i1\/c=i2):=by simpa using hc
  exact kp c o (fun q=>hc' (.inl q)) (fun q=>hc' (.inr (.inl q))) (fun q=>hc' (.inr (.inr (.inl q)))) (fun q=>hc' (.inr (.inr (.inr q)))) e
 self:=fun A i s Q E st h=>wpAny_pyIter_zip st.1 h
noncomputable abbrev Qd6(b:Bool)(l:Addr):Obj:={ cls:=.type (if b then "list_iterator" else "tuple_iterator"),data:=.fields #[.ref l,.int 0 0] }
noncomputable abbrev zH1(b:Bool)(h:Heap)(l1:Addr):Heap:=h.push (Qd6 b l1)
noncomputable abbrev zH2(b b':Bool)(h:Heap)(l1 l2:Addr):Heap:=(zH1 b h l1).push (Qd6 b' l2)
noncomputable abbrev zH3(b b':Bool)(h:Heap)(l1 l2:Addr):Heap:=(zH2 b b' h l1 l2).push { cls:=.type "tuple",data:=.seq #[.ref h.objs.size,.ref (zH1 b h l1).objs.size] }
noncomputable abbrev zH4(b b':Bool)(h:Heap)(l1 l2:Addr):Heap:=(zH3 b b' h l1 l2).push { cls:=.type "tuple",data:=.seq #[.none,.none] }
noncomputable abbrev zH5(b b':Bool)(h:Heap)(l1 l2:Addr):Heap:=(zH4 b b' h l1 l2).push { cls:=.type "zip",data:=.fields #[.none,.bool false,.bool false,.ref (zH2 b b' h l1 l2).objs.size,.ref (zH3 b b' h l1 l2).objs.size] }
theorem Qbu(b b':Bool)(l1 l2:Addr)(xs ys:Array Value):
  Meets (Builtin.«zip.__new__» ⟨[.type "zip", .ref l1, .ref l2], []⟩) (fun _ R s => LB b l1 xs s.heap /\ LB b' l2 ys s.heap /\
   R (.ok (.ret (.ref (zH4 b b' s.heap l1 l2).objs.size))) { s with heap:=zH5 b b' s.heap l1 l2 }):=by
 refine .of_wp fun prog w A R s h=>?_;obtain⟨hp,g,d,tk,os⟩:=s;obtain⟨hl1,hl2,h⟩:=h;have hsub:=sub_zip
 cases b with
 | true =>
  have hL1:Heap.IsList (Shared.heap ⟨hp,g,d,tk,os⟩) l1 xs:=hl1
  cases b' with
  | true =>
   have hL2:Heap.IsList (Shared.heap ⟨hp.push { cls:=.type "list_iterator",data:=.fields #[.ref l1,.int 0 0] },g,d,tk,os⟩) l2 ys:=Heap.IsList.push hl2 _
   wp_walk using wpAny_pyIter_list hL1,wpAny_pyIter_list hL2
   exact⟨_,rfl,h⟩
  | false =>
   have hL2:Heap.IsTuple (Shared.heap ⟨hp.push { cls:=.type "list_iterator",data:=.fields #[.ref l1,.int 0 0] },g,d,tk,os⟩) l2 ys:=Heap.IsTuple.at hl2 fun o e=>Heap.get?_push_of_some _ e
   wp_walk using wpAny_pyIter_list hL1,wpAny_pyIter_tuple hL2
   exact⟨_,rfl,h⟩
 | false =>
  have hL1:Heap.IsTuple (Shared.heap ⟨hp,g,d,tk,os⟩) l1 xs:=hl1
  cases b' with
  | true =>
   have hL2:Heap.IsList (Shared.heap ⟨hp.push { cls:=.type "tuple_iterator",data:=.fields #[.ref l1,.int 0 0] },g,d,tk,os⟩) l2 ys:=Heap.IsList.push hl2 _
   wp_walk using wpAny_pyIter_tuple hL1,wpAny_pyIter_list hL2
   exact⟨_,rfl,h⟩
  | false =>
   have hL2:Heap.IsTuple (Shared.heap ⟨hp.push { cls:=.type "tuple_iterator",data:=.fields #[.ref l1,.int 0 0] },g,d,tk,os⟩) l2 ys:=Heap.IsTuple.at hl2 fun o e=>Heap.get?_push_of_some _ e
   wp_walk using wpAny_pyIter_tuple hL1,wpAny_pyIter_tuple hL2
   exact⟨_,rfl,h⟩
section
variable {prog:Program}{w:World}{A:Around}{E:Value->Shared->Prop}
theorem QcZ{b':Bool}{l1 l2:Addr}{xs ys:Array Value}{Q:Value->Shared->Prop}(hl1:LB b l1 xs s.heap)(hl2:LB b' l2 ys s.heap)
  (h:∀h',IsZip h' (s.heap.objs.size+4) (s.heap.objs.size+2) (s.heap.objs.size+3) .none->IsPair h' (s.heap.objs.size+2) (.ref s.heap.objs.size) (.ref (s.heap.objs.size+1)) ->
   IsPair h' (s.heap.objs.size+3) .none .none->PB b s.heap.objs.size l1 0 h'->PB b' (s.heap.objs.size+1) l2 0 h'->h'.objs.size=s.heap.objs.size+5 ->
   (∀c o,s.heap.get? c=some o->h'.get? c=some o)->Q (.ref (s.heap.objs.size+4)) { s with heap:=h' }):
  wpAny (model prog w) A (call (.type "zip") [.ref l1,.ref l2]) Q E s:=by
 refine callType_new F.called_zip (by decide) (F.typeCall_zip_2 _ _) (F.newCall_zip_2 _ _) (fun obj=>F.args_object_init_3 obj _ _) F.entry_zip_new
  (Qbu b b' l1 l2 xs ys) ⟨hl1,hl2,?_⟩
 have z1:(zH1 b s.heap l1).objs.size=s.heap.objs.size+1:=Heap.size_push ..
 have z2:(zH2 b b' s.heap l1 l2).objs.size=s.heap.objs.size+2:=by rw [Heap.size_push,z1]
 have z3:(zH3 b b' s.heap l1 l2).objs.size=s.heap.objs.size+3:=by rw [Heap.size_push,z2]
 have z4:(zH4 b b' s.heap l1 l2).objs.size=s.heap.objs.size+4:=by rw [Heap.size_push,z3]
 have z5:(zH5 b b' s.heap l1 l2).objs.size=s.heap.objs.size+5:=by rw [Heap.size_push,z4]
 have g5:(zH5 b b' s.heap l1 l2).get? (zH4 b b' s.heap l1 l2).objs.size=some _:=Heap.get?_push_size _ rfl;have g4:(zH5 b b' s.heap l1 l2).get? (zH3 b b' s.heap l1 l2).objs.size=some _:=Heap.get?_push_of_some _ (Heap.get?_push_size _ rfl);have g3:(zH5 b b' s.heap l1 l2).get? (zH2 b b' s.heap l1 l2).objs.size=some _:=Heap.get?_push_of_some _ (Heap.get?_push_of_some _ (Heap.get?_push_size _ rfl));have g2:(zH5 b b' s.heap l1 l2).get? (zH1 b s.heap l1).objs.size=some (Qd6 b' l2):=Heap.get?_push_of_some _ (Heap.get?_push_of_some _ (Heap.get?_push_of_some _ (Heap.get?_push_size _ rfl)));have g1:(zH5 b b' s.heap l1 l2).get? s.heap.objs.size=some (Qd6 b l1):=Heap.get?_push_of_some _ (Heap.get?_push_of_some _ (Heap.get?_push_of_some _ (Heap.get?_push_of_some _ (Heap.get?_push_size _ rfl))));show _/\_;rw [z2,z3,z4]at g5;rw [z1,z2]at g3;rw [z3]at g4;rw [z1]at g2;rw [z4];refine⟨⟨_,g5,rfl⟩,h _ g5 g3 g4 ?_ ?_ z5 fun c o x=>Heap.get?_push_of_some _ (Heap.get?_push_of_some _ (Heap.get?_push_of_some _ (Heap.get?_push_of_some _ (Heap.get?_push_of_some _ x))))⟩
 ·cases b<;>exact⟨_,g1,rfl,rfl⟩
 ·cases b'<;>exact⟨_,g2,rfl,rfl⟩
end
section

noncomputable def Qmy(b b':Bool)(K:PySem.W.Frag)(ta:TA):TI:=fun σ H R=>ta σ H fun vs H1=>∃a1 a2,vs=[.ref a1,.ref a2]/\(∃xs,SqB b K H1 a1 xs)/\(∃ys,SqB b' K H1 a2 ys)/\R (Itz b b' K a1 a2) H1
theorem QaV{b':Bool}{e1 e2:Expr}{ta:TA}{elts:List Expr}{kt:Nat}{pt p pos:Pos}(hg:Gl X "zip") (hm:X.mg "zip"=none) (ha:PA X [e1,e2] ta) (hs:starEach [e1,e2] X.env=[(false,eval e1 X.env),(false,eval e2 X.env)]) (hs2:starEach [e2] X.env=[(false,eval e2 X.env)]):
  PI X (.Tuple elts kt pt) (.Call (.Name "zip" p) [e1,e2] [] pos) (Qmy b b' X.K ta):=by
 intro pins s σ H R I h
 refine Call_ (YV I hg hm PyProof.Rows.boot_zip (PyProof.Rows.callWith_type1 (thn (ha pos pins s σ H _ I h) fun us s1 ⟨vs,H1,I1,r1,q1⟩=>?_) (by rw [hs,hs2]) (by rw [hs2];rfl)))
 obtain⟨a1,a2,e,⟨xs,q1⟩,⟨ys,q2⟩,q⟩:=q1;subst e;obtain⟨u,w',rfl,ru,rw'⟩:=Qfe r1;cases(show u=_ from ru);cases(show w'=_ from rw');obtain⟨it1,v1,l1,_⟩:=I1.sqB q1;obtain⟨it2,v2,l2,_⟩:=I1.sqB q2
 have hlt1:a1<s1.heap.objs.size:=by
  cases b with
  | true=>obtain⟨o,e,_⟩:=l1;exact Heap.lt_size e
  | false=>obtain⟨o,e,_⟩:=l1;exact Heap.lt_size e
 have hlt2:a2<s1.heap.objs.size:=by
  cases b' with
  | true=>obtain⟨o,e,_⟩:=l2;exact Heap.lt_size e
  | false=>obtain⟨o,e,_⟩:=l2;exact Heap.lt_size e
 refine QcZ l1 l2 fun h' b1 b2 b3 b4 b5 b6 b7=>?_;refine wpAny_pyIter_zip b1 ?_;have I2:Inv X pins σ H1 { s1 with heap:=h' }:=I1.kept (t':=s1.toks) b7;refine⟨_,[s1.heap.objs.size+4,s1.heap.objs.size+2,s1.heap.objs.size+3,s1.heap.objs.size,s1.heap.objs.size+1],_,_,H1,rfl,I2,Qdp b b' a1 a2 _ _ _ _ _ (PySem.W.ktu_apart _ _ _ hlt1 hlt2),⟨b1,b2,⟨_,_,b3⟩,b4,b5⟩,fun c hc=>?_,q⟩
 have hc':c=s1.heap.objs.size+4\/c=s1.heap.objs.size+2\/c=s1.heap.objs.size+3\/c=s1.heap.objs.size\/c=s1.heap.objs.size+1:=by simpa using hc
 have le:s1.heap.objs.size<=c:=by rcases hc' with rfl|rfl|rfl|rfl|rfl<;>omega
 exact I1.fpOk le (I1.hok.fresh le)
end
end L2
namespace L2
open PySem PySem.Spec PyProof.Rows
section
variable {X:Cx}
end
end L2
namespace L2
open PySem PySem.Spec PyProof.Rows
variable {elt iter tg:Expr}{n:Nat}{tl:Option Expr}{pos:Pos}{y:Str}{te:TE}{g:TG}{tt:TT}
noncomputable def Cx.block(X:Cx)(xs:List Str)(scope:Scope)(C:Addr)(s:Shared)(H:Hp)(fp:List Addr):Cx :=
 { X with N:=hideN xs X.N++xs,s₀:=s,H₀:=H,env:=compEnvC scope (QbG X.env.cells scope.names []) C X.env,outer:=X.stack,ex:=fp,fn:=fun _=>false,pn:=[],xe:=fun _ _=>False }
structure CompOk(X:Cx)(xs:List Str)(scope:Scope):Prop where
 kind:scope.kind=.function
 loc:∀x∈xs,scope.names.lookup x=some .local
 all : ∀ y ∈ scope.names, (y.2 = .local -> (y.1 ∈ xs \/ y.1 = ".0") /\ scope.names.lookup y.1 = some .local) /\ y.2 ≠ .cell /\ (y.2 = .free -> X.env.scope.names.lookup y.1 = some .cell \/ X.env.scope.names.lookup y.1 = some .free)
 hid:∀x∈xs,scope.names.lookup (mang x)=none
 nd:xs.Nodup
 dot:(".0":Str)∉X.N
section
variable {X:Cx}{xs:List Str}{scope:Scope}{pins:List (Addr×Obj)}{σ:St}{H:Hp}{s:Shared}{fp:List Addr}
theorem CompOk.free_of(k:CompOk X xs scope)(hk:X.env.scope.kind=.function)(h:(relabel scope X.env).names.lookup y=some .cell\/(relabel scope X.env).names.lookup y=some .free):(y,NameKind.free)∈scope.names:=by
 rw [QS hk,Zy]at h
 cases q:scope.names.lookup y with
 | none=>rw [q]at h;simp at h
 | some kd =>
  rw [q]at h;have m:=ZF q
  cases kd with
  | free=>exact m
  | cell=>exact absurd rfl (k.all _ m).2.1
  | _=>simp at h
theorem CompOk.local_of (k : CompOk X xs scope) (hk : X.env.scope.kind = .function) (h : (relabel scope X.env).names.lookup y = some .local) : y ∈ xs \/ y = ".0" := by
 rw [QS hk,Zy]at h
 cases q:scope.names.lookup y with
 | none=>rw [q]at h;simp at h
 | some kd =>
  rw [q]at h;have m:=ZF q
  cases kd with
  | «local»=>exact((k.all _ m).1 rfl).1
  | free =>
   simp only [Option.map_some]at h;split at h<;>cases h
  | _=>simp at h
theorem Q4{cells:List (Str×Addr)}{l:List (Str×NameKind)}{c:Addr}(e:(QbG cells l []).lookup y=some c):cells.lookup y=some c:=by
 rcases JP e with z|z
 ·simp at z
 ·exact z
theorem QfU{σ:St}{i:Nat}{v:V}(e:(σ++List.replicate n none)[i]?=some (some v)):σ[i]?=some (some v):=by
 by_cases h:i < σ.length
 ·rw [List.getElem?_append_left h]at e;exact e
 ·rw [List.getElem?_append_right (by omega),List.getElem?_replicate]at e
  split at e<;>cases e
theorem Inv.block{h₁:Heap}{m:Str->Option Value}{tk:Nat}(I:Inv X pins σ H s)(k:CompOk X xs scope)(hf:∀b∈fp,QaH X pins H b)(hfs:∀b∈fp,b<s.heap.objs.size)
  (hn:h₁.Ns s.heap.objs.size m) (kp:∀b o,s.heap.get? b=some o->h₁.get? b=some o):Inv (X.block xs scope s.heap.objs.size s H fp) [] (σ++List.replicate xs.length none) H { s with heap:=h₁,toks:=tk }:=by
 have hk:X.env.scope.kind=.function:=I.ok.kind
 have fsub:∀b∈fp,b∉frs X.stack:=fun b hb z=>by
  rcases List.mem_cons.mp (I.stkSub b z)with e|e
  ·exact(hf b hb).2.1 e
  ·exact(hf b hb).2.2.1 e
 have okB:(X.block xs scope s.heap.objs.size s H fp).Ok:={
  mod:=I.ok.mod
  kind:=k.kind
  glob:=I.ok.glob
  blt:=I.ok.blt
  above:=Nat.le_refl _
  inj:=fun y z c e1 e2=>I.ok.inj y z c (Q4 e1) (Q4 e2)
  has:=fun y h=>by
   have m:=k.free_of hk h;obtain⟨c,hc⟩:=I.ok.has y ((k.all _ m).2.2 rfl);exact⟨c,Jl hc (.inl m)⟩
  cab:=fun y c h=>nomatch h
  hd:=I.ok.hd
  frames:=I.ok.frames
  stk:=.inl rfl
  exf:=fun b hb=>⟨Nat.ne_of_lt (hfs b hb),fun y c e=>(hf b hb).2.2.2.2.1 y c (Q4 e)⟩
  bs:=I.bs
  bsz:=Nat.le_trans I.ok.bsz I.sz
  noex:=fun b o e hb=>by
   rcases (hf b hb).2.2.2.1 with z|z
   ·exact I.ok.noex b o e z
   ·exact absurd (Nat.lt_of_lt_of_le (Heap.lt_size e) (Nat.le_trans I.ok.bsz z)) (Nat.lt_irrefl _)
  exfs:=fun b hb z=>fsub b hb z
  funs:=I.stack
  frf:=fun b hb=>I.stkFree b hb }
 refine⟨okB,rfl,I.bare,Un.kept kp,⟨m,hn,fun i y v e1 e2 e3=>?_⟩,fun y c e=>?_,I.hok.fresh (Nat.le_refl _),fun y c e=>I.freeC y c (Q4 e),(fun p hp=>by cases hp),I.hok.kept kp,?_⟩
 ·have e1:(hideN xs X.N++xs)[i]?=some y:=e1;have e3:Vis (relabel scope X.env) y:=e3;have q2:σ[i]?=some (some v):=QfU e2
  have q0:(hideN xs X.N)[i]?=some y:=by
   have:=(List.getElem?_eq_some_iff.mp q2).1;rw [I.len,<-ZU (xs:=xs)]at this;rw [List.getElem?_append_left this]at e1;exact e1
  obtain⟨z,q1,⟨zm,rfl⟩|⟨zn,rfl⟩⟩:=Qea q0
  ·have no:=k.hid z zm
   have no':(relabel scope X.env).names.lookup (mang z)=none:=by rw [QS hk,Zy,no];rfl
   rcases e3 with w|w|w<;>(rw [no']at w;cases w)
  have ym:y∈X.N:=List.mem_of_getElem? q1
  have hcf:(relabel scope X.env).names.lookup y=some .cell\/(relabel scope X.env).names.lookup y=some .free:=by
   rcases e3 with z|z
   ·rcases k.local_of hk z with q|q
    ·exact absurd q zn
    ·exact absurd (q▸ym) k.dot
   ·exact z
  have m':=k.free_of hk hcf;have xk:=(k.all _ m').2.2 rfl;obtain⟨mm,hnn,hl⟩:=I.loc;obtain⟨u,r,l⟩:=hl i y v q1 q2 (.inr xk);refine⟨u,r,.inr ⟨hcf,?_⟩⟩
  rcases l with⟨l,_⟩|⟨_,c,e,o,ho,hd⟩
  ·have l:X.env.scope.names.lookup y=some .local:=l
   rcases xk with z|z<;>(rw [l]at z;cases z)
  ·exact⟨c,Jl e (.inl m'),o,kp c o ho,hd⟩
 ·obtain⟨v,o,ho,hd⟩:=I.cell y c (Q4 e);exact⟨v,o,kp c o ho,hd⟩
 ·show(σ++List.replicate xs.length none).length=(hideN xs X.N++xs).length;simp [I.len,ZU]
noncomputable def PTO(X:Cx)(tl:Option Expr)(tt:TT):Prop:=match tl with
 | none=>∀σ H Q,tt σ H Q->Q true H
 | some c=>PT X c tt
noncomputable def Qds(wi:TI)(n:Nat)(g:TG)(tt:TT)(te:TE):TE:=fun σ H Q=>wi σ H fun J H1=>∀D,H1 D=none->∃W:Nat->Nat->List V->Hp->Prop,(∃m,W 0 m [] (upd H1 D (.lst [])))/\∀i m ys H2,W i m ys H2->H2 D=some (.lst ys) /\
 ((J.stop i H2/\Q (.ref D) H2)\/(J.go i H2/\ys.length<sizeLine/\∀x H3 os,os.length=n->J.yld i H2 x H3->g x (σ++os) H3 fun σ' H4=>(∃os',os'.length=n/\σ'=σ++os')/\tt σ' H4 fun b H5=>if b=true then te σ' H5 fun y H6=>H6 D=some (.lst ys)/\∃m',m'<m/\W (i+1) m' (ys++[y]) (upd H6 D (.lst (ys++[y])))else ∃m',m'<m/\W (i+1) m' ys H5))
theorem YZ{Q:VK}{it:Addr}{tn:Nat->Heap->Prop}{J:It}{E:Value->Shared->Prop}{RR:Value->Addr->Result->Shared->Prop}(hc:X.calm=true)(k:CompOk X xs scope)
  (hn:xs.length=n) (hg:∀C s H fp,PG (X.block xs scope C s H fp) tg g) (ht:∀C s H fp,PTO (X.block xs scope C s H fp) tl tt) (he:∀C s H fp,PE (X.block xs scope C s H fp) elt te)
  (I2:Inv X pins σ H s) (T:Turn X.prog X.w X.K tg J fp it tn) (st2:tn 0 s.heap) (f2:∀b∈fp,QaH X pins H b)
  (q:∀D,H D=none->∃W:Nat->Nat->List V->Hp->Prop,(∃m,W 0 m [] (upd H D (.lst [])))/\∀i m ys H2,W i m ys H2->H2 D=some (.lst ys) /\
   ((J.stop i H2/\Q (.ref D) H2)\/(J.go i H2/\ys.length<sizeLine/\∀x H3 os,os.length=n->J.yld i H2 x H3->g x (σ++os) H3 fun σ' H4=>(∃os',os'.length=n/\σ'=σ++os')/\tt σ' H4 fun b H5=>if b=true then te σ' H5 fun y H6=>H6 D=some (.lst ys)/\∃m',m'<m/\W (i+1) m' (ys++[y]) (upd H6 D (.lst (ys++[y])))else ∃m',m'<m/\W (i+1) m' ys H5)))
  (hRR:∀D C s' H' m,Inv X pins σ H' s'->s'.heap.Ns C m->QaH X pins H' C->Q (.ref D) H'->RR (.ref D) C (.ok .next) s'):
  wpAny (model X.prog X.w) X.A (newList []) (fun acc s₃=>wpAny (model X.prog X.w) X.A (newFunctionEnv scope X.env.globals (QbG X.env.cells scope.names []) [] X.env.qual none .none (some X.env)) (fun cenv s₄ =>
   codeAny (model X.prog X.w) X.A (.compStart (.ListComp elt [⟨tg,iter,tl.toList,0⟩] scope pos) 0 (.ref it) acc { cenv with scope:=relabel scope X.env }) (RR acc cenv.locals) s₄) E s₃) E s:=by
 have hk:X.env.scope.kind=.function:=I2.ok.kind
 refine wpAny_newObj_type (wpAny_newFunctionEnv (fun y hy=>(k.all y hy).2.1) (by intro y hy;simp at hy) (fun h₁ hns₁ hsb₁=>?_) k.kind)
 dsimp only at hns₁ hsb₁ ⊢;have hD:H s.heap.objs.size=none:=I2.hok.fresh (Nat.le_refl _);obtain⟨W,⟨m0,w0⟩,turn⟩:=q s.heap.objs.size hD
 have I3:Inv X pins σ (upd H s.heap.objs.size (.lst [])) { s with heap:=s.heap.push { cls:=.type "list",dict:=none,data:=.seq ([]:List Value).toArray } }:=
  I2.laid (t':=s.toks) (fun b o e=>Heap.get?_push_of_some _ e) (Nat.le_refl _) (show ObjOk X.prog X.w _ _ _ (.lst [])from⟨Nat.zero_le _,[],_,.nil,Heap.get?_push_size _ rfl⟩)
 have lt2:∀b∈fp,b<s.heap.objs.size:=fun b hb=>by
  obtain⟨o,e,_⟩:=T.obj 0 _ st2 b hb;exact Heap.lt_size e
 have f3:∀b∈fp,QaH X pins (upd H s.heap.objs.size (.lst [])) b:=fun b hb=>⟨by rw [Qh (Nat.ne_of_lt (lt2 b hb))];exact(f2 b hb).1,(f2 b hb).2⟩
 have lt3:∀b∈fp,b<(s.heap.push { cls:=.type "list",dict:=none,data:=.seq ([]:List Value).toArray }).objs.size:=fun b hb=>by
  rw [Heap.size_push];exact Nat.lt_succ_of_lt (lt2 b hb)
 generalize hs3:({ s with heap:=s.heap.push { cls:=.type "list",dict:=none,data:=.seq ([]:List Value).toArray } }:Shared)=s3 at I3
 have e3:s3.heap=s.heap.push { cls:=.type "list",dict:=none,data:=.seq ([]:List Value).toArray }:=by rw [<-hs3]
 rw [<-e3]at hns₁ hsb₁ lt3 ⊢;have kp:∀b o,s3.heap.get? b=some o->h₁.get? b=some o:=fun b o e=>hsb₁.extBut b o (Nat.ne_of_lt (Heap.lt_size e)) (Heap.get?_push_of_some _ e);have IB:=I3.block (tk:=s.toks+([]:List (Str×Value)).length) k f3 lt3 hns₁ kp
 have es:({ s3 with heap:=h₁,toks:=s.toks+([]:List (Str×Value)).length }:Shared)={ s with heap:=h₁,toks:=s.toks+([]:List (Str×Value)).length }:=by rw [<-hs3]
 rw [es]at IB;generalize hX:X.block xs scope s3.heap.objs.size s3 (upd H s.heap.objs.size (.lst [])) fp=Y at IB;have HE:PE Y elt te:=hX▸he _ _ _ _;have HT:PTO Y tl tt:=hX▸ht _ _ _ _;have HG:PG Y tg g:=hX▸hg _ _ _ _
 have hP:Y.prog=X.prog:=by rw [<-hX];rfl
 have hw:Y.w=X.w:=by rw [<-hX];rfl
 have hK:Y.K=X.K:=by rw [<-hX];rfl
 have hA:Y.A=X.A:=by rw [<-hX];rfl
 have hcY:Y.calm=true:=by rw [<-hX];exact hc
 have hxe:Y.xe=fun _ _=>False:=by rw [<-hX];rfl
 have henv:Y.env=compEnvC scope (QbG X.env.cells scope.names []) s3.heap.objs.size X.env:=by rw [<-hX];rfl
 have fpY:∀{H':Hp},(∀b∈fp,H' b=none)->∀b∈fp,QaH Y [] H' b:=fun hn b hb=>by
  have hb1:=(f2 b hb).2;rw [<-hX]
  refine⟨hn b hb,?_,fun z=>?_,.inl hb,fun y c e=>hb1.2.2.2.1 y c (Q4 e),(fun p hp=>by cases hp)⟩
  ·exact Nat.ne_of_lt (lt3 b hb)
  ·rcases List.mem_cons.mp (I3.stkSub b z)with e|e
   ·exact hb1.1 e
   ·exact hb1.2.1 e
 -- behind the block
 have back:∀{σ':St} {H':Hp} {s':Shared},Inv Y [] σ' H' s'->Inv X pins σ H' s'/\(∃m,s'.heap.Ns s3.heap.objs.size m)/\QaH X pins H' s3.heap.objs.size:=fun {σ' H' s'} J'=>by
  have u:=J'.base;have os:=J'.os;have hok:=J'.hok;have bare:=J'.bare;obtain⟨mm,hnn,_⟩:=J'.loc;have fr:=J'.free;rw [henv]at hnn fr;rw [<-hX]at u os hok;refine⟨I3.call' os u hok bare fun b hb=>?_,⟨mm,hnn⟩,I3.fpOk (Nat.le_refl _) fr⟩;exact⟨(f2 b hb).2.2.2.1,(f2 b hb).2.1,(f2 b hb).2.2.2.2.1,(f2 b hb).2.2.2.2.2⟩
 have loop:∀s₃:Shared,Inv Y [] (σ++List.replicate xs.length none) (upd H s.heap.objs.size (.lst [])) s₃->tn 0 s₃.heap ->
   codeAny (model X.prog X.w) X.A (.compLoop (.ListComp elt [⟨tg,iter,tl.toList,0⟩] scope pos) 0 (.ref it) (.ref s.heap.objs.size) Y.env) (RR (.ref s.heap.objs.size) s3.heap.objs.size) s₃:=by
  intro s₃ J3 t3
  refine QaA (fun m s'=>∃i os H' ys,os.length=n/\Inv Y [] (σ++os) H' s'/\tn i s'.heap/\(∀b∈fp,H' b=none)/\W i m ys H') ?_ m0 ⟨0,_,_,[],by rw [List.length_replicate];exact hn,J3,t3,fun b hb=>(f3 b hb).1,w0⟩
  rintro m s4 ⟨i,os,H4,ys,lo,J4,st4,fr4,w4⟩;obtain⟨hDl,tr⟩:=turn i m ys H4 w4
  rcases tr with⟨stop,qn⟩|⟨go,hz,step⟩
  ·have dn:=T.done Y hP hw hK hcY i [] s4 (σ++os) H4 (notedBy (model X.prog X.w) X.A Y.env fun e s'=>RR (.ref s.heap.objs.size) s3.heap.objs.size (.error e) s') J4 (fpY fr4) st4 stop;rw [hA]at dn;refine thn dn fun r s5 ⟨hr,J5⟩=>?_;subst hr;obtain⟨I5,⟨m5,n5⟩,f5⟩:=back J5;exact hRR _ _ _ _ _ I5 n5 f5 qn
  ·have im:=T.item Y hP hw hK hcY i [] s4 (σ++os) H4 (notedBy (model X.prog X.w) X.A Y.env fun e s'=>RR (.ref s.heap.objs.size) s3.heap.objs.size (.error e) s') J4 (fpY fr4) st4 go;rw [hA]at im;refine thn im fun r s5 ⟨u,hr,h5⟩=>?_;subst hr;refine thn h5 fun _ s6 ⟨v,H6,J6,rv,y6,st6,fr6⟩=>?_;have J6':=J6.pinned (fpY fr6) (T.obj _ _ st6)
   have noE:∀{EE:Value->Shared->Prop},∀e s',Y.xe e s'->EE e s':=fun {EE} e s' z=>by rw [hxe]at z;exact z.elim
   have asg:=HG _ s6 (σ++os) H6 v u _ J6' rv (step v H6 os lo y6);rw [hP,hw,hA]at asg;refine wpAny_mono asg (fun _ s7 ⟨σ7,H7,J7,⟨os',lo',e7⟩,q7⟩=>?_) noE;subst e7
   have fin:∀{s9:Shared} {H9:Hp} {m':Nat} {zs:List V},Inv Y ([]++Yv fp s6.heap) (σ++os') H9 s9->m'<m->W (i+1) m' zs H9->∃m',m'<m/\∃i os H' ys,os.length=n/\Inv Y [] (σ++os) H' s9/\tn i s9.heap/\(∀b∈fp,H' b=none)/\W i m' ys H':=fun {s9 H9 m' zs} J9 hm' w9=>by
    refine⟨m',hm',i+1,os',H9,zs,lo',J9.unpinned,T.keep _ _ _ st6 fun b hb ob e=>(J9.pin (b,ob) (List.mem_append_right _ (List.mem_append_right _ (Zi hb e)))).1,fun b hb=>?_,w9⟩;obtain⟨ob,e,d⟩:=T.obj _ _ st6 b hb;exact(J9.pin (b,ob) (List.mem_append_right _ (List.mem_append_right _ (Zi hb e)))).2.1
   have tst:wpAny (model X.prog X.w) X.A (forIn tl.toList true fun c r=>if r=true then do let ok <-isTrue c Y.env (eval c Y.env);pure (ForInStep.yield ok)else pure (ForInStep.yield r)) (TP Y ([]++Yv fp s6.heap) (σ++os') fun b H5=>if b=true then te (σ++os') H5 fun y H6=>H6 s.heap.objs.size=some (.lst ys)/\∃m',m'<m/\W (i+1) m' (ys++[y]) (upd H6 s.heap.objs.size (.lst (ys++[y])))else ∃m',m'<m/\W (i+1) m' ys H5) (notedBy (model X.prog X.w) X.A Y.env fun e s'=>RR (.ref s.heap.objs.size) s3.heap.objs.size (.error e) s') s7:=by
    refine Qdm ?_
    cases tl with
    | none=>exact⟨H7,J7,HT _ _ _ q7⟩
    | some c =>
     have z:=(show PT Y c tt from HT) _ s7 _ _ _ J7 q7;rw [hP,hw,hA]at z;exact wpAny_mono z (fun _ _ h=>h) noE
   refine wpAny_mono tst (fun b s8 ⟨H8,J8,q8⟩=>?_) fun _ _ e=>e
   cases b with
   | false =>
    rw [if_neg Bool.false_ne_true]at q8 ⊢;obtain⟨m',hm',w8⟩:=q8;exact fin J8 hm' w8
   | true =>
    rw [if_pos rfl]at q8 ⊢;have ev:=HE _ s8 _ _ _ J8 q8;rw [hP,hw,hA]at ev;refine wpAny_mono ev (fun y s8 ⟨yv,H8,J8,ry,hD8,m',hm',w8⟩=>?_) noE;have ap:=JF (X:=Y) _ s8 _ H8 (.ref s.heap.objs.size) [yv] (.ref s.heap.objs.size) [y] (fun _ H'=>H'=upd H8 s.heap.objs.size (.lst (ys++[yv]))) J8 rfl (.cons ry .nil) ⟨_,ys,yv,rfl,rfl,hD8,hz,rfl⟩;rw [hP,hw,hA]at ap;refine wpAny_mono ap (fun _ s9 ⟨_,H9,J9,_,e9⟩=>?_) noE;subst e9;exact fin J9 hm' w8
 have t1:tn 0 h₁:=T.keep 0 _ _ st2 fun b hb o e=>kp b o (by rw [e3];exact Heap.get?_push_of_some _ e)
 have go:=loop _ IB t1;rw [henv]at go;refine codeAny_compStart_list ?_ ?_
 ·exact go
 ·exact T.self X.A 0 _ _ _ t1 go
theorem Qcl{wi:TI}(hc:X.calm=true)(k:CompOk X xs scope)(hi:PI X tg iter wi)(hn:xs.length=n)(hg:∀C s H fp,PG (X.block xs scope C s H fp) tg g)(ht:∀C s H fp,PTO (X.block xs scope C s H fp) tl tt)(he:∀C s H fp,PE (X.block xs scope C s H fp) elt te)
  (hs:∀v,foldedSetIterable iter X.env v=pure v):PE X (.ListComp elt [⟨tg,iter,tl.toList,0⟩] scope pos) (Qds wi n g tt te):=by
 intro pins s σ H Q I h;rw [eval_ListComp];refine wpAny_comprehension_free (use:=none) rfl hs (Y2 fun y hy hf=>I.ok.has y.1 ((k.all y hy).2.2 hf)) k.kind (fun y hy hl=>((k.all y hy).1 hl).2) ?_;refine thn (hi pins s σ H _ I h) fun v s1 h1=>thn h1 fun itv s2 h2=>?_;obtain⟨it,fp,tn,J,H2,e,I2,T,st2,f2,q⟩:=h2;subst e;refine YZ (RR:=fun acc C=>compPost (model X.prog X.w) X.A X.xe none (EP X pins σ Q) acc C) hc k hn hg ht he I2 T st2 f2 q ?_;intro D C s' H' m I' n' f' q';refine⟨m,n',fun h' sb=>?_⟩;exact⟨.ref D,H',I'.turned (t':=s'.toks) (fun b o hb e=>sb.extBut b o hb e) f'.1 f'.2.1 f'.2.2.2.1 f'.2.2.2.2.1 f'.2.2.2.2.2,rfl,q'⟩
theorem QfL{py spos:Pos}{wi:TI}{j:Nat}(hc:X.calm=true)(hN:X.N.Nodup)(k:CompOk X xs scope)(hi:PI X tg iter wi)(hn:xs.length=n)(hg:∀C s H fp,PG (X.block xs scope C s H fp) tg g)(ht:∀C s H fp,PTO (X.block xs scope C s H fp) tl tt)(he:∀C s H fp,PE (X.block xs scope C s H fp) elt te)
  (hs:∀v,foldedSetIterable iter X.env v=pure v) (hj:X.N[j]?=some y) (hy:Loc X.env.scope y) (hfn:X.fn y=true\/X.env.scope.names.lookup y=some .local):
  PS X (.Assign [.Name y py] (.ListComp elt [⟨tg,iter,tl.toList,0⟩] scope pos) spos) (fun D σ H=>Qds wi n g tt te σ H fun v H1=>D.nx (σ.set j (some v)) H1):=by
 have hsw:∃b,swapsWith (.ListComp elt [⟨tg,iter,tl.toList,0⟩] scope pos) (some (.Name y py)) spos.line X.env=pure b:=⟨_,rfl⟩;obtain⟨b,hsw⟩:=hsw
 cases b with
 | false=>exact QeD hN hj hy (Qcl hc k hi hn hg ht he hs) hsw hfn
 | true =>
  intro pins s σ H D I h;rw [exec_Assign_Name_used _ _ _ _ hsw];refine wpAny_bind (wpAny_standAt (wpAny_bind ?_))
  show wpAny _ _ (do let _ <-comprehension (.ListComp elt [⟨tg,iter,tl.toList,0⟩] scope pos) scope X.env _ (newList []) false (eval iter X.env) (some (assign (.Name y py) X.env))) _ _ s
  refine wpAny_bind (wpAny_mono (wpAny_comprehension_free (use:=some (assign (.Name y py) X.env)) (Q:=fun _ s'=>SP X pins D .next s') rfl hs (Y2 fun y hy hf=>I.ok.has y.1 ((k.all y hy).2.2 hf)) k.kind (fun y hy hl=>((k.all y hy).1 hl).2) ?_)
   (fun _ s' hq=>wpAny_pure (wpAny_pure hq)) fun _ _ e=>e)
  refine thn (hi pins s σ H _ I h) fun v s1 h1=>thn h1 fun itv s2 h2=>?_;obtain⟨it,fp,tn,J,H2,e,I2,T,st2,f2,q⟩:=h2;subst e;refine YZ (Q:=fun v H1=>D.nx (σ.set j (some v)) H1) (RR:=fun acc C=>compPost (model X.prog X.w) X.A X.xe (some (assign (.Name y py) X.env)) (fun _ s'=>SP X pins D .next s') acc C) hc k hn hg ht he I2 T st2 f2 q ?_;intro Da C s' H' m I' n' f' q';obtain⟨o,es,ep,ho,hd,r⟩:=id n'
  have Ip:Inv X (pins++Yv [C] s'.heap) σ H' s':=I'.pinned (fun b hb=>by
   have e:b=C:=by simpa using hb
   subst e
   exact f') fun b hb=>by
    have e:b=C:=by simpa using hb
    subst e
    exact⟨o,ho,fun v z=>by rw [hd]at z;cases z⟩
  refine thn (Qah (i:=j) hN hj hy hfn _ s' σ H' (.ref Da) (.ref Da) _ Ip rfl q') fun _ s'' ⟨σ2,H2',J2,q2⟩=>?_
  have pc:=J2.pin (C,o) (List.mem_append_right _ (List.mem_append_right _ (Zi (by simp) ho)))
  refine⟨m,⟨o,es,ep,pc.1,hd,r⟩,fun h' sb=>?_⟩;exact⟨σ2,H2',J2.unpinned.turned (t':=s''.toks) (fun b ob hb e=>sb.extBut b ob hb e) pc.2.1 f'.2.1 f'.2.2.2.1 f'.2.2.2.2.1 f'.2.2.2.2.2,q2⟩
end
end L2
namespace L2
open PySem PySem.Spec PyProof.Rows
section
variable {X:Cx}
end
end L2
namespace L2
open PySem PySem.Spec PyProof.Rows
section
variable {prog:Program}{w:World}{A:Around}{E:Value->Shared->Prop}{s:Shared}
end
section
variable {X:Cx}
end
end L2
namespace Iv
open PySem PySem.Spec PyProof.Rows L2
variable {D:Addr}{b:Bool}{a':E}{a it tg:Expr}{d:Nat}{p q:Pos}{w:Wk}
section
variable {X:Cx}{T:Tbl}{A:Adr}{C:Ctx}{cf:Cf}{m k:Nat}{α:List Addr}{hs:Hs}{H:Hp}{u:U}{v:V}{ρ:Rho}{σ:St}
noncomputable def WJ(A:Adr)(K:PySem.W.Frag)(α:List Addr)(J:It):Wk->Prop
 | .seqL u=>∃a,RU A α u (.ref a)/\J=Itl K a
 | .seqT u=>∃a,RU A α u (.ref a)/\J=Itt K a
 | .rng lo n=>J=Itr lo n
 | .zipB p q x y=>∃a b,RU A α x (.ref a)/\RU A α y (.ref b)/\J=Itz p q K a b
 | .revL _ _=>False
 | .rngC _ _ _=>False
 | .enmL _=>False
 | .strW _=>False
theorem WJ.mono{K:PySem.W.Frag}{J:It}{α':List Addr}(p:∀(n:Nat) a,α[n]?=some a->α'[n]?=some a)(h:WJ A K α J w):WJ A K α' J w:=by
 cases w with
 | seqL u=>obtain⟨a,r,e⟩:=h;exact⟨a,r.mono p,e⟩
 | seqT u=>obtain⟨a,r,e⟩:=h;exact⟨a,r.mono p,e⟩
 | rng lo n=>exact h
 | zipB b c x y=>obtain⟨a,b,r,r',e⟩:=h;exact⟨a,b,r.mono p,r'.mono p,e⟩
 | revL u n=>exact False.elim h
 | rngC lo c n=>exact False.elim h
 | enmL u=>exact False.elim h
 | strW x=>exact False.elim h
noncomputable def gT(K:PySem.W.Frag):Tg->TG
 | .name i=>Qav i
 | .pair i j=>Qmz K 2 (QgG (Qav i) (QgG (Qav j) QmA))
theorem YR{xs:List U}(tx:Txt T A X.K X.mg)(R:Rep T A X.K α hs H)(h:sqU T b u hs=some xs)(r:RU A α u v):∃a vs,v=.ref a/\RUs A α xs vs/\SqB b X.K H a vs:=by
 cases b with
 | true=>exact Q6 tx R h r
 | false=>exact Yq tx R h r
theorem Qa6{J:It}{i:Nat}(tx:Txt T A X.K X.mg)(R:Rep T A X.K α hs H)(W:WJ A X.K α J w)(h:itm T w i hs=some none):J.stop i H:=by
 cases w with
 | seqL u =>
  obtain⟨a,r,rfl⟩:=W;simp only [itm,Option.map_eq_some_iff,Option.map_eq_none_iff]at h;obtain⟨xs,e,h⟩:=h;obtain⟨a',vs,ea,rr,q⟩:=Q6 tx R e r;cases ea
  exact⟨vs,q,by rw [<-rr.length];exact List.getElem?_eq_none_iff.mp h⟩
 | seqT u =>
  obtain⟨a,r,rfl⟩:=W;simp only [itm,Option.map_eq_some_iff,Option.map_eq_none_iff]at h;obtain⟨xs,e,h⟩:=h;obtain⟨a',vs,ea,rr,q⟩:=Yq tx R e r;cases ea
  exact⟨vs,q,by rw [<-rr.length];exact List.getElem?_eq_none_iff.mp h⟩
 | rng lo n =>
  cases(show J=_ from W);simp only [itm,Option.some.injEq]at h;split at h
  ·cases h
  ·rename_i l;show n<=i;omega
 | zipB p q x y =>
  obtain⟨a,b,r1,r2,rfl⟩:=W;simp only [itm]at h;split at h
  case h_2=>cases h
  rename_i xs ys e1 e2;obtain⟨a',vs,ea,rr,q⟩:=YR tx R e1 r1;cases ea;obtain⟨b',ws,eb,rr',q'⟩:=YR tx R e2 r2;cases eb;refine⟨vs,ws,q,q',?_⟩;unfold two at h;rw [<-rr.length,<-rr'.length];by_cases l1:i<xs.length
  ·by_cases l2:i<ys.length
   ·rw [List.getElem?_eq_getElem l1,List.getElem?_eq_getElem l2]at h;cases h
   ·exact .inr (by omega)
  ·exact .inl (by omega)
 | revL u n=>exact False.elim W
 | rngC lo c n=>exact False.elim W
 | enmL u=>exact False.elim W
 | strW x=>exact False.elim W
theorem Qab{t:Tg}{ρ':Rho}{Q:St->Hp->Prop}(R:Rep T A X.K α hs H)(rs:RS A α ρ σ)(r:RU A α u v)(h:tgt t (.one u) ρ hs=some ρ')(k:∀σ2,RS A α ρ' σ2->Q σ2 H):gT X.K t v σ H Q:=by
 cases t with
 | name i=>cases h;exact k _ (rs.set i r)
 | pair i j =>
  cases u with
  | ref n =>
   obtain⟨a,ha,rfl⟩:=r;simp only [tgt]at h;split at h
   case h_2=>cases h
   rename_i x y e;cases h;obtain⟨vs,q,rr⟩:=R.h.ob n a _ ha e;obtain⟨v1,ws,rfl,r1,rr⟩:=Qz rr;obtain⟨v2,ws,rfl,r2,rr⟩:=Qz rr;cases QN rr;exact⟨a,[v1,v2],rfl,SqT.of q,rfl,v1,[v2],rfl,v2,[],rfl,rfl,k _ ((rs.set i r1).set j r2)⟩
  | _=>simp [tgt]at h
theorem QcG{J:It}{i:Nat}{x:Im}{t:Tg}{ρ':Rho}(tx:Txt T A X.K X.mg)(R:Rep T A X.K α hs H)(W:WJ A X.K α J w)(rs:RS A α ρ σ)(h:itm T w i hs=some (some x))(ht:tgt t x ρ hs=some ρ'):
  J.go i H/\∀v H' (Q:St->Hp->Prop),J.yld i H v H'->(∀σ2,RS A α ρ' σ2->Rep T A X.K α hs H'->Ext α α H H'->Q σ2 H')->gT X.K t v σ H' Q:=by
 have zip:∀{b c:Bool} {a1 a2:Addr} {xs ys:List U} {vs ws:List V},SqB b X.K H a1 vs->SqB c X.K H a2 ws->RUs A α xs vs->RUs A α ys ws->some (two xs ys i)=some (some x) ->
   (Itz b c X.K a1 a2).go i H/\∀v H' (Q:St->Hp->Prop),(Itz b c X.K a1 a2).yld i H v H'->(∀σ2,RS A α ρ' σ2->Rep T A X.K α hs H'->Ext α α H H'->Q σ2 H')->gT X.K t v σ H' Q:=by
  intro b c a1 a2 xs ys vs ws q1 q2 r1 r2 h;unfold two at h;split at h
  case h_2=>cases h
  rename_i x1 y1 e1 e2;cases h;obtain⟨v1,f1,g1⟩:=r1.get e1;obtain⟨v2,f2,g2⟩:=r2.get e2;refine⟨⟨vs,ws,v1,v2,q1,q2,f1,f2⟩,?_⟩;rintro v H' Q ⟨p,w1,w2,hp,rfl,rfl,k1,k2⟩ k;have n1:w1=v1:=Option.some.inj ((k1 vs q1).symm.trans f1);have n2:w2=v2:=Option.some.inj ((k2 ws q2).symm.trans f2);subst n1 n2
  have ne:∀b y,H b=some y->b≠p:=fun b y e z=>by rw [z,hp]at e;cases e
  have R':Rep T A X.K α hs (upd H p (.tup [w1,w2])):=⟨⟨R.h.len,R.h.nd_keep fun b x _ e=>by rw [Qh (ne _ _ e)];exact e,fun n a o e1 e2=>RO.keep (R.h.ob n a o e1 e2) (fun _ _ e=>e) fun _ y e _=>by rw [Qh (ne _ _ e)];exact e⟩,R.s.keep fun y e _=>by rw [Qh (ne _ _ e)];exact e⟩
  have E':Ext α α H (upd H p (.tup [w1,w2])):=⟨fun _ _ e=>e,fun n a e l=>by have:=getElem?_lt e;omega,fun b o e _=>by rw [Qh (ne _ _ e)];exact e,fun b o kv e=>by rw [Qh (ne _ _ e)];exact e,fun b o e=>⟨o,by rw [Qh (ne _ _ e)];exact e,fun _=>Iff.rfl⟩⟩
  cases t with
  | name i=>simp [tgt]at ht
  | pair i j =>
   cases ht;exact⟨p,[w1,w2],rfl,SqT.of Qq,rfl,w1,[w2],rfl,w2,[],rfl,rfl,k _ ((rs.set i g1).set j g2) R' E'⟩
 cases w with
 | seqL u =>
  obtain⟨a,r,rfl⟩:=W;simp only [itm,Option.map_eq_some_iff]at h;obtain⟨xs,e,y,h,rfl⟩:=h;obtain⟨a',vs,ea,rr,q⟩:=Q6 tx R e r;cases ea;obtain⟨v1,f1,g1⟩:=rr.get h;refine⟨⟨vs,v1,q,f1⟩,?_⟩;rintro v H' Q ⟨rfl,k1⟩ k;have n1:v=v1:=Option.some.inj ((k1 vs q).symm.trans f1);subst n1;exact Qab R rs g1 ht fun σ2 r2=>k σ2 r2 R Ext.refl
 | seqT u =>
  obtain⟨a,r,rfl⟩:=W;simp only [itm,Option.map_eq_some_iff]at h;obtain⟨xs,e,y,h,rfl⟩:=h;obtain⟨a',vs,ea,rr,q⟩:=Yq tx R e r;cases ea;obtain⟨v1,f1,g1⟩:=rr.get h;refine⟨⟨vs,v1,q,f1⟩,?_⟩;rintro v H' Q ⟨rfl,k1⟩ k;have n1:v=v1:=Option.some.inj ((k1 vs q).symm.trans f1);subst n1;exact Qab R rs g1 ht fun σ2 r2=>k σ2 r2 R Ext.refl
 | rng lo n =>
  cases(show J=_ from W);simp only [itm,Option.some.injEq]at h;split at h
  case isFalse=>cases h
  rename_i l;cases h;refine⟨l,?_⟩;rintro v H' Q ⟨rfl,rfl⟩ k;exact Qab (u:=.int (lo+i) 0) R rs ⟨_,rfl,Cg.refl _ _⟩ ht fun σ2 r2=>k σ2 r2 R Ext.refl
 | zipB p q x1 y1 =>
  obtain⟨a,b,r1,r2,rfl⟩:=W;simp only [itm]at h;split at h
  case h_2=>cases h
  rename_i xs ys e1 e2;obtain⟨a',vs,ea,rr,q⟩:=YR tx R e1 r1;cases ea;obtain⟨b',ws,eb,rr',q'⟩:=YR tx R e2 r2;cases eb;exact zip q q' rr rr' h
 | revL u n=>exact False.elim W
 | rngC lo c n=>exact False.elim W
 | enmL u=>exact False.elim W
 | strW y=>exact False.elim W
noncomputable def TIW(T:Tbl)(A:Adr)(K:PySem.W.Frag)(f:Rho->Hs->Option (Wk×Hs)):L2.TI:=fun σ H R=>∃α ρ hs w hs',RS A α ρ σ/\Rep T A K α hs H/\f ρ hs=some (w,hs') /\
 ∀α' J H',Ext α α' H H'->Rep T A K α' hs' H'->WJ A K α' J w->R J H'
theorem Qeu{t t':L2.TI}(h:PI X tg it t)(i:∀σ H R,t' σ H R->t σ H R):PI X tg it t':=fun pins s σ H R I q=>h pins s σ H R I (i σ H R q)
theorem QjE{t t':L2.TI}(h:PI X tg it t)(h':PI X tg it t'):PI X tg it (fun σ H R=>t σ H R\/t' σ H R):=fun pins s σ H R I q=>q.elim (h pins s σ H R I) (h' pins s σ H R I)
theorem Qnj:PI X tg it (fun _ _ _=>False):=fun pins s σ H R I h=>h.elim
theorem Qh5{ir:E}(tx:Txt T A X.K X.mg)(h:PE X it (Iv.TI T A X.K (ev T cf d ir))):PI X tg it (TIW T A X.K (fun ρ hs=>Ql T (ev T cf d) ρ (.seq ir) hs)):=by
 refine Qeu (QjE (QjE (QfQ h) (Qh4 h)) Qnj) ?_;rintro σ H R ⟨α,ρ,hs,w,hs',rs,Rp,e,q⟩;simp only [Ql]at e;obtain⟨u,h1,e1,e⟩:=Qc e;simp only [Option.map_eq_some_iff]at e;obtain⟨w',e2,e⟩:=e;cases e;unfold wkS at e2;split at e2
 ·rename_i xs el;cases e2;refine .inl (.inl (TI.run rs Rp e1 fun α1 x H1 E1 R1 r1 rs1=>?_));obtain⟨a,vs,rfl,rr,sq⟩:=Q6 tx R1 el r1;exact⟨a,rfl,⟨vs,sq⟩,q α1 _ H1 E1 R1 ⟨a,r1,rfl⟩⟩
 ·split at e2
  ·rename_i xs el;cases e2;refine .inl (.inr (TI.run rs Rp e1 fun α1 x H1 E1 R1 r1 rs1=>?_));obtain⟨a,vs,rfl,rr,sq⟩:=Yq tx R1 el r1;exact⟨a,rfl,⟨vs,sq⟩,q α1 _ H1 E1 R1 ⟨a,r1,rfl⟩⟩
  ·cases e2
theorem Qac{i:Int}(h:Qs (i*4)=true):-(2 ^ 62)<=i/\i<2 ^ 62:=by
 obtain⟨h1,h2⟩:=Zh h;constructor<;>omega
theorem Qh6(hg:Gl X "range") (hm:X.mg "range"=none) (hns:∀x p,a≠.Starred x p) (h:PE X a (Iv.TI T A X.K (ev T cf d a'))):PI X tg (.Call (.Name "range" p) [a] [] q) (TIW T A X.K (fun ρ hs=>Ql T (ev T cf d) ρ (.rng a') hs)):=by
 refine Qeu (Qci hg hm (Zz h JB (Qn hns)) (Qn hns)) ?_;rintro σ H R ⟨α,ρ,hs,w,hs',rs,Rp,e,q⟩;simp only [Ql]at e;obtain⟨u,h1,e1,e⟩:=Qc e;split at e
 case h_2=>cases e
 split at e
 case isFalse=>cases e
 rename_i i c;cases e;refine TI.run rs Rp e1 fun α1 x H1 E1 R1 r1 rs1=>?_;obtain⟨j,rfl,cg⟩:=r1;cases cg.exact;obtain⟨b1,b2⟩:=Qac c;exact⟨_,rfl,b1,b2,q α1 _ H1 E1 R1 rfl⟩
theorem QfP{b:Expr}{b':E}(hg:Gl X "range") (hm:X.mg "range"=none) (hna:∀x p,a≠.Starred x p) (hnb:∀x p,b≠.Starred x p) (ha:PE X a (Iv.TI T A X.K (ev T cf d a'))) (hb:PE X b (Iv.TI T A X.K (ev T cf d b'))):PI X tg (.Call (.Name "range" p) [a,b] [] q) (TIW T A X.K (fun ρ hs=>Ql T (ev T cf d) ρ (.rng2 a' b') hs)):=by
 have s2:starEach [b] X.env=[(false,eval b X.env)]:=Qn hnb
 have s1:starEach [a,b] X.env=[(false,eval a X.env),(false,eval b X.env)]:=by rw [Qn hna,s2]
 refine Qeu (Qch hg hm (Zz ha (Zz hb JB (Qn hnb)) (Qn hna)) s1 s2) ?_;rintro σ H R ⟨α,ρ,hs,w,hs',rs,Rp,e,q⟩;simp only [Ql]at e;obtain⟨u,h1,e1,e⟩:=Qc e;obtain⟨u2,h2,e2,e⟩:=Qc e;split at e
 case h_2=>cases e
 split at e
 case isFalse=>cases e
 rename_i i j c;cases e;rw [Bool.and_eq_true]at c;refine TI.run rs Rp e1 fun α1 x H1 E1 R1 r1 rs1=>?_;refine TI.run rs1 R1 e2 fun α2 y H2 E2 R2 r2 rs2=>?_;obtain⟨i',rfl,cg⟩:=r1;cases cg.exact;obtain⟨j',rfl,cg⟩:=r2;cases cg.exact;obtain⟨b1,b2⟩:=Qac c.1;obtain⟨b3,b4⟩:=Qac c.2;exact⟨_,_,rfl,⟨b1,b2,b3,b4⟩,q α2 _ H2 (E1.trans E2 R2.h) R2 rfl⟩
theorem QfO{elts:List Expr}{kt:Nat}{pt:Pos}{b:Expr}{b':E}(tx:Txt T A X.K X.mg)(hg:Gl X "zip") (hm:X.mg "zip"=none) (hna:∀x p,a≠.Starred x p) (hnb:∀x p,b≠.Starred x p) (ha:PE X a (Iv.TI T A X.K (ev T cf d a'))) (hb:PE X b (Iv.TI T A X.K (ev T cf d b'))):
  PI X (.Tuple elts kt pt) (.Call (.Name "zip" p) [a,b] [] q) (TIW T A X.K (fun ρ hs=>Ql T (ev T cf d) ρ (.zip a' b') hs)):=by
 have s2:starEach [b] X.env=[(false,eval b X.env)]:=Qn hnb
 have s1:starEach [a,b] X.env=[(false,eval a X.env),(false,eval b X.env)]:=by rw [Qn hna,s2]
 have pa:=Zz ha (Zz hb JB (Qn hnb)) (Qn hna);refine Qeu (QjE (QjE (QaV (b:=true) (b':=true) hg hm pa s1 s2) (QaV (b:=true) (b':=false) hg hm pa s1 s2)) (QjE (QaV (b:=false) (b':=true) hg hm pa s1 s2) (QaV (b:=false) (b':=false) hg hm pa s1 s2))) ?_;rintro σ H R ⟨α,ρ,hs,w,hs',rs,Rp,e,q⟩;simp only [Ql]at e;obtain⟨u1,h1,e1,e⟩:=Qc e;obtain⟨u2,h2,e2,e⟩:=Qc e;simp only [Option.map_eq_some_iff]at e;obtain⟨w',e3,e⟩:=e;cases e;unfold wkZ at e3;simp only at e3;generalize (QM T u1 hs').isSome=p at e3;generalize (QM T u2 hs').isSome=p' at e3;split at e3
 case isFalse=>cases e3
 rename_i c;simp only [Bool.and_eq_true]at c;obtain⟨xs,l1⟩:=Option.isSome_iff_exists.mp c.1;obtain⟨ys,l2⟩:=Option.isSome_iff_exists.mp c.2;cases e3
 have key:Qmy p p' X.K (Qfm (Iv.TI T A X.K (ev T cf d a')) (Qfm (Iv.TI T A X.K (ev T cf d b')) QjK)) σ H R:=by
  refine TI.run rs Rp e1 fun α1 x H1 E1 R1 r1 rs1=>TI.run rs1 R1 e2 fun α2 y H2 E2 R2 r2 rs2=>?_;obtain⟨a,vs,rfl,rr,sq⟩:=YR tx R2 l1 (r1.mono E2.pre);obtain⟨b,ws,rfl,rr',sq'⟩:=YR tx R2 l2 r2;exact⟨a,b,rfl,⟨vs,sq⟩,⟨ws,sq'⟩,q α2 _ H2 (E1.trans E2 R2.h) R2 ⟨a,b,r1.mono E2.pre,r2,rfl⟩⟩
 cases p<;>cases p'
 ·exact .inr (.inr key)
 ·exact .inr (.inl key)
 ·exact .inl (.inr key)
 ·exact .inl (.inl key)
theorem Rep.aside{ho:HO}(R:Rep T A X.K α hs H)(hn:D∉α)(hs':∀o u,H D≠some (.frz o u)):Rep T A X.K α hs (upd H D ho):=
 ⟨⟨R.h.len,R.h.nd_keep fun b x hb e=>by rw [Qh (fun(z:b=D)=>hn (z▸hb))];exact e,fun n a o e1 e2=>RO.keep (R.h.ob n a o e1 e2) (fun _ _ e=>e) fun c y e w=>by
   rcases w with rfl|⟨oz,fs,rfl⟩
   ·have ne:c≠D:=fun z=>hn (z▸List.mem_of_getElem? e1);rw [Qh ne];exact e
   ·rw [Qh (fun z=>hs' _ _ (z▸e))];exact e⟩,
  R.s.keep fun y e z=>by
   obtain⟨ob,u,rfl⟩:=z;have ne:A.s≠D:=fun z=>hs' ob _ (z▸e);rw [Qh ne]
   exact e⟩
theorem Rep.adopt{us:List U}{ys:List V}(R:Rep T A X.K α hs H)(hn:D∉α)(hD:H D=some (.lst ys))(r:RUs A α us ys):Rep T A X.K (α++[D]) (hs++[.lst us]) H:=by
 refine⟨⟨by simp [R.h.len],Qcw R.h.nd hn,fun n a o e1 e2=>?_⟩,R.s⟩
 rcases QO e1 with q|⟨q1,q2⟩
 ·rcases QO e2 with z|⟨z,_⟩
  ·exact RO.keep (R.h.ob n a o q z) QI fun _ _ e _=>e
  ·have:=getElem?_lt q;rw [R.h.len]at this;omega
 ·subst q2
  rcases QO e2 with z|⟨_,z⟩
  ·have:=(List.getElem?_eq_some_iff.mp z).1;rw [<-R.h.len]at this;omega
  ·subst z;exact⟨ys,hD,RUs.mono QI r⟩
theorem RS.pad{p:Rho}{os:St}(rs:RS A α ρ σ)(hl:p.length=os.length)(hp:∀x∈p,x=none):RS A α (ρ++p) (σ++os):=by
 refine⟨by simp [rs.len,hl],fun i u e=>?_⟩
 by_cases l:i < ρ.length
 ·rw [List.getElem?_append_left l]at e;obtain⟨v,h1,h2⟩:=rs.val i u e
  exact⟨v,by rw [List.getElem?_append_left (List.getElem?_eq_some_iff.mp h1).1];exact h1,h2⟩
 ·rw [List.getElem?_append_right (by omega)]at e
  cases hp _ (List.mem_of_getElem? e)
noncomputable def nN(b:Bool):Nat:=if b then 2 else 1
theorem QaY(b:Bool):(Qdi b).length=nN b:=by cases b<;>rfl
theorem JA(b:Bool):∀x∈Qdi b,x=none:=by cases b<;>simp [Qdi]
theorem QgF{K:PySem.W.Frag}{os:St}{Q:St->Hp->Prop}(hl:os.length=nN b)(h:gT K (tgN b σ.length) v (σ++os) H Q):
  gT K (tgN b σ.length) v (σ++os) H fun σ2 H2=>(∃os':St,os'.length=nN b/\σ2=σ++os')/\Q σ2 H2:=by
 cases b with
 | false =>
  have h:Q ((σ++os).set σ.length (some v)) H:=h
  exact⟨⟨os.set 0 (some v),by simp [hl],by rw [List.set_append_right _ _ (Nat.le_refl _),Nat.sub_self]⟩,h⟩
 | true =>
  obtain⟨a,xs,rfl,sq,len,v1,r1,rfl,v2,r2,rfl,e,q⟩:=h
  refine⟨a,_,rfl,sq,len,v1,_,rfl,v2,_,rfl,e,⟨(os.set 0 (some v1)).set 1 (some v2),by simp [hl],?_⟩,q⟩
  rw [List.set_append_right _ _ (Nat.le_refl _),Nat.sub_self,List.set_append_right _ _ (Nat.le_succ _)]
  congr 1
  congr 1
  omega
theorem QeI{α4:List Addr}{ho:HO}{H4:Hp}(E4:Ext α α4 H H4)(nD:D∉α)(d3:H D=some ho)(hnt:∀vs,ho≠.tup vs:=by intro _ z;cases z):D∉α4:=fun z=>by
 obtain⟨n,hn⟩:=List.getElem?_of_mem z;by_cases l:n < α.length
 ·have e1:α[n]?=some α[n]:=List.getElem?_eq_getElem l;have e2:=E4.pre _ _ e1;rw [hn]at e2;cases e2;exact nD (List.getElem_mem l)
 ·rcases E4.new n D hn (by omega)with q|⟨vs,q⟩
  ·rw [d3]at q;cases q
  ·rw [d3]at q;exact hnt vs (Option.some.inj q)
theorem QcX{src:Src}{t:Option E}{el:E}{σ:St}{H:Hp}{Q:VK}(tx:Txt T A X.K X.mg)(hl:σ.length=X.N.length)(h:Iv.TI T A X.K (ev T cf (d+1) (.comp src b t el)) σ H Q):
  Qds (TIW T A X.K (fun ρ hs=>Ql T (ev T cf d) ρ src hs)) (nN b) (gT X.K (tgN b X.N.length)) (TIT T A X.K (JO (evT T cf d) t)) (Iv.TI T A X.K (ev T cf d el)) σ H Q:=by
 rw [<-hl];obtain⟨α,ρ,hs,u,hs',rs,R,e,q⟩:=h;simp only [ev]at e;obtain⟨w,h1,e1,e⟩:=Qc e;obtain⟨us,h2,e2,e⟩:=Qc e;cases e;refine⟨α,ρ,hs,w,h1,rs,R,e1,fun α1 J H1 E1 R1 W1 D hD=>?_⟩;have rs1:=rs.mono E1.pre;refine⟨fun i m ys H2=>∃αc hc acc,RS A αc ρ σ/\Rep T A X.K αc hc H2/\D∉αc/\H2 D=some (.lst ys)/\RUs A αc acc ys/\Ext α1 αc H1 H2/\WJ A X.K αc J w/\Zt T (ev T cf d) (JO (evT T cf d) t) w b el ρ m i acc hc=some (us,h2),⟨Qd T w h1,α1,h1,[],rs1,?_,R1.h.notIn hD,Qq,.nil,?_,W1,e2⟩,?_⟩
 ·exact R1.aside (R1.h.notIn hD) fun o u z=>by rw [hD]at z;cases z
 ·exact⟨fun _ _ e=>e,fun n a e l=>by have:=getElem?_lt e;omega,fun b o e _=>by rw [Qh (fun z=>by rw [z,hD]at e;cases e)];exact e,fun b o kv e=>by rw [Qh (fun z=>by rw [z,hD]at e;cases e)];exact e,fun b o e=>⟨o,by rw [Qh (fun z=>by rw [z,hD]at e;cases e)];exact e,fun _=>Iff.rfl⟩⟩
 rintro i m ys H2 ⟨αc,hc,acc,rsc,Rc,nD,hDl,rr,Ec,Wc,ec⟩;refine⟨hDl,?_⟩
 cases m with
 | zero=>cases ec
 | succ m =>
  simp only [Zt]at ec;split at ec
  ·cases ec
  ·rename_i ei;cases ec;refine .inl ⟨Qa6 tx Rc Wc ei,?_⟩;have Ra:=Rc.adopt nD hDl rr
   have Ea:Ext α1 (αc++[D]) H1 H2:=⟨fun n a e=>QI n a (Ec.pre n a e),fun n a e l=>by
    rcases QO e with z|⟨_,z⟩
    ·exact Ec.new n a z l
    ·rw [z];exact .inl hD,Ec.keep,Ec.fz,Ec.tr⟩
   exact q _ _ _ (E1.trans Ea Ra.h) Ra ⟨D,by rw [<-Rc.h.len];exact QW,rfl⟩
  ·rename_i x ei;split at ec
   ·cases ec
   rename_i ρ' et;split at ec
   case isFalse=>cases ec
   rename_i small;obtain⟨c,h3,e3,ec⟩:=Qc ec
   have go:J.go i H2:=(QcG tx Rc Wc (rsc.pad (os:=List.replicate (nN b) none) (by rw [QaY];simp) (JA b)) ei et).1
   refine .inr ⟨go,?_,fun v H3 os lo yl=>?_⟩
   ·have:=rr.length;rw [sizeLine_eq];omega
   have rsn:RS A αc (ρ++Qdi b) (σ++os):=rsc.pad (by rw [QaY,lo]) (JA b)
   obtain⟨_,stp⟩:=QcG tx Rc Wc rsn ei et;rw [rs.len]at stp;refine QgF lo (stp v H3 _ yl fun σ2 rs2 R3 E3=>?_);have d3:H3 D=some (.lst ys):=E3.keep D _ hDl nD;refine TIT.run rs2 R3 e3 fun α4 H4 E4 R4 rs4=>?_;have d4:H4 D=some (.lst ys):=E4.keep D _ d3 nD;have nD4:=QeI E4 nD d3;have Et4:=(Ec.trans E3 R3.h).trans E4 R4.h
   cases c with
   | false =>
    rw [if_neg Bool.false_ne_true]at ec ⊢;exact⟨m,Nat.lt_succ_self _,α4,h3,acc,rsc.mono E4.pre,R4,nD4,d4,RUs.mono E4.pre rr,Et4,Wc.mono E4.pre,ec⟩
   | true =>
    rw [if_pos rfl]at ec ⊢;obtain⟨u',h5,e5,ec⟩:=Qc ec;refine TI.run rs4 R4 e5 fun α5 y H5 E5 R5 r5 rs5=>?_;have d5:H5 D=some (.lst ys):=E5.keep D _ d4 nD4;have nD5:=QeI E5 nD4 d4
    refine⟨d5,m,Nat.lt_succ_self _,α5,h5,acc++[u'],(rsc.mono E4.pre).mono E5.pre,R5.aside nD5 (fun o u z=>by rw [d5]at z;cases z),nD5,Qq,?_,?_,(Wc.mono E4.pre).mono E5.pre,ec⟩
    ·exact Paired.snoc (RUs.mono E5.pre (RUs.mono E4.pre rr)) r5
    ·have Et:=Et4.trans E5 R5.h
     exact⟨Et.pre,Et.new,fun b o e hb=>by rw [Qh (fun z=>by rw [z,hD]at e;cases e)];exact Et.keep b o e hb,fun b o kv e=>by rw [Qh (fun z=>by rw [z,hD]at e;cases e)];exact Et.fz b o kv e,fun b o e=>by
      obtain⟨o',q1,q2⟩:=Et.tr b o e
      exact⟨o',by rw [Qh (fun z=>by rw [z,hD]at e;cases e)];exact q1,q2⟩⟩
end
end Iv
namespace Iv
open PySem PySem.Spec PyProof.Rows L2
variable {scope:Scope}
section
variable {X:Cx}{T:Tbl}{A:Adr}{C:Ctx}{cf:Cf}{m k:Nat}
theorem QhH{tg it:Expr}{src:Src}{d:Nat}(g:GX T A C X)(S:Snd T A C X cf m)(h:compSrc (m+1) C it=some src)(hz:QjW src=true->∃elts kt pt,tg=.Tuple elts kt pt):PI X tg it (TIW T A X.K (fun ρ hs=>Ql T (ev T cf d) ρ src hs)):=by
 have seq:∀{it:Expr} {src:Src},(Qf m C it).map Src.seq=some src->PI X tg it (TIW T A X.K (fun ρ hs=>Ql T (ev T cf d) ρ src hs)):=by
  intro it src h;simp only [Option.map_eq_some_iff]at h;obtain⟨ir,hi,rfl⟩:=h;exact Qh5 g.txt (S.e d it ir hi)
 simp only [compSrc]at h;split at h
 ·rename_i f p args q;split at h
  case isFalse=>cases h
  rename_i hg;split at h
  ·exact seq h
  ·split at h
   ·cases h
   rename_i hx;split at h
   ·rename_i e;subst e;split at h
    ·rename_i a;simp only [Option.map_eq_some_iff]at h;obtain⟨a',ha,rfl⟩:=h;exact Qh6 (Zf g hg) (g.blt _ hx) (QE ha) (S.e d a a' ha)
    ·rename_i a b;simp only [Option.bind_eq_some_iff,Option.map_eq_some_iff]at h;obtain⟨a',ha,b',hb,rfl⟩:=h;exact QfP (Zf g hg) (g.blt _ hx) (QE ha) (QE hb) (S.e d a a' ha) (S.e d b b' hb)
    ·cases h
   ·split at h
    ·rename_i e;subst e;split at h
     ·rename_i a b;simp only [Option.bind_eq_some_iff,Option.map_eq_some_iff]at h;obtain⟨a',ha,b',hb,rfl⟩:=h;obtain⟨elts,kt,pt,rfl⟩:=hz rfl;exact QfO g.txt (Zf g hg) (g.blt _ hx) (QE ha) (QE hb) (S.e d a a' ha) (S.e d b b' hb)
     ·cases h
    ·exact seq h
 ·exact seq h
theorem Qcv{it:Expr}{src:Src}{env:Env}(h:compSrc m C it=some src):∀x,foldedSetIterable it env x=pure x:=by
 intro x
 cases it<;>first|rfl|skip
 cases m with
 | zero=>simp [compSrc]at h
 | succ m =>
  simp only [compSrc,Option.map_eq_some_iff]at h;obtain⟨_,h,_⟩:=h
  cases m<;>first|exact nomatch (show(none:Option E)=some _ from h)|simp [Qf]at h
theorem ZY{xs:List Str}(g:GX T A C X)(h:Y1 C xs scope=true):CompOk X xs scope/\∀C0 s H fp,GX T A (C.inner xs scope) (X.block xs scope C0 s H fp):=by
 unfold Y1 at h;simp only [Bool.and_eq_true,beq_iff_eq,List.all_eq_true,Bool.not_eq_true',decide_eq_true_eq]at h;obtain⟨⟨⟨⟨h1,h2⟩,hd⟩,h3⟩,h5⟩:=h
 have nd:(".0":Str)∉X.N:=fun z=>by
  rw [g.N]at z;rw [List.contains_iff_mem.mpr z]at h5;cases h5
 refine⟨⟨h1,fun x hx=>(h2 x hx).1,fun y hy=>?_,fun x hx=>(h2 x hx).2,(List.nodup_append.mp hd).2.1,nd⟩,fun C0 s H fp=>?_⟩
 ·have:=h3 y hy;obtain⟨n,kd⟩:=y
  cases kd with
  | «local» =>
   simp only [Bool.and_eq_true,Bool.or_eq_true,decide_eq_true_eq,beq_iff_eq,List.contains_iff_mem]at this;exact⟨fun _=>this,(fun z=>nomatch z),fun z=>nomatch z⟩
  | cell=>cases this
  | free =>
   simp only [Bool.or_eq_true,beq_iff_eq]at this;rw [<-g.sc]at this;exact⟨(fun z=>nomatch z),(fun z=>nomatch z),fun _=>this⟩
  | _=>exact⟨(fun z=>nomatch z),(fun z=>nomatch z),fun z=>nomatch z⟩
 ·refine⟨g.CT,?_,?_,?_,g.calm,h1,rfl,g.gfn,g.gcl,g.gco,g.gtx,g.blt,g.txt,g.tab⟩
  ·show hideN xs X.N++xs=hideN xs C.N++xs;rw [g.N]
  ·show(hideN xs X.N++xs).Nodup;rw [g.N];exact hd
  ·show(relabel scope X.env).names=relN C.names scope.names;rw [QS g.kind,g.sc]
theorem QaW{tg:Expr}{b:Bool}{xs:List Str}{C0:Addr}{s:Shared}{H:Hp}{fp:List Addr}(g:GX T A C X)(hh:hdC C=false)(k:CompOk X xs scope)(gb:GX T A (C.inner xs scope) (X.block xs scope C0 s H fp))(h:Qj1 tg b xs):PG (X.block xs scope C0 s H fp) tg (gT X.K (tgN b X.N.length)):=by
 have nm:∀{x:Str} {p:Pos} {i:Nat},x∈xs->(hideN xs X.N++xs)[i]?=some x->PG (X.block xs scope C0 s H fp) (.Name x p) (Qav i):=fun {x p i} hx hi=>by
  have loc:(X.block xs scope C0 s H fp).env.scope.names.lookup x=some .local:=by
   show(relabel scope X.env).names.lookup x=some .local;rw [QS g.kind,Zy,k.loc x hx];rfl
  exact Qah gb.nd hi (.inl loc) (.inr loc)
 rcases h with⟨rfl,x,p,rfl,rfl⟩|⟨rfl,x,p,y,q,kt,pt,rfl,rfl⟩
 ·exact nm (by simp) (by rw [<-ZU (xs:=[x])];simp)
 ·refine QeG (gb.calm hh) (Yj (nm (by simp) (by rw [<-ZU (xs:=[x,y])];simp)) (Yj (nm (by simp) ?_) Qcj))
  rw [<-ZU (xs:=[x,y]),List.getElem?_append_right (by omega)]
  simp
noncomputable def CompParts(X:Cx)(elt:Expr)(gens:List Comprehension)(scope:Scope)(t:TE):Prop:=∃tg iter tl xs n wi g tt te,gens=[⟨tg,iter,Option.toList tl,0⟩]/\CompOk X xs scope/\PI X tg iter wi/\xs.length=n/\(∀C s H fp,PG (X.block xs scope C s H fp) tg g)/\(∀C s H fp,PTO (X.block xs scope C s H fp) tl tt)/\(∀C s H fp,PE (X.block xs scope C s H fp) elt te) /\
 (∀v,foldedSetIterable iter X.env v=pure v)/\∀σ H Q,σ.length=X.N.length->t σ H Q->Qds wi n g tt te σ H Q
theorem CompParts.pe{elt:Expr}{gens:List Comprehension}{pos:Pos}{t:TE}(hc:X.calm=true)(h:CompParts X elt gens scope t):PE X (.ListComp elt gens scope pos) t:=by
 obtain⟨tg,iter,tl,xs,n,wi,gg,tt,te,rfl,ok,hi,hn,hg,ht,he,hf,imp⟩:=h;intro pins s σ H Q I q;exact Qcl hc ok hi hn hg ht he hf pins s σ H Q I (imp σ H Q I.len q)
end
end Iv
namespace Iv
open PySem PySem.Spec PyProof.Rows L2
variable {ir:E}{b:Expr}{d:Nat}{p:Pos}
section
variable {X:Cx}{T:Tbl}{A:Adr}{C:Ctx}{cf:Cf}{m k:Nat}
theorem Qb6(h:Qg8 b=none):ZE b=true:=by
 cases b with
 | Slice lo hi st p =>
  cases st with
  | none=>cases h
  | some e =>
   cases h
 | _=>rfl
theorem Qdy{lo hi:Option Expr}(h:Qg8 b=some (.cut lo hi)):∃p,b=.Slice lo hi none p:=by
 cases b with
 | Slice lo' hi' st p =>
  cases st with
  | none=>cases h;exact⟨p,rfl⟩
  | some e =>
   cases h
 | _=>cases h
theorem QgC{a:Expr}{x:Str}(h:Qi4 a=.nm x):∃p,a=.Name x p:=by
 unfold Qi4 at h;split at h
 ·cases h;exact⟨_,rfl⟩
 ·cases h
theorem Qbl:Qg8 b≠some .rev:=fun h=>by
 unfold Qg8 at h;split at h
 ·split at h<;>cases h
 ·cases h
theorem Qae{a:Expr}(g:GX T A C X)(hu:X.A.units+1<cLine)(S:Snd T A C X cf m)(h:Qf (m+1) C (.Subscript a b p)=some ir):PE X (.Subscript a b p) (TI T A X.K (ev T cf d ir)):=by
 simp only [QnQ]at h;split at h
 ·rename_i lo hi hb;obtain⟨p2,rfl⟩:=Qdy hb;exact Qfy S h
 ·rename_i hb;exact absurd hb Qbl
 ·cases h
 ·rename_i hb;have hs:=Qb6 hb;refine QD fun d=>?_;simp only [Option.bind_eq_some_iff]at h;obtain⟨b',hb',h⟩:=h
  have gen:((Qf m C a).bind fun a'=>some (E.ix a' b'))=some ir->PE X (.Subscript a b p) (TI T A X.K (ev T cf (d+1) ir)):=fun h=>by
   simp only [Option.bind_eq_some_iff]at h;obtain⟨a',ha,h⟩:=h;cases h;exact Qgn hu g.txt (S.e d a a' ha) (S.e d b b' hb') hs
  split at h
  ·rename_i ks vs hh
   exact absurd hh (by cases a<;>simp [Qi4])
  ·rename_i x hh;split at h
   ·rename_i k ht;obtain⟨px,rfl⟩:=QgC hh;cases h;unfold Qfi at ht;split at ht
    case isFalse=>cases ht
    rename_i c;simp only [Bool.and_eq_true,decide_eq_true_eq]at c;split at ht
    case h_2=>cases ht
    rename_i k' hx;split at ht
    ·cases ht;exact Qkm g (S.e d b b' hb') hs c.1 c.2 hx
    ·cases ht
   ·exact gen h
  ·exact gen h
theorem hd0{C:Ctx}(h:¬hdC C=true):hdC C=false:=by
 cases q:hdC C with
 | true=>exact absurd q h
 | false=>rfl
theorem QkW{elt:Expr}{gens:List Comprehension}{scope:Scope}(h:Qf (m+1) C (.ListComp elt gens scope p)=some ir):hdC C=false:=by
 simp only [QmG]at h;split at h
 case h_2=>cases h
 split at h
 case isFalse=>cases h
 rename_i ok;simp only [Bool.and_eq_true,Bool.not_eq_true']at ok;exact ok.2
theorem Qbn{f:Expr}{args:List Expr}{kws:List Keyword}(g:GX T A C X)(F:Fc X T A cf k)(hr:hdC C=false->Room (k+1) X.A)(hu:X.A.units+64<cLine)(S:Snd T A C X cf m)(h:Qf (m+1) C (.Call f args kws p)=some ir):PE X (.Call f args kws p) (TI T A X.K (ev T cf d ir)):=by
 refine QD fun d=>?_
 cases kws with
 | cons kw kws=>cases f<;>exact nomatch (show(none:Option E)=some _ from h)
 | nil =>
  cases f with
  | Name x px =>
   simp only [QnO]at h;split at h
   ·cases h
   rename_i hn;have n1:x≠"__debug__":=fun z=>hn (.inl z);have n2:x≠"__name__":=fun z=>hn (.inr (.inl z))
   have hg:YW C x=true:=by
    cases q:YW C x with
    | true=>rfl
    | false=>exact absurd (.inr (.inr q)) hn
   split at h
   ·rename_i i hx;split at h
    ·cases h
    rename_i hh;simp only [Option.bind_eq_some_iff]at h;obtain⟨es,ha,h⟩:=h;exact QfB g F ((hr (hd0 hh)).mono (Nat.le_succ _)) S hg n1 hx ha h
   ·rename_i i hx;split at h
    ·cases h
    rename_i hh;simp only [Option.bind_eq_some_iff]at h;obtain⟨es,ha,h⟩:=h;cases h;exact QhM g F (hr (hd0 hh)) S hg n1 hx ha
   ·cases h
   ·cases h
   ·split at h
    ·cases h
    rename_i hx;split at h
    ·rename_i e;subst e;split at h
     ·rename_i a t pt;split at h
      ·rename_i c;simp only [Option.bind_eq_some_iff]at h;obtain⟨a',ha,ty,ht,h⟩:=h;cases h;exact Qko g S hg hx c.1 c.2.1 c.2.2 ht ha
      ·cases h
     ·cases h
    ·split at h
     ·cases h
     rename_i hh;have hh:=hd0 hh;split at h
     ·rename_i ra hra;simp only [Option.bind_eq_some_iff]at h;obtain⟨es,ha,h⟩:=h;cases h;exact nomatch hra
     ·split at h
      ·rename_i a hra;simp only [Option.bind_eq_some_iff]at h;obtain⟨a',ha,h⟩:=h;cases h;exact nomatch hra
      ·simp only [Option.bind_eq_some_iff]at h;obtain⟨b,hb,es,ha,h⟩:=h;cases h
       exact Qm9 g hh (by omega) S hg n1 n2 hb ha
  | Attribute o x pa =>
   simp only [QnN]at h;split at h
   case isFalse=>cases h
   rename_i c;simp only [Bool.and_eq_true,decide_eq_true_eq]at c;split at h
   ·rename_i i hx;split at h
    ·cases h
    rename_i hh;simp only [Option.bind_eq_some_iff]at h;obtain⟨o',ho,es,ha,h⟩:=h;cases h;exact QhL g F ((hr (hd0 hh)).mono (Nat.le_succ _)) S c.1.1 c.1.2 c.2 hx ho ha
   ·simp only [Option.bind_eq_some_iff]at h;obtain⟨b,hb,o',ho,es,ha,h⟩:=h;cases h
    exact Qm8 (by omega) g.txt S hb c.1.1 c.1.2 c.2 ho ha
  | _=>exact nomatch (show(none:Option E)=some _ from h)
theorem Qb9(g:GX T A C X)(F:Fc X T A cf k)(hr:hdC C=false->Room (k+1) X.A)(hu:X.A.units+64<cLine)(S:Snd T A C X cf m)(cp:∀d elt gens scope p ir,Qf (m+1) C (.ListComp elt gens scope p)=some ir->CompParts X elt gens scope (TI T A X.K (ev T cf d ir)))(d:Nat)(e:Expr)(ir:E)(h:Qf (m+1) C e=some ir):PE X e (TI T A X.K (ev T cf d ir)):=by
 cases e with
 | Constant c j p=>exact QfA h
 | Name x p=>exact QhK g h
 | BinOp a o b p=>exact Qkp S h
 | UnaryOp o a p =>
  cases o with
  | USub=>exact Qkn S h
  | Not=>exact(QhJ g.txt S h).1
  | _=>exact nomatch (show(none:Option E)=some _ from h)
 | BoolOp o vs p =>
  cases vs with
  | nil=>cases o<;>first|exact nomatch (show(none:Option E)=some _ from h)|simp [Qf]at h
  | cons a r =>
   cases o with
   | And=>exact(S.an d a r p ir h).2
   | Or=>exact(S.orr d a r p ir h).2
 | Compare a os bs p =>
  match os,bs,h with
  | [o],[b],h=>exact(QhO g.txt g.tab hu S h).1
  | [_,_],[_,_],h=>exact nomatch (show(none:Option E)=some _ from h)
  | [],_,h=>exact nomatch (show(none:Option E)=some _ from h)
  | [_],[],h=>exact nomatch (show(none:Option E)=some _ from h)
  | [_],_::_::_,h=>exact nomatch (show(none:Option E)=some _ from h)
  | [_,_],[],h=>exact nomatch (show(none:Option E)=some _ from h)
  | [_,_],[_],h=>exact nomatch (show(none:Option E)=some _ from h)
  | [_,_],_::_::_::_,h=>exact nomatch (show(none:Option E)=some _ from h)
  | _::_::_::_,_,h=>exact nomatch (show(none:Option E)=some _ from h)
 | IfExp t a b p=>exact Qfz S h
 | Tuple es j p=>exact Qfw S h
 | List es p=>exact QhN S h
 | Subscript a b p=>exact Qae g (by omega) S h
 | ListComp elt gens scope p=>exact(cp d elt gens scope p ir h).pe (g.calm (QkW h))
 | Dict ks vs p =>
  cases ks with
  | cons k0 ks=>exact nomatch (show(none:Option E)=some _ from h)
  | nil =>
   cases vs with
   | cons v0 vs=>exact nomatch (show(none:Option E)=some _ from h)
   | nil =>
    simp only [QnM]at h;cases h;refine QD fun d=>QR QdO ?_;rintro σ H Q ⟨α,ρ,hs,u,hs',rs,R,e,q⟩;simp only [ev]at e;cases e;intro p hp;obtain⟨R',E'⟩:=R.new (o:=.dic []) hp ⟨[],Qq,.nil⟩
    exact q _ _ _ E' R' ⟨p,by rw [<-R.h.len];exact QW,rfl⟩
 | Attribute a f p=>exact QhQ g S h
 | Call f args kws p=>exact Qbn g F hr hu S h
 | _=>exact nomatch (show(none:Option E)=some _ from h)
theorem QT{e:Expr}(g:GX T A C X)(he:∀whole,isTrue e X.env whole=(do let v <-whole;standAt e.pos;holding [v] (truthy v)))(h:∀d,PE X e (TI T A X.K (ev T cf d ir)))(hir:∀d ρ hs,evT T cf (d+1) ir ρ hs=bd (ev T cf d ir ρ hs) fun u h1=>(Qi T u h1).map fun b=>(b,h1)):
  PT X e (TIT T A X.K (evT T cf d ir)):=by
 refine QaU fun d=>?_;refine Qg3 (QdE (h d) he) ?_;rintro σ H Q ⟨α,ρ,hs,u,hs',rs,R,e,q⟩;rw [hir]at e;obtain⟨u1,h1,e1,e⟩:=Qc e;simp only [Option.map_eq_some_iff]at e;obtain⟨b,e2,e⟩:=e;cases e;exact TI.run rs R e1 fun α1 x H1 E1 R1 r1 rs1=>⟨_,QbX g.txt R1 e2 r1,q α1 H1 E1 R1⟩
theorem QK(h:QeF ir=true):∀d ρ hs,evT T cf (d+1) ir ρ hs=bd (ev T cf d ir ρ hs) fun u h1=>(Qi T u h1).map fun b=>(b,h1):=by
 intro d ρ hs
 cases ir<;>first|rfl|cases h
theorem QhF(g:GX T A C X)(F:Fc X T A cf k)(hr:hdC C=false->Room (k+1) X.A)(hu:X.A.units+64<cLine)(S:Snd T A C X cf m)(cp:∀d elt gens scope p ir,Qf (m+1) C (.ListComp elt gens scope p)=some ir->CompParts X elt gens scope (TI T A X.K (ev T cf d ir)))(d:Nat)(e:Expr)(ir:E)(hne:∀t a b p,e≠.IfExp t a b p)(ok:okT e ir=true)(h:Qf (m+1) C e=some ir):PT X e (TIT T A X.K (evT T cf d ir)):=by
 have all:=fun d=>Qb9 g F hr hu S cp d e ir h
 cases e with
 | Constant c j p=>exact QT g (fun _=>rfl) all (QK ok)
 | Name x p=>exact QT g (fun _=>rfl) all (QK ok)
 | BinOp a o b p=>exact QT g (fun _=>rfl) all (QK ok)
 | UnaryOp o a p =>
  cases o with
  | USub=>exact QT g (fun _=>rfl) all (QK ok)
  | Not=>exact(QhJ g.txt S h).2
  | _=>exact nomatch (show(none:Option E)=some _ from h)
 | BoolOp o vs p =>
  cases vs with
  | nil=>cases o<;>first|exact nomatch (show(none:Option E)=some _ from h)|simp [Qf]at h
  | cons a r =>
   cases o with
   | And=>exact(S.an d a r p ir h).1.pt
   | Or=>exact(S.orr d a r p ir h).1.pt
 | Compare a os bs p =>
  match os,bs,h with
  | [o],[b],h=>exact(QhO g.txt g.tab hu S h).2
  | [_,_],[_,_],h=>exact nomatch (show(none:Option E)=some _ from h)
  | [],_,h=>exact nomatch (show(none:Option E)=some _ from h)
  | [_],[],h=>exact nomatch (show(none:Option E)=some _ from h)
  | [_],_::_::_,h=>exact nomatch (show(none:Option E)=some _ from h)
  | [_,_],[],h=>exact nomatch (show(none:Option E)=some _ from h)
  | [_,_],[_],h=>exact nomatch (show(none:Option E)=some _ from h)
  | [_,_],_::_::_::_,h=>exact nomatch (show(none:Option E)=some _ from h)
  | _::_::_::_,_,h=>exact nomatch (show(none:Option E)=some _ from h)
 | IfExp t a b p=>exact absurd rfl (hne t a b p)
 | Tuple es j p=>exact QT g (fun _=>rfl) all (QK ok)
 | List es p=>exact QT g (fun _=>rfl) all (QK ok)
 | Subscript a b p=>exact QT g (fun _=>rfl) all (QK ok)
 | ListComp elt gens scope p=>exact QT g (fun _=>rfl) all (QK ok)
 | Dict ks vs p=>exact QT g (fun _=>rfl) all (QK ok)
 | Attribute a f p=>exact QT g (fun _=>rfl) all (QK ok)
 | Call f args kws p=>exact QT g (fun _=>rfl) all (QK ok)
 | _=>exact nomatch (show(none:Option E)=some _ from h)
theorem Qm5:Snd T A C X cf 0 where
 e:=fun d e ir h=>by first|exact nomatch (show(none:Option E)=some _ from h)|simp [Qf]at h
 t:=fun d e ir h=>by simp [compT]at h
 an:=fun d a r p ir h=>by simp [compAnd]at h
 orr:=fun d a r p ir h=>by simp [compOr]at h
 a:=fun d es irs h=>by simp [compA]at h
 o:=fun d e ir h=>by simp [compO]at h
structure Snd2(T:Tbl)(A:Adr)(C:Ctx)(X:Cx)(cf:Cf)(m:Nat):Prop where
 s:Snd T A C X cf m
 w:∀d it src tg,compSrc m C it=some src->(QjW src=true->∃elts kt pt,tg=.Tuple elts kt pt)->PI X tg it (TIW T A X.K (fun ρ hs=>Ql T (ev T cf d) ρ src hs))
 c:∀d elt gens scope p ir,Qf m C (.ListComp elt gens scope p)=some ir->CompParts X elt gens scope (TI T A X.K (ev T cf d ir))
theorem QhX{tl:Option Expr}{t:Option E}{Y:Cx}{C':Ctx}(S:Snd T A C' Y cf m)(h:compTO (m+1) C' tl=some t):PTO Y tl (TIT T A Y.K (JO (evT T cf d) t)):=by
 cases tl with
 | none =>
  simp only [compTO]at h;cases h;rintro σ H Q ⟨α,ρ,hs,u,hs',rs,R,e,q⟩;simp only [JO]at e;cases e;exact q α H Ext.refl R
 | some e =>
  simp only [compTO,Option.bind_eq_some_iff]at h;obtain⟨e',he,h⟩:=h;cases h;exact(S.t d e e' he).1
theorem QbZ{tg:Expr}{b:Bool}{xs:List Str}{src:Src}(ht:Qj1 tg b xs)(ok:Qcs src (tgN b 0)=true):QjW src=true->∃elts kt pt,tg=.Tuple elts kt pt:=by
 intro hp
 rcases ht with⟨rfl,_⟩|⟨rfl,x,p,y,q,k,pt,rfl,_⟩
 ·cases src<;>first|(cases hp;done)|(cases ok;done)
 ·exact⟨_,_,_,rfl⟩
theorem YY(g:GX T A C X)(S:Snd2 T A C X cf m)(SB:∀xs scope C0 s H fp,Y1 C xs scope=true->Snd2 T A (C.inner xs scope) (X.block xs scope C0 s H fp) cf m)(ST:∀xs scope C0 s H fp tl t d,Y1 C xs scope=true->compTO m (C.inner xs scope) tl=some t->PTO (X.block xs scope C0 s H fp) tl (TIT T A X.K (JO (evT T cf d) t)))(d:Nat)(elt:Expr)(gens:List Comprehension)(scope:Scope)(p:Pos)(ir:E)
  (h:Qf (m+1) C (.ListComp elt gens scope p)=some ir):CompParts X elt gens scope (TI T A X.K (ev T cf d ir)):=by
 simp only [QmG]at h;split at h
 case h_2=>cases h
 rename_i gn hgen;split at h
 case isFalse=>cases h
 rename_i ok;simp only [Bool.and_eq_true,Bool.not_eq_true']at ok;obtain⟨ok,hh⟩:=ok;simp only [Option.bind_eq_some_iff]at h;obtain⟨src,hsrc,h⟩:=h;split at h
 case isFalse=>cases h
 rename_i oks;simp only [Option.bind_eq_some_iff]at h;obtain⟨t,ht,el,hel,h⟩:=h;cases h;obtain⟨tg,rfl,htg⟩:=QbD hgen;obtain⟨ck,gb⟩:=ZY g ok
 have hn:gn.xs.length=nN gn.b:=by
  rcases htg with⟨e,x,p,_,e'⟩|⟨e,x,p,y,q,k,pt,_,e'⟩<;>rw [e,e']<;>rfl
 cases d with
 | zero =>
  exact⟨tg,gn.iter,gn.tl,gn.xs,nN gn.b,_,_,TIT T A X.K (JO (evT T cf 0) t),TI T A X.K (ev T cf 0 el),rfl,ck,S.w 0 gn.iter src tg hsrc (QbZ htg oks),hn,(fun C0 s H fp=>QaW g hh ck (gb C0 s H fp) htg),(fun C0 s H fp=>ST _ _ C0 s H fp _ _ 0 ok ht),(fun C0 s H fp=>show PE _ elt (TI T A X.K (ev T cf 0 el))from(SB _ scope C0 s H fp ok).s.e 0 elt el hel),Qcv hsrc,fun σ H Q _ ⟨_,_,_,_,_,_,_,e,_⟩=>nomatch e⟩
 | succ d =>
  exact⟨tg,gn.iter,gn.tl,gn.xs,nN gn.b,_,_,TIT T A X.K (JO (evT T cf d) t),TI T A X.K (ev T cf d el),rfl,ck,S.w d gn.iter src tg hsrc (QbZ htg oks),hn,(fun C0 s H fp=>QaW g hh ck (gb C0 s H fp) htg),(fun C0 s H fp=>ST _ _ C0 s H fp _ _ d ok ht),(fun C0 s H fp=>show PE _ elt (TI T A X.K (ev T cf d el))from(SB _ scope C0 s H fp ok).s.e d elt el hel),Qcv hsrc,fun σ H Q hl hq=>QcX g.txt hl hq⟩
theorem Qfu:∀(m:Nat) {C:Ctx} {X:Cx},GX T A C X->Fc X T A cf k->(hdC C=false->Room (k+1) X.A)->X.A.units+64<cLine->Snd2 T A C X cf m
 | 0,C,X,g,F,hr,hu=>⟨Qm5,fun d it src tg h=>by simp [compSrc]at h,fun d elt gens scope p ir h=>by first|exact nomatch (show(none:Option E)=some _ from h)|simp [Qf]at h⟩
 | 1,C,X,g,F,hr,hu=>by
  have S0:=Qfu 0 g F hr hu;have S:=S0.s
  have cp:=YY g S0 (fun x scope C0 s H fp ok=>Qfu 0 ((ZY g ok).2 C0 s H fp) ⟨F.ok,F.some,F.df,F.xf⟩ hr hu) (fun xs scope C0 s H fp tl t d ok h=>by simp [compTO]at h)
  refine⟨⟨Qb9 g F hr hu S cp,fun d e ir h=>?_,QhR S,Qmf S,QeC S,QhI S⟩,fun d it src tg h hz=>QhH g S h hz,cp⟩;cases e<;>exact nomatch (show(none:Option E)=some _ from h)
 | m+2,C,X,g,F,hr,hu=>by
  have S1:=Qfu (m+1) g F hr hu;have S:=S1.s;have S':=Qfu m g F hr hu;have cp:=YY g S1 (fun x scope C0 s H fp ok=>Qfu (m+1) ((ZY g ok).2 C0 s H fp) ⟨F.ok,F.some,F.df,F.xf⟩ hr hu) (fun xs scope C0 s H fp tl t d ok h=>QhX (Qfu m ((ZY g ok).2 C0 s H fp) ⟨F.ok,F.some,F.df,F.xf⟩ hr hu).s h);refine⟨⟨Qb9 g F hr hu S cp,fun d e ir h=>?_,QhR S,Qmf S,QeC S,QhI S⟩,fun d it src tg h hz=>QhH g S h hz,cp⟩
  have hne:∀t a b p,e≠.IfExp t a b p:=by
   rintro t a b p rfl;simp [compT]at h
  have h':((Qf (m+1) C e).bind fun ir=>if okT e ir=true then some ir else none)=some ir:=by
   cases e<;>first|exact h|(simp [compT]at h;done)
  simp only [Option.bind_eq_some_iff]at h';obtain⟨ir',he,h'⟩:=h';split at h'
  ·rename_i ok;cases h';exact⟨QhF g F hr hu S'.s S1.c d e ir hne ok he,S.e d e ir he⟩
  ·cases h'
end
end Iv
namespace Iv
open PySem PySem.Spec PyProof.Rows L2
variable {ir:E}{D:Ends}{env:Env}{e i o:Expr}{fl:Fl}{α:List Addr}{ts:List Expr}{d l:Nat}{p:Pos}{ρ':Rho}{st:Stmt}{t:Tg}
section
variable {X:Cx}{T:Tbl}{A:Adr}{C:Ctx}{cf:Cf}{m k:Nat}
theorem Qdc{t:TS}(h:∀D σ H,¬t D σ H):PS X st t:=fun _ _ σ H D _ q=>(h D σ H q).elim
theorem Qet{st:List Stmt}{t:TS}(h:∀D σ H,¬t D σ H):PSs X st t:=fun _ _ σ H D _ q=>(h D σ H q).elim
theorem QeJ{tg:Option Expr}(h:Qf m C e=some ir)(hn:∀elt gens scope p,e≠.ListComp elt gens scope p):swapsWith e tg l env=pure false:=by
 cases e<;>first|rfl|exact absurd rfl (hn _ _ _ _)|(cases m<;>exact nomatch (show(none:Option E)=some _ from h))
theorem Qf8{f:Str}(h:Qf m C e=some ir):swapsWith e (some (.Attribute o f p)) l env=pure false:=by
 cases e<;>first|rfl|(cases m<;>exact nomatch (show(none:Option E)=some _ from h))
theorem Qm7{tg:Expr}(hc:X.calm=true)(g:GX T A C X)(fl:∀x,X.fn x=true\/X.env.scope.names.lookup x=some .local)(h:Y0 C tg=some t):PG X tg (gT X.K t):=by
 have nm:∀{x:Str} {p:Pos} {i:Nat},Qau C x=true->idx x C.N=some i->PG X (.Name x p) (Qav i):=fun {x p i} h1 h2=>Qah g.nd (by rw [g.N];exact ZB h2) (QcD g h1) (fl x)
 unfold Y0 at h;split at h
 ·split at h
  ·rename_i hl;simp only [Option.map_eq_some_iff]at h;obtain⟨i,hi,rfl⟩:=h;exact nm hl hi
  ·cases h
 ·split at h
  ·rename_i c;simp only [Bool.and_eq_true]at c;simp only [Option.bind_eq_some_iff,Option.map_eq_some_iff]at h;obtain⟨i,hi,j,hj,rfl⟩:=h;exact QeG hc (Yj (nm c.1.1 hi) (Yj (nm c.1.2 hj) Qcj))
  ·cases h
 ·cases h
theorem QbJ{pos:Pos}(h:ZE i=true):∀v,assign (.Subscript o i pos) env v=(do
   let ov <-holding [v] (eval o env);let iv <-holding [v,ov] (eval i env)
   standAt pos
   holding [v,ov,iv] (setItem ov iv v)
   release [v,ov,iv] []):=by
 intro v
 cases i<;>first|rfl|cases h
theorem Qf7(h:Qf m C e=some ir):swapsWithSole [.Subscript o i p] e l env=pure false:=by
 cases e<;>first|rfl|(cases m<;>exact nomatch (show(none:Option E)=some _ from h))
theorem Qeh(h:QmB e=some true):∃x j q,e=.Constant (.str x) j q:=by
 cases e with
 | Constant c j q=>cases c<;>first|exact⟨_,_,_,rfl⟩|cases h
 | _=>cases h
theorem Yl{a:As}(h:Qhf ts=some a):∃t,ts=[t]/\as1 t=some a:=by
 match ts,h with
 | [t],h=>exact⟨t,rfl,h⟩
theorem Qg0{x:Str}(h:Qhf ts=some (.nm x)):∃p,ts=[.Name x p]:=by
 obtain⟨t,rfl,h'⟩:=Yl h;clear h;have h:=h';clear h';unfold as1 at h;split at h
 ·cases h;exact⟨_,rfl⟩
 ·cases h
 ·cases h
 ·split at h
  ·unfold QbV at h;split at h<;>cases h
  ·cases h
 ·cases h
theorem Qg1{f:Str}(h:Qhf ts=some (.at o f)):∃p,ts=[.Attribute o f p]:=by
 obtain⟨t,rfl,h'⟩:=Yl h;clear h;have h:=h';clear h';unfold as1 at h;split at h
 ·cases h
 ·cases h;exact⟨_,rfl⟩
 ·cases h
 ·split at h
  ·unfold QbV at h;split at h<;>cases h
  ·cases h
 ·cases h
theorem Qes(h:Qhf ts=some (.sub o i)):∃p,ts=[.Subscript o i p]:=by
 obtain⟨t,rfl,h'⟩:=Yl h;clear h;have h:=h';clear h';unfold as1 at h;split at h
 ·cases h
 ·cases h
 ·cases h;exact⟨_,rfl⟩
 ·split at h
  ·unfold QbV at h;split at h<;>cases h
  ·cases h
 ·cases h
theorem Qer{x y:Str}{q:Pos}(h:Qhf ts=some (.two x p y q)):∃kt pt,ts=[.Tuple [.Name x p,.Name y q] kt pt]:=by
 obtain⟨t,rfl,h'⟩:=Yl h;clear h;have h:=h';clear h';unfold as1 at h;split at h
 ·cases h
 ·cases h
 ·cases h
 ·split at h
  ·unfold QbV at h;split at h
   ·cases h;exact⟨_,_,rfl⟩
   ·cases h
  ·cases h
 ·cases h
theorem RUs.set{u:U}{v:V}(p:Nat)(r:RU A α u v):∀{us:List U} {vs:List V},RUs A α us vs->RUs A α (us.set p u) (vs.set p v):=fun {us vs} h=>by
 induction h generalizing p with
 | nil=>exact .nil
 | cons a t ih =>
  cases p with
  | zero=>exact .cons r t
  | succ p=>exact .cons a (ih p)
theorem Qhu{tg:Expr}{src:Src}(ht:Y0 C tg=some t)(ok:Qcs src t=true):QjW src=true->∃elts kt pt,tg=.Tuple elts kt pt:=by
 intro hp
 cases tg with
 | Tuple elts kt pt=>exact⟨_,_,_,rfl⟩
 | Name x p =>
  simp only [Y0]at ht;split at ht
  ·simp only [Option.map_eq_some_iff]at ht;obtain⟨i,_,rfl⟩:=ht
   cases src<;>first|(cases hp;done)|(cases ok;done)
  ·cases ht
 | _=>simp [Y0]at ht
structure SndS(T:Tbl)(A:Adr)(C:Ctx)(X:Cx)(cf:Cf)(m:Nat):Prop where
 s:∀d st ir,Z6 m C st=some ir->PS X st (TIS T A X.K (ex T cf d ir))
 ss:∀d sts irs,compSs m C sts=some irs->PSs X sts (TIS T A X.K (exs T cf d irs))
theorem QkR{K:PySem.W.Frag}{ir:S}:∀D σ H,¬TIS T A K (ex T cf 0 ir) D σ H:=fun _ _ _ ⟨_,_,_,_,_,_,_,_,h,_⟩=>nomatch h
theorem Qiz{K:PySem.W.Frag}{irs:List S}:∀D σ H,¬TIS T A K (exs T cf 0 irs) D σ H:=fun _ _ _ ⟨_,_,_,_,_,_,_,_,h,_⟩=>nomatch h
theorem QdH{ir:S}(h:∀d',PS X st (TIS T A X.K (ex T cf (d'+1) ir))):PS X st (TIS T A X.K (ex T cf d ir)):=by
 cases d with
 | zero=>exact Qdc QkR
 | succ d=>exact h d
theorem TIS.run{K:PySem.W.Frag}{ρ:Rho}{σ:St}{hs h1:Hs}{H:Hp}{f:Ex}(rs:RS A α ρ σ)(rp:Rep T A K α hs H)(h:f ρ hs=some (fl,ρ',h1))
  (k:∀α1 σ1 H1,Ext α α1 H H1->Rep T A K α1 h1 H1->RS A α1 ρ' σ1->flE A α1 D σ1 H1 fl):TIS T A K f D σ H:=⟨α,ρ,hs,fl,ρ',h1,rs,rp,h,k⟩
theorem Qef{body:List S}{w:Wk}{J:It}{K:PySem.W.Frag}{α0:List Addr}{H0:Hp}{σ0:St}{ρ0:Rho}{h0 hs':Hs}{n:Nat}(hK:K=X.K)(tx:Txt T A X.K X.mg)(rs0:RS A α0 ρ0 σ0)(R0:Rep T A X.K α0 h0 H0)(W0:WJ A X.K α0 J w)
  (e0:JL T w t (exs T cf d body) n 0 ρ0 h0=some (fl,ρ',hs'))
  (q:∀α' σ' H',Ext α0 α' H0 H'->Rep T A X.K α' hs' H'->RS A α' ρ' σ'->flE A α' D σ' H' fl):
  ∃W:Nat->Nat->St->Hp->Prop,(∃m,W 0 m σ0 H0)/\∀i m σ H,W i m σ H->(J.stop i H/\D.nx σ H)\/(J.go i H/\∃N:St->Hp->Prop,(∀σ' H',N σ' H'->∃m',m'<m/\W (i+1) m' σ' H') /\
   ∀x H',J.yld i H x H'->gT X.K t x σ H' fun σ2 H2=>TIS T A X.K (exs T cf d body) { D with nx:=N,ct:=N,bk:=D.nx } σ2 H2):=by
 refine⟨fun i m σ H=>∃α ρ hs,RS A α ρ σ/\Rep T A X.K α hs H/\Ext α0 α H0 H/\JL T w t (exs T cf d body) m i ρ hs=some (fl,ρ',hs'),⟨n,α0,ρ0,h0,rs0,R0,Ext.refl,e0⟩,?_⟩;rintro i m σ H ⟨α,ρ,hs,rs,R,E,e⟩
 cases m with
 | zero=>cases e
 | succ m =>
  have W:=W0.mono E.pre;simp only [JL]at e;split at e
  ·cases e
  ·rename_i ei;cases e;exact .inl ⟨Qa6 tx R W ei,q α σ H E R rs⟩
  ·rename_i x ei;split at e
   ·cases e
   ·rename_i ρ1 et;obtain⟨go,yl⟩:=QcG tx R W rs ei et;refine .inr ⟨go,fun σ' H'=>∃α ρ hs,RS A α ρ σ'/\Rep T A X.K α hs H'/\Ext α0 α H0 H'/\JL T w t (exs T cf d body) m (i+1) ρ hs=some (fl,ρ',hs'),fun σ' H' z=>⟨m,Nat.lt_succ_self _,z⟩,?_⟩;intro v H' hy;refine yl v H' _ hy fun σ2 rs2 R2 E2=>?_;have E02:Ext α0 α H0 H':=E.trans E2 R2.h;split at e
    ·rename_i ρ2 h2 eb;exact TIS.run rs2 R2 eb fun α3 σ3 H3 E3 R3 rs3=>⟨α3,ρ2,h2,rs3,R3,E02.trans E3 R3.h,e⟩
    ·rename_i ρ2 h2 eb;exact TIS.run rs2 R2 eb fun α3 σ3 H3 E3 R3 rs3=>⟨α3,ρ2,h2,rs3,R3,E02.trans E3 R3.h,e⟩
    ·rename_i ρ2 h2 eb;cases e;exact TIS.run rs2 R2 eb fun α3 σ3 H3 E3 R3 rs3=>q α3 σ3 H3 (E02.trans E3 R3.h) R3 rs3
    ·rename_i n1 n2 n3
     cases fl with
     | next=>exact absurd e (n1 _ _)
     | cont=>exact absurd e (n2 _ _)
     | brk=>exact absurd e (n3 _ _)
     | ret u=>exact TIS.run rs2 R2 e fun α3 σ3 H3 E3 R3 rs3=>q α3 σ3 H3 (E02.trans E3 R3.h) R3 rs3
theorem Qbh{tir:E}{body:List S}{α0:List Addr}{H0:Hp}{σ0:St}{ρ0:Rho}{h0 hs':Hs}{n:Nat}(rs0:RS A α0 ρ0 σ0)(R0:Rep T A X.K α0 h0 H0)
  (e0:Q9 (evT T cf d tir) (exs T cf d body) n ρ0 h0=some (fl,ρ',hs'))
  (q:∀α' σ' H',Ext α0 α' H0 H'->Rep T A X.K α' hs' H'->RS A α' ρ' σ'->flE A α' D σ' H' fl):QeA (TIT T A X.K (evT T cf d tir)) (TIS T A X.K (exs T cf d body)) D σ0 H0:=by
 refine⟨fun m σ H=>∃α ρ hs,RS A α ρ σ/\Rep T A X.K α hs H/\Ext α0 α H0 H/\Q9 (evT T cf d tir) (exs T cf d body) m ρ hs=some (fl,ρ',hs'),⟨n,α0,ρ0,h0,rs0,R0,Ext.refl,e0⟩,?_⟩;rintro m σ H ⟨α,ρ,hs,rs,R,E,e⟩
 cases m with
 | zero=>cases e
 | succ m =>
  simp only [Q9]at e;split at e
  ·cases e
  ·rename_i h1 et;cases e;exact TIT.run rs R et fun α1 H1 E1 R1 rs1=>q α1 σ H1 (E.trans E1 R1.h) R1 rs1
  ·rename_i h1 et;refine TIT.run rs R et fun α1 H1 E1 R1 rs1=>?_;rw [if_pos rfl];refine⟨fun σ' H'=>∃α ρ hs,RS A α ρ σ'/\Rep T A X.K α hs H'/\Ext α0 α H0 H'/\Q9 (evT T cf d tir) (exs T cf d body) m ρ hs=some (fl,ρ',hs'),fun σ' H' z=>⟨m,Nat.lt_succ_self _,z⟩,?_⟩;have E01:=E.trans E1 R1.h;split at e
   ·rename_i ρ2 h2 eb;exact TIS.run rs1 R1 eb fun α3 σ3 H3 E3 R3 rs3=>⟨α3,ρ2,h2,rs3,R3,E01.trans E3 R3.h,e⟩
   ·rename_i ρ2 h2 eb;exact TIS.run rs1 R1 eb fun α3 σ3 H3 E3 R3 rs3=>⟨α3,ρ2,h2,rs3,R3,E01.trans E3 R3.h,e⟩
   ·rename_i ρ2 h2 eb;cases e;exact TIS.run rs1 R1 eb fun α3 σ3 H3 E3 R3 rs3=>q α3 σ3 H3 (E01.trans E3 R3.h) R3 rs3
   ·rename_i n1 n2 n3
    cases fl with
    | next=>exact absurd e (n1 _ _)
    | cont=>exact absurd e (n2 _ _)
    | brk=>exact absurd e (n3 _ _)
    | ret u=>exact TIS.run rs1 R1 e fun α3 σ3 H3 E3 R3 rs3=>q α3 σ3 H3 (E01.trans E3 R3.h) R3 rs3
theorem RF.put{α:List Addr}{x:Str}{i:Nat}{u:U}{v:V}(hk:T.fns'[i]?=some x)(nd:T.fns'.Nodup)(r:RU A α u v):∀{fs:List (Nat×U)} {fv:List (Str×V)},RF T A α fs fv->RF T A α (Qbp i u fs) (Jb x v fv)
 | _,_,.nil=>.cons ⟨hk,r⟩ .nil
 | _,_,.cons (a:=p) (b:=q) h t=>by
  obtain⟨pk,pu⟩:=p;obtain⟨qx,qv⟩:=q;simp only [Qbp,Jb];by_cases e:pk=i
  ·subst e;have e2:qx=x:=Option.some.inj (h.1.symm.trans hk);subst e2;rw [if_pos rfl,if_pos rfl];exact .cons ⟨hk,r⟩ t
  ·have n2:¬qx=x:=fun z=>by
    subst z;obtain⟨l1,q1⟩:=List.getElem?_eq_some_iff.mp hk;obtain⟨l2,q2⟩:=List.getElem?_eq_some_iff.mp h.1;exact e ((List.getElem_inj nd).mp (q2.trans q1.symm))
   rw [if_neg e,if_neg n2];exact .cons h (RF.put hk nd r t)
theorem RF.length{fs:List (Nat×U)}{fv:List (Str×V)}(r:RF T A α fs fv):fs.length=fv.length:=Paired.length r
structure Bd(X:Cx):Prop where
 stk:X.stack=X.env::X.outer
 frm:X.env.frame=some X.env.locals
 ex:X.ex=[]
 cm:X.calm=true
theorem QhG(bX:Bd X)(F:Fc X T A cf k)(hr:Room k X.A)(hu:X.A.units+1<cLine)(g:GX T A C X)(fl:∀x,X.fn x=true\/X.env.scope.names.lookup x=some .local)(S2:Snd2 T A C X cf m)(SS:SndS T A C X cf m)(d:Nat)(st:Stmt)(ir:Iv.S)(h:Z6 (m+1) C st=some ir):PS X st (TIS T A X.K (ex T cf d ir)):=by
 have S:=S2.s;refine QdH fun d=>?_
 cases st with
 | Pass p=>cases h;exact Z8 QfJ fun D σ H ⟨α,ρ,hs,fl,ρ',hs',rs,R,e,q⟩=>by cases e;exact q α σ H Ext.refl R rs
 | Break p=>cases h;exact Z8 QdI fun D σ H ⟨α,ρ,hs,fl,ρ',hs',rs,R,e,q⟩=>by cases e;exact q α σ H Ext.refl R rs
 | Continue p=>cases h;exact Z8 Qag fun D σ H ⟨α,ρ,hs,fl,ρ',hs',rs,R,e,q⟩=>by cases e;exact q α σ H Ext.refl R rs
 | Expr e p =>
  unfold Z6 at h;try dsimp only at h;split at h
  ·rename_i hd;obtain⟨x,j,q,rfl⟩:=Qeh hd;cases h
   exact Z8 Qh2 fun D σ H ⟨α,ρ,hs,fl,ρ',hs',rs,R,e,q⟩=>by cases e;exact q α σ H Ext.refl R rs
  ·cases h
  ·rename_i hn;simp only [Option.map_eq_some_iff]at h;obtain⟨e',he,rfl⟩:=h
   refine Z8 (QfK (S.e d e e' he) (QeJ he fun elt gens scope q z=>by subst z;cases hn)) ?_
   rintro D σ H ⟨α,ρ,hs,fl,ρ',hs',rs,R,e,q⟩;simp only [ex]at e;obtain⟨u,h1,e1,e⟩:=Qc e;cases e;exact TI.run rs R e1 fun α1 x H1 E1 R1 r1 rs1=>q α1 σ H1 E1 R1 rs1
 | Return v p =>
  cases v with
  | none =>
   cases h
   exact Z8 QfI fun D σ H ⟨α,ρ,hs,fl,ρ',hs',rs,R,e,q⟩=>by cases e;exact q α σ H Ext.refl R rs .non rfl
  | some e =>
   unfold Z6 at h;simp only [Option.map_eq_some_iff]at h;obtain⟨e',he,rfl⟩:=h;refine Z8 (QhZ (S.e d e e' he)) ?_;rintro D σ H ⟨α,ρ,hs,fl,ρ',hs',rs,R,e,q⟩;simp only [ex]at e;obtain⟨u,h1,e1,e⟩:=Qc e;cases e;exact TI.run rs R e1 fun α1 x H1 E1 R1 r1 rs1=>q α1 σ H1 E1 R1 rs1 x r1
 | Raise x c p =>
  cases h
  exact Qdc fun D σ H ⟨_,_,_,_,_,_,_,_,e,_⟩=>by simp [ex]at e
 | AugAssign t o e p=>first|exact nomatch (show(none:Option Iv.S)=some _ from h)|simp [Z6]at h
 | If t a b p =>
  unfold Z6 at h;simp only [Option.bind_eq_some_iff]at h;obtain⟨t',ht,a',ha,b',hb,h⟩:=h;cases h;refine Z8 (QkB (S.t d t t' ht).1 (SS.ss d a a' ha) (SS.ss d b b' hb)) ?_;rintro D σ H ⟨α,ρ,hs,fl,ρ',hs',rs,R,e,q⟩;simp only [ex]at e;split at e
  ·rename_i h1 e1;refine TIT.run rs R e1 fun α1 H1 E1 R1 rs1=>?_;rw [if_pos rfl];exact TIS.run rs1 R1 e fun α2 σ2 H2 E2 R2 rs2=>q α2 σ2 H2 (E1.trans E2 R2.h) R2 rs2
  ·rename_i h1 e1;refine TIT.run rs R e1 fun α1 H1 E1 R1 rs1=>?_;rw [if_neg Bool.false_ne_true];exact TIS.run rs1 R1 e fun α2 σ2 H2 E2 R2 rs2=>q α2 σ2 H2 (E1.trans E2 R2.h) R2 rs2
  ·cases e
 | While t a b p =>
  cases b with
  | cons _ _=>first|exact nomatch (show(none:Option Iv.S)=some _ from h)|simp [Z6]at h
  | nil =>
   unfold Z6 at h;simp only [Option.bind_eq_some_iff]at h;obtain⟨t',ht,a',ha,h⟩:=h;cases h
   refine Z8 (QdG (by rw [g.xe];exact PassesOwn.never) (S.t d t t' ht).1 (SS.ss d a a' ha)) ?_
   rintro D σ H ⟨α,ρ,hs,fl,ρ',hs',rs,R,e,q⟩;simp only [ex]at e;exact Qbh rs R e q
 | For tg it a b p =>
  cases b with
  | cons _ _=>first|exact nomatch (show(none:Option Iv.S)=some _ from h)|simp [Z6]at h
  | nil =>
   unfold Z6 at h;simp only [Option.bind_eq_some_iff]at h;obtain⟨tg',ht,it',hi,h⟩:=h;split at h
   case isFalse=>cases h
   rename_i ok;simp only [Option.bind_eq_some_iff]at h;obtain⟨a',ha,h⟩:=h;cases h
   refine Z8 (Qh0 (by rw [g.xe];exact PassesOwn.never) bX.cm (S2.w d it _ tg hi (Qhu ht ok)) (Qm7 bX.cm g fl ht) (SS.ss d a a' ha) (Qcv hi)) ?_
   rintro D σ H ⟨α,ρ,hs,fl,ρ',hs',rs,R,e,q⟩;simp only [ex]at e;obtain⟨w,h1,e1,e⟩:=Qc e;refine⟨α,ρ,hs,w,h1,rs,R,e1,fun α1 J H1 E1 R1 W1=>?_⟩;exact Qef rfl g.txt (rs.mono E1.pre) R1 W1 e fun α2 σ2 H2 E2 R2 rs2=>q α2 σ2 H2 (E1.trans E2 R2.h) R2 rs2
 | Assign ts e p =>
  unfold Z6 at h;try dsimp only at h;split at h
  ·rename_i x ht;obtain⟨px,rfl⟩:=Qg0 ht;split at h
   case isFalse=>cases h
   rename_i hl;simp only [Option.bind_eq_some_iff]at h;obtain⟨i,hi,e',he,h⟩:=h;cases h
   have fin:∀e' D σ H,TIS T A X.K (ex T cf (d+1) (.set i e')) D σ H->TI T A X.K (ev T cf d e') σ H fun v H1=>D.nx (σ.set i (some v)) H1:=by
    intro e';rintro D σ H ⟨α,ρ,hs,fl,ρ',hs',rs,R,e,q⟩;simp only [ex]at e;obtain⟨u,h1,e1,e⟩:=Qc e;cases e;exact TI.run rs R e1 fun α1 x H1 E1 R1 r1 rs1=>q α1 _ H1 E1 R1 (rs1.set i r1)
   by_cases hc:∃elt gens scope q,e=.ListComp elt gens scope q
   ·obtain⟨elt,gens,scope,pc,rfl⟩:=hc;obtain⟨tg,iter,tl,xs,n,wi,gg,tt,te,rfl,ok,hi',hn',hg',ht',he',hf,imp⟩:=S2.c d elt gens scope pc e' he
    exact fun pins s σ H D I hq=>QfL bX.cm g.nd ok hi' hn' hg' ht' he' hf (by rw [g.N];exact ZB hi) (QcD g hl) (fl x) pins s σ H D I (imp σ H _ I.len (fin _ D σ H hq))
   ·exact Z8 (QeD (i:=i) g.nd (by rw [g.N];exact ZB hi) (QcD g hl) (S.e d e e' he) (QeJ he fun elt gens scope q z=>hc ⟨elt,gens,scope,q,z⟩) (fl x)) (fin _)
  ·rename_i o f ht;obtain⟨pa,rfl⟩:=Qg1 ht;split at h
   case isFalse=>cases h
   rename_i hn;simp only [Option.bind_eq_some_iff]at h;obtain⟨e',he,o',ho,i,hi,h⟩:=h;cases h
   have hk':T.fns'[i]?=some f:=by rw [<-g.CT];exact ZB hi
   refine Z8 (Qh1 (S.e d o o' ho) (S.e d e e' he) (Qf8 he)) ?_;rintro D σ H ⟨α,ρ,hs,fl,ρ',hs',rs,R,e,q⟩;simp only [ex]at e;obtain⟨u,h1,e1,e⟩:=Qc e;obtain⟨u2,h2,e2,e⟩:=Qc e;refine TI.run rs R e1 fun α1 x H1 E1 R1 r1 rs1=>TI.run rs1 R1 e2 fun α2 y H2 E2 R2 r2 rs2=>?_;split at e
   case h_2=>cases e
   rename_i n;split at e
   case h_2=>cases e
   rename_i c fs eo;split at e
   case isFalse=>cases e
   rename_i l;cases e;obtain⟨a,ha,rfl⟩:=r2;obtain⟨dx,fv,q1,rf,lc⟩:=R2.h.ob n a _ ha eo;have cl:=g.txt.cl c _ (List.getElem?_eq_getElem lc)
   refine⟨a,A.c c,dx,fv,rfl,q1,cl.cls,cl.nf f (List.mem_of_getElem? hk'),by rw [<-RF.length rf];omega,?_⟩
   obtain⟨R',E'⟩:=R2.put (o:=.ins c (Qbp i u fs)) (ho:=.ins (A.c c) dx (Jb f x fv)) ha ⟨dx,_,Qq,RF.put hk' g.txt.fd (r1.mono E2.pre) rf,lc⟩;exact q α2 σ _ ((E1.trans E2 R2.h).trans E' R'.h) R' rs2
  ·rename_i o i ht;obtain⟨ps,rfl⟩:=Qes ht;split at h
   case isFalse=>cases h
   rename_i nsl;simp only [Option.bind_eq_some_iff]at h;obtain⟨e',he,o',ho,i',hi,h⟩:=h;cases h;refine Z8 (Qh3 (S.e d e e' he) (Qh7 (S.e d o o' ho) (S.e d i i' hi) (QhD Qdz (QdA hu)) (QbJ nsl)) (Qf7 he) rfl rfl) ?_;rintro D σ H ⟨α,ρ,hs,fl,ρ',hs',rs,R,e,q⟩;simp only [ex]at e;obtain⟨u,h1,e1,e⟩:=Qc e;obtain⟨x,h2,e2,e⟩:=Qc e;obtain⟨k,h3,e3,e⟩:=Qc e;simp only [Option.map_eq_some_iff]at e;obtain⟨h4,e4,e⟩:=e;cases e;refine TI.run rs R e1 fun α1 v H1 E1 R1 r1 rs1=>TI.run rs1 R1 e2 fun α2 y H2 E2 R2 r2 rs2=>TI.run rs2 R2 e3 fun α3 z H3 E3 R3 r3 rs3=>?_;unfold QhW at e4;split at e4
   case h_2=>cases e4
   rename_i n;split at e4
   case h_2=>cases e4
   rename_i xs eo;split at e4
   case h_2=>cases e4
   rename_i j;simp only [Option.map_eq_some_iff]at e4;obtain⟨p,ep,rfl⟩:=e4;obtain⟨a,ha,rfl⟩:=r2.mono E3.pre;cases Zc r3;obtain⟨vs,q1,rr⟩:=R3.h.ob n a _ ha eo
   refine .inl ⟨a,vs,j,p,rfl,rfl,q1,by rw [<-rr.length];exact ep,?_⟩
   obtain⟨R',E'⟩:=R3.put (o:=.lst (xs.set p u)) (ho:=.lst (vs.set p v)) ha ⟨_,Qq,RUs.set p (r1.mono fun n a e=>E3.pre n a (E2.pre n a e)) rr⟩;exact q α3 σ _ (((E1.trans E2 R2.h).trans E3 R3.h).trans E' R'.h) R' rs3
  ·rename_i x px y py ht;obtain⟨kt,pt,rfl⟩:=Qer ht;split at h
   case isFalse=>cases h
   rename_i c;simp only [Bool.and_eq_true,decide_eq_true_eq]at c;obtain⟨⟨lx,ly⟩,nxy⟩:=c;simp only [Option.bind_eq_some_iff]at h;obtain⟨i,hi,j,hj,h⟩:=h;split at h<;>cases h
  ·cases h
 | _=>exact nomatch (show(none:Option Iv.S)=some _ from h)
theorem Qjh{s0 s':S}(hs:QmF m C st s0=some s')(h:∀d,PS X st (TIS T A X.K (ex T cf d s0)))(d:Nat):PS X st (TIS T A X.K (ex T cf d s')):=by
 cases hs;exact h d
theorem Qfx(SS:SndS T A C X cf m)(d:Nat)(sts:List Stmt)(irs:List S)(h:compSs (m+1) C sts=some irs):PSs X sts (TIS T A X.K (exs T cf d irs)):=by
 cases d with
 | zero=>exact Qet Qiz
 | succ d =>
  cases sts with
  | nil =>
   cases h
   exact Qe6 QfH fun D σ H ⟨α,ρ,hs,fl,ρ',hs',rs,R,e,q⟩=>by cases e;exact q α σ H Ext.refl R rs
  | cons st r =>
   simp only [compSs,Option.bind_eq_some_iff]at h;obtain⟨s0,hs0,s',hs,r',hr,h⟩:=h;cases h;refine Qe6 (QdF (Qjh hs (fun d=>SS.s d st s0 hs0) d) (SS.ss d r r' hr)) ?_;rintro D σ H ⟨α,ρ,hs,fl,ρ',hs',rs,R,e,q⟩;simp only [exs]at e;split at e
   ·rename_i ρ1 h1 e1;exact TIS.run rs R e1 fun α1 σ1 H1 E1 R1 rs1=>TIS.run rs1 R1 e fun α2 σ2 H2 E2 R2 rs2=>q α2 σ2 H2 (E1.trans E2 R2.h) R2 rs2
   ·rename_i n1;refine TIS.run rs R e fun α1 σ1 H1 E1 R1 rs1=>?_
    cases fl with
    | next=>exact absurd e (n1 _ _)
    | cont=>exact q α1 σ1 H1 E1 R1 rs1
    | brk=>exact q α1 σ1 H1 E1 R1 rs1
    | ret u=>exact q α1 σ1 H1 E1 R1 rs1
theorem Qmd(bX:Bd X)(g:GX T A C X)(fl:∀x,X.fn x=true\/X.env.scope.names.lookup x=some .local)(F:Fc X T A cf k)(hr:Room (k+1) X.A):∀m,SndS T A C X cf m
 | 0=>⟨fun d st ir h=>by first|exact nomatch (show(none:Option Iv.S)=some _ from h)|simp [Z6]at h,fun d sts irs h=>by exact nomatch (show(none:Option (List Iv.S))=some _ from h)⟩
 | m+1=>by
  have SS:=Qmd bX g fl F hr m;exact⟨QhG bX F (hr.mono (Nat.le_succ k)) (Qk5 hr) g fl (Qfu m g F (fun _=>hr) hr.units) SS,Qfx SS⟩
end
end Iv
namespace Iv
open PySem PySem.Spec PyProof.Rows L2
structure Top(T:Tbl)(A:Adr)(K:PySem.W.Frag)(mg:Str->Option Value)(gl:List (Str×G))(bl:List Str):Prop where
 txt:Txt T A K mg
 gfn:∀x i,gl.lookup x=some (.fn i)->mg x=some (.ref (A.f i))
 gcl:∀x i,gl.lookup x=some (.cls i)->mg x=some (.ref (A.c i))
 gco:∀x k,gl.lookup x=some (.con k)->mg x=some (.ref (A.k k))
 gtx:∀x t,gl.lookup x=some (.txt t)->∃k,mg x=some (.str ⟨t.toArray⟩ k)
 blt:∀x,¬bl.contains x=false->mg x=none
noncomputable def Qbf(T:Tbl)(gl:List (Str×G))(bl:List Str):Prop:=∀(i:Nat) (F:Fn),T.fns[i]?=some F->∃m,compSs m ⟨T,F.N,(QB F.st).names,gl,bl,F.lc⟩ (ZC F.st)=some F.body
section
variable {P:Program}{w:World}{K:PySem.W.Frag}{mg:Str->Option Value}{base:Heap}{T:Tbl}{A:Adr}{gl:List (Str×G)}{bl:List Str}
theorem QaN{α:List Addr}{us:List U}{vs:List V}{N:List Str}{n:Nat}(r:RUs A α us vs)(hn:N.length=n):RS A α (QjQ us n) (L2.start N vs):=by
 unfold QjQ L2.start;have l:=r.length
 refine⟨by simp [l,hn],fun i u e=>?_⟩
 by_cases hi:i<us.length
 ·rw [List.getElem?_append_left (by simpa using hi),List.getElem?_map]at e
  rw [List.getElem?_append_left (by simpa [<-l]using hi),List.getElem?_map]
  cases q:us[i]? with
  | none=>rw [q]at e;cases e
  | some x =>
   rw [q]at e;cases e;obtain⟨v,h1,h2⟩:=r.get q
   exact⟨v,by rw [h1];rfl,h2⟩
 ·rw [List.getElem?_append_right (by simpa using Nat.le_of_not_lt hi),List.getElem?_replicate]at e
  split at e<;>cases e
theorem QbH{n:Nat}:∀f us hs r,Qa T n f us hs=some r->∃F,T.fns[f]?=some F/\us.length=F.np:=by
 intro f us hs r h
 cases n with
 | zero=>cases h
 | succ n =>
  simp only [Qa]at h;split at h
  ·cases h
  ·rename_i F e;split at h
   ·rename_i l;exact⟨F,e,l⟩
   ·cases h
noncomputable def XOk(P:Program)(w:World)(K:PySem.W.Frag)(mg:Str->Option Value)(base:Heap)(T:Tbl)(A:Adr)(r:Nat):Prop:=∀f F,T.fns[f]?=some F->∃fd,FnOk P w K mg base (CXw P w) r (A.f f) fd F.ps (spX T A K T.xf f)/\Binds K fd F.ps []/\PySem.W.keepIn K (.ref (A.f f))=true
theorem Qnn(tp:Top T A K mg gl bl)(h:T.xf=fun _ _ _=>none):XOk P w K mg base T A 0:=fun f F hF=>by
 obtain⟨fd,fn,b,_⟩:=tp.txt.fn f F hF
 have no:∀vs H Q E,¬spX T A K T.xf f vs H Q E:=fun vs H Q E z=>by
  obtain⟨α,us,hs,u,hs',_,_,e,_⟩:=z;rw [h]at e;cases e
 exact⟨fd,⟨fun vs H Q E h=>absurd h (no vs H Q E),fun A outer s H args us vs Q E _ _ _ _ h=>absurd h (no vs H Q E)⟩,b,fn.kp⟩
theorem QcO{rm:Nat}(tp:Top T A K mg gl bl)(tab:JY P w T A K)(hb:Qbf T gl bl)(hX:XOk P w K mg base T A rm):∀n f F,T.fns[f]?=some F->∃fd,FnOk P w K mg base CX0 (rm+2*n) (A.f f) fd F.ps (spC T A K (Qa T n) f)/\Binds K fd F.ps []/\PySem.W.keepIn K (.ref (A.f f))=true/\FunD K F.name F.qual F.st (A.f f) fd
 | 0,f,F,hF=>by
  obtain⟨fd,fn,b,_⟩:=tp.txt.fn f F hF
  have no:∀vs H Q E,¬spC T A K (Qa T 0) f vs H Q E:=fun vs H Q E h=>by
   obtain⟨α,us,hs,u,hs',_,_,e,_⟩:=h;cases e
  exact⟨fd,⟨fun vs H Q E h=>absurd h (no vs H Q E),fun A outer s H args us vs Q E _ _ _ _ h=>absurd h (no vs H Q E)⟩,b,fn.kp,fn⟩
 | n+1,f,F,hF=>by
  obtain⟨fd,fn,b,sc,lp,lN⟩:=tp.txt.fn f F hF;obtain⟨m,hm⟩:=hb f F hF;refine⟨fd,?_,b,fn.kp,fn⟩;refine fn.ok (k:=rm+2*n+1) sc (fun vs H Q E h=>?_) (fun cdv A' outer s H vs Q E hr h=>?_)
  ·obtain⟨α,us,hs,u,hs',r,_,_,⟨F',h1,h2⟩,_⟩:=h;rw [hF]at h1;cases h1;rw [<-r.length,h2,lp]
  ·obtain⟨α,us,hs,u,hs',r,R,e,_,q⟩:=h;refine⟨TIS T A K (exs T (Qa T n) dd F.body),?_,?_⟩
   ·have gx:GX T A ⟨T,F.N,(QB F.st).names,gl,bl,F.lc⟩ (QeU CX0 P w K mg base F.N F.qual (QB F.st) (A.f f) cdv A' outer s H E).nox :=
     ⟨rfl,rfl,sc.nd,rfl,fun _=>rfl,sc.kind,rfl,tp.gfn,tp.gcl,tp.gco,tp.gtx,tp.blt,tp.txt,tab⟩
    have fc:Fc (QeU CX0 P w K mg base F.N F.qual (QB F.st) (A.f f) cdv A' outer s H E).nox T A (Qa T n) (rm+2*n):=⟨fun f' F' h'=>by
     obtain⟨fd',G,b',kp,_⟩:=QcO tp tab hb hX n f' F' h'
     exact⟨fd',G,b',kp⟩,QbH,fun i D F' hD h'=>by
     obtain⟨fd',G,_,kp,fn'⟩:=QcO tp tab hb hX n i F' h';obtain⟨fd2,x,q,st,fn2,dk,hp⟩:=tp.txt.df i D hD;have e:=FunD.same fn2 fn';subst e;rw [(hp F' h').1]at G
     exact⟨fd2,G,kp,dk⟩,fun f' F' h'=>by
     obtain⟨fd',G,b',kp⟩:=hX f' F' h'
     exact⟨fd',G.mono (Nat.le_add_right _ _),b',kp⟩⟩
    exact(Qmd ⟨rfl,rfl,rfl,rfl⟩ gx (fun _=>.inl rfl) fc hr m).ss dd (ZC F.st) F.body hm
   ·simp only [Qa,hF]at e;split at e
    case isFalse=>cases e
    unfold fin at e;split at e
    ·rename_i u' ρ' h1 e1;cases e;exact TIS.run (QaN r lN) R e1 fun α1 σ1 H1 E1 R1 rs1 v rv=>q α1 v H1 E1 R1 rv
    ·rename_i ρ' h1 e1;cases e;exact TIS.run (QaN r lN) R e1 fun α1 σ1 H1 E1 R1 rs1=>q α1 .non H1 E1 R1 rfl
    ·cases e
end
end Iv
namespace Iv
open PySem PySem.Spec PyProof.Rows L2
variable {n:Nat}
inductive AllI{α:Type}(P:Nat->α->Prop):Nat->List α->Prop where
 | nil {n:Nat}:AllI P n []
 | cons {n:Nat} {a:α} {r:List α}:P n a->AllI P (n+1) r->AllI P n (a::r)
theorem AllI.get{α:Type}{P:Nat->α->Prop}:∀{n:Nat} {l:List α},AllI P n l->∀i a,l[i]?=some a->P (n+i) a
 | _,_,.nil,i,a,e=>by simp at e
 | n,_,.cons h t,0,a,e=>by
  simp at e;subst e;exact h
 | n,_,.cons h t,i+1,a,e=>by
  have:=AllI.get t i a (by simpa using e)
  rw [Nat.add_assoc,Nat.add_comm 1 i]at this;exact this
theorem AllI.mem{α:Type}{P:α->Prop}{l:List α}(h:AllI (fun _ a=>P a) n l){a:α}(m:a∈l):P a:=by
 obtain⟨i,e⟩:=List.getElem?_of_mem m;exact AllI.get h i a e
theorem AllI.look{κ β:Type}[BEq κ][LawfulBEq κ]{P:κ->β->Prop}{l:List (κ×β)}(h:AllI (fun _ p=>P p.1 p.2) n l){k:κ}{b:β}(e:l.lookup k=some b):P k b:=AllI.mem (P:=fun p=>P p.1 p.2) h (ZF e)
noncomputable def gvP(A:Adr)(mg:Str->Option Value)(x:Str):G->Prop
 | .fn i=>mg x=some (.ref (A.f i))
 | .cls i=>mg x=some (.ref (A.c i))
 | .con k=>mg x=some (.ref (A.k k))
 | .txt t=>∃k,mg x=some (.str ⟨t.toArray⟩ k)
section
variable {P:Program}{w:World}{K:PySem.W.Frag}{mg:Str->Option Value}{base:Heap}{T:Tbl}{A:Adr}{gl:List (Str×G)}{bl:List Str}
noncomputable def QmH(A:Adr)(K:PySem.W.Frag)(k:Nat)(c:Co):Prop:=match c with
 | Co.tup xs=>∃vs,RUs A [] xs vs/\∀H,SqT K H (A.k k) vs
 | Co.lst xs=>∃vs,RUs A [] xs vs/\∀H,SqL K H (A.k k) vs
 | Co.tab _=>True
theorem Qhr(fns:AllI (fun i (F:Fn)=>∃fd,FunD K F.name F.qual F.st (A.f i) fd/\Binds K fd F.ps []/\FnScope F.N F.ps (QB F.st)/\F.ps.length=F.np/\F.N.length=F.nN) 0 T.fns)
  (cls:AllI (fun i C=>ClOk T A K i C) 0 T.cls)
  (fm:(T.fns'.all fun x=>!(T.mns.contains x))=true) (fd:T.fns'.Nodup)
  (isi:AllI (fun _ p=>PySem.W.kitOne K (tyW A p.1.1) (tyW A p.1.2)=some p.2) 0 T.isi)
  (co:AllI (QmH A K) 0 T.cons)
  (dfs:AllI (fun _ (p:Nat×Df)=>∃fd x q st,FunD K x q st (A.f p.1) fd/\QjI A K fd p.2/\∀F,T.fns[p.1]?=some F->F.ps=p.2.ps/\F.np=p.2.np) 0 T.dfl)
  (g:AllI (fun _ (p:Str×G)=>gvP A mg p.1 p.2) 0 gl)
  (b:AllI (fun _ x=>mg x=none) 0 bl)
  (er : AllI (fun _ c => ErrCls K (A.c c) /\ ((∀ f, T.efl.contains (c, f) = false) /\ PySem.W.excIn K (A.c c) Qdo "ValueError.__new__" = true \/ ∃ f x, T.efl.contains (c, f) = true /\ (∀ f', T.efl.contains (c, f') = true -> f' = f) /\ T.fns'[f]? = some x /\ Qdg K mg (A.c c) x)) 0 T.ers)
  (es:AllI (fun _ (p:Nat×Nat)=>PySem.W.exmOne K (.ref (A.c p.1)) (.ref (A.c p.2))=some true) 0 T.esb):Top T A K mg gl bl where
 txt:={
  fn:=fun i F e=>by simpa using fns.get i F e
  df:=fun i D e=>AllI.look (P:=fun i (D:Df)=>∃fd x q st,FunD K x q st (A.f i) fd/\QjI A K fd D/\∀F,T.fns[i]?=some F->F.ps=D.ps/\F.np=D.np) dfs e
  cl:=fun i C e=>by simpa using cls.get i C e
  fm:=fun x m n=>by
   have:=List.all_eq_true.mp fm x m;simp at this;exact this n
  fd:=fd
  isi:=fun k t b e=>AllI.look (P:=fun(q:Ty×Ty) b=>PySem.W.kitOne K (tyW A q.1) (tyW A q.2)=some b) isi e
  co:=fun k c e=>by
   have:=co.get k c e;simp only [Nat.zero_add]at this;exact this
  er:=fun c h=>AllI.mem er (by simpa using h)
  es:=fun c c' h=>AllI.mem (P:=fun(p:Nat×Nat)=>PySem.W.exmOne K (.ref (A.c p.1)) (.ref (A.c p.2))=some true) es (a:=(c,c')) (by simpa using h) }
 gfn:=fun x i e=>AllI.look (P:=fun x (q:G)=>gvP A mg x q) g e
 gcl:=fun x i e=>AllI.look (P:=fun x (q:G)=>gvP A mg x q) g e
 gco:=fun x i e=>AllI.look (P:=fun x (q:G)=>gvP A mg x q) g e
 gtx:=fun x i e=>AllI.look (P:=fun x (q:G)=>gvP A mg x q) g e
 blt:=fun x h=>by
  have:bl.contains x=true:=by cases q:bl.contains x with|true=>rfl|false=>exact absurd q h
  exact AllI.mem (P:=fun x=>mg x=none) b (by simpa using this)
theorem Qc6(h:AllI (fun _ (F:Fn)=>compSs 100 ⟨T,F.N,(QB F.st).names,gl,bl,F.lc⟩ (ZC F.st)=some F.body) 0 T.fns):Qbf T gl bl:=fun i F e=>⟨100,h.get i F e⟩
theorem tv{x:Str}{y:List Nat}{t:Tok}(h:x.cps.toList=y):∃v,RU A [] (.str y) v/\RelV v (.str x t):=by
 subst h;exact⟨.str x,rfl,⟨t,rfl⟩⟩
theorem tvi{i:Int}{t:Tok}:∃v,RU A [] (.int i 0) v/\RelV v (.int i t):=⟨.int i,⟨i,rfl,Cg.refl i 0⟩,⟨t,rfl⟩⟩
noncomputable def Qdx(K:PySem.W.Frag):Sp:=fun vs H Q _=>∃(a:Addr) (ns:List Int),vs=[.ref a]/\SqL K H a (ns.map V.int)/\Qj3 H/\ns.length<=63/\∀H',Q (.bl true) H'
noncomputable def Abs:U->Int->Prop:=fun u i=>∃r m,u=.int r m/\Cg i r m
theorem Abs.rus:∀{s:List U} {ns:List Int},Paired Abs s ns->RUs A [] s (ns.map V.int)
 | _,_,.nil=>.nil
 | _,_,.cons (b:=i) ⟨r,m,e,c⟩ t=>.cons (by subst e;exact⟨i,rfl,c⟩) (Abs.rus t)
theorem QiJ{tb:List U->Tbl}{adr:Addr->Adr}{L r:Nat}{F:Fn}{x:Str}{fd:FuncData}(hF:∀s,(tb s).fns[L]?=some F)(hs:∀s,(tb s).scr=s)(hps:F.ps=[x])(hnp:F.np=1)
  (hA:∀a,(adr a).s=a) (hf:∀a,(adr a).f=(adr 0).f)
  (tp:∀s a,Top (tb s) (adr a) K mg gl bl) (tab:∀s a,JY P w (tb s) (adr a) K) (hb:∀s,Qbf (tb s) gl bl) (hX:∀s a,XOk P w K mg base (tb s) (adr a) r)
  (hfun:FunD K F.name F.qual F.st ((adr 0).f L) fd)
  (comp:∀ns:List Int,ns.length<=63->∃s hs',Paired Abs s ns/\Qa (tb s) n L [.scr] []=some (.bl true,hs')):
  FnOk P w K mg base CX0 (r+2*n) ((adr 0).f L) fd [x] (Qdx K):=by
 refine⟨fun vs H Q E ⟨a,ns,h,_⟩=>by rw [h];rfl,fun A0 outer s H args us vs Q E hr e0 hbd rel ⟨a,ns,h,hS,hO,hl,q⟩=>?_⟩
 obtain⟨sc,hs',pr,hc⟩:=comp ns hl;obtain⟨fd',G,_,_,hfun'⟩:=QcO (base:=base) (tp sc a) (tab sc a) (hb sc) (hX sc a) n L F (hF sc);rw [hf a]at G hfun';have ef:=FunD.same hfun hfun';subst ef;rw [hps]at G;refine G.run A0 outer s H args us vs Q E hr e0 hbd rel ?_;subst h
 refine⟨[],[.scr],[],.bl true,hs',.cons (show V.ref a=V.ref (adr a).s by rw [hA]) .nil,⟨⟨rfl,(fun i j a e _=>by simp at e),fun n b o e _=>by simp at e⟩,ns.map V.int,by rw [hs];exact Abs.rus pr,?_⟩,hc,⟨F,hF sc,hnp.symm⟩,fun α' v H' _ _ rv=>?_⟩
 ·rw [hA]
  rcases hS with(h|⟨o,h⟩)|h
  ·rcases hO a with z|⟨o,xs,z⟩
   ·rw [h]at z;cases z
   ·rw [h]at z;cases z
  ·exact .inl ⟨o,h⟩
  ·exact .inr h
 ·have:v=.bl true:=rv;subst this;exact q H'
end
end Iv
namespace Iv
open PySem PySem.Spec PyProof.Rows L2
noncomputable def QbE(K:PySem.W.Frag)(a:Addr):FuncData:=match K.lookup a with
 | some o=>(match o.data with
  | .func fd=>fd
  | _=>default)
 | none=>default
noncomputable def fnT(F:Fn)(fd:FuncData):FuncData:=PySem.W.fnOf F.name F.qual (Jk F.st) (ZC F.st) (QB F.st) fd.defaults fd.kwdefaults fd.doc fd.pyModule fd.annotations fd.code fd.closureTuple
noncomputable def vsN(n:Nat)(v:Nat->Value):List Value:=(List.range n).map v
theorem Qfd(us:List Value):us=vsN us.length fun i=>us.getD i .none:=by
 apply List.ext_getElem?;intro i;simp only [vsN,List.getElem?_map,List.getElem?_range',List.getD_eq_getElem?_getD];by_cases h:i<us.length
 ·rw [List.getElem?_range h];simp [List.getElem?_eq_getElem h]
 ·rw [List.getElem?_eq_none (Nat.le_of_not_lt h),List.getElem?_eq_none (by simpa using Nat.le_of_not_lt h)];rfl
noncomputable def scB(F:Fn)(sc:Scope):Bool:=decide (sc.kind=.function)&&(!sc.isCoroutine&&(!sc.isGenerator&&(decide F.N.Nodup&&(decide (F.N.take F.ps.length=F.ps)&&(F.ps.all (fun x=>decide (sc.names.lookup x=some .local)||decide (sc.names.lookup x=some .cell))&&(sc.names.all (fun y=>decide (y.2≠.free))&&(decide (F.ps.length=F.np)&&decide (F.N.length=F.nN))))))))
noncomputable def fnB(K:PySem.W.Frag)(F:Fn)(a:Addr):Bool:=PySem.W.fnIn K a&&(PySem.W.codeIn K (QbE K a).code F.qual&&scB F (QB F.st))
section
variable {P:Program}{w:World}{K:PySem.W.Frag}{mg:Str->Option Value}{h:Heap}{T:Tbl}{A:Adr}{gl:List (Str×G)}{bl:List Str}{F:Fn}{a:Addr}
theorem QcN(h1:QbE K a=fnT F (QbE K a))(h2:fnB K F a=true):FunD K F.name F.qual F.st a (QbE K a)/\FnScope F.N F.ps (QB F.st)/\F.ps.length=F.np/\F.N.length=F.nN:=by
 obtain⟨i,c,s⟩:_/\_/\_:=by simpa only [fnB,Bool.and_eq_true]using h2
 obtain⟨s1,s2,s3,s4,s5,s6,s7,s8,s9⟩:_/\_/\_/\_/\_/\_/\_/\_/\_:=by simpa only [scB,Bool.and_eq_true,decide_eq_true_eq,Bool.not_eq_true']using s
 have z:∃oc od sl,K.lookup a=some ⟨oc,od,.func (QbE K a),sl⟩:=by
  unfold PySem.W.fnIn at i;split at i
  ·rename_i oc od fd sl e
   exact⟨oc,od,sl,by rw [e];simp [QbE,e]⟩
  ·cases i
 obtain⟨oc,od,sl,e⟩:=z
 refine⟨⟨⟨oc,od,_,_,_,_,_,_,_,sl,h1,e,c⟩,by simp only [PySem.W.keepIn,e]⟩,⟨s1,s2,s3,s4,s5,fun x m=>?_,fun y m=>?_⟩,s8,s9⟩
 ·simpa using List.all_eq_true.mp s6 x m
 ·simpa using List.all_eq_true.mp s7 y m
theorem Qeq(n:F.ps.length=F.np)(h3:∀v,bindArgs (QbE K a) ⟨vsN F.np v,[]⟩=pure (F.ps.zip (vsN F.np v))):Binds K (QbE K a) F.ps []:=.all fun us l=>by
 have:=h3 fun i=>us.getD i .none;rwa [<-n,<-l,<-Qfd]at this
noncomputable def Qhg{α:Type}(f:Nat->α->Bool):Nat->List α->Bool
 | _,[]=>true
 | n,a::r=>f n a&&Qhg f (n+1) r
theorem Ym{α:Type}{f:Nat->α->Bool}{Q:Nat->α->Prop}(q:∀n a,f n a=true->Q n a):∀{n:Nat} {l:List α},Qhg f n l=true->AllI Q n l
 | _,[],_=>.nil
 | _,_::_,e=>.cons (q _ _ (Bool.and_eq_true_iff.mp e).1) (Ym q (Bool.and_eq_true_iff.mp e).2)
theorem AllI.imp{α:Type}{Q R:Nat->α->Prop}(q:∀n a,Q n a->R n a):∀{n:Nat} {l:List α},AllI Q n l->AllI R n l
 | _,_,.nil=>.nil
 | _,_,.cons e t=>.cons (q _ _ e) (AllI.imp q t)
noncomputable def bi(x:String):Option (Option Value):=some (some (.builtin x))
noncomputable def clB(K:PySem.W.Frag)(T:Tbl)(A:Adr)(i:Nat)(C:Cl):Bool:=PySem.W.plainGet K (A.c i) Str.empty&&(PySem.W.hasDictIn K (A.c i)&&(PySem.W.plainOver K (A.c i)&&(PySem.W.findIn K (.ref (A.c i)) "__setattr__"==bi "object.__setattr__"&&(T.fns'.all (fun x=>PySem.W.findIn K (.ref (A.c i)) x==some none) &&
 (C.meths.all (fun p=>(T.mns[p.1]?).any fun x=>PySem.W.findIn K (.ref (A.c i)) x==some (some (.ref (A.f p.2)))&&(PySem.W.isFn K (.ref (A.f p.2))&&PySem.W.keepIn K (.ref (A.f p.2)))) &&
 (PySem.W.makesIn K (A.c i)&&(PySem.W.keepIn K (.ref (A.c i))&&((match C.init with
  | some f=>PySem.W.findIn K (.ref (A.c i)) "__init__"==some (some (.ref (A.f f)))&&PySem.W.isFn K (.ref (A.f f))
  | none=>PySem.W.findIn K (.ref (A.c i)) "__init__"==bi "object.__init__")&&(PySem.W.findIn K (.ref (A.c i)) "__class__"==bi "object.__class__"&&PySem.W.mroIn K (A.c i) (.type "object")==some true)))))))))
noncomputable def obB(K:PySem.W.Frag):Bool:=PySem.W.specialIn K (.builtin "object.__class__") "__get__"==bi "getset_descriptor.__get__"&&PySem.W.takesIn K (.builtin "object.__class__")==some true
theorem Qlg{i:Nat}{C:Cl}(o:obB K=true)(e:clB K T A i C=true):ClOk T A K i C:=by
 obtain⟨o1,o2⟩:_/\_:=by simpa only [obB,bi,Bool.and_eq_true,beq_iff_eq]using o
 obtain⟨e1,e2,e3,e4,e5,e6,e7,e8,e9,e10,e11⟩:_/\_/\_/\_/\_/\_/\_/\_/\_/\_/\_:=by simpa only [clB,bi,Bool.and_eq_true,beq_iff_eq]using e
 have c:Cls K (A.c i):=⟨e1,e2,e3,e4⟩;refine⟨c,fun x m=>beq_iff_eq.mp (List.all_eq_true.mp e5 x m),fun m f q=>?_,e7,e8,?_,fun H a dx fs e=>.ins e c e10 o1 o2 e11⟩
 ·obtain⟨x,h1,h2⟩:=Option.any_eq_true _ _ |>.mp (List.all_eq_true.mp e6 _ (ZF q))
  obtain⟨h2,h3,h4⟩:_/\_/\_:=by simpa only [Bool.and_eq_true,beq_iff_eq]using h2
  exact⟨x,h1,h2,h3,h4⟩
 ·revert e9
  cases C.init with
  | none=>exact fun e=>by simpa using e
  | some f=>exact fun e=>by simpa using e
noncomputable def vB(A:Adr):U->Value->Bool
 | .str x,.str s _=>s.cps.toList==x
 | .int i 0,.int j _=>decide (i=j)
 | _,_=>false
theorem Qhm{u:U}{v:Value}(e:vB A u v=true):∃z,RU A [] u z/\RelV z v:=by
 unfold vB at e;split at e
 ·exact tv (beq_iff_eq.mp e)
 ·have:=of_decide_eq_true e;subst this;exact tvi
 ·cases e
noncomputable def vsB(A:Adr):List U->List Value->Bool
 | [],[]=>true
 | u::us,v::vs=>vB A u v&&vsB A us vs
 | _,_=>false
theorem Y6:∀{us:List U} {vs:List Value},vsB A us vs=true->∃zs,RUs A [] us zs/\Vals zs vs
 | [],[],_=>⟨[],.nil,.nil⟩
 | _::_,_::_,e=>by
  obtain⟨z,r1,r2⟩:=Qhm (Bool.and_eq_true_iff.mp e).1;obtain⟨zs,h1,h2⟩:=Y6 (Bool.and_eq_true_iff.mp e).2;exact⟨z::zs,.cons r1 h1,.cons r2 h2⟩
 | [],_::_,e=>nomatch e
 | _::_,[],e=>nomatch e
noncomputable def QjP(K:PySem.W.Frag)(t:String)(a:Addr):Option (List Value):=match K.lookup a with
 | some o=>if o.cls=.type t/\o.dict=none then(match o.data with
  | .seq its _=>if its.size<=sizeLine then some its.toList else none
  | _=>none)else none
 | none=>none
noncomputable def Qhe(K:PySem.W.Frag)(a:Addr):List DictEntry:=match K.lookup a with
 | some o=>(match o.data with
  | .dict es _=>es.toList
  | _=>[])
 | none=>[]
noncomputable def Qhc:Value->Key
 | .str s _=>.inr s
 | .int i _=>.inl i
 | _=>.inl 0
noncomputable def QkY:Value->Bool
 | .str _ _=>true
 | .int _ _=>true
 | _=>false
theorem QcE:∀{v:Value},QkY v=true->Qat (Qhc v) v=true
 | .str s t,_=>JJ s t
 | .int i t,_=>JK i t
noncomputable def keB:U->Key->Bool
 | .int i 0,.inl j=>decide (i=j)
 | .str x,.inr s=>s.cps.toList==x
 | _,_=>false
theorem QiO{u:U}{k:Key}(e:keB u k=true):Qd4 u k:=by
 unfold keB at e;split at e
 ·exact congrArg Sum.inl (of_decide_eq_true e).symm
 ·rename_i s;have:=beq_iff_eq.mp e;subst this;rfl
 ·cases e
noncomputable def kvB(A:Adr):List (U×U)->List DictEntry->Bool
 | [],[]=>true
 | p::ps,e::es=>QkY e.key&&(keB p.1 (Qhc e.key)&&(vB A p.2 e.val&&kvB A ps es))
 | _,_=>false
noncomputable def exB(K:PySem.W.Frag)(a:Addr):Bool:=match K.lookup a with
 | some o=>decide (o.cls=.type "dict")&&(decide (o.dict=none)&&decide (o.slots=#[]))&&(match o.data with
  | .dict _ _=>true
  | _=>false)
 | none=>false
noncomputable def coB(K:PySem.W.Frag)(A:Adr)(a:Addr)(c:Co):Bool:=match c with
 | .tup xs=>(QjP K "tuple" a).any (vsB A xs)
 | .lst xs=>(QjP K "list" a).any (vsB A xs)
 | .tab kvs=>exB K a&&(kvB A kvs (Qhe K a)&&(decide (((Qhe K a).map fun e=>Qhc e.key).Nodup)&&!(a==sysModules)))
noncomputable abbrev Qly(K:PySem.W.Frag)(w:World)(a:Addr):Prop:=(Qhe K a).map (·.hash)=(Qhe K a).map fun e=>Qmu w (Qhc e.key)
theorem Jx{t:String}{xs:List U}(e:(QjP K t a).any (vsB A xs)=true):∃(o:Obj) (its:Array Value) (n:Nat),K.lookup a=some o/\o.cls=.type t/\o.dict=none/\o.data=.seq its n/\its.size<=sizeLine/\vsB A xs its.toList=true:=by
 unfold QjP at e
 cases ho:K.lookup a with
 | none=>rw [ho]at e;cases e
 | some o =>
  simp only [ho]at e;split at e
  ·rename_i hc;split at e
   ·rename_i its n hd;split at e
    ·rename_i hz;exact⟨o,its,n,rfl,hc.1,hc.2,hd,hz,e⟩
    ·cases e
   ·cases e
  ·cases e
theorem QeN:∀{kvs:List (U×U)} {es:List DictEntry},kvB A kvs es=true->(∀e∈es,QkY e.key=true)/\Paired (fun(p:U×U) (q:Key×Value)=>Qd4 p.1 q.1/\∃v,RU A [] p.2 v/\RelV v q.2) kvs (es.map fun e=>(Qhc e.key,e.val))/\Pairs (Zn P w) es (es.map fun e=>(Qhc e.key,e.val))
 | [],[],_=>⟨(fun e m=>nomatch m),.nil,.nil⟩
 | _::_,_::_,z=>by
  obtain⟨h1,h2,h3,h4⟩:_/\_/\_/\_:=by simpa only [kvB,Bool.and_eq_true]using z
  obtain⟨i1,i2,i3⟩:=QeN h4;refine⟨fun e m=>?_,.cons ⟨QiO h2,Qhm h3⟩ i2,.cons (QcE h1) rfl i3⟩
  rcases List.mem_cons.mp m with rfl|m
  ·exact h1
  ·exact i1 e m
 | [],_::_,e=>nomatch e
 | _::_,[],e=>nomatch e
theorem Qlf{k:Nat}{c:Co}(e:coB K A (A.k k) c=true):QmH A K k c:=by
 cases c with
 | tup xs =>
  obtain⟨o,its,n,h1,h2,_,h3,h4,h5⟩:=Jx e;obtain⟨vs,g1,g2⟩:=Y6 h5;exact⟨vs,g1,fun H=>.inr ⟨o,its,n,h1,h2,h3,h4,g2⟩⟩
 | lst xs =>
  obtain⟨o,its,n,h1,h2,h0,h3,h4,h5⟩:=Jx e;obtain⟨vs,g1,g2⟩:=Y6 h5;exact⟨vs,g1,fun H=>.inr ⟨o,its,n,h1,h2,h0,h3,h4,g2⟩⟩
 | tab=>trivial
theorem YU{α β:Type}{f g:α->β}:∀{l:List α},l.map f=l.map g->∀a∈l,f a=g a
 | [],_,a,m=>by cases m
 | x::r,e,a,m=>by
  obtain⟨e1,e2⟩:=List.cons.inj e
  rcases List.mem_cons.mp m with rfl|m
  ·exact e1
  ·exact YU e2 a m
theorem Qhv(co:Qhg (fun k c=>coB K A (A.k k) c) 0 T.cons=true)(hs:AllI (fun k _=>Qly K w (A.k k)) 0 T.cons):JY P w T A K:=fun k kvs e=>by
 have c:=(Ym (Q:=fun k c=>coB K A (A.k k) c=true) (fun _ _ q=>q) co).get k _ e;have hh:=hs.get k _ e;simp only [Nat.zero_add]at c hh
 obtain⟨c1,c2,c3,c4⟩:_/\_/\_/\_:=by simpa only [coB,Bool.and_eq_true]using c
 obtain⟨k1,k2,k3⟩:=QeN (P:=P) (w:=w) c2
 refine⟨_,by simpa using c4,?_,k2⟩
 unfold exB at c1
 cases ho:K.lookup (A.k k)with
 | none=>rw [ho]at c1;cases c1
 | some o =>
  simp only [ho]at c1;obtain⟨d1,d2⟩:=Bool.and_eq_true_iff.mp c1;split at d2
  ·rename_i es n hd
   obtain⟨x1,x2,x3⟩:_/\_/\_:=by simpa only [Bool.and_eq_true,decide_eq_true_eq]using d1
   have de:Qhe K (A.k k)=es.toList:=by simp [Qhe,ho,hd]
   unfold Qly at hh;rw [de]at hh k1 k2 k3 c3 ⊢
   exact fun h X=>⟨o,es,n,X _ _ ho,⟨x1,x2,x3⟩,hd,fun e m=>⟨_,QcE (k1 e (by simpa using m)),YU hh e (by simpa using m)⟩,k3,by rw [List.map_map];exact of_decide_eq_true c3⟩
  ·cases d2
noncomputable def glB(K:PySem.W.Frag)(A:Adr)(p:Str×G):Bool:=match p.2 with
 | .fn i=>PySem.W.nsIn K mainGlobals p.1==some (some (.ref (A.f i)))
 | .cls i=>PySem.W.nsIn K mainGlobals p.1==some (some (.ref (A.c i)))
 | .con i=>PySem.W.nsIn K mainGlobals p.1==some (some (.ref (A.k i)))
 | .txt t=>(match PySem.W.nsIn K mainGlobals p.1 with
  | some (some (.str s _))=>s.cps.toList==t
  | _=>false)
theorem Qk6(X:K.In h)(G:h.Ns mainGlobals mg){p:Str×Iv.G}(e:glB K A p=true):gvP A mg p.1 p.2:=by
 obtain⟨x,g⟩:=p
 cases g with
 | fn i=>exact PySem.W.mg_of X G (by simpa [glB]using e)
 | cls i=>exact PySem.W.mg_of X G (by simpa [glB]using e)
 | con i=>exact PySem.W.mg_of X G (by simpa [glB]using e)
 | txt t =>
  simp only [glB]at e;split at e
  ·rename_i s k q;have:=beq_iff_eq.mp e;subst this;exact⟨k,PySem.W.mg_of X G q⟩
  ·cases e
noncomputable def Qka(K:PySem.W.Frag)(T:Tbl)(A:Adr)(gl:List (Str×G))(bl:List Str):Bool:=obB K&&(Qhg (clB K T A) 0 T.cls&&(T.fns'.all (fun x=>!(T.mns.contains x))&&(decide T.fns'.Nodup&&(T.isi.all (fun p=>PySem.W.kitOne K (tyW A p.1.1) (tyW A p.1.2)==some p.2)&&(gl.all (glB K A)&&(bl.all (fun x=>PySem.W.nsIn K mainGlobals x==some none)&&T.esb.all (fun p=>PySem.W.exmOne K (.ref (A.c p.1)) (.ref (A.c p.2))==some true)))))))
noncomputable abbrev FnA(K:PySem.W.Frag)(A:Adr)(i:Nat)(F:Fn):Prop:=QbE K (A.f i)=fnT F (QbE K (A.f i))/\fnB K F (A.f i)=true/\((∀v,bindArgs (QbE K (A.f i)) ⟨vsN F.np v,[]⟩=pure (F.ps.zip (vsN F.np v)))\/Binds K (QbE K (A.f i)) F.ps [])
theorem YI{α:Type}{Q:α->Prop}:∀{l:List α} {n:Nat},(∀a∈l,Q a)->AllI (fun _ a=>Q a) n l
 | [],_,_=>.nil
 | _::_,_,q=>.cons (q _ List.mem_cons_self) (YI fun a m=>q a (List.mem_cons_of_mem _ m))
theorem FnA.at{i:Nat}(q:FnA K A i F):∃fd,FunD K F.name F.qual F.st (A.f i) fd/\Binds K fd F.ps []/\FnScope F.N F.ps (QB F.st)/\F.ps.length=F.np/\F.N.length=F.nN:=by
 obtain⟨d,s,l,n⟩:=QcN q.1 q.2.1;exact⟨_,d,q.2.2.elim (Qeq l) id,s,l,n⟩
theorem Qhs(X:K.In h)(G:h.Ns mainGlobals mg)(fns:AllI (FnA K A) 0 T.fns)(co:Qhg (fun k c=>coB K A (A.k k) c) 0 T.cons=true)(b:Qka K T A gl bl=true)
  (dfs:AllI (fun _ (p:Nat×Df)=>∃fd x q st,FunD K x q st (A.f p.1) fd/\QjI A K fd p.2/\∀F,T.fns[p.1]?=some F->F.ps=p.2.ps/\F.np=p.2.np) 0 T.dfl)
  (er : AllI (fun _ c => ErrCls K (A.c c) /\ ((∀ f, T.efl.contains (c, f) = false) /\ PySem.W.excIn K (A.c c) Qdo "ValueError.__new__" = true \/ ∃ f x, T.efl.contains (c, f) = true /\ (∀ f', T.efl.contains (c, f') = true -> f' = f) /\ T.fns'[f]? = some x /\ Qdg K mg (A.c c) x)) 0 T.ers) : Top T A K mg gl bl := by
 obtain⟨b1,b2,b3,b4,b5,b6,b7,b8⟩:_/\_/\_/\_/\_/\_/\_/\_:=by simpa only [Qka,Bool.and_eq_true]using b
 exact Qhr (fns.imp fun _ _ q=>q.at) (Ym (fun _ _ e=>Qlg b1 e) b2) b3 (of_decide_eq_true b4) (YI fun p m=>by simpa using List.all_eq_true.mp b5 p m) (Ym (fun _ _ e=>Qlf e) co) dfs
  (YI fun p m=>Qk6 X G (List.all_eq_true.mp b6 p m)) (YI fun x m=>PySem.W.mg_none_of X G (by simpa using List.all_eq_true.mp b7 x m)) er (YI fun p m=>by simpa using List.all_eq_true.mp b8 p m)
end
end Iv
namespace Iv
open PySem PySem.W PySem.Spec PyProof.Rows
variable {g0:Bool}{c:Code}{loose:List Str}{N n:Nat}{p' pos:Pos}{p q:Program}{Xt:Shared->Bool}{s s':SharedT}{α β σ:Type}
noncomputable def topRunT(tb:String->Option Builtin)(p:Program)(w:World)(n₀:Nat)(ann:Option Value):Nat->SharedT->Thread->Option SharedT
 | 0,_,_=>none
 | n+1,s,t=>match through t with
  | true=>some s
  | false=>match stepOk n₀ ann t with
   | false=>none
   | true=>match stepT (denote tb) p w s t with
    | some (s',t')=>topRunT tb p w n₀ ann n s' t'
    | none=>none
theorem Jv{tb:String->Option Builtin}{p:Program}{w:World}{n₀:Nat}{ann:Option Value}:∀{n:Nat} {s s':SharedT} {t:Thread},topRunT tb p w n₀ ann n s t=some s'->topRun tb p w n₀ ann n s.abs t=some s'.abs
 | 0,_,_,_,h=>by cases h
 | n+1,s,s',t,h=>by
  unfold topRunT at h;unfold topRun
  cases he:through t with
  | true=>rw [he]at h;cases h;rfl
  | false =>
   rw [he]at h
   cases hk:stepOk n₀ ann t with
   | false=>rw [hk]at h;cases h
   | true =>
    rw [hk]at h
    cases hs:stepT (denote tb) p w s t with
    | none=>rw [hs]at h;cases h
    | some r=>obtain⟨s₂,t₂⟩:=r;rw [hs]at h;rw [stepT_spec hs];exact Jv h
structure BootT where
 t:Params->BT
 n:Nat
 life:Life
noncomputable def BootT.at(B:BootT)(w:World)(os:OsState):SharedT:=⟨B.t w.params,B.n,B.life,Array.mk [],boot_drawn,boot_toks,os⟩
noncomputable abbrev RunT(p q:Program)(loose:List Str)(Xt:Shared->Bool){α:Type}(Yf:Shared->α)(Ya:World->α)(N:Nat)(g0:Bool)(B:BootT)(m₀:Nat)(ann:Option Value)(w:World):Prop :=
 ∀os:OsState,(topRunT treeTable p w m₀ ann N (B.at w os) (topStub p)).map (fun s=>((staticsOk (importedModules p.main.body) (boot_heap w.params) s.abs.heap&&namesBound p s.abs.heap&&gensDone s.abs&&laidKept (boot_heap w.params) s.abs.heap),openSeen q loose (importedModules p.main.body) Xt g0 s.abs,Yf s.abs))=some (true,openGood q loose,Ya w)
theorem Qcc{x:Option σ}{f:σ->α}{g:σ->β}{a:α}{b:β}(h1:x.map f=some a)(h2:x.map g=some b):x.map (fun s=>(f s,g s))=some (a,b):=by
 cases x with
 | none=>cases h1
 | some s=>cases h1;cases h2;rfl
section
variable (p q:Program)(loose:List Str)(Xt:Shared->Bool)(N:Nat)(g0:Bool)(B:BootT)(m₀:Nat)(ann:Option Value)
noncomputable abbrev Qlv(w:World)(os:OsState):Option SharedT:=topRunT treeTable p w m₀ ann N (B.at w os) (topStub p)
noncomputable abbrev PC(as:List Addr)(bs:List (Option Obj))(w:World):Prop:=∀os:OsState,(Qlv p N B m₀ ann w os).map (fun s=>as.map fun a=>s.abs.heap.get? a)=some bs
variable {p q loose Xt N g0 B m₀ ann}
noncomputable abbrev PL(p q:Program)(loose:List Str)(Xt:Shared->Bool)(N:Nat)(g0:Bool)(B:BootT)(m₀:Nat)(ann:Option Value)(w:World):Prop:=∀os:OsState,(Qlv p N B m₀ ann w os).map (fun s=>((staticsOk (importedModules p.main.body) (boot_heap w.params) s.abs.heap&&namesBound p s.abs.heap&&gensDone s.abs&&laidKept (boot_heap w.params) s.abs.heap),openSeen q loose (importedModules p.main.body) Xt g0 s.abs))=some (true,openGood q loose)
end
noncomputable abbrev PX(p:Program)(N:Nat)(B:BootT)(m₀:Nat)(ann:Option Value){α:Type}(f:Shared->α)(a:α)(w:World):Prop:=∀os:OsState,(Qlv p N B m₀ ann w os).map (fun s=>f s.abs)=some a
noncomputable abbrev f1(q:Program)(s:Shared):=seen ((recsOf q).map (·.name)) (ownsOf q) [] { s with gens:=#[] }
noncomputable abbrev f2(s:Shared):=s.heap.bltView
noncomputable abbrev f3(q:Program)(loose:List Str)(s:Shared):Bool:=s.heap.keysOk (looseW q loose) ((recsOf q).map (·.name)) ((litsOf q).map (·.1)) ((clssOf q (looseW q loose)).map (·.name))
noncomputable abbrev f4(q:Program)(mods:List Str)(Xt:Shared->Bool)(g0:Bool)(s:Shared):Bool:=s.heap.accountedOkI mods&&s.heap.isNs mainGlobals&&s.heap.isNs builtinsNs&&tablesOk q s.heap&&Xt s&&(if g0 then s.gens.size==0 else !leftWithCleanup s.gens)
noncomputable abbrev f5(q:Program)(s:Shared):Bool:=tabsOk q s
noncomputable abbrev f6(q:Program)(loose:List Str)(s:Shared):=(pinSeenD q (drecsOf q) s,plainSeenE q (looseW q loose) s,plainSeenD q loose s)
noncomputable abbrev f7(q:Program)(loose:List Str)(s:Shared):=(wideSeen q s,clsSeenW q loose s)
theorem QdD{mods:List Str}{x:Option SharedT}(y1:x.map (fun s=>f1 q s.abs)=some (expectedOf q))(y2:x.map (fun s=>f2 s.abs)=some bltViewBooted)(y3:x.map (fun s=>f3 q loose s.abs)=some true)
  (y4:x.map (fun s=>f4 q mods Xt g0 s.abs)=some true) (y5:x.map (fun s=>f5 q s.abs)=some true) (y6:x.map (fun s=>f6 q loose s.abs)=some (pinGoodD (drecsOf q),plainGoodE q (looseW q loose),plainGoodD q loose))
  (y7:x.map (fun s=>f7 q loose s.abs)=some (wideGood q,clsGoodW q loose)):x.map (fun s=>openSeen q loose mods Xt g0 s.abs)=some (openGood q loose):=by
 cases x with
 | none=>cases y1
 | some s =>
  have z1:=Option.some.inj y1;have z2:=Option.some.inj y2;have z3:=Option.some.inj y3;have z4:=Option.some.inj y4;have z5:=Option.some.inj y5;have z6:=Prod.ext_iff.mp (Option.some.inj y6);have z6b:=Prod.ext_iff.mp z6.2;have z7:=Prod.ext_iff.mp (Option.some.inj y7);simp only [f4,Bool.and_eq_true]at z4;obtain⟨⟨⟨⟨⟨w1,w2⟩,w3⟩,w4⟩,w5⟩,w6⟩:=z4;have z3':s.abs.heap.keysOk (looseW q loose) ((recsOf q).map (·.name)) ((litsOf q).map (·.1)) ((clssOf q (looseW q loose)).map (·.name))=true:=z3;show some (openSeen q loose mods Xt g0 s.abs)=some (openGood q loose);unfold openSeen openGood;refine congrArg some (Prod.ext z1 (Prod.ext z2 (Prod.ext ?_ (Prod.ext z5 (Prod.ext z6.1 (Prod.ext z6b.1 (Prod.ext z6b.2 (Prod.ext z7.1 z7.2))))))));show(s.abs.heap.keysOk (looseW q loose) ((recsOf q).map (·.name)) ((litsOf q).map (·.1)) ((clssOf q (looseW q loose)).map (·.name))&&s.abs.heap.accountedOkI mods&&s.abs.heap.isNs mainGlobals&&s.abs.heap.isNs builtinsNs&&tablesOk q s.abs.heap&&Xt s.abs&&(if g0 then s.abs.gens.size==0 else !leftWithCleanup s.abs.gens))=true;rw [z3',w1,w2,w3,w4,w5];exact w6
theorem Qca{x:Option σ}{f:σ->α}{g:σ->β}{a:α}{b:β}(h:x.map (fun s=>(f s,g s))=some (a,b)):x.map f=some a:=by
 cases x with
 | none=>cases h
 | some s=>exact congrArg some (Prod.ext_iff.mp (Option.some.inj h)).1
theorem Qaf{x:Option σ}{f:σ->α}{g:σ->β}{a:α}{b:β}(h:x.map (fun s=>(f s,g s))=some (a,b)):x.map g=some b:=by
 cases x with
 | none=>cases h
 | some s=>exact congrArg some (Prod.ext_iff.mp (Option.some.inj h)).2
noncomputable abbrev fA(p:Program)(w:World)(s:Shared):Bool:=staticsOk (importedModules p.main.body) (boot_heap w.params) s.heap&&namesBound p s.heap&&gensDone s&&laidKept (boot_heap w.params) s.heap
noncomputable abbrev Lk1(p q:Program)(N:Nat)(B:BootT)(m₀:Nat)(ann:Option Value)(w:World):Prop:=PX p N B m₀ ann (fun s=>(fA p w s,f1 q s,f2 s)) (true,expectedOf q,bltViewBooted) w
noncomputable abbrev Lk2(p q:Program)(loose:List Str)(Xt:Shared->Bool)(N:Nat)(g0:Bool)(B:BootT)(m₀:Nat)(ann:Option Value)(w:World):Prop:=PX p N B m₀ ann (fun s=>(f3 q loose s,f4 q (importedModules p.main.body) Xt g0 s,f5 q s,f6 q loose s,f7 q loose s)) (true,true,true,(pinGoodD (drecsOf q),plainGoodE q (looseW q loose),plainGoodD q loose),(wideGood q,clsGoodW q loose)) w
noncomputable abbrev Lk3(p q:Program)(loose:List Str)(N:Nat)(B:BootT)(m₀:Nat)(ann:Option Value)(w:World):Prop:=PX p N B m₀ ann (fun s=>(f3 q loose s,f5 q s)) (true,true) w
noncomputable abbrev Lk5(p q:Program)(Xt:Shared->Bool)(N:Nat)(g0:Bool)(B:BootT)(m₀:Nat)(ann:Option Value)(w:World):Prop:=PX p N B m₀ ann (f4 q (importedModules p.main.body) Xt g0) true w
noncomputable abbrev Lk4(p q:Program)(loose:List Str)(N:Nat)(B:BootT)(m₀:Nat)(ann:Option Value)(w:World):Prop:=PX p N B m₀ ann (fun s=>(f6 q loose s,f7 q loose s)) ((pinGoodD (drecsOf q),plainGoodE q (looseW q loose),plainGoodD q loose),(wideGood q,clsGoodW q loose)) w
noncomputable def segRunT(tb:String->Option Builtin)(p:Program)(w:World)(n₀:Nat)(ann:Option Value)(b:Nat):Nat->SharedT->Thread->Option (Flow×SharedT×Code×Pos)
 | 0,_,_=>none
 | n+1,s,t=>match endAt b t with
  | some f=>some (f,s,t.code,t.pos)
  | none=>match stepOk n₀ ann t with
   | false=>none
   | true=>match stepT (denote tb) p w s t with
    | some (s',t')=>segRunT tb p w n₀ ann b n s' t'
    | none=>none
theorem Ys{tb:String->Option Builtin}{p:Program}{w:World}{n₀:Nat}{ann:Option Value}{b:Nat}:∀{n:Nat} {s s':SharedT} {t:Thread} {f:Flow} {c:Code} {q:Pos},segRunT tb p w n₀ ann b n s t=some (f,s',c,q)->segRun tb p w n₀ ann b n s.abs t=some (f,s'.abs,c,q)
 | 0,_,_,_,_,_,_,h=>by cases h
 | n+1,s,s',t,f,c,q,h=>by
  unfold segRunT at h;unfold segRun
  cases he:endAt b t with
  | some g=>rw [he]at h;cases h;rfl
  | none =>
   rw [he]at h
   cases hk:stepOk n₀ ann t with
   | false=>rw [hk]at h;cases h
   | true =>
    rw [hk]at h
    cases hs:stepT (denote tb) p w s t with
    | none=>rw [hs]at h;cases h
    | some r=>obtain⟨s₂,t₂⟩:=r;rw [hs]at h;rw [stepT_spec hs];exact Ys h
noncomputable def topGoT(tb:String->Option Builtin)(p:Program)(w:World)(n₀:Nat)(ann:Option Value):Nat->SharedT->Thread->Option (SharedT×Thread)
 | 0,s,t=>some (s,t)
 | n+1,s,t=>match through t with
  | true=>none
  | false=>match stepOk n₀ ann t with
   | false=>none
   | true=>match stepT (denote tb) p w s t with
    | some (s',t')=>topGoT tb p w n₀ ann n s' t'
    | none=>none
theorem QaJ{tb:String->Option Builtin}{p:Program}{w:World}{n₀:Nat}{ann:Option Value}:∀{n:Nat} {s s':SharedT} {t t':Thread},topGoT tb p w n₀ ann n s t=some (s',t')->topGo tb p w n₀ ann n s.abs t=some (s'.abs,t')
 | 0,_,_,_,_,h=>by cases h;rfl
 | n+1,s,s',t,t',h=>by
  unfold topGoT at h;unfold topGo
  cases he:through t with
  | true=>rw [he]at h;cases h
  | false =>
   rw [he]at h
   cases hk:stepOk n₀ ann t with
   | false=>rw [hk]at h;cases h
   | true =>
    rw [hk]at h
    cases hs:stepT (denote tb) p w s t with
    | none=>rw [hs]at h;cases h
    | some r=>obtain⟨s₂,t₂⟩:=r;rw [hs]at h;rw [stepT_spec hs];exact QaJ h
noncomputable def Gl2(p:Program)(w:World)(m₀:Nat)(ann:Option Value){α:Type}(F:Shared->α)(a:α)(N:Nat)(s:SharedT)(t:Thread):Prop:=∃r:SharedT,topRun treeTable p w m₀ ann N s.abs t=some r.abs/\F r.abs=a
section
variable {w:World}{m₀:Nat}{ann:Option Value}{F:Shared->α}{a:α}{env:Env}{q:Pos}
theorem ch_fin{t:Thread}(h:(topRunT treeTable p w m₀ ann N s t).map (fun s=>F s.abs)=some a):Gl2 p w m₀ ann F a N s t:=by
 obtain⟨r,e,l⟩:=Option.map_eq_some_iff.mp h;exact⟨r,Jv e,l⟩
theorem Qjb{l rest:List Stmt}(h:segRunT treeTable p w m₀ ann 1 n s (piecesOf l env c pos [topFrame q])=some (.next,s',c,p'))
  (k:Gl2 p w m₀ ann F a N s' (restOf rest env c p' [topFrame q])):Gl2 p w m₀ ann F a (n+N) s (restOf (l++rest) env c pos [topFrame q]):=by
 obtain⟨r,e,l⟩:=k;exact⟨r,piece_app (Ys h) e,l⟩
theorem ch_cut(m:Nat){b:List Stmt}(h:segRunT treeTable p w m₀ ann 1 n s (piecesOf (b.take m) env c pos [topFrame q])=some (.next,s',c,p'))
  (k:Gl2 p w m₀ ann F a N s' (restOf (b.drop m) env c p' [topFrame q])):Gl2 p w m₀ ann F a (n+N) s (restOf b env c pos [topFrame q]):=by
 have z:=Qjb h k;rwa [List.take_append_drop]at z
theorem ch_blk{b:List Stmt}(h:segRunT treeTable p w m₀ ann 1 n s (blockOf b env c pos [topFrame q])=some (.next,s',c,p'))
  (k:Gl2 p w m₀ ann F a N s' (restOf b env c p' [topFrame q])):Gl2 p w m₀ ann F a (n+N) s ⟨denote treeTable (.body b env),c,pos,[topFrame q]⟩:=by
 obtain⟨r,e,l⟩:=k;exact⟨r,piece_block (Ys h) e,l⟩
theorem ch_pre{t t':Thread}(h:topGoT treeTable p w m₀ ann n s t=some (s',t'))(k:Gl2 p w m₀ ann F a N s' t'):Gl2 p w m₀ ann F a (n+N) s t:=by
 obtain⟨r,e,l⟩:=k;exact⟨r,go_top (QaJ h) e,l⟩
end
noncomputable abbrev seenAll(p q:Program)(loose:List Str)(Xt:Shared->Bool){α:Type}(Yf:Shared->α)(g0:Bool)(w:World)(s:Shared):=((staticsOk (importedModules p.main.body) (boot_heap w.params) s.heap&&namesBound p s.heap&&gensDone s&&laidKept (boot_heap w.params) s.heap),openSeen q loose (importedModules p.main.body) Xt g0 s,Yf s)
theorem left_pieces{Yf:Shared->α}{Ya:World->α}{B:BootT}{m₀:Nat}{ann:Option Value}
  (op:opening p=plainProg p.main.scope.names) (hN:Nat.ble 600 N=true) (fm:∀s,fenceModules? p s=some s)
  (hB:∀w:World,absHeap (B.t w.params) B.n B.life=boot_heap w.params)
  (size:∀w:World,((boot_heap w.params).isNs mainGlobals,(boot_heap w.params).objs.size,(boot_heap w.params).nsMap mainGlobals "__annotations__")=(true,m₀,ann))
  (run:∀w os,Gl2 p w m₀ ann (seenAll p q loose Xt Yf g0 w) (true,openGood q loose,Ya w) N (B.at w os) (topStub p)):LeftO p q loose Xt Yf Ya N g0:=fun w=>by
 obtain⟨⟨h,gs,d,k,os⟩,e,e'⟩:=Option.map_eq_some_iff.mp (boot_open (N:=N) op hN fm w)
 obtain⟨rfl,rfl,rfl,rfl⟩:h=boot_heap w.params/\gs=Array.mk []/\d=boot_drawn/\k=boot_toks:=by simpa using e'
 obtain⟨z1,z2,z3⟩:_/\_/\_:=by simpa only [Prod.mk.injEq]using size w
 obtain⟨s1,r,l⟩:=run w os
 obtain⟨l1,l2,l3⟩:_/\_/\_:=by simpa only [Prod.mk.injEq]using l
 have ab:(B.at w os).abs=⟨boot_heap w.params,Array.mk [],boot_drawn,boot_toks,os⟩:=by
  unfold BootT.at SharedT.abs;rw [hB w]
 rw [ab]at r
 have t:topFrom treeTable p w N ⟨boot_heap w.params,Array.mk [],boot_drawn,boot_toks,os⟩=some s1.abs:=by
  unfold topFrom;dsimp only;rw [z1,z2,z3,r]
  show(match staticsOk (importedModules p.main.body) (boot_heap w.params) s1.abs.heap&&namesBound p s1.abs.heap&&gensDone s1.abs&&laidKept (boot_heap w.params) s1.abs.heap with|true=>_|false=>_)=_
  rw [l1]
 unfold openEnds;rw [e];show(topFrom treeTable p w N _).map _=_;rw [t];exact congrArg some (Prod.ext l2 l3)
noncomputable abbrev vF(p q:Program)(w:World)(s:SharedT):=(fA p w s.abs,f1 q s.abs,f2 s.abs)
noncomputable abbrev gF(q:Program):=(true,expectedOf q,bltViewBooted)
noncomputable abbrev vK(p q:Program)(loose:List Str)(Xt:Shared->Bool)(g0:Bool)(s:SharedT):=(f3 q loose s.abs,f4 q (importedModules p.main.body) Xt g0 s.abs,f5 q s.abs)
noncomputable abbrev vL(q:Program)(loose:List Str)(s:SharedT):=(f6 q loose s.abs,f7 q loose s.abs)
noncomputable abbrev gL(q:Program)(loose:List Str):=((pinGoodD (drecsOf q),plainGoodE q (looseW q loose),plainGoodD q loose),(wideGood q,clsGoodW q loose))
theorem looks3{Yf:Shared->α}{Y:α}{w:World}{x:Option SharedT}(l1:x.map (vF p q w)=some (gF q))
  (l2:x.map (vK p q loose Xt g0)=some (true,true,true)) (l4:x.map (vL q loose)=some (gL q loose))
  (c:x.map (fun s=>Yf s.abs)=some Y):x.map (fun s=>seenAll p q loose Xt Yf g0 w s.abs)=some (true,openGood q loose,Y):=
 Qcc (Qca l1) (Qcc (QdD (Qca (Qaf l1)) (Qaf (Qaf l1)) (Qca l2) (Qca (Qaf l2)) (Qaf (Qaf l2)) (Qca l4) (Qaf l4)) c)
end Iv
namespace Iv
open PySem
section
variable {T:Tbl}{cf:Cf}{d:Nat}{ρ:Rho}{hs h1:Hs}{α β:Type}
theorem QV{a:α}{f:α->Hs->Option β}:bd (some (a,h1)) f=f a h1:=rfl
theorem Yo:exs T cf (d+1) [] ρ hs=some (.next,ρ,hs):=rfl
theorem QC{s:S}{r:List S}:exs T cf (d+1) (s::r) ρ hs=(match ex T cf d s ρ hs with
   | some (.next,ρ1,h1)=>exs T cf d r ρ1 h1
   | x=>x):=rfl
theorem ZO{e:E}:ex T cf (d+1) (.expr e) ρ hs=bd (ev T cf d e ρ hs) fun _ h1=>some (.next,ρ,h1):=rfl
theorem ZI{i:Nat}{e:E}:ex T cf (d+1) (.set i e) ρ hs=bd (ev T cf d e ρ hs) fun u h1=>some (.next,ρ.set i (some u),h1):=rfl
theorem Yn{e:E}:ex T cf (d+1) (.ret e) ρ hs=bd (ev T cf d e ρ hs) fun u h1=>some (.ret u,ρ,h1):=rfl
theorem Y5{t:E}{a b:List S}:ex T cf (d+1) (.ite t a b) ρ hs=bd (evT T cf d t ρ hs) fun c h1=>if c=true then exs T cf d a ρ h1 else exs T cf d b ρ h1:=by
 rw [ex]
 cases h:evT T cf d t ρ hs with
 | none=>rfl
 | some p=>obtain⟨c,h1⟩:=p;cases c<;>rfl
theorem Qev{t:Tg}{s:Src}{body:List S}:ex T cf (d+1) (.loop t s body) ρ hs=bd (Ql T (ev T cf d) ρ s hs) fun w h1=>JL T w t (exs T cf d body) (Qd T w h1) 0 ρ h1:=rfl
theorem Qj4{o i e:E}:ex T cf (d+1) (.put o i e) ρ hs=bd (ev T cf d e ρ hs) fun u h1=>bd (ev T cf d o ρ h1) fun x h2=>bd (ev T cf d i ρ h2) fun k h3=>(QhW x k u h3).map fun h4=>(.next,ρ,h4):=rfl
theorem y_c{u:U}:ev T cf (d+1) (.c u) ρ hs=some (u,hs):=rfl
theorem Qj7{k:Nat}:ev T cf (d+1) (.con k) ρ hs=some (.con k,hs):=rfl
theorem QF{i:Nat}:ev T cf (d+1) (.var i) ρ hs=(match ρ[i]? with|some (some u)=>some (u,hs)|_=>none):=rfl
theorem QlC{o:Operator}{a b:E}:ev T cf (d+1) (.op o a b) ρ hs=bd (ev T cf d a ρ hs) fun u h1=>bd (ev T cf d b ρ h1) fun w h2=>opU o u w h2:=rfl
theorem Jq{a:E}:ev T cf (d+1) (.neg a) ρ hs=bd (ev T cf d a ρ hs) fun u h1=>(match u with|.int i m=>some (.int (-i) m,h1)|_=>none):=rfl
theorem Zv{o:CmpOp}{a b:E}:ev T cf (d+1) (.cmp o a b) ρ hs=bd (ev T cf d a ρ hs) fun u h1=>bd (ev T cf d b ρ h1) fun w h2=>(Qo T o u w h2).map fun c=>(.bl c,h2):=rfl
theorem Qj5{a:E}:ev T cf (d+1) (.not a) ρ hs=bd (ev T cf d a ρ hs) fun u h1=>(Qi T u h1).map fun c=>(.bl (!c),h1):=rfl
theorem Qj6{t a b:E}:ev T cf (d+1) (.ife t a b) ρ hs=bd (evT T cf d t ρ hs) fun c h1=>if c=true then ev T cf d a ρ h1 else ev T cf d b ρ h1:=rfl
theorem J0{es:List E}:ev T cf (d+1) (.tup es) ρ hs=bd (evs (ev T cf d) ρ es hs) fun us h1=>some (.ref h1.length,h1++[.tup us]):=rfl
theorem Zu{es:List E}:ev T cf (d+1) (.lst es) ρ hs=bd (evs (ev T cf d) ρ es hs) fun us h1=>some (.ref h1.length,h1++[.lst us]):=rfl
theorem Qdl{a b:E}:ev T cf (d+1) (.ix a b) ρ hs=bd (ev T cf d a ρ hs) fun u h1=>bd (ev T cf d b ρ h1) fun w h2=>(Qk T u w h2).map fun x=>(x,h2):=rfl
theorem QlB{a:E}{lo hi:Option E}:ev T cf (d+1) (.sl a lo hi) ρ hs=bd (ev T cf d a ρ hs) fun u h1=>bd (evO (ev T cf d) ρ lo h1) fun l h2=>bd (evO (ev T cf d) ρ hi h2) fun r h3=>slU T u l r h3:=rfl
theorem Q1{f:Nat}{es:List E}:ev T cf (d+1) (.call f es) ρ hs=bd (evs (ev T cf d) ρ es hs) fun us h1=>cf f us h1:=rfl
theorem Qdh{b:Bi}{es:List E}:ev T cf (d+1) (.bi b es) ρ hs=bd (evs (ev T cf d) ρ es hs) fun us h1=>biU T b us h1:=rfl
theorem Qe9{a:E}{t:Ty}:ev T cf (d+1) (.isi a t) ρ hs=bd (ev T cf d a ρ hs) fun u h1=>(YN T t u h1).map fun b=>(.bl b,h1):=rfl
theorem QbQ{b:Bm}{o:E}{es:List E}:ev T cf (d+1) (.bm b o es) ρ hs=bd (ev T cf d o ρ hs) fun u h1=>if Zd b u h1=true then bd (evs (ev T cf d) ρ es h1) fun us h2=>bmU T b u us h2 else none:=rfl
theorem QbP{s:Src}{b:Bool}{t:Option E}{el:E}:ev T cf (d+1) (.comp s b t el) ρ hs=bd (Ql T (ev T cf d) ρ s hs) fun w h1=>bd (Zt T (ev T cf d) (JO (evT T cf d) t) w b el ρ (Qd T w h1) 0 [] h1) fun us h2=>some (.ref h2.length,h2++[.lst us]):=rfl
theorem Qj8{a b:E}:ev T cf (d+1) (.and a b) ρ hs=bd (ev T cf d a ρ hs) fun u h1=>(match u with|.bl true=>ev T cf d b ρ h1|.bl false=>some (.bl false,h1)|_=>none):=rfl
theorem QmK{a b:E}:ev T cf (d+1) (.or a b) ρ hs=bd (ev T cf d a ρ hs) fun u h1=>(match u with|.bl true=>some (.bl true,h1)|.bl false=>ev T cf d b ρ h1|_=>none):=rfl
theorem Qhj{a:E}:evT T cf (d+1) (.not a) ρ hs=bd (evT T cf d a ρ hs) fun c h1=>some (!c,h1):=rfl
theorem Zx{a b:E}:evT T cf (d+1) (.and a b) ρ hs=bd (evT T cf d a ρ hs) fun c h1=>if c=true then evT T cf d b ρ h1 else some (false,h1):=rfl
theorem Qj9{a b:E}:evT T cf (d+1) (.or a b) ρ hs=bd (evT T cf d a ρ hs) fun c h1=>if c=true then some (true,h1)else evT T cf d b ρ h1:=rfl
theorem Q2{o:CmpOp}{a b:E}:evT T cf (d+1) (.cmp o a b) ρ hs=bd (ev T cf d (.cmp o a b) ρ hs) fun u h1=>(Qi T u h1).map fun c=>(c,h1):=rfl
theorem Qhi{i:Nat}:evT T cf (d+1) (.var i) ρ hs=bd (ev T cf d (.var i) ρ hs) fun u h1=>(Qi T u h1).map fun c=>(c,h1):=rfl
theorem QbR{a:E}{t:Ty}:evT T cf (d+1) (.isi a t) ρ hs=bd (ev T cf d (.isi a t) ρ hs) fun u h1=>(Qi T u h1).map fun c=>(c,h1):=rfl
theorem Qfc{f:Nat}{es:List E}:evT T cf (d+1) (.call f es) ρ hs=bd (ev T cf d (.call f es) ρ hs) fun u h1=>(Qi T u h1).map fun c=>(c,h1):=rfl
theorem Qe{n f:Nat}{us:List U}(F:Fn)(hF:T.fns[f]?=some F)(hl:us.length=F.np):Qa T (n+1) f us hs=fin (exs T (Qa T n) dd F.body (QjQ us F.nN) hs):=by simp [Qa,hF,hl]
end
end Iv
namespace K08
open PySem Iv L2
variable {fl:Bool}{cf:Cf}{el:E}{h h0 h1 h2 hs:Hs}{i j:Int}{tl:List (List (List Nat))}{ta tc ts:List (List Nat)}{M M' X as m rs sms t x y:List Nat}{A:List S}{s ub us xs ys:List U}{B L R a b c d k l l2 l3 n p q r:Nat}{e f o:O}{o1 o2 o3 o4 o5 o6 o7 o8:Option U}{ρ:Rho}{T:Tbl}{α:Type}{cl u u' w:U}{P:U->U->Prop}
noncomputable def top(i:Nat):Stmt:=PySem.Challenge.pw_stitchroom_k08_patterns_shown.main.body.getD i (.Pass ⟨0,0,0,0⟩)
noncomputable def Qnx:List Str:=["side","many","way","first","second","keeper","cast","things"]
noncomputable def Qno:List Str:=["ties","ends","takes","gives","mark","mirrored","turned"]
noncomputable def glo:List (Str×G):=([("SIZES",.con 0),("sum_text",.fn 0),("size_term",.fn 1),("shown",.fn 2),("parts_text",.fn 3),("item_texts",.fn 4),("block_text",.fn 5),("row_text",.fn 6),("part_texts",.fn 7),("part_text",.fn 8),("KEEPERS",.con 1),("SIDE_SIGNS",.con 2),("CROSS_SIGNS",.con 3),("Stitch",.cls 0),("Plain",.cls 1),("Slip",.cls 2),("Over",.cls 3),("Lean",.cls 4),("Grow",.cls 5),("Cross",.cls 6)]:List (Str×G))++([("Off",.cls 7),("Keep",.cls 8),("Fetch",.cls 9),("SIDES",.con 4),("CROSS_SIDES",.con 5),("LEAN_WAYS",.con 6),("CROSS_WAYS",.con 7),("MANY",.con 8),("CROSSED",.con 9),("stitch",.fn 24),("stitch_of_text",.fn 25),("bare_stitch",.fn 26),("keeper_stitch",.fn 27),("sided_stitch",.fn 28),("crossing",.fn 29),("Pattern",.cls 10),("own_copy",.fn 31),("_law_cell_at",.fn 32),("_law_mark",.fn 33),("_law_sum_by",.fn 34)]:List (Str×G))++([("_law_closed",.fn 35),("_law_row_by",.fn 36),("_law_many_by",.fn 37),("_law_ended",.fn 38),("_law_items",.fn 39),("_law_sum_text",.fn 40),("_law_parts_text",.fn 41),("_law_items_text",.fn 42),("_law_parts",.fn 43),("_law_tree",.fn 44),("_law_text",.fn 45),("_law_first_rows",.fn 46),("law",.fn 47)]:List (Str×G))
noncomputable def Qlm:List Str:=["len","int","str","tuple","list","isinstance","range","zip","min"]
noncomputable def QnF:List Co:=[.tup [.str [97],.str [98],.str [99],.str [100]],.tup [.str [119],.str [120],.str [121],.str [122]],.tab [(.int 1 0,.str [107]),(.int (-1) 0,.str [112])],.tab [(.int 1 0,.str [99]),(.int (-1) 0,.str [113])],.tab [(.str [107],.int 1 0),(.str [112],.int (-1) 0)],.tab [(.str [99],.int 1 0),(.str [113],.int (-1) 0)],.tup [.str [114],.str [108]],.tup [.str [102],.str [98]],.tab [(.str [50],.int 2 0),(.str [51],.int 3 0),(.str [52],.int 4 0)],.tab [(.str [49],.int 1 0),(.str [50],.int 2 0),(.str [51],.int 3 0),(.str [52],.int 4 0)]]
noncomputable def QnH:List Cl:=[⟨"Stitch",none,[],[0]⟩,⟨"Plain",some 9,[(4,10)],[1,0]⟩,⟨"Slip",none,[(4,11)],[2,0]⟩,⟨"Over",none,[(4,12)],[3,0]⟩,⟨"Lean",some 13,[(4,14)],[4,0]⟩,⟨"Grow",some 15,[(4,16)],[5,0]⟩,⟨"Cross",some 17,[(4,18)],[6,0]⟩,⟨"Off",none,[(4,19)],[7,0]⟩,⟨"Keep",some 20,[(4,21)],[8,0]⟩,⟨"Fetch",some 22,[(4,23)],[9,0]⟩,⟨"Pattern",some 30,[],[10]⟩]
noncomputable def isiL:List ((Ty×Ty)×Bool):=[((.cls 1,.list),false),((.cls 1,.tuple),false),((.cls 2,.list),false),((.cls 2,.tuple),false),((.cls 3,.list),false),((.cls 3,.tuple),false),((.cls 4,.list),false),((.cls 4,.tuple),false),((.cls 5,.list),false),((.cls 5,.tuple),false),((.cls 6,.list),false),((.cls 6,.tuple),false),((.cls 7,.list),false),((.cls 7,.tuple),false),((.cls 8,.list),false),((.cls 8,.tuple),false),((.cls 9,.list),false),((.cls 9,.tuple),false)]
noncomputable abbrev st0:Stmt:=top 6
noncomputable def N0:List Str:=["one","terms"]
noncomputable abbrev st1:Stmt:=top 7
noncomputable def N1:List Str:=["number","size"]
noncomputable abbrev st2:Stmt:=top 9
noncomputable def N2:List Str:=["pattern"]
noncomputable abbrev st3:Stmt:=top 10
noncomputable def N3:List Str:=["parts"]
noncomputable abbrev st4:Stmt:=top 11
noncomputable def N4:List Str:=["items"]
noncomputable abbrev st5:Stmt:=top 12
noncomputable def N5:List Str:=["block"]
noncomputable abbrev st6:Stmt:=top 13
noncomputable def N6:List Str:=["row","texts","ending"]
noncomputable abbrev st7:Stmt:=top 14
noncomputable def N7:List Str:=["parts"]
noncomputable abbrev st8:Stmt:=top 15
noncomputable def N8:List Str:=["part"]
noncomputable abbrev st9:Stmt:=Qg (top 21) 0
noncomputable def N9:List Str:=["self","side"]
noncomputable abbrev QjO:Stmt:=Qg (top 21) 4
noncomputable def N10:List Str:=["self"]
noncomputable abbrev QjN:Stmt:=Qg (top 22) 3
noncomputable def N11:List Str:=["self"]
noncomputable abbrev QjM:Stmt:=Qg (top 23) 3
noncomputable def N12:List Str:=["self"]
noncomputable abbrev Qmc:Stmt:=Qg (top 24) 0
noncomputable def N13:List Str:=["self","many","way","side"]
noncomputable abbrev Qmb:Stmt:=Qg (top 24) 4
noncomputable def N14:List Str:=["self"]
noncomputable abbrev Qma:Stmt:=Qg (top 25) 0
noncomputable def N15:List Str:=["self","many","side"]
noncomputable abbrev Ql9:Stmt:=Qg (top 25) 4
noncomputable def N16:List Str:=["self"]
noncomputable abbrev Ql8:Stmt:=Qg (top 26) 0
noncomputable def N17:List Str:=["self","first","second","way","side"]
noncomputable abbrev Ql7:Stmt:=Qg (top 26) 4
noncomputable def N18:List Str:=["self"]
noncomputable abbrev Ql6:Stmt:=Qg (top 27) 3
noncomputable def N19:List Str:=["self"]
noncomputable abbrev Ql5:Stmt:=Qg (top 28) 0
noncomputable def N20:List Str:=["self","keeper"]
noncomputable abbrev Ql4:Stmt:=Qg (top 28) 4
noncomputable def N21:List Str:=["self"]
noncomputable abbrev Ql3:Stmt:=Qg (top 29) 0
noncomputable def N22:List Str:=["self","keeper"]
noncomputable abbrev Ql2:Stmt:=Qg (top 29) 4
noncomputable def N23:List Str:=["self"]
noncomputable abbrev Ql1:Stmt:=top 37
noncomputable def N24:List Str:=["mark","found"]
noncomputable abbrev Ql0:Stmt:=top 38
noncomputable def N25:List Str:=["text","size"]
noncomputable abbrev QlZ:Stmt:=top 39
noncomputable def N26:List Str:=["sign"]
noncomputable abbrev QlY:Stmt:=top 40
noncomputable def N27:List Str:=["sign","keeper"]
noncomputable abbrev QlX:Stmt:=top 41
noncomputable def N28:List Str:=["sign","middle","last"]
noncomputable abbrev QlW:Stmt:=top 42
noncomputable def N29:List Str:=["sign","first","way","second"]
noncomputable abbrev QlV:Stmt:=Qg (top 44) 0
noncomputable def N30:List Str:=["self","way","cast","items"]
noncomputable abbrev QlU:Stmt:=top 45
noncomputable def N31:List Str:=["thing"]
noncomputable abbrev QlT:Stmt:=top 47
noncomputable def N32:List Str:=["_law_script","_law_k"]
noncomputable abbrev QlS:Stmt:=top 48
noncomputable def N33:List Str:=["_law_cell","_law_side","_law_kind","_law_more"]
noncomputable abbrev QlR:Stmt:=top 49
noncomputable def N34:List Str:=["_law_cell","_law_rest","_law_found"]
noncomputable abbrev QlQ:Stmt:=top 50
noncomputable def N35:List Str:=["_law_row","_law_body"]
noncomputable abbrev QlP:Stmt:=top 51
noncomputable def N36:List Str:=["_law_parts_here","_law_rest","_law_flat","_law_at","_law_to"]
noncomputable abbrev QlO:Stmt:=top 52
noncomputable def N37:List Str:=["_law_cell","_law_one"]
noncomputable abbrev QlN:Stmt:=top 53
noncomputable def N38:List Str:=["_law_blocks","_law_sums","_law_row","_law_body"]
noncomputable abbrev QlM:Stmt:=top 54
noncomputable def N39:List Str:=["_law_cells","_law_flat","_law_blocks","_law_sums","_law_row","_law_cell","_law_word","_law_rest","_law_body"]
noncomputable abbrev QlL:Stmt:=top 55
noncomputable def N40:List Str:=["_law_one","_law_text_here","_law_k"]
noncomputable abbrev QlK:Stmt:=top 56
noncomputable def N41:List Str:=["_law_parts_here","_law_texts","_law_part"]
noncomputable abbrev QlJ:Stmt:=top 57
noncomputable def N42:List Str:=["_law_items_here","_law_texts","_law_item","_law_middle","_law_sides"]
noncomputable abbrev QlI:Stmt:=top 58
noncomputable def N43:List Str:=["_law_parts_here","_law_found","_law_part"]
noncomputable abbrev QlH:Stmt:=top 59
noncomputable def N44:List Str:=["_law_items_here","_law_found","_law_item"]
noncomputable abbrev QlG:Stmt:=top 60
noncomputable def N45:List Str:=["_law_way","_law_cast","_law_items_here"]
noncomputable abbrev QlF:Stmt:=top 61
noncomputable def N46:List Str:=["_law_items_here","_law_item","_law_found"]
noncomputable abbrev QjL:Stmt:=top 62
noncomputable def N47:List Str:=["_law_script","_law_way","_law_cast","_law_items_here","_law_tree_here","_law_pattern","_law_due","_law_found","_law_other"]
noncomputable def QnE:List (Nat×Df):=[]
noncomputable def QnD:List Str:=[]
noncomputable def QmJ:List Str:=[]
noncomputable def QnA:List Nat:=[]
noncomputable def Qnz:List (Nat×Nat):=[]
noncomputable def Qni:List Nat:=[]
noncomputable def QnC:List (Nat×Nat):=[]
noncomputable def b0:List S:=[.set 1 (.comp (.zip (.sl (.var 0) (some (.c (.int 1 0))) none) (.con 0)) true (some (.cmp .NotEq (.var 2) (.c (.int 0 0)))) (.call 1 [.var 2,.var 3])),.ite (.or (.cmp .NotEq (.ix (.var 0) (.c (.int 0 0))) (.c (.int 0 0))) (.not (.var 1))) [.expr (.bm .append (.var 1) [.bi .str [.ix (.var 0) (.c (.int 0 0))]])] [],.ret (.bm .join (.c (.str [43])) [.var 1])]
noncomputable def b1:List S:=[.ret (.ife (.cmp .Eq (.var 0) (.c (.int 1 0))) (.var 1) (.op .Add (.bi .str [.var 0]) (.var 1)))]
noncomputable def b2:List S:=[.ret (.bm .join (.c (.str [59,32])) [.op .Add (.lst [.fld (.var 0) 2,.op .Add (.c (.str [99,97,115,116,32])) (.call 0 [.fld (.var 0) 6])]) (.call 4 [.fld (.var 0) 7])])]
noncomputable def b3:List S:=[.ret (.bm .join (.c (.str [44,32])) [.call 7 [.var 0]])]
noncomputable def b4:List S:=[.ret (.comp (.seq (.var 0)) false none (.ife (.cmp .Eq (.ix (.var 1) (.c (.int 0 0))) (.c (.str [114,111,119]))) (.call 6 [.var 1]) (.call 5 [.var 1])))]
noncomputable def b5:List S:=[.ret (.op .Add (.op .Add (.op .Add (.call 0 [.ix (.var 0) (.c (.int 1 0))]) (.c (.str [32,116,105,109,101,115,32,40]))) (.bm .join (.c (.str [59,32])) [.call 4 [.ix (.var 0) (.c (.int 2 0))]])) (.c (.str [41])))]
noncomputable def b6:List S:=[.set 1 (.call 7 [.ix (.var 0) (.c (.int 1 0))]),.ite (.cmp .Gt (.bi .len [.var 0]) (.c (.int 3 0))) [.set 1 (.op .Add (.op .Add (.var 1) (.lst [.op .Add (.op .Add (.c (.str [114,101,115,116,32,91])) (.call 3 [.ix (.var 0) (.c (.int 3 0))])) (.c (.str [93]))])) (.call 7 [.ix (.var 0) (.c (.int 4 0))]))] [],.set 2 (.ife (.ix (.var 0) (.c (.int 2 0))) (.c (.str [32,116,117,114,110])) (.c (.str []))),.ret (.op .Add (.op .Add (.c (.str [114,111,119,32])) (.bm .join (.c (.str [44,32])) [.var 1])) (.var 2))]
noncomputable def b7:List S:=[.ret (.comp (.seq (.var 0)) false none (.call 8 [.var 1]))]
noncomputable def b8:List S:=[.ite (.cmp .Eq (.ix (.var 0) (.c (.int 0 0))) (.c (.str [111,110,101]))) [.ret (.meth 4 (.ix (.var 0) (.c (.int 1 0))) [])] [],.ret (.op .Add (.op .Add (.op .Add (.c (.str [91])) (.call 3 [.ix (.var 0) (.c (.int 2 0))])) (.c (.str [93,32]))) (.call 0 [.ix (.var 0) (.c (.int 1 0))]))]
noncomputable def b9:List S:=[.fld (.var 0) 0 (.var 1)]
noncomputable def b10:List S:=[.ret (.tab 2 (.fld (.var 0) 0))]
noncomputable def b11:List S:=[.ret (.c (.str [115]))]
noncomputable def b12:List S:=[.ret (.c (.str [111]))]
noncomputable def b13:List S:=[.fld (.var 0) 1 (.var 1),.fld (.var 0) 2 (.var 2),.fld (.var 0) 0 (.var 3)]
noncomputable def b14:List S:=[.ret (.op .Add (.op .Add (.tab 2 (.fld (.var 0) 0)) (.bi .str [.fld (.var 0) 1])) (.fld (.var 0) 2))]
noncomputable def b15:List S:=[.fld (.var 0) 1 (.var 1),.fld (.var 0) 0 (.var 2)]
noncomputable def b16:List S:=[.ret (.op .Add (.op .Add (.tab 2 (.fld (.var 0) 0)) (.c (.str [120]))) (.bi .str [.fld (.var 0) 1]))]
noncomputable def b17:List S:=[.fld (.var 0) 3 (.var 1),.fld (.var 0) 4 (.var 2),.fld (.var 0) 2 (.var 3),.fld (.var 0) 0 (.var 4)]
noncomputable def b18:List S:=[.ret (.op .Add (.op .Add (.op .Add (.tab 3 (.fld (.var 0) 0)) (.bi .str [.fld (.var 0) 3])) (.fld (.var 0) 2)) (.bi .str [.fld (.var 0) 4]))]
noncomputable def b19:List S:=[.ret (.c (.str [98]))]
noncomputable def b20:List S:=[.fld (.var 0) 5 (.var 1)]
noncomputable def b21:List S:=[.ret (.op .Add (.c (.str [104])) (.fld (.var 0) 5))]
noncomputable def b22:List S:=[.fld (.var 0) 5 (.var 1)]
noncomputable def b23:List S:=[.ret (.op .Add (.c (.str [102])) (.fld (.var 0) 5))]
noncomputable def b24:List S:=[.set 1 (.ife (.isi (.var 0) .str) (.call 25 [.var 0]) (.c .non)),.ite (.cmp .Is (.var 1) (.c .non)) [.bad] [],.ret (.var 1)]
noncomputable def b25:List S:=[.set 1 (.bi .len [.var 0]),.ite (.cmp .Eq (.var 1) (.c (.int 1 0))) [.ret (.call 26 [.var 0])] [],.ite (.cmp .Eq (.var 1) (.c (.int 2 0))) [.ret (.call 27 [.ix (.var 0) (.c (.int 0 0)),.ix (.var 0) (.c (.int 1 0))])] [],.ite (.cmp .Eq (.var 1) (.c (.int 3 0))) [.ret (.call 28 [.ix (.var 0) (.c (.int 0 0)),.ix (.var 0) (.c (.int 1 0)),.ix (.var 0) (.c (.int 2 0))])] [],.ite (.cmp .Eq (.var 1) (.c (.int 4 0))) [.ret (.call 29 [.ix (.var 0) (.c (.int 0 0)),.ix (.var 0) (.c (.int 1 0)),.ix (.var 0) (.c (.int 2 0)),.ix (.var 0) (.c (.int 3 0))])] [],.ret (.c .non)]
noncomputable def b26:List S:=[.ite (.cmp .In (.var 0) (.con 4)) [.ret (.make 1 [.tab 4 (.var 0)])] [],.ite (.cmp .Eq (.var 0) (.c (.str [115]))) [.ret (.make 2 [])] [],.ite (.cmp .Eq (.var 0) (.c (.str [111]))) [.ret (.make 3 [])] [],.ite (.cmp .Eq (.var 0) (.c (.str [98]))) [.ret (.make 7 [])] [],.ret (.c .non)]
noncomputable def b27:List S:=[.ite (.cmp .NotIn (.var 1) (.con 1)) [.ret (.c .non)] [],.ite (.cmp .Eq (.var 0) (.c (.str [104]))) [.ret (.make 8 [.var 1])] [],.ite (.cmp .Eq (.var 0) (.c (.str [102]))) [.ret (.make 9 [.var 1])] [],.ret (.c .non)]
noncomputable def b28:List S:=[.ite (.cmp .NotIn (.var 0) (.con 4)) [.ret (.c .non)] [],.ite (.and (.cmp .Eq (.var 1) (.c (.str [120]))) (.cmp .In (.var 2) (.con 8))) [.ret (.make 5 [.tab 8 (.var 2),.tab 4 (.var 0)])] [],.ite (.and (.cmp .In (.var 1) (.con 8)) (.cmp .In (.var 2) (.con 6))) [.ret (.make 4 [.tab 8 (.var 1),.var 2,.tab 4 (.var 0)])] [],.ret (.c .non)]
noncomputable def b29:List S:=[.ite (.and (.cmp .In (.var 0) (.con 5)) (.and (.cmp .In (.var 1) (.con 9)) (.and (.cmp .In (.var 2) (.con 7)) (.cmp .In (.var 3) (.con 9))))) [.ret (.make 6 [.tab 9 (.var 1),.tab 9 (.var 3),.var 2,.tab 5 (.var 0)])] [],.ret (.c .non)]
noncomputable def b30:List S:=[.fld (.var 0) 2 (.var 1),.fld (.var 0) 6 (.var 2),.fld (.var 0) 7 (.call 31 [.var 3])]
noncomputable def b31:List S:=[.ite (.isi (.var 0) .list) [.ret (.comp (.seq (.var 0)) false none (.call 31 [.var 1]))] [],.ite (.isi (.var 0) .tuple) [.ret (.bi .tuple [.comp (.seq (.var 0)) false none (.call 31 [.var 1])])] [],.ret (.var 0)]
noncomputable def b32:List S:=[.ite (.cmp .Lt (.var 1) (.bi .len [.var 0])) [.ret (.ix (.var 0) (.var 1))] [],.ret (.c (.int 0 0))]
noncomputable def b33:List S:=[.set 1 (.op .Mod (.var 0) (.c (.int 2 0))),.set 2 (.op .Mod (.op .FloorDiv (.var 0) (.c (.int 2 0))) (.c (.int 9 0))),.set 3 (.op .FloorDiv (.var 0) (.c (.int 18 0))),.ite (.cmp .Eq (.var 2) (.c (.int 2 0))) [.ret (.c (.str [115]))] [],.ite (.cmp .Eq (.var 2) (.c (.int 3 0))) [.ret (.c (.str [111]))] [],.ite (.cmp .Eq (.var 2) (.c (.int 4 0))) [.ret (.op .Add (.op .Add (.ix (.c (.str [107,112])) (.var 1)) (.ix (.c (.str [50,51,52])) (.op .Mod (.var 3) (.c (.int 3 0))))) (.ix (.c (.str [114,108])) (.op .Mod (.op .FloorDiv (.var 3) (.c (.int 3 0))) (.c (.int 2 0)))))] [],.ite (.cmp .Eq (.var 2) (.c (.int 5 0))) [.ret (.op .Add (.op .Add (.ix (.c (.str [107,112])) (.var 1)) (.c (.str [120]))) (.ix (.c (.str [50,51,52])) (.op .Mod (.var 3) (.c (.int 3 0)))))] [],.ite (.cmp .Eq (.var 2) (.c (.int 6 0))) [.ret (.op .Add (.op .Add (.op .Add (.ix (.c (.str [99,113])) (.var 1)) (.ix (.c (.str [49,50,51,52])) (.op .Mod (.var 3) (.c (.int 4 0))))) (.ix (.c (.str [102,98])) (.op .Mod (.op .FloorDiv (.var 3) (.c (.int 4 0))) (.c (.int 2 0))))) (.ix (.c (.str [49,50,51,52])) (.op .Mod (.op .FloorDiv (.var 3) (.c (.int 8 0))) (.c (.int 4 0)))))] [],.ite (.cmp .Eq (.var 2) (.c (.int 7 0))) [.ret (.c (.str [98]))] [],.ite (.cmp .Eq (.var 2) (.c (.int 8 0))) [.ret (.op .Add (.ix (.c (.str [104,102])) (.var 1)) (.ix (.c (.str [119,120,121,122])) (.op .Mod (.var 3) (.c (.int 4 0)))))] [],.ret (.ix (.c (.str [107,112])) (.var 1))]
noncomputable def b34:List S:=[.set 1 (.op .FloorDiv (.var 0) (.c (.int 4 0))),.ite (.cmp .Eq (.op .Mod (.var 0) (.c (.int 4 0))) (.c (.int 0 0))) [.ret (.tup [.op .Mod (.var 1) (.c (.int 6 0)),.c (.int 0 0),.c (.int 0 0),.c (.int 0 0),.c (.int 0 0)])] [],.ite (.cmp .Eq (.op .Mod (.var 0) (.c (.int 4 0))) (.c (.int 1 0))) [.set 2 (.lst [.op .Mod (.op .FloorDiv (.var 1) (.c (.int 4 0))) (.c (.int 3 0)),.c (.int 0 0),.c (.int 0 0),.c (.int 0 0),.c (.int 0 0)]),.put (.var 2) (.op .Add (.c (.int 1 0)) (.op .Mod (.var 1) (.c (.int 4 0)))) (.op .Add (.c (.int 1 0)) (.op .Mod (.op .FloorDiv (.var 1) (.c (.int 12 0))) (.c (.int 3 0)))),.ret (.bi .tuple [.var 2])] [],.ite (.cmp .Eq (.op .Mod (.var 0) (.c (.int 4 0))) (.c (.int 2 0))) [.ret (.bi .tuple [.comp (.rng (.c (.int 5 0))) false none (.op .Mod (.op .FloorDiv (.var 1) (.ix (.lst [.c (.int 1 0),.c (.int 3 0),.c (.int 9 0),.c (.int 27 0),.c (.int 81 0)]) (.var 3))) (.c (.int 3 0)))])] [],.set 2 (.lst [.c (.int 0 0),.c (.int 0 0),.c (.int 0 0),.c (.int 0 0),.c (.int 0 0)]),.put (.var 2) (.op .Mod (.var 1) (.c (.int 5 0))) (.op .Mod (.op .Mult (.op .FloorDiv (.var 1) (.c (.int 5 0))) (.c (.int 48271 0))) (.op .Pow (.c (.int 10 0)) (.c (.int 18 0)))),.ret (.bi .tuple [.var 2])]
noncomputable def b35:List S:=[.while (.cmp .Gt (.bi .len [.var 0]) (.c (.int 1 0))) [.set 1 (.bm .pop (.var 0) []),.ite (.cmp .Eq (.var 1) (.lst [])) [.set 1 (.lst [.tup [.c (.str [111,110,101]),.c (.str [107])]])] [],.expr (.bm .append (.ix (.var 0) (.neg (.c (.int 1 0)))) [.tup [.c (.str [116,105,109,101,115]),.tup [.c (.int 2 0),.c (.int 0 0),.c (.int 0 0),.c (.int 0 0),.c (.int 0 0)],.var 1]])],.ite (.cmp .Eq (.ix (.var 0) (.c (.int 0 0))) (.lst [])) [.expr (.bm .append (.ix (.var 0) (.c (.int 0 0))) [.tup [.c (.str [111,110,101]),.c (.str [112])]])] [],.ret (.ix (.var 0) (.c (.int 0 0)))]
noncomputable def b36:List S:=[.ite (.cmp .Eq (.op .Mod (.var 1) (.c (.int 4 0))) (.c (.int 2 0))) [.ret (.tup [.c (.str [114,111,119]),.var 0,.var 2])] [],.ite (.cmp .Eq (.op .Mod (.var 1) (.c (.int 4 0))) (.c (.int 3 0))) [.set 3 (.op .Mod (.op .FloorDiv (.var 1) (.c (.int 4 0))) (.bi .len [.var 0])),.set 4 (.bi .min [.bi .len [.var 0],.op .Add (.op .Add (.var 3) (.c (.int 1 0))) (.op .Mod (.op .FloorDiv (.var 1) (.c (.int 32 0))) (.c (.int 2 0)))]),.ret (.tup [.c (.str [114,111,119]),.sl (.var 0) none (some (.var 3)),.c (.bl false),.sl (.var 0) (some (.var 3)) (some (.var 4)),.sl (.var 0) (some (.var 4)) none])] [],.ret (.tup [.c (.str [114,111,119]),.var 0,.c (.bl false)])]
noncomputable def b37:List S:=[.set 1 (.call 34 [.var 0]),.ite (.cmp .Eq (.ix (.var 1) (.c (.int 0 0))) (.c (.int 0 0))) [.ret (.op .Add (.tup [.c (.int 1 0)]) (.sl (.var 1) (some (.c (.int 1 0))) none))] [],.ret (.var 1)]
noncomputable def b38:List S:=[.ite (.or (.cmp .Eq (.ix (.var 0) (.neg (.c (.int 1 0)))) (.lst [])) (.cmp .NotEq (.var 2) (.lst [.lst []]))) [.expr (.bm .append (.ix (.var 0) (.neg (.c (.int 1 0)))) [.tup [.c (.str [114,111,119]),.call 35 [.var 2],.c (.bl false)]])] [],.while (.cmp .Gt (.bi .len [.var 0]) (.c (.int 1 0))) [.set 3 (.bm .pop (.var 0) []),.expr (.bm .append (.ix (.var 0) (.neg (.c (.int 1 0)))) [.tup [.c (.str [98,108,111,99,107]),.bm .pop (.var 1) [],.var 3]])],.ret (.ix (.var 0) (.c (.int 0 0)))]
noncomputable def b39:List S:=[.set 2 (.lst [.lst []]),.set 3 (.lst []),.set 4 (.lst [.lst []]),.loop (.name 5) (.seq (.var 0)) [.set 6 (.op .Mod (.var 5) (.c (.int 11 0))),.set 7 (.op .FloorDiv (.var 5) (.c (.int 11 0))),.ite (.and (.cmp .Eq (.var 6) (.c (.int 5 0))) (.cmp .Lt (.bi .len [.var 4]) (.c (.int 4 0)))) [.expr (.bm .append (.var 4) [.lst []])] [.ite (.and (.cmp .Eq (.var 6) (.c (.int 6 0))) (.and (.cmp .Gt (.bi .len [.var 4]) (.c (.int 1 0))) (.cmp .NotEq (.ix (.var 4) (.neg (.c (.int 1 0)))) (.lst [])))) [.set 8 (.bm .pop (.var 4) []),.expr (.bm .append (.ix (.var 4) (.neg (.c (.int 1 0)))) [.tup [.c (.str [116,105,109,101,115]),.call 34 [.var 7],.var 8]])] [.ite (.and (.cmp .Eq (.var 6) (.c (.int 7 0))) (.cmp .NotEq (.var 4) (.lst [.lst []]))) [.expr (.bm .append (.ix (.var 2) (.neg (.c (.int 1 0)))) [.call 36 [.call 35 [.var 4],.var 7,.var 1]]),.set 4 (.lst [.lst []])] [.ite (.and (.cmp .Eq (.var 6) (.c (.int 8 0))) (.and (.cmp .Eq (.var 4) (.lst [.lst []])) (.cmp .Lt (.bi .len [.var 2]) (.c (.int 4 0))))) [.expr (.bm .append (.var 2) [.lst []]),.expr (.bm .append (.var 3) [.call 37 [.var 7]])] [.ite (.and (.cmp .Eq (.var 6) (.c (.int 9 0))) (.and (.cmp .Eq (.var 4) (.lst [.lst []])) (.and (.cmp .Gt (.bi .len [.var 2]) (.c (.int 1 0))) (.cmp .NotEq (.ix (.var 2) (.neg (.c (.int 1 0)))) (.lst []))))) [.set 8 (.bm .pop (.var 2) []),.expr (.bm .append (.ix (.var 2) (.neg (.c (.int 1 0)))) [.tup [.c (.str [98,108,111,99,107]),.bm .pop (.var 3) [],.var 8]])] [.expr (.bm .append (.ix (.var 4) (.neg (.c (.int 1 0)))) [.tup [.c (.str [111,110,101]),.call 33 [.var 7]]])]]]]]],.ret (.call 38 [.var 2,.var 3,.var 4])]
noncomputable def b40:List S:=[.set 1 (.c (.str [])),.loop (.name 2) (.rng2 (.c (.int 1 0)) (.c (.int 5 0))) [.ite (.cmp .Eq (.ix (.var 0) (.var 2)) (.c (.int 1 0))) [.set 1 (.op .Add (.op .Add (.var 1) (.c (.str [43]))) (.ix (.c (.str [32,97,98,99,100])) (.var 2)))] [],.ite (.cmp .Gt (.ix (.var 0) (.var 2)) (.c (.int 1 0))) [.set 1 (.op .Add (.op .Add (.op .Add (.var 1) (.c (.str [43]))) (.bi .str [.ix (.var 0) (.var 2)])) (.ix (.c (.str [32,97,98,99,100])) (.var 2)))] []],.ite (.or (.cmp .Gt (.ix (.var 0) (.c (.int 0 0))) (.c (.int 0 0))) (.cmp .Eq (.var 1) (.c (.str [])))) [.set 1 (.op .Add (.op .Add (.var 1) (.c (.str [43]))) (.bi .str [.ix (.var 0) (.c (.int 0 0))]))] [],.ret (.sl (.var 1) (some (.c (.int 1 0))) none)]
noncomputable def b41:List S:=[.set 1 (.lst []),.loop (.name 2) (.seq (.var 0)) [.ite (.cmp .Eq (.ix (.var 2) (.c (.int 0 0))) (.c (.str [111,110,101]))) [.expr (.bm .append (.var 1) [.ix (.var 2) (.c (.int 1 0))])] [.expr (.bm .append (.var 1) [.op .Add (.op .Add (.op .Add (.c (.str [91])) (.call 41 [.ix (.var 2) (.c (.int 2 0))])) (.c (.str [93,32]))) (.call 40 [.ix (.var 2) (.c (.int 1 0))])])]],.ret (.bm .join (.c (.str [44,32])) [.var 1])]
noncomputable def b42:List S:=[.set 1 (.lst []),.loop (.name 2) (.seq (.var 0)) [.ite (.cmp .Eq (.ix (.var 2) (.c (.int 0 0))) (.c (.str [98,108,111,99,107]))) [.expr (.bm .append (.var 1) [.op .Add (.op .Add (.op .Add (.call 40 [.ix (.var 2) (.c (.int 1 0))]) (.c (.str [32,116,105,109,101,115,32,40]))) (.call 42 [.ix (.var 2) (.c (.int 2 0))])) (.c (.str [41]))])] [.ite (.cmp .Eq (.bi .len [.var 2]) (.c (.int 3 0))) [.expr (.bm .append (.var 1) [.op .Add (.op .Add (.c (.str [114,111,119,32])) (.call 41 [.ix (.var 2) (.c (.int 1 0))])) (.ix (.lst [.c (.str []),.c (.str [32,116,117,114,110])]) (.bi .int [.ix (.var 2) (.c (.int 2 0))]))])] [.set 3 (.lst [.op .Add (.op .Add (.c (.str [114,101,115,116,32,91])) (.call 41 [.ix (.var 2) (.c (.int 3 0))])) (.c (.str [93]))]),.set 4 (.comp (.seq (.lst [.c (.int 1 0),.c (.int 4 0)])) false none (.comp (.seq (.ix (.var 2) (.var 5))) false none (.call 41 [.lst [.var 6]]))),.expr (.bm .append (.var 1) [.op .Add (.c (.str [114,111,119,32])) (.bm .join (.c (.str [44,32])) [.op .Add (.op .Add (.ix (.var 4) (.c (.int 0 0))) (.var 3)) (.ix (.var 4) (.c (.int 1 0)))])])]]],.ret (.bm .join (.c (.str [59,32])) [.var 1])]
noncomputable def b43:List S:=[.set 1 (.lst []),.loop (.name 2) (.seq (.var 0)) [.ite (.cmp .Eq (.ix (.var 2) (.c (.int 0 0))) (.c (.str [111,110,101]))) [.expr (.bm .append (.var 1) [.tup [.c (.str [111,110,101]),.call 24 [.ix (.var 2) (.c (.int 1 0))]]])] [.expr (.bm .append (.var 1) [.tup [.c (.str [116,105,109,101,115]),.ix (.var 2) (.c (.int 1 0)),.call 43 [.ix (.var 2) (.c (.int 2 0))]]])]],.ret (.var 1)]
noncomputable def b44:List S:=[.set 1 (.lst []),.loop (.name 2) (.seq (.var 0)) [.ite (.cmp .Eq (.ix (.var 2) (.c (.int 0 0))) (.c (.str [98,108,111,99,107]))) [.expr (.bm .append (.var 1) [.tup [.c (.str [98,108,111,99,107]),.ix (.var 2) (.c (.int 1 0)),.call 44 [.ix (.var 2) (.c (.int 2 0))]]])] [.ite (.cmp .Eq (.bi .len [.var 2]) (.c (.int 3 0))) [.expr (.bm .append (.var 1) [.tup [.c (.str [114,111,119]),.call 43 [.ix (.var 2) (.c (.int 1 0))],.ix (.var 2) (.c (.int 2 0))]])] [.expr (.bm .append (.var 1) [.tup [.c (.str [114,111,119]),.call 43 [.ix (.var 2) (.c (.int 1 0))],.c (.bl false),.call 43 [.ix (.var 2) (.c (.int 3 0))],.call 43 [.ix (.var 2) (.c (.int 4 0))]]])]]],.ret (.var 1)]
noncomputable def b45:List S:=[.ret (.op .Add (.op .Add (.op .Add (.op .Add (.var 0) (.c (.str [59,32,99,97,115,116,32]))) (.call 40 [.var 1])) (.c (.str [59,32]))) (.call 42 [.var 2]))]
noncomputable def b46:List S:=[.loop (.name 1) (.seq (.var 0)) [.ite (.cmp .Eq (.ix (.var 1) (.c (.int 0 0))) (.c (.str [114,111,119]))) [.set 2 (.call 3 [.call 43 [.ix (.var 1) (.c (.int 1 0))]]),.ite (.or (.not (.isi (.var 2) .str)) (.cmp .NotEq (.var 2) (.call 41 [.ix (.var 1) (.c (.int 1 0))]))) [.ret (.c (.bl false))] []] []],.ret (.c (.bl true))]
noncomputable def b47:List S:=[.set 1 (.ix (.lst [.c (.str [102,108,97,116]),.c (.str [114,111,117,110,100])]) (.op .Mod (.call 32 [.var 0,.c (.int 0 0)]) (.c (.int 2 0)))),.set 2 (.call 34 [.call 32 [.var 0,.c (.int 1 0)]]),.set 3 (.call 39 [.sl (.var 0) (some (.c (.int 2 0))) (some (.c (.int 62 0))),.cmp .Eq (.var 1) (.c (.str [102,108,97,116]))]),.set 4 (.call 44 [.var 3]),.set 5 (.make 10 [.var 1,.var 2,.var 4]),.ite (.or (.cmp .NotEq (.fld (.var 5) 2) (.var 1)) (.or (.cmp .NotEq (.fld (.var 5) 6) (.var 2)) (.cmp .NotEq (.bi .len [.fld (.var 5) 7]) (.bi .len [.var 4])))) [.ret (.c (.bl false))] [],.set 6 (.call 45 [.var 1,.var 2,.var 3]),.set 7 (.call 2 [.var 5]),.ite (.or (.not (.isi (.var 7) .str)) (.or (.cmp .NotEq (.var 7) (.var 6)) (.not (.call 46 [.var 3])))) [.ret (.c (.bl false))] [],.set 8 (.make 10 [.c (.str [114,111,117,110,100]),.tup [.c (.int 2 0),.c (.int 0 0),.c (.int 0 0),.c (.int 0 0),.c (.int 0 0)],.lst [.tup [.c (.str [114,111,119]),.op .Mult (.lst [.tup [.c (.str [111,110,101]),.call 24 [.c (.str [98])]]]) (.c (.int 2 0)),.c (.bl false)]]]),.ite (.cmp .NotEq (.call 2 [.var 8]) (.c (.str [114,111,117,110,100,59,32,99,97,115,116,32,50,59,32,114,111,119,32,98,44,32,98]))) [.ret (.c (.bl false))] [],.expr (.bm .append (.var 4) [.tup [.c (.str [114,111,119]),.lst [.tup [.c (.str [111,110,101]),.call 24 [.c (.str [107])]]],.c (.bl false)]]),.ret (.cmp .Eq (.call 2 [.var 5]) (.var 6))]
noncomputable def fnL:List Fn:=[⟨"sum_text","sum_text",st0,["one"],N0,1,2,false,b0⟩,
 ⟨"size_term","size_term",st1,["number","size"],N1,2,2,false,b1⟩,
 ⟨"shown","shown",st2,["pattern"],N2,1,1,false,b2⟩,
 ⟨"parts_text","parts_text",st3,["parts"],N3,1,1,false,b3⟩,
 ⟨"item_texts","item_texts",st4,["items"],N4,1,1,false,b4⟩,
 ⟨"block_text","block_text",st5,["block"],N5,1,1,false,b5⟩,
 ⟨"row_text","row_text",st6,["row"],N6,1,3,false,b6⟩,
 ⟨"part_texts","part_texts",st7,["parts"],N7,1,1,false,b7⟩,
 ⟨"part_text","part_text",st8,["part"],N8,1,1,false,b8⟩,
 ⟨"__init__","Plain.__init__",st9,["self","side"],N9,2,2,false,b9⟩,
 ⟨"mark","Plain.mark",QjO,["self"],N10,1,1,false,b10⟩,
 ⟨"mark","Slip.mark",QjN,["self"],N11,1,1,false,b11⟩,
 ⟨"mark","Over.mark",QjM,["self"],N12,1,1,false,b12⟩,
 ⟨"__init__","Lean.__init__",Qmc,["self","many","way","side"],N13,4,4,false,b13⟩,
 ⟨"mark","Lean.mark",Qmb,["self"],N14,1,1,false,b14⟩,
 ⟨"__init__","Grow.__init__",Qma,["self","many","side"],N15,3,3,false,b15⟩,
 ⟨"mark","Grow.mark",Ql9,["self"],N16,1,1,false,b16⟩,
 ⟨"__init__","Cross.__init__",Ql8,["self","first","second","way","side"],N17,5,5,false,b17⟩,
 ⟨"mark","Cross.mark",Ql7,["self"],N18,1,1,false,b18⟩,
 ⟨"mark","Off.mark",Ql6,["self"],N19,1,1,false,b19⟩,
 ⟨"__init__","Keep.__init__",Ql5,["self","keeper"],N20,2,2,false,b20⟩,
 ⟨"mark","Keep.mark",Ql4,["self"],N21,1,1,false,b21⟩,
 ⟨"__init__","Fetch.__init__",Ql3,["self","keeper"],N22,2,2,false,b22⟩,
 ⟨"mark","Fetch.mark",Ql2,["self"],N23,1,1,false,b23⟩,
 ⟨"stitch","stitch",Ql1,["mark"],N24,1,2,false,b24⟩,
 ⟨"stitch_of_text","stitch_of_text",Ql0,["text"],N25,1,2,false,b25⟩,
 ⟨"bare_stitch","bare_stitch",QlZ,["sign"],N26,1,1,false,b26⟩,
 ⟨"keeper_stitch","keeper_stitch",QlY,["sign","keeper"],N27,2,2,false,b27⟩,
 ⟨"sided_stitch","sided_stitch",QlX,["sign","middle","last"],N28,3,3,false,b28⟩,
 ⟨"crossing","crossing",QlW,["sign","first","way","second"],N29,4,4,false,b29⟩,
 ⟨"__init__","Pattern.__init__",QlV,["self","way","cast","items"],N30,4,4,false,b30⟩,
 ⟨"own_copy","own_copy",QlU,["thing"],N31,1,1,false,b31⟩,
 ⟨"_law_cell_at","_law_cell_at",QlT,["_law_script","_law_k"],N32,2,2,false,b32⟩,
 ⟨"_law_mark","_law_mark",QlS,["_law_cell"],N33,1,4,false,b33⟩,
 ⟨"_law_sum_by","_law_sum_by",QlR,["_law_cell"],N34,1,3,false,b34⟩,
 ⟨"_law_closed","_law_closed",QlQ,["_law_row"],N35,1,2,false,b35⟩,
 ⟨"_law_row_by","_law_row_by",QlP,["_law_parts_here","_law_rest","_law_flat"],N36,3,5,false,b36⟩,
 ⟨"_law_many_by","_law_many_by",QlO,["_law_cell"],N37,1,2,false,b37⟩,
 ⟨"_law_ended","_law_ended",QlN,["_law_blocks","_law_sums","_law_row"],N38,3,4,false,b38⟩,
 ⟨"_law_items","_law_items",QlM,["_law_cells","_law_flat"],N39,2,9,false,b39⟩,
 ⟨"_law_sum_text","_law_sum_text",QlL,["_law_one"],N40,1,3,false,b40⟩,
 ⟨"_law_parts_text","_law_parts_text",QlK,["_law_parts_here"],N41,1,3,false,b41⟩,
 ⟨"_law_items_text","_law_items_text",QlJ,["_law_items_here"],N42,1,5,false,b42⟩,
 ⟨"_law_parts","_law_parts",QlI,["_law_parts_here"],N43,1,3,false,b43⟩,
 ⟨"_law_tree","_law_tree",QlH,["_law_items_here"],N44,1,3,false,b44⟩,
 ⟨"_law_text","_law_text",QlG,["_law_way","_law_cast","_law_items_here"],N45,3,3,false,b45⟩,
 ⟨"_law_first_rows","_law_first_rows",QlF,["_law_items_here"],N46,1,3,false,b46⟩,
 ⟨"law","law",QjL,["_law_script"],N47,1,9,true,b47⟩]
noncomputable def tb(s:List U):Tbl:=⟨fnL,QnH,QnF,Qnx,Qno,s,isiL,QnE,QnD,QmJ,false,QnA,Qnz,Qni,QnC,fun _ _ _=>none⟩
noncomputable abbrev so(x:String):Str:=Str.ofString x
noncomputable abbrev rf(a:Addr):Value:=.ref a
noncomputable abbrev sv(x:String)(n:Nat):Value:=.str (Str.ofString x) n
noncomputable abbrev dk(P:Params)(x:String)(n:Nat)(v:Value):DictEntry:=DictEntry.mk (PyData.keyHash P (Str.ofString x)) (.str (Str.ofString x) n) v
noncomputable abbrev tu(xs:Array Value)(n:Nat):Obj:=Obj.mk (.type "tuple") none (Data.seq xs n) #[]
noncomputable abbrev ob(c:String)(d:Data):Obj:=Obj.mk (.type c) none d #[]
noncomputable abbrev en(P:Params)(x:Str)(k v:Value):DictEntry:=DictEntry.mk (PyData.keyHash P x) k v
noncomputable abbrev de(P:Params)(x:Str)(n:Nat)(v:Value):DictEntry:=DictEntry.mk (PyData.keyHash P x) (.str x n) v
noncomputable abbrev fo(x q:String)(s:Stmt)(d:Value)(m:String)(n c:Nat):Obj:=⟨.type "function",none,.func (W.fnOf (so x) (so q) (Jk s) (ZC s) (QB s) d .none .none (sv m n) none (rf c) .none),#[]⟩
noncomputable abbrev z0:Value:=.int 0 0
noncomputable abbrev i0(n:Int):Value:=.int n 0
noncomputable abbrev hF:Value:=.bool false
noncomputable abbrev hT:Value:=.bool true
noncomputable abbrev sr(a:Addr):Option Value:=some (.ref a)
noncomputable abbrev hC(n:Nat):Value:=.str (Str.ofString "/claim/cut.py") n
noncomputable abbrev oc(d:Array Value):Obj:=Obj.mk (.type "code") none (Data.fields d) #[]
noncomputable abbrev cO(x q:String)(a l:Nat)(n r s u v y t:Value)(m d:Nat):Obj:=oc (#[sv x a,sv q (a+1),hC (a+2),i0 l,n,z0,z0,i0 3,r,hT,i0 181,s,u,v,y,t,i0 m,i0 l,hC d])
noncomputable abbrev dm(P:Params)(n:Nat)(x:String)(m:Nat):DictEntry:=dk P "__module__" n (sv x m)
noncomputable abbrev dq(P:Params)(n:Nat)(x:String)(m:Nat):DictEntry:=dk P "__qualname__" n (sv x m)
noncomputable abbrev hD(P:Params)(n:Nat):DictEntry:=dk P "__doc__" n .none
noncomputable abbrev dl(P:Params)(n:Nat)(x:Int)(m:Nat):DictEntry:=dk P "__firstlineno__" n (.int x m)
noncomputable abbrev ds(P:Params)(n:Nat)(a:Addr):DictEntry:=dk P "__static_attributes__" n (.ref a)
noncomputable abbrev dR(P:Params)(x:String)(n:Nat)(a:Addr):DictEntry:=dk P x n (.ref a)
noncomputable abbrev hp:Program:=PySem.Challenge.pw_stitchroom_k08_patterns_shown
noncomputable abbrev hr:W.RowW:=(PySem.Challenge.rw_stitchroom_k08_patterns_shown).row.toRowW
noncomputable def hB:Iv.BootT:=⟨fun P=>(.node (W.boot_o_0 P) (.node (W.boot_o_1 P) (.node (W.boot_o_3 P) (.node (W.boot_o_7 P) .nil .nil) .nil) (.node (W.boot_o_5 P) (.node (W.boot_o_9 P) .nil .nil) .nil)) (.node (W.boot_o_2 P) (.node (W.boot_o_4 P) (.node (W.boot_o_8 P) .nil .nil) .nil) (.node (W.boot_o_6 P) (.node (W.boot_o_10 P) .nil .nil) .nil))),11,{}⟩
noncomputable def hq:Program:=W.view hp [0,2,3,5,6,7,9,10,11,12,13,14,15,17,18,19,20,21,22,23,24,25,26,27,28,29,31,32,33,34,35,36,37,38,39,40,41,42,44,45,47,48,49,50,51,52,53,54,55,56,57,58,59,60,61,62]
noncomputable abbrev hlo:List Str:=["SIDE_SIGNS","CROSS_SIGNS","SIDES","CROSS_SIDES","MANY","CROSSED"]
noncomputable def K:Params->W.Frag:=fun P =>
 (nat_lit 2,(Obj.mk .none none (Data.dict #[] 0) #[]))::
 (nat_lit 3,(ob "dict" (Data.dict #[(dk P "__name__" 165 (sv "law_stitchroom_k08_patterns_shown" 1084)),(hD P 166),(dk P "__package__" 167 .none),(dk P "__loader__" 168 (.builtin "__main__.__loader__#opaque")),(dk P "__spec__" 169 .none),(dR P "__annotations__" 170 6),(dR P "__builtins__" 171 4),(dk P "__file__" 173 (hC 172)),(dk P "__cached__" 174 .none),(dR P "_wall" 193 21),(dR P "StitchError" 213 31),(dR P "NoStitch" 229 44),(dR P "SIZES" 236 47),(dR P "sum_text" 242 52),(dR P "size_term" 250 59),(dR P "shown" 259 66),(dR P "parts_text" 266 73),(dR P "item_texts" 272 78),(dR P "block_text" 279 85),(dR P "row_text" 288 92),(dR P "part_texts" 294 97),(dR P "part_text" 301 104),(dR P "KEEPERS" 308 105),(dR P "SIDE_SIGNS" 316 106),(dR P "CROSS_SIGNS" 324 107),(dR P "Stitch" 358 131),(dR P "Plain" 425 194),(dR P "Slip" 483 248),(dR P "Over" 541 302),(dR P "Lean" 613 363),(dR P "Grow" 681 422),(dR P "Cross" 753 481),(dR P "Off" 811 535),(dR P "Keep" 878 596),(dR P "Fetch" 945 657),(dR P "SIDES" 955 660),(dR P "CROSS_SIDES" 963 661),(dR P "LEAN_WAYS" 966 662),(dR P "CROSS_WAYS" 969 663),(dR P "MANY" 979 664),(dR P "CROSSED" 992 665),(dR P "stitch" 1000 672),(dR P "stitch_of_text" 1008 679),(dR P "bare_stitch" 1015 686),(dR P "keeper_stitch" 1023 693),(dR P "sided_stitch" 1032 700),(dR P "crossing" 1042 707),(dR P "Pattern" 1077 724),(dR P "own_copy" 1083 733),(dR P "_law_cell_at" 1093 740),(dR P "_law_mark" 1103 747),(dR P "_law_sum_by" 1109 752),(dR P "_law_closed" 1117 759),(dR P "_law_row_by" 1128 766),(dR P "_law_many_by" 1136 773),(dR P "_law_ended" 1146 780),(dR P "_law_items" 1161 787),(dR P "_law_sum_text" 1170 794),(dR P "_law_parts_text" 1179 801),(dR P "_law_items_text" 1185 806),(dR P "_law_parts" 1194 813),(dR P "_law_tree" 1203 820),(dR P "_law_text" 1212 827),(dR P "_law_first_rows" 1221 834),(dR P "law" 1236 841)] 65)))::
 (nat_lit 30,(ob "dict" (Data.dict #[(dm P 203 "stitchroom.errors" 194),(dl P 207 5 206),(ds P 208 29),(dR P "__weakref__" 210 32),(hD P 211)] 3)))::
 (nat_lit 31,(Obj.mk (.type "type") none (Data.cls (ClassData.mk (so "StitchError") [(.type "ValueError")] [(rf 31),(.type "ValueError"),(.type "Exception"),(.type "BaseException"),(.type "object")] 30 (so "StitchError") true [] [(rf 44)] false none false)) #[(sr 22),none,(some (sv "StitchError" 196)),(some (sv "StitchError" 204)),(some (.builtin "ValueError.__new__")),(some hT)]))::
 (nat_lit 32,(ob "getset_descriptor" (Data.fields #[(sv "__weakref__" 209),(rf 31),(.builtin "ExceptionGroup.__weakref__"),.none])))::
 (nat_lit 43,(ob "dict" (Data.dict #[(dm P 221 "stitchroom.errors" 194),(dl P 225 7 224),(ds P 226 42),(hD P 227)] 2)))::
 (nat_lit 44,(Obj.mk (.type "type") none (Data.cls (ClassData.mk (so "NoStitch") [(rf 31)] [(rf 44),(rf 31),(.type "ValueError"),(.type "Exception"),(.type "BaseException"),(.type "object")] 43 (so "NoStitch") true [] [] false none false)) #[(sr 35),none,(some (sv "NoStitch" 214)),(some (sv "NoStitch" 222)),(some (.builtin "ValueError.__new__")),(some hT)]))::
 (nat_lit 47,(tu #[(sv "a" 232),(sv "b" 233),(sv "c" 234),(sv "d" 235)] 0))::
 (nat_lit 51,(cO "sum_text" "sum_text" 237 11 (i0 1) (rf 48) (rf 49) .none .none .none (rf 50) 240 241))::
 (nat_lit 52,(fo "sum_text" "sum_text" st0 .none "stitchroom.sums" 230 51))::
 (nat_lit 58,(cO "size_term" "size_term" 243 16 (i0 2) (rf 53) (rf 54) .none (rf 55) (rf 56) (rf 57) 248 249))::
 (nat_lit 59,(fo "size_term" "size_term" st1 .none "stitchroom.sums" 230 58))::
 (nat_lit 65,(cO "shown" "shown" 253 19 (i0 1) (rf 60) (rf 61) .none (rf 62) (rf 63) (rf 64) 257 258))::
 (nat_lit 66,(fo "shown" "shown" st2 .none "stitchroom.writer" 251 65))::
 (nat_lit 72,(cO "parts_text" "parts_text" 260 21 (i0 1) (rf 67) (rf 68) .none (rf 69) (rf 70) (rf 71) 264 265))::
 (nat_lit 73,(fo "parts_text" "parts_text" st3 .none "stitchroom.writer" 251 72))::
 (nat_lit 77,(cO "item_texts" "item_texts" 267 23 (i0 1) (rf 74) (rf 75) .none .none .none (rf 76) 270 271))::
 (nat_lit 78,(fo "item_texts" "item_texts" st4 .none "stitchroom.writer" 251 77))::
 (nat_lit 84,(cO "block_text" "block_text" 273 25 (i0 1) (rf 79) (rf 80) .none (rf 81) (rf 82) (rf 83) 277 278))::
 (nat_lit 85,(fo "block_text" "block_text" st5 .none "stitchroom.writer" 251 84))::
 (nat_lit 91,(cO "row_text" "row_text" 280 27 (i0 1) (rf 86) (rf 87) .none (rf 88) (rf 89) (rf 90) 286 287))::
 (nat_lit 92,(fo "row_text" "row_text" st6 .none "stitchroom.writer" 251 91))::
 (nat_lit 96,(cO "part_texts" "part_texts" 289 33 (i0 1) (rf 93) (rf 94) .none .none .none (rf 95) 292 293))::
 (nat_lit 97,(fo "part_texts" "part_texts" st7 .none "stitchroom.writer" 251 96))::
 (nat_lit 103,(cO "part_text" "part_text" 295 35 (i0 1) (rf 98) (rf 99) .none (rf 100) (rf 101) (rf 102) 299 300))::
 (nat_lit 104,(fo "part_text" "part_text" st8 .none "stitchroom.writer" 251 103))::
 (nat_lit 105,(tu #[(sv "w" 304),(sv "x" 305),(sv "y" 306),(sv "z" 307)] 0))::
 (nat_lit 106,(ob "dict" (Data.dict #[(DictEntry.mk 1 (.int 1 309) (sv "k" 310)),(DictEntry.mk (-2) (.int (-1) 312) (sv "p" 313))] 2)))::
 (nat_lit 107,(ob "dict" (Data.dict #[(DictEntry.mk 1 (.int 1 317) (sv "c" 318)),(DictEntry.mk (-2) (.int (-1) 320) (sv "q" 321))] 2)))::
 (nat_lit 130,(ob "dict" (Data.dict #[(dm P 332 "stitchroom.stitches" 302),(dl P 336 43 335),(dR P "ties" 343 121),(dR P "ends" 350 128),(ds P 351 129),(dR P "__dict__" 353 132),(dR P "__weakref__" 355 133),(hD P 356)] 4)))::
 (nat_lit 131,(Obj.mk (.type "type") none (Data.cls (ClassData.mk (so "Stitch") [(.type "object")] [(rf 131),(.type "object")] 130 (so "Stitch") true [] [(rf 194),(rf 248),(rf 302),(rf 363),(rf 422),(rf 481),(rf 535),(rf 596),(rf 657)] false none false)) #[none,none,(some (sv "Stitch" 325)),(some (sv "Stitch" 333)),(some (.builtin "object.__new__")),(some hT)]))::
 (nat_lit 132,(ob "getset_descriptor" (Data.fields #[(sv "__dict__" 352),(rf 131),(.builtin "function.__dict__"),(.builtin "function.__dict__#set")])))::
 (nat_lit 133,(ob "getset_descriptor" (Data.fields #[(sv "__weakref__" 354),(rf 131),(.builtin "ExceptionGroup.__weakref__"),.none])))::
 (nat_lit 148,(cO "__init__" "Plain.__init__" 371 52 (i0 2) (rf 143) (rf 144) .none (rf 145) (rf 146) (rf 147) 376 377))::
 (nat_lit 149,(fo "__init__" "Plain.__init__" st9 .none "stitchroom.stitches" 302 148))::
 (nat_lit 176,(cO "mark" "Plain.mark" 400 64 (i0 1) (rf 171) (rf 172) .none (rf 173) (rf 174) (rf 175) 404 405))::
 (nat_lit 177,(fo "mark" "Plain.mark" QjO .none "stitchroom.stitches" 302 176))::
 (nat_lit 193,(ob "dict" (Data.dict #[(dm P 366 "stitchroom.stitches" 302),(dl P 370 50 369),(dR P "__init__" 378 149),(dR P "takes" 385 156),(dR P "gives" 392 163),(dR P "ties" 399 170),(dR P "mark" 406 177),(dR P "mirrored" 413 184),(dR P "turned" 420 191),(ds P 422 192),(hD P 423)] 2)))::
 (nat_lit 194,(Obj.mk (.type "type") none (Data.cls (ClassData.mk (so "Plain") [(rf 131)] [(rf 194),(rf 131),(.type "object")] 193 (so "Plain") true [] [] false none false)) #[(sr 136),none,(some (sv "Plain" 359)),(some (sv "Plain" 367)),(some (.builtin "object.__new__")),(some hT)]))::
 (nat_lit 230,(cO "mark" "Slip.mark" 459 83 (i0 1) (rf 225) (rf 226) .none (rf 227) (rf 228) (rf 229) 463 464))::
 (nat_lit 231,(fo "mark" "Slip.mark" QjN .none "stitchroom.stitches" 302 230))::
 (nat_lit 247,(ob "dict" (Data.dict #[(dm P 433 "stitchroom.stitches" 302),(dl P 437 72 436),(dR P "takes" 444 210),(dR P "gives" 451 217),(dR P "ties" 458 224),(dR P "mark" 465 231),(dR P "mirrored" 472 238),(dR P "turned" 479 245),(ds P 480 246),(hD P 481)] 2)))::
 (nat_lit 248,(Obj.mk (.type "type") none (Data.cls (ClassData.mk (so "Slip") [(rf 131)] [(rf 248),(rf 131),(.type "object")] 247 (so "Slip") true [] [] false none false)) #[(sr 197),none,(some (sv "Slip" 426)),(some (sv "Slip" 434)),(some (.builtin "object.__new__")),(some hT)]))::
 (nat_lit 284,(cO "mark" "Over.mark" 517 102 (i0 1) (rf 279) (rf 280) .none (rf 281) (rf 282) (rf 283) 521 522))::
 (nat_lit 285,(fo "mark" "Over.mark" QjM .none "stitchroom.stitches" 302 284))::
 (nat_lit 301,(ob "dict" (Data.dict #[(dm P 491 "stitchroom.stitches" 302),(dl P 495 91 494),(dR P "takes" 502 264),(dR P "gives" 509 271),(dR P "ties" 516 278),(dR P "mark" 523 285),(dR P "mirrored" 530 292),(dR P "turned" 537 299),(ds P 538 300),(hD P 539)] 2)))::
 (nat_lit 302,(Obj.mk (.type "type") none (Data.cls (ClassData.mk (so "Over") [(rf 131)] [(rf 302),(rf 131),(.type "object")] 301 (so "Over") true [] [] false none false)) #[(sr 251),none,(some (sv "Over" 484)),(some (sv "Over" 492)),(some (.builtin "object.__new__")),(some hT)]))::
 (nat_lit 317,(cO "__init__" "Lean.__init__" 554 112 (i0 4) (rf 312) (rf 313) .none (rf 314) (rf 315) (rf 316) 561 562))::
 (nat_lit 318,(fo "__init__" "Lean.__init__" Qmc .none "stitchroom.stitches" 302 317))::
 (nat_lit 345,(cO "mark" "Lean.mark" 586 130 (i0 1) (rf 340) (rf 341) .none (rf 342) (rf 343) (rf 344) 590 591))::
 (nat_lit 346,(fo "mark" "Lean.mark" Qmb .none "stitchroom.stitches" 302 345))::
 (nat_lit 362,(ob "dict" (Data.dict #[(dm P 549 "stitchroom.stitches" 302),(dl P 553 110 552),(dR P "__init__" 563 318),(dR P "takes" 570 325),(dR P "gives" 577 332),(dR P "ties" 585 339),(dR P "mark" 592 346),(dR P "mirrored" 599 353),(dR P "turned" 606 360),(ds P 610 361),(hD P 611)] 2)))::
 (nat_lit 363,(Obj.mk (.type "type") none (Data.cls (ClassData.mk (so "Lean") [(rf 131)] [(rf 363),(rf 131),(.type "object")] 362 (so "Lean") true [] [] false none false)) #[(sr 305),none,(some (sv "Lean" 542)),(some (sv "Lean" 550)),(some (.builtin "object.__new__")),(some hT)]))::
 (nat_lit 378,(cO "__init__" "Grow.__init__" 626 140 (i0 3) (rf 373) (rf 374) .none (rf 375) (rf 376) (rf 377) 632 633))::
 (nat_lit 379,(fo "__init__" "Grow.__init__" Qma .none "stitchroom.stitches" 302 378))::
 (nat_lit 404,(cO "mark" "Grow.mark" 655 153 (i0 1) (rf 399) (rf 400) .none (rf 401) (rf 402) (rf 403) 659 660))::
 (nat_lit 405,(fo "mark" "Grow.mark" Ql9 .none "stitchroom.stitches" 302 404))::
 (nat_lit 421,(ob "dict" (Data.dict #[(dm P 621 "stitchroom.stitches" 302),(dl P 625 138 624),(dR P "__init__" 634 379),(dR P "takes" 641 386),(dR P "gives" 648 393),(dR P "ties" 654 398),(dR P "mark" 661 405),(dR P "mirrored" 668 412),(dR P "turned" 675 419),(ds P 678 420),(hD P 679)] 2)))::
 (nat_lit 422,(Obj.mk (.type "type") none (Data.cls (ClassData.mk (so "Grow") [(rf 131)] [(rf 422),(rf 131),(.type "object")] 421 (so "Grow") true [] [] false none false)) #[(sr 366),none,(some (sv "Grow" 614)),(some (sv "Grow" 622)),(some (.builtin "object.__new__")),(some hT)]))::
 (nat_lit 437,(cO "__init__" "Cross.__init__" 694 163 (i0 5) (rf 432) (rf 433) .none (rf 434) (rf 435) (rf 436) 702 703))::
 (nat_lit 438,(fo "__init__" "Cross.__init__" Ql8 .none "stitchroom.stitches" 302 437))::
 (nat_lit 463,(cO "mark" "Cross.mark" 725 181 (i0 1) (rf 458) (rf 459) .none (rf 460) (rf 461) (rf 462) 729 730))::
 (nat_lit 464,(fo "mark" "Cross.mark" Ql7 .none "stitchroom.stitches" 302 463))::
 (nat_lit 480,(ob "dict" (Data.dict #[(dm P 689 "stitchroom.stitches" 302),(dl P 693 161 692),(dR P "__init__" 704 438),(dR P "takes" 711 445),(dR P "gives" 718 452),(dR P "ties" 724 457),(dR P "mark" 731 464),(dR P "mirrored" 738 471),(dR P "turned" 745 478),(ds P 750 479),(hD P 751)] 2)))::
 (nat_lit 481,(Obj.mk (.type "type") none (Data.cls (ClassData.mk (so "Cross") [(rf 131)] [(rf 481),(rf 131),(.type "object")] 480 (so "Cross") true [] [] false none false)) #[(sr 425),none,(some (sv "Cross" 682)),(some (sv "Cross" 690)),(some (.builtin "object.__new__")),(some hT)]))::
 (nat_lit 517,(cO "mark" "Off.mark" 787 200 (i0 1) (rf 512) (rf 513) .none (rf 514) (rf 515) (rf 516) 791 792))::
 (nat_lit 518,(fo "mark" "Off.mark" Ql6 .none "stitchroom.stitches" 302 517))::
 (nat_lit 534,(ob "dict" (Data.dict #[(dm P 761 "stitchroom.stitches" 302),(dl P 765 189 764),(dR P "takes" 772 497),(dR P "gives" 779 504),(dR P "ends" 786 511),(dR P "mark" 793 518),(dR P "mirrored" 800 525),(dR P "turned" 807 532),(ds P 808 533),(hD P 809)] 2)))::
 (nat_lit 535,(Obj.mk (.type "type") none (Data.cls (ClassData.mk (so "Off") [(rf 131)] [(rf 535),(rf 131),(.type "object")] 534 (so "Off") true [] [] false none false)) #[(sr 484),none,(some (sv "Off" 754)),(some (sv "Off" 762)),(some (.builtin "object.__new__")),(some hT)]))::
 (nat_lit 550,(cO "__init__" "Keep.__init__" 824 210 (i0 2) (rf 545) (rf 546) .none (rf 547) (rf 548) (rf 549) 829 830))::
 (nat_lit 551,(fo "__init__" "Keep.__init__" Ql5 .none "stitchroom.stitches" 302 550))::
 (nat_lit 578,(cO "mark" "Keep.mark" 853 222 (i0 1) (rf 573) (rf 574) .none (rf 575) (rf 576) (rf 577) 857 858))::
 (nat_lit 579,(fo "mark" "Keep.mark" Ql4 .none "stitchroom.stitches" 302 578))::
 (nat_lit 595,(ob "dict" (Data.dict #[(dm P 819 "stitchroom.stitches" 302),(dl P 823 208 822),(dR P "__init__" 831 551),(dR P "takes" 838 558),(dR P "gives" 845 565),(dR P "ends" 852 572),(dR P "mark" 859 579),(dR P "mirrored" 866 586),(dR P "turned" 873 593),(ds P 875 594),(hD P 876)] 2)))::
 (nat_lit 596,(Obj.mk (.type "type") none (Data.cls (ClassData.mk (so "Keep") [(rf 131)] [(rf 596),(rf 131),(.type "object")] 595 (so "Keep") true [] [] false none false)) #[(sr 538),none,(some (sv "Keep" 812)),(some (sv "Keep" 820)),(some (.builtin "object.__new__")),(some hT)]))::
 (nat_lit 611,(cO "__init__" "Fetch.__init__" 891 232 (i0 2) (rf 606) (rf 607) .none (rf 608) (rf 609) (rf 610) 896 897))::
 (nat_lit 612,(fo "__init__" "Fetch.__init__" Ql3 .none "stitchroom.stitches" 302 611))::
 (nat_lit 639,(cO "mark" "Fetch.mark" 920 244 (i0 1) (rf 634) (rf 635) .none (rf 636) (rf 637) (rf 638) 924 925))::
 (nat_lit 640,(fo "mark" "Fetch.mark" Ql2 .none "stitchroom.stitches" 302 639))::
 (nat_lit 656,(ob "dict" (Data.dict #[(dm P 886 "stitchroom.stitches" 302),(dl P 890 230 889),(dR P "__init__" 898 612),(dR P "takes" 905 619),(dR P "gives" 912 626),(dR P "ties" 919 633),(dR P "mark" 926 640),(dR P "mirrored" 933 647),(dR P "turned" 940 654),(ds P 942 655),(hD P 943)] 2)))::
 (nat_lit 657,(Obj.mk (.type "type") none (Data.cls (ClassData.mk (so "Fetch") [(rf 131)] [(rf 657),(rf 131),(.type "object")] 656 (so "Fetch") true [] [] false none false)) #[(sr 599),none,(some (sv "Fetch" 879)),(some (sv "Fetch" 887)),(some (.builtin "object.__new__")),(some hT)]))::
 (nat_lit 660,(ob "dict" (Data.dict #[(dk P "k" 948 (.int 1 949)),(dk P "p" 950 (.int (-1) 952))] 2)))::
 (nat_lit 661,(ob "dict" (Data.dict #[(dk P "c" 956 (.int 1 957)),(dk P "q" 958 (.int (-1) 960))] 2)))::
 (nat_lit 662,(tu #[(sv "r" 964),(sv "l" 965)] 0))::
 (nat_lit 663,(tu #[(sv "f" 967),(sv "b" 968)] 0))::
 (nat_lit 664,(ob "dict" (Data.dict #[(dk P "2" 970 (.int 2 971)),(dk P "3" 972 (.int 3 973)),(dk P "4" 974 (.int 4 975))] 3)))::
 (nat_lit 665,(ob "dict" (Data.dict #[(dk P "1" 980 (.int 1 981)),(dk P "2" 982 (.int 2 983)),(dk P "3" 984 (.int 3 985)),(dk P "4" 986 (.int 4 987))] 4)))::
 (nat_lit 671,(cO "stitch" "stitch" 993 259 (i0 1) (rf 666) (rf 667) .none (rf 668) (rf 669) (rf 670) 998 999))::
 (nat_lit 672,(fo "stitch" "stitch" Ql1 .none "stitchroom.marks" 946 671))::
 (nat_lit 678,(cO "stitch_of_text" "stitch_of_text" 1001 264 (i0 1) (rf 673) (rf 674) .none (rf 675) (rf 676) (rf 677) 1006 1007))::
 (nat_lit 679,(fo "stitch_of_text" "stitch_of_text" Ql0 .none "stitchroom.marks" 946 678))::
 (nat_lit 685,(cO "bare_stitch" "bare_stitch" 1009 275 (i0 1) (rf 680) (rf 681) .none (rf 682) (rf 683) (rf 684) 1013 1014))::
 (nat_lit 686,(fo "bare_stitch" "bare_stitch" QlZ .none "stitchroom.marks" 946 685))::
 (nat_lit 692,(cO "keeper_stitch" "keeper_stitch" 1016 285 (i0 2) (rf 687) (rf 688) .none (rf 689) (rf 690) (rf 691) 1021 1022))::
 (nat_lit 693,(fo "keeper_stitch" "keeper_stitch" QlY .none "stitchroom.marks" 946 692))::
 (nat_lit 699,(cO "sided_stitch" "sided_stitch" 1024 293 (i0 3) (rf 694) (rf 695) .none (rf 696) (rf 697) (rf 698) 1030 1031))::
 (nat_lit 700,(fo "sided_stitch" "sided_stitch" QlX .none "stitchroom.marks" 946 699))::
 (nat_lit 706,(cO "crossing" "crossing" 1033 301 (i0 4) (rf 701) (rf 702) .none (rf 703) (rf 704) (rf 705) 1040 1041))::
 (nat_lit 707,(fo "crossing" "crossing" QlW .none "stitchroom.marks" 946 706))::
 (nat_lit 720,(cO "__init__" "Pattern.__init__" 1057 308 (i0 4) (rf 715) (rf 716) .none (rf 717) (rf 718) (rf 719) 1064 1065))::
 (nat_lit 721,(fo "__init__" "Pattern.__init__" QlV .none "stitchroom.patterns" 1043 720))::
 (nat_lit 723,(ob "dict" (Data.dict #[(dm P 1052 "stitchroom.patterns" 1043),(dl P 1056 306 1055),(dR P "__init__" 1066 721),(ds P 1070 722),(dR P "__dict__" 1072 725),(dR P "__weakref__" 1074 726),(hD P 1075)] 4)))::
 (nat_lit 724,(Obj.mk (.type "type") none (Data.cls (ClassData.mk (so "Pattern") [(.type "object")] [(rf 724),(.type "object")] 723 (so "Pattern") true [] [] false none false)) #[none,none,(some (sv "Pattern" 1045)),(some (sv "Pattern" 1053)),(some (.builtin "object.__new__")),(some hT)]))::
 (nat_lit 725,(ob "getset_descriptor" (Data.fields #[(sv "__dict__" 1071),(rf 724),(.builtin "function.__dict__"),(.builtin "function.__dict__#set")])))::
 (nat_lit 726,(ob "getset_descriptor" (Data.fields #[(sv "__weakref__" 1073),(rf 724),(.builtin "ExceptionGroup.__weakref__"),.none])))::
 (nat_lit 732,(cO "own_copy" "own_copy" 1078 312 (i0 1) (rf 729) (rf 730) .none .none .none (rf 731) 1081 1082))::
 (nat_lit 733,(fo "own_copy" "own_copy" QlU .none "stitchroom.patterns" 1043 732))::
 (nat_lit 739,(cO "_law_cell_at" "_law_cell_at" 1086 319 (i0 2) (rf 734) (rf 735) .none (rf 736) (rf 737) (rf 738) 1091 1092))::
 (nat_lit 740,(fo "_law_cell_at" "_law_cell_at" QlT .none "law_stitchroom_k08_patterns_shown" 1084 739))::
 (nat_lit 746,(cO "_law_mark" "_law_mark" 1094 323 (i0 1) (rf 741) (rf 742) .none (rf 743) (rf 744) (rf 745) 1101 1102))::
 (nat_lit 747,(fo "_law_mark" "_law_mark" QlS .none "law_stitchroom_k08_patterns_shown" 1084 746))::
 (nat_lit 751,(cO "_law_sum_by" "_law_sum_by" 1104 342 (i0 1) (rf 748) (rf 749) .none .none .none (rf 750) 1107 1108))::
 (nat_lit 752,(fo "_law_sum_by" "_law_sum_by" QlR .none "law_stitchroom_k08_patterns_shown" 1084 751))::
 (nat_lit 758,(cO "_law_closed" "_law_closed" 1110 355 (i0 1) (rf 753) (rf 754) .none (rf 755) (rf 756) (rf 757) 1115 1116))::
 (nat_lit 759,(fo "_law_closed" "_law_closed" QlQ .none "law_stitchroom_k08_patterns_shown" 1084 758))::
 (nat_lit 765,(cO "_law_row_by" "_law_row_by" 1118 364 (i0 3) (rf 760) (rf 761) .none (rf 762) (rf 763) (rf 764) 1126 1127))::
 (nat_lit 766,(fo "_law_row_by" "_law_row_by" QlP .none "law_stitchroom_k08_patterns_shown" 1084 765))::
 (nat_lit 772,(cO "_law_many_by" "_law_many_by" 1129 372 (i0 1) (rf 767) (rf 768) .none (rf 769) (rf 770) (rf 771) 1134 1135))::
 (nat_lit 773,(fo "_law_many_by" "_law_many_by" QlO .none "law_stitchroom_k08_patterns_shown" 1084 772))::
 (nat_lit 779,(cO "_law_ended" "_law_ended" 1137 377 (i0 3) (rf 774) (rf 775) .none (rf 776) (rf 777) (rf 778) 1144 1145))::
 (nat_lit 780,(fo "_law_ended" "_law_ended" QlN .none "law_stitchroom_k08_patterns_shown" 1084 779))::
 (nat_lit 786,(cO "_law_items" "_law_items" 1147 384 (i0 2) (rf 781) (rf 782) .none (rf 783) (rf 784) (rf 785) 1159 1160))::
 (nat_lit 787,(fo "_law_items" "_law_items" QlM .none "law_stitchroom_k08_patterns_shown" 1084 786))::
 (nat_lit 793,(cO "_law_sum_text" "_law_sum_text" 1162 408 (i0 1) (rf 788) (rf 789) .none (rf 790) (rf 791) (rf 792) 1168 1169))::
 (nat_lit 794,(fo "_law_sum_text" "_law_sum_text" QlL .none "law_stitchroom_k08_patterns_shown" 1084 793))::
 (nat_lit 800,(cO "_law_parts_text" "_law_parts_text" 1171 418 (i0 1) (rf 795) (rf 796) .none (rf 797) (rf 798) (rf 799) 1177 1178))::
 (nat_lit 801,(fo "_law_parts_text" "_law_parts_text" QlK .none "law_stitchroom_k08_patterns_shown" 1084 800))::
 (nat_lit 805,(cO "_law_items_text" "_law_items_text" 1180 426 (i0 1) (rf 802) (rf 803) .none .none .none (rf 804) 1183 1184))::
 (nat_lit 806,(fo "_law_items_text" "_law_items_text" QlJ .none "law_stitchroom_k08_patterns_shown" 1084 805))::
 (nat_lit 812,(cO "_law_parts" "_law_parts" 1186 438 (i0 1) (rf 807) (rf 808) .none (rf 809) (rf 810) (rf 811) 1192 1193))::
 (nat_lit 813,(fo "_law_parts" "_law_parts" QlI .none "law_stitchroom_k08_patterns_shown" 1084 812))::
 (nat_lit 819,(cO "_law_tree" "_law_tree" 1195 446 (i0 1) (rf 814) (rf 815) .none (rf 816) (rf 817) (rf 818) 1201 1202))::
 (nat_lit 820,(fo "_law_tree" "_law_tree" QlH .none "law_stitchroom_k08_patterns_shown" 1084 819))::
 (nat_lit 826,(cO "_law_text" "_law_text" 1204 456 (i0 3) (rf 821) (rf 822) .none (rf 823) (rf 824) (rf 825) 1210 1211))::
 (nat_lit 827,(fo "_law_text" "_law_text" QlG .none "law_stitchroom_k08_patterns_shown" 1084 826))::
 (nat_lit 833,(cO "_law_first_rows" "_law_first_rows" 1213 458 (i0 1) (rf 828) (rf 829) .none (rf 830) (rf 831) (rf 832) 1219 1220))::
 (nat_lit 834,(fo "_law_first_rows" "_law_first_rows" QlF .none "law_stitchroom_k08_patterns_shown" 1084 833))::
 (nat_lit 840,(cO "law" "law" 1222 465 (i0 1) (rf 835) (rf 836) .none (rf 837) (rf 838) (rf 839) 1234 1235))::
 (nat_lit 841,(fo "law" "law" QjL .none "law_stitchroom_k08_patterns_shown" 1084 840))::[]
noncomputable def KA:List Addr:=[2,3,30,31,32,43,44,47,51,52,58,59,65,66,72,73,77,78,84,85,91,92,96,97,103,104,105,106,107,130,131,132,133,148,149,176,177,193,194,230,231,247,248,284,285,301,302,317,318,345,346,362,363,378,379,404,405,421,422,437,438,463,464,480,481,517,518,534,535,550,551,578,579,595,596,611,612,639,640,656,657,660,661,662,663,664,665,671,672,678,679,685,686,692,693,699,700,706,707,720,721,723,724,725,726,732,733,739,740,746,747,751,752,758,759,765,766,772,773,779,780,786,787,793,794,800,801,805,806,812,813,819,820,826,827,833,834,840,841]
theorem hKA:∀P,KA=(K P).map (·.1):=fun _=>by kernel_rfl
noncomputable abbrev hXt:Shared->Bool:=fun s=>W.xlAt hq [] s&&W.recOk (W.RowW.records hr) s
theorem hop:W.opening hp=W.plainProg hp.main.scope.names:=by kernel_rfl
theorem hfm:∀s,PySem.fenceModules? hp s=some s:=fun s=>by kernel_rfl
theorem hbo:∀w:World,W.absHeap (hB.t w.params) hB.n hB.life=W.boot_heap w.params:=fun w=>by kernel_rfl
theorem hsz:∀w:World,((W.boot_heap w.params).isNs mainGlobals,(W.boot_heap w.params).objs.size,(W.boot_heap w.params).nsMap mainGlobals "__annotations__")=(true,11,some (.ref 6)):=fun w=>by kernel_rfl
noncomputable abbrev hYf:Shared->List (Option Obj):=fun s=>KA.map s.heap.get?
noncomputable abbrev hYa:World->List (Option Obj):=fun w=>(K w.params).map fun p=>some p.2
noncomputable abbrev hN:Nat:=12258
noncomputable abbrev hn6:Option Value:=some (.ref 6)
noncomputable abbrev hS(w:World):Prop:=Iv.RunT hp hq hlo hXt hYf hYa 12258 true hB 11 (some (.ref 6)) w
noncomputable abbrev fr(x q:Str)(s:Stmt)(d k:Value):Obj:=⟨.none,none,.func ⟨x,q,Jk s,.stmts (ZC s),QB s,0,[],d,k,.none,.none,none,.none,.none,0⟩,#[]⟩
noncomputable abbrev hbd:List Stmt:=W.behindTheImports hp
noncomputable def eV:Env:={ scope:=hp.main.scope,locals:=mainNs,globals:=mainNs,cells:=[],code:=(Value.ref 13),frame:=some 14 }
noncomputable abbrev hcd:Code:=.body hbd eV
noncomputable abbrev hqp:Pos:=(Pos.mk 0 0 0 0)
noncomputable abbrev nd(v:Obj)(l r:W.BT):W.BT:=.node v l r
noncomputable abbrev nl(v:Obj):W.BT:=.node v .nil .nil
noncomputable def n0(P:Params):Obj:=(Obj.mk .none none (Data.fields #[]) #[])
noncomputable def n1(P:Params):Obj:=(oc (#[(sv "<module>" 182),(sv "<module>" 183),(hC 184),(i0 1),z0,z0,z0,z0,(rf 11),hF,(i0 181),(rf 12),.none,.none,.none,.none,(i0 185),(i0 1),(hC 186)]))
noncomputable def n2(P:Params):Obj:=(Obj.mk (.type "frame") none Data.plain #[(sr 13),(sr 3),(sr 3),none,(some (sv "__main__" 164)),none,(sr 0)])
noncomputable def Ta(P:Params):W.BT:=(nd (W.boot_o_0 P) (nd (W.boot_o_1 P) (nd (W.boot_o_3 P) (nl (W.boot_o_7 P)) (nl (tu #[] 0))) (nd (W.boot_o_5 P) (nl (W.boot_o_9 P)) (nl (n1 P)))) (nd (W.boot_o_2 P) (nd (W.boot_o_4 P) (nl (W.boot_o_8 P)) (nl (n0 P))) (nd (W.boot_o_6 P) (nl (W.boot_o_10 P)) (nl (n2 P)))))
noncomputable abbrev Sa(w:World)(os:OsState):W.SharedT:=⟨Ta w.params,15,(Life.mk [] [] [] 0 [] [] Bool.false #[] [] 0 Bool.false Bool.false Bool.false 0 [2000,10,10] Bool.false 0 Bool.true [] [] 0 Bool.false),Array.mk [],(Drawn.mk 0 0 0 0),187,os⟩
noncomputable def Tb(P:Params):W.BT:=(nd (W.boot_o_0 P) (nd (W.boot_o_1 P) (nd (W.boot_o_3 P) (nl (W.boot_o_7 P)) (nl (tu #[] 0))) (nd (W.boot_o_5 P) (nl (W.boot_o_9 P)) (nl (n1 P)))) (nd (W.boot_o_2 P) (nd (W.boot_o_4 P) (nl (W.boot_o_8 P)) (nl (n0 P))) (nd (W.boot_o_6 P) (nl (W.boot_o_10 P)) (nl (n2 P)))))
noncomputable abbrev Sb(w:World)(os:OsState):W.SharedT:=⟨Tb w.params,15,(Life.mk [] [] [] 0 [] [] Bool.false #[] [] 0 Bool.false Bool.false Bool.false 0 [2000,10,10] Bool.false 0 Bool.true [] [] 0 Bool.false),Array.mk [],(Drawn.mk 0 0 0 0),187,os⟩
noncomputable def n3(P:Params):Obj:=(ob "builtin_function_or_method" (Data.fields #[(.builtin "type.__prepare__"),(.type "type")]))
noncomputable def n4(P:Params):Obj:=(tu #[(rf 131)] 0)
noncomputable def T1(P:Params):W.BT:=(nd (W.boot_o_0 P) (nd (W.boot_o_1 P) (nd (ob "dict" (Data.dict #[(dk P "__name__" 165 (sv "stitchroom.stitches" 302)),(hD P 166),(dk P "__package__" 167 .none),(dk P "__loader__" 168 (.builtin "__main__.__loader__#opaque")),(dk P "__spec__" 169 .none),(dR P "__annotations__" 170 6),(dR P "__builtins__" 171 4),(dk P "__file__" 173 (hC 172)),(dk P "__cached__" 174 .none),(dR P "_wall" 193 21),(dR P "StitchError" 213 31),(dR P "NoStitch" 229 44),(dR P "SIZES" 236 47),(dR P "sum_text" 242 52),(dR P "size_term" 250 59),(dR P "shown" 259 66),(dR P "parts_text" 266 73),(dR P "item_texts" 272 78),(dR P "block_text" 279 85),(dR P "row_text" 288 92),(dR P "part_texts" 294 97),(dR P "part_text" 301 104),(dR P "KEEPERS" 308 105),(dR P "SIDE_SIGNS" 316 106),(dR P "CROSS_SIGNS" 324 107),(dR P "Stitch" 358 131),(dR P "Plain" 425 194),(dR P "Slip" 483 248),(dR P "Over" 541 302)] 29)) (nd (W.boot_o_7 P) (nd (tu #[] 0) (nd (Obj.mk (.type "type") none (Data.cls (ClassData.mk (so "StitchError") [(.type "ValueError")] [(rf 31),(.type "ValueError"),(.type "Exception"),(.type "BaseException"),(.type "object")] 30 (so "StitchError") true [] [(rf 44)] false none false)) #[(sr 22),none,(some (sv "StitchError" 196)),(some (sv "StitchError" 204)),(some (.builtin "ValueError.__new__")),(some hT)]) (nd (tu #[] 0) (nd (cO "ends" "Stitch.ends" 344 48 (i0 1) (rf 122) (rf 123) .none (rf 124) (rf 125) (rf 126) 348 349) (nl (Obj.mk .none none (Data.fields #[(i0 93),(i0 4),(rf 263),(i0 96),(i0 4),(rf 270),(i0 99),(i0 4),(rf 277),(i0 102),(i0 4),(rf 284),(i0 105),(i0 4),(rf 291),(i0 108),(i0 4),(rf 298)]) #[])) .nil) (nl (fo "turned" "Plain.turned" (Qg (top 21) 6) .none "stitchroom.stitches" 302 190))) (nd (fr (so "part_texts") (so "part_texts") st7 .none .none) (nd (tu #[(sv "self" 389)] 0) (nl (n0 P)) .nil) (nl (cO "ties" "Slip.ties" 452 80 (i0 1) (rf 218) (rf 219) .none (rf 220) (rf 221) (rf 222) 456 457)))) (nd (tu #[(sv "a" 232),(sv "b" 233),(sv "c" 234),(sv "d" 235)] 0) (nd (tu #[] 0) (nd (tu #[] 0) (nl (fo "gives" "Over.gives" (Qg (top 23) 1) .none "stitchroom.stitches" 302 270)) .nil) (nl (tu #[] 0))) (nd (tu #[] 0) (nd (fr (so "mark") (so "Plain.mark") QjO .none .none) (nl (ob "super" (Data.fields #[(rf 302),(rf 302),(rf 302)]))) .nil) (nl (tu #[] 0))))) (nd (n3 P) (nd (n0 P) (nd (fr (so "parts_text") (so "parts_text") st3 .none .none) (nd (ob "builtin_function_or_method" (Data.fields #[(.builtin "object.__init_subclass__"),(rf 131)])) (nl (cO "takes" "Over.takes" 496 93 (i0 1) (rf 258) (rf 259) .none (rf 260) (rf 261) (rf 262) 500 501)) .nil) (nl (ob "dict" (Data.dict #[(dm P 433 "stitchroom.stitches" 302),(dq P 435 "Slip" 434),(dl P 437 72 436),(dR P "takes" 444 210),(dR P "gives" 451 217),(dR P "ties" 458 224),(dR P "mark" 465 231),(dR P "mirrored" 472 238),(dR P "turned" 479 245),(ds P 480 246)] 10)))) (nd (cO "part_text" "part_text" 295 35 (i0 1) (rf 98) (rf 99) .none (rf 100) (rf 101) (rf 102) 299 300) (nd (tu #[] 0) (nl (tu #[(sv "self" 534)] 0)) .nil) (nl (fo "mark" "Slip.mark" QjN .none "stitchroom.stitches" 302 230)))) (nd (tu #[(sv "number" 246),(sv "size" 247)] 0) (nd (n0 P) (nd (n0 P) (nl (tu #[] 0)) .nil) (nl (fr (so "gives") (so "Slip.gives") (Qg (top 22) 1) .none .none))) (nd (fr (so "ties") (so "Stitch.ties") (Qg (top 20) 0) .none .none) (nl (cO "mirrored" "Plain.mirrored" 407 67 (i0 1) (rf 178) (rf 179) .none (rf 180) (rf 181) (rf 182) 411 412)) (nl (ob "dict" (Data.dict #[(dm P 433 "stitchroom.stitches" 302),(dl P 437 72 436),(dR P "takes" 444 210),(dR P "gives" 451 217),(dR P "ties" 458 224),(dR P "mark" 465 231),(dR P "mirrored" 472 238),(dR P "turned" 479 245),(ds P 480 246),(hD P 481)] 2))))))) (nd (tu #[] 0) (nd (fr (so "_wall") (so "_wall") (top 0) .none .none) (nd (tu #[(rf 31)] 0) (nd (tu #[] 0) (nd (Obj.mk (.type "type") none (Data.cls (ClassData.mk (so "Stitch") [(.type "object")] [(rf 131),(.type "object")] 130 (so "Stitch") true [] [(rf 194),(rf 248),(rf 302)] false none false)) #[none,none,(some (sv "Stitch" 325)),(some (sv "Stitch" 333)),(some (.builtin "object.__new__")),(some hT)]) (nl (n0 P)) .nil) (nl (ob "super" (Data.fields #[(rf 194),(rf 194),(rf 194)])))) (nd (n0 P) (nd (fo "gives" "Plain.gives" (Qg (top 21) 2) .none "stitchroom.stitches" 302 162) (nl (cO "mirrored" "Over.mirrored" 524 105 (i0 1) (rf 286) (rf 287) .none (rf 288) (rf 289) (rf 290) 528 529)) .nil) (nl (tu #[(sv "self" 462)] 0)))) (nd (cO "sum_text" "sum_text" 237 11 (i0 1) (rf 48) (rf 49) .none .none .none (rf 50) 240 241) (nd (fr (so "block_text") (so "block_text") st5 .none .none) (nd (fr (so "__init__") (so "Plain.__init__") st9 .none .none) (nl (tu #[] 0)) .nil) (nl (tu #[] 0))) (nd (tu #[] 0) (nl (n0 P)) (nl (fr (so "turned") (so "Slip.turned") (Qg (top 22) 5) .none .none))))) (nd (oc (#[(sv "StitchError" 198),(sv "StitchError" 199),(hC 200),(i0 5),z0,z0,z0,z0,(rf 25),hF,(i0 181),(rf 26),.none,.none,.none,.none,(i0 201),(i0 5),(hC 202)])) (nd (ob "dict" (Data.dict #[(dm P 221 "stitchroom.errors" 194),(dl P 225 7 224),(ds P 226 42),(hD P 227)] 2)) (nd (n0 P) (nd (tu #[] 0) (nl (tu #[(sv "self" 506)] 0)) .nil) (nl (Obj.mk (.type "frame") none Data.plain #[(sr 202),(sr 3),(sr 199),none,(some (sv "stitchroom.stitches" 302)),none,(sr 0)]))) (nd (ob "dict" (Data.dict #[(DictEntry.mk 1 (.int 1 317) (sv "c" 318)),(DictEntry.mk (-2) (.int (-1) 320) (sv "q" 321))] 2)) (nd (tu #[] 0) (nl (fo "turned" "Over.turned" (Qg (top 23) 5) .none "stitchroom.stitches" 302 298)) .nil) (nl (tu #[] 0)))) (nd (fo "size_term" "size_term" st1 .none "stitchroom.sums" 230 58) (nd (cO "row_text" "row_text" 280 27 (i0 1) (rf 86) (rf 87) .none (rf 88) (rf 89) (rf 90) 286 287) (nd (cO "takes" "Plain.takes" 379 55 (i0 1) (rf 150) (rf 151) .none (rf 152) (rf 153) (rf 154) 383 384) (nl (fr (so "mark") (so "Over.mark") QjM .none .none)) .nil) (nl (n0 P))) (nd (n0 P) (nl (tu #[(sv "self" 417)] 0)) (nl (n4 P))))))) (nd (W.boot_o_5 P) (nd (W.boot_o_9 P) (nd (tu #[(sv "k" 190)] 0) (nd (ob "super" (Data.fields #[(rf 31),(rf 31),(rf 31)])) (nd (cO "shown" "shown" 253 19 (i0 1) (rf 60) (rf 61) .none (rf 62) (rf 63) (rf 64) 257 258) (nd (tu #[] 0) (nl (Obj.mk (.type "frame") none Data.plain #[(sr 256),(sr 3),(sr 253),none,(some (sv "stitchroom.stitches" 302)),none,(sr 0)])) .nil) (nl (ob "dict" (Data.dict #[(dm P 366 "stitchroom.stitches" 302),(dl P 370 50 369),(dR P "__init__" 378 149),(dR P "takes" 385 156),(dR P "gives" 392 163),(dR P "ties" 399 170),(dR P "mark" 406 177),(dR P "mirrored" 413 184),(dR P "turned" 420 191),(ds P 422 192),(hD P 423)] 2)))) (nd (fo "part_texts" "part_texts" st7 .none "stitchroom.writer" 251 96) (nd (fr (so "gives") (so "Plain.gives") (Qg (top 21) 2) .none .none) (nl (tu #[] 0)) .nil) (nl (tu #[] 0)))) (nd (n0 P) (nd (tu #[(sv "block" 276)] 0) (nd (tu #[(sv "self" 374),(sv "side" 375)] 0) (nl (n0 P)) .nil) (nl (cO "takes" "Slip.takes" 438 74 (i0 1) (rf 204) (rf 205) .none (rf 206) (rf 207) (rf 208) 442 443))) (nd (oc (#[(sv "Stitch" 327),(sv "Stitch" 328),(hC 329),(i0 43),z0,z0,z0,z0,(rf 111),hF,(i0 181),(rf 112),.none,.none,.none,.none,(i0 330),(i0 43),(hC 331)])) (nl (fo "mark" "Plain.mark" QjO .none "stitchroom.stitches" 302 176)) (nl (tu #[(sv "self" 476)] 0))))) (nd (tu #[] 0) (nd (Obj.mk (.type "frame") none Data.plain #[(sr 40),(sr 3),(sr 37),none,(some (sv "stitchroom.errors" 194)),none,(sr 0)]) (nd (fo "parts_text" "parts_text" st3 .none "stitchroom.writer" 251 72) (nd (n3 P) (nl (tu #[] 0)) .nil) (nl (Obj.mk .none none (Data.fields #[(i0 74),(i0 4),(rf 209),(i0 77),(i0 4),(rf 216),(i0 80),(i0 4),(rf 223),(i0 83),(i0 4),(rf 230),(i0 86),(i0 4),(rf 237),(i0 89),(i0 4),(rf 244)]) #[]))) (nd (tu #[(sv "w" 304),(sv "x" 305),(sv "y" 306),(sv "z" 307)] 0) (nd (cO "ties" "Plain.ties" 393 61 (i0 1) (rf 164) (rf 165) .none (rf 166) (rf 167) (rf 168) 397 398) (nl (fr (so "turned") (so "Over.turned") (Qg (top 23) 5) .none .none)) .nil) (nl (n0 P)))) (nd (fr (so "size_term") (so "size_term") st1 .none .none) (nd (tu #[] 0) (nd (tu #[] 0) (nl (tu #[(sv "self" 520)] 0)) .nil) (nl (fo "gives" "Slip.gives" (Qg (top 22) 1) .none "stitchroom.stitches" 302 216))) (nd (fo "ties" "Stitch.ties" (Qg (top 20) 0) .none "stitchroom.stitches" 302 120) (nl (tu #[] 0)) (nl (ob "super" (Data.fields #[(rf 248),(rf 248),(rf 248)]))))))) (nd (n1 P) (nd (fo "_wall" "_wall" (top 0) .none "__main__" 164 20) (nd (ob "dict" (Data.dict #[(dm P 221 "stitchroom.errors" 194),(dq P 223 "NoStitch" 222),(dl P 225 7 224),(ds P 226 42)] 4)) (nd (tu #[(sv "parts" 263)] 0) (nd (ob "getset_descriptor" (Data.fields #[(sv "__weakref__" 354),(rf 131),(.builtin "ExceptionGroup.__weakref__"),.none])) (nl (tu #[] 0)) .nil) (nl (n4 P))) (nd (tu #[] 0) (nd (n0 P) (nl (tu #[] 0)) .nil) (nl (fr (so "mark") (so "Slip.mark") QjN .none .none)))) (nd (tu #[] 0) (nd (fo "block_text" "block_text" st5 .none "stitchroom.writer" 251 84) (nd (fo "__init__" "Plain.__init__" st9 .none "stitchroom.stitches" 302 148) (nl (cO "ties" "Over.ties" 510 99 (i0 1) (rf 272) (rf 273) .none (rf 274) (rf 275) (rf 276) 514 515)) .nil) (nl (tu #[(sv "self" 448)] 0))) (nd (tu #[(sv "self" 340)] 0) (nl (tu #[] 0)) (nl (fo "turned" "Slip.turned" (Qg (top 22) 5) .none "stitchroom.stitches" 302 244))))) (nd (tu #[] 0) (nd (ob "super" (Data.fields #[(rf 44),(rf 44),(rf 44)])) (nd (cO "item_texts" "item_texts" 267 23 (i0 1) (rf 74) (rf 75) .none .none .none (rf 76) 270 271) (nd (oc (#[(sv "Plain" 361),(sv "Plain" 362),(hC 363),(i0 50),z0,z0,z0,z0,(rf 139),hF,(i0 181),(rf 140),.none,.none,.none,.none,(i0 364),(i0 50),(hC 365)])) (nl (fr (so "gives") (so "Over.gives") (Qg (top 23) 1) .none .none)) .nil) (nl (n0 P))) (nd (n3 P) (nd (tu #[(sv "self" 403)] 0) (nl (ob "dict" (Data.dict #[(dm P 491 "stitchroom.stitches" 302),(dl P 495 91 494),(dR P "takes" 502 264),(dR P "gives" 509 271),(dR P "ties" 516 278),(dR P "mark" 523 285),(dR P "mirrored" 530 292),(dR P "turned" 537 299),(ds P 538 300),(hD P 539)] 2))) .nil) (nl (cO "mirrored" "Slip.mirrored" 466 86 (i0 1) (rf 232) (rf 233) .none (rf 234) (rf 235) (rf 236) 470 471)))) (nd (n0 P) (nd (tu #[] 0) (nd (tu #[] 0) (nl (fo "mark" "Over.mark" QjM .none "stitchroom.stitches" 302 284)) .nil) (nl (tu #[] 0))) (nd (tu #[] 0) (nl (fr (so "turned") (so "Plain.turned") (Qg (top 21) 6) .none .none)) (nl (ob "dict" (Data.dict #[(dm P 491 "stitchroom.stitches" 302),(dq P 493 "Over" 492),(dl P 495 91 494),(dR P "takes" 502 264),(dR P "gives" 509 271),(dR P "ties" 516 278),(dR P "mark" 523 285),(dR P "mirrored" 530 292),(dR P "turned" 537 299),(ds P 538 300)] 10))))))))) (nd (W.boot_o_2 P) (nd (W.boot_o_4 P) (nd (W.boot_o_8 P) (nd (n0 P) (nd (ob "getset_descriptor" (Data.fields #[(sv "__weakref__" 209),(rf 31),(.builtin "ExceptionGroup.__weakref__"),.none])) (nd (fr (so "shown") (so "shown") st2 .none .none) (nd (fo "ends" "Stitch.ends" (Qg (top 20) 1) .none "stitchroom.stitches" 302 127) (nl (oc (#[(sv "Over" 486),(sv "Over" 487),(hC 488),(i0 91),z0,z0,z0,z0,(rf 254),hF,(i0 181),(rf 255),.none,.none,.none,.none,(i0 489),(i0 91),(hC 490)]))) .nil) (nl (tu #[(sv "side" 421)] 0))) (nd (cO "part_texts" "part_texts" 289 33 (i0 1) (rf 93) (rf 94) .none .none .none (rf 95) 292 293) (nd (tu #[] 0) (nl (tu #[(sv "self" 527)] 0)) .nil) (nl (fo "ties" "Slip.ties" (Qg (top 22) 2) .none "stitchroom.stitches" 302 223)))) (nd (tu #[] 0) (nd (n0 P) (nd (n0 P) (nl (tu #[] 0)) .nil) (nl (fr (so "takes") (so "Slip.takes") (Qg (top 22) 0) .none .none))) (nd (Obj.mk .none none (Data.fields #[(i0 45),(i0 4),(rf 120),(i0 48),(i0 4),(rf 127)]) #[]) (nd (cO "mark" "Plain.mark" 400 64 (i0 1) (rf 171) (rf 172) .none (rf 173) (rf 174) (rf 175) 404 405) (nl (ob "builtin_function_or_method" (Data.fields #[(.builtin "object.__init_subclass__"),(rf 302)]))) .nil) (nl (n0 P))))) (nd (ob "dict" (Data.dict #[(dm P 203 "stitchroom.errors" 194),(dq P 205 "StitchError" 204),(dl P 207 5 206),(ds P 208 29)] 4)) (nd (oc (#[(sv "NoStitch" 216),(sv "NoStitch" 217),(hC 218),(i0 7),z0,z0,z0,z0,(rf 38),hF,(i0 181),(rf 39),.none,.none,.none,.none,(i0 219),(i0 7),(hC 220)])) (nd (cO "parts_text" "parts_text" 260 21 (i0 1) (rf 67) (rf 68) .none (rf 69) (rf 70) (rf 71) 264 265) (nd (n4 P) (nl (fo "takes" "Over.takes" (Qg (top 23) 0) .none "stitchroom.stitches" 302 263)) .nil) (nl (tu #[] 0))) (nd (fo "part_text" "part_text" st8 .none "stitchroom.writer" 251 103) (nd (fr (so "ties") (so "Plain.ties") (Qg (top 21) 3) .none .none) (nl (tu #[] 0)) .nil) (nl (tu #[] 0)))) (nd (tu #[] 0) (nd (tu #[(sv "row" 283),(sv "texts" 284),(sv "ending" 285)] 0) (nd (tu #[(sv "self" 382)] 0) (nl (n0 P)) .nil) (nl (cO "gives" "Slip.gives" 445 77 (i0 1) (rf 211) (rf 212) .none (rf 213) (rf 214) (rf 215) 449 450))) (nd (cO "ties" "Stitch.ties" 337 45 (i0 1) (rf 115) (rf 116) .none (rf 117) (rf 118) (rf 119) 341 342) (nl (fo "mirrored" "Plain.mirrored" (Qg (top 21) 5) .none "stitchroom.stitches" 302 183)) (nl (Obj.mk (.type "type") none (Data.cls (ClassData.mk (so "Slip") [(rf 131)] [(rf 248),(rf 131),(.type "object")] 247 (so "Slip") true [] [] false none false)) #[(sr 197),none,(some (sv "Slip" 426)),(some (sv "Slip" 434)),(some (.builtin "object.__new__")),(some hT)])))))) (nd (Obj.mk .none none (Data.fields #[(i0 1),z0,(rf 20),(i0 5),z0,(rf 27),(i0 7),z0,(rf 40),(i0 11),z0,(rf 51),(i0 16),z0,(rf 58),(i0 19),z0,(rf 65),(i0 21),z0,(rf 72),(i0 23),z0,(rf 77),(i0 25),z0,(rf 84),(i0 27),z0,(rf 91),(i0 33),z0,(rf 96),(i0 35),z0,(rf 103),(i0 43),z0,(rf 113),(i0 50),z0,(rf 141),(i0 72),z0,(rf 202),(i0 91),z0,(rf 256)]) #[]) (nd (cO "_wall" "_wall" 187 1 (i0 1) (rf 15) (rf 16) .none (rf 17) (rf 18) (rf 19) 191 192) (nd (n3 P) (nd (n0 P) (nd (ob "getset_descriptor" (Data.fields #[(sv "__dict__" 352),(rf 131),(.builtin "function.__dict__"),(.builtin "function.__dict__#set")])) (nl (tu #[(sv "self" 499)] 0)) .nil) (nl (ob "builtin_function_or_method" (Data.fields #[(.builtin "object.__init_subclass__"),(rf 194)])))) (nd (tu #[(sv "part" 298)] 0) (nd (tu #[] 0) (nl (fo "mirrored" "Over.mirrored" (Qg (top 23) 4) .none "stitchroom.stitches" 302 291)) .nil) (nl (tu #[] 0)))) (nd (fo "sum_text" "sum_text" st0 .none "stitchroom.sums" 230 51) (nd (cO "block_text" "block_text" 273 25 (i0 1) (rf 79) (rf 80) .none (rf 81) (rf 82) (rf 83) 277 278) (nd (cO "__init__" "Plain.__init__" 371 52 (i0 2) (rf 143) (rf 144) .none (rf 145) (rf 146) (rf 147) 376 377) (nl (fr (so "ties") (so "Over.ties") (Qg (top 23) 2) .none .none)) .nil) (nl (n0 P))) (nd (n0 P) (nl (tu #[(sv "self" 410)] 0)) (nl (cO "turned" "Slip.turned" 473 89 (i0 1) (rf 239) (rf 240) .none (rf 241) (rf 242) (rf 243) 477 478))))) (nd (Obj.mk (.type "frame") none Data.plain #[(sr 27),(sr 3),(sr 24),none,(some (sv "stitchroom.errors" 194)),none,(sr 0)]) (nd (Obj.mk (.type "type") none (Data.cls (ClassData.mk (so "NoStitch") [(rf 31)] [(rf 44),(rf 31),(.type "ValueError"),(.type "Exception"),(.type "BaseException"),(.type "object")] 43 (so "NoStitch") true [] [] false none false)) #[(sr 35),none,(some (sv "NoStitch" 214)),(some (sv "NoStitch" 222)),(some (.builtin "ValueError.__new__")),(some hT)]) (nd (fr (so "item_texts") (so "item_texts") st4 .none .none) (nd (Obj.mk .none none (Data.fields #[(i0 52),(i0 4),(rf 148),(i0 55),(i0 4),(rf 155),(i0 58),(i0 4),(rf 162),(i0 61),(i0 4),(rf 169),(i0 64),(i0 4),(rf 176),(i0 67),(i0 4),(rf 183),(i0 70),(i0 4),(rf 190)]) #[]) (nl (tu #[] 0)) .nil) (nl (tu #[] 0))) (nd (tu #[] 0) (nd (n0 P) (nl (tu #[] 0)) .nil) (nl (fr (so "mirrored") (so "Slip.mirrored") (Qg (top 22) 4) .none .none)))) (nd (tu #[] 0) (nd (fo "row_text" "row_text" st6 .none "stitchroom.writer" 251 91) (nd (fo "takes" "Plain.takes" (Qg (top 21) 1) .none "stitchroom.stitches" 302 155) (nl (cO "mark" "Over.mark" 517 102 (i0 1) (rf 279) (rf 280) .none (rf 281) (rf 282) (rf 283) 521 522)) .nil) (nl (tu #[(sv "self" 455)] 0))) (nd (tu #[(sv "self" 347)] 0) (nl (tu #[] 0)) (nl (n3 P))))))) (nd (W.boot_o_6 P) (nd (W.boot_o_10 P) (nd (tu #[] 0) (nd (ob "builtin_function_or_method" (Data.fields #[(.builtin "object.__init_subclass__"),(rf 31)])) (nd (fo "shown" "shown" st2 .none "stitchroom.writer" 251 65) (nd (ob "dict" (Data.dict #[(dm P 332 "stitchroom.stitches" 302),(dl P 336 43 335),(dR P "ties" 343 121),(dR P "ends" 350 128),(ds P 351 129),(dR P "__dict__" 353 132),(dR P "__weakref__" 355 133),(hD P 356)] 4)) (nl (tu #[] 0)) .nil) (nl (Obj.mk (.type "type") none (Data.cls (ClassData.mk (so "Plain") [(rf 131)] [(rf 194),(rf 131),(.type "object")] 193 (so "Plain") true [] [] false none false)) #[(sr 136),none,(some (sv "Plain" 359)),(some (sv "Plain" 367)),(some (.builtin "object.__new__")),(some hT)]))) (nd (tu #[] 0) (nd (cO "gives" "Plain.gives" 386 58 (i0 1) (rf 157) (rf 158) .none (rf 159) (rf 160) (rf 161) 390 391) (nl (fr (so "mirrored") (so "Over.mirrored") (Qg (top 23) 4) .none .none)) .nil) (nl (n0 P)))) (nd (fr (so "sum_text") (so "sum_text") st0 .none .none) (nd (tu #[] 0) (nd (tu #[] 0) (nl (tu #[(sv "self" 513)] 0)) .nil) (nl (fo "takes" "Slip.takes" (Qg (top 22) 0) .none "stitchroom.stitches" 302 209))) (nd (Obj.mk (.type "frame") none Data.plain #[(sr 113),(sr 3),(sr 110),none,(some (sv "stitchroom.stitches" 302)),none,(sr 0)]) (nl (tu #[] 0)) (nl (tu #[] 0))))) (nd (n0 P) (nd (tu #[] 0) (nd (tu #[] 0) (nd (ob "dict" (Data.dict #[(dm P 366 "stitchroom.stitches" 302),(dq P 368 "Plain" 367),(dl P 370 50 369),(dR P "__init__" 378 149),(dR P "takes" 385 156),(dR P "gives" 392 163),(dR P "ties" 399 170),(dR P "mark" 406 177),(dR P "mirrored" 413 184),(dR P "turned" 420 191),(ds P 422 192)] 11)) (nl (n0 P)) .nil) (nl (oc (#[(sv "Slip" 428),(sv "Slip" 429),(hC 430),(i0 72),z0,z0,z0,z0,(rf 200),hF,(i0 181),(rf 201),.none,.none,.none,.none,(i0 431),(i0 72),(hC 432)])))) (nd (ob "dict" (Data.dict #[(DictEntry.mk 1 (.int 1 309) (sv "k" 310)),(DictEntry.mk (-2) (.int (-1) 312) (sv "p" 313))] 2)) (nd (fo "ties" "Plain.ties" (Qg (top 21) 3) .none "stitchroom.stitches" 302 169) (nl (cO "turned" "Over.turned" 531 108 (i0 1) (rf 293) (rf 294) .none (rf 295) (rf 296) (rf 297) 535 536)) .nil) (nl (tu #[(sv "self" 469)] 0)))) (nd (cO "size_term" "size_term" 243 16 (i0 2) (rf 53) (rf 54) .none (rf 55) (rf 56) (rf 57) 248 249) (nd (fr (so "row_text") (so "row_text") st6 .none .none) (nd (fr (so "takes") (so "Plain.takes") (Qg (top 21) 1) .none .none) (nl (tu #[] 0)) .nil) (nl (tu #[] 0))) (nd (tu #[] 0) (nl (n0 P)) (nl (ob "builtin_function_or_method" (Data.fields #[(.builtin "object.__init_subclass__"),(rf 248)]))))))) (nd (n2 P) (nd (tu #[(.type "ValueError")] 0) (nd (tu #[] 0) (nd (tu #[] 0) (nd (ob "super" (Data.fields #[(rf 131),(rf 131),(rf 131)])) (nl (fr (so "takes") (so "Over.takes") (Qg (top 23) 0) .none .none)) .nil) (nl (n3 P))) (nd (fr (so "part_text") (so "part_text") st8 .none .none) (nd (tu #[(sv "self" 396)] 0) (nl (n0 P)) .nil) (nl (cO "mark" "Slip.mark" 459 83 (i0 1) (rf 225) (rf 226) .none (rf 227) (rf 228) (rf 229) 463 464)))) (nd (n0 P) (nd (tu #[] 0) (nd (tu #[] 0) (nl (fo "ties" "Over.ties" (Qg (top 23) 2) .none "stitchroom.stitches" 302 277)) .nil) (nl (tu #[] 0))) (nd (tu #[] 0) (nl (fr (so "mirrored") (so "Plain.mirrored") (Qg (top 21) 5) .none .none)) (nl (tu #[] 0))))) (nd (ob "dict" (Data.dict #[(dm P 203 "stitchroom.errors" 194),(dl P 207 5 206),(ds P 208 29),(dR P "__weakref__" 210 32),(hD P 211)] 3)) (nd (ob "builtin_function_or_method" (Data.fields #[(.builtin "object.__init_subclass__"),(rf 44)])) (nd (fo "item_texts" "item_texts" st4 .none "stitchroom.writer" 251 77) (nd (Obj.mk (.type "frame") none Data.plain #[(sr 141),(sr 3),(sr 138),none,(some (sv "stitchroom.stitches" 302)),none,(sr 0)]) (nl (cO "gives" "Over.gives" 503 96 (i0 1) (rf 265) (rf 266) .none (rf 267) (rf 268) (rf 269) 507 508)) .nil) (nl (tu #[(sv "self" 441)] 0))) (nd (ob "dict" (Data.dict #[(dm P 332 "stitchroom.stitches" 302),(dq P 334 "Stitch" 333),(dl P 336 43 335),(dR P "ties" 343 121),(dR P "ends" 350 128),(ds P 351 129)] 6)) (nd (tu #[] 0) (nl (Obj.mk (.type "type") none (Data.cls (ClassData.mk (so "Over") [(rf 131)] [(rf 302),(rf 131),(.type "object")] 301 (so "Over") true [] [] false none false)) #[(sr 251),none,(some (sv "Over" 484)),(some (sv "Over" 492)),(some (.builtin "object.__new__")),(some hT)])) .nil) (nl (fo "mirrored" "Slip.mirrored" (Qg (top 22) 4) .none "stitchroom.stitches" 302 237)))) (nd (tu #[(sv "pattern" 256)] 0) (nd (n0 P) (nd (n0 P) (nl (tu #[] 0)) .nil) (nl (fr (so "ties") (so "Slip.ties") (Qg (top 22) 2) .none .none))) (nd (fr (so "ends") (so "Stitch.ends") (Qg (top 20) 1) .none .none) (nl (cO "turned" "Plain.turned" 414 70 (i0 1) (rf 185) (rf 186) .none (rf 187) (rf 188) (rf 189) 418 419)) (nl (tu #[] 0)))))))))
noncomputable abbrev S1(w:World)(os:OsState):W.SharedT:=⟨T1 w.params,305,(Life.mk [] [] [] 0 [] [] Bool.false #[] [] 0 Bool.false Bool.false Bool.false 0 [2000,10,10] Bool.false 0 Bool.true [] [] 0 Bool.false),Array.mk [],(Drawn.mk 0 0 0 0),542,os⟩
noncomputable abbrev PA(w:World):Prop:=∀os:OsState,Iv.topGoT treeTable hp w 11 hn6 12 (hB.at w os) (W.topStub hp)=some (Sa w os,⟨denote treeTable hcd,hcd,(Pos.mk 0 0 0 0),[W.topFrame hqp]⟩)
theorem Qi3:∀w,PA w:=fun w os=>by kernel_rfl
noncomputable abbrev PB(w:World):Prop:=∀os:OsState,Iv.segRunT treeTable hp w 11 hn6 1 1 (Sa w os) (W.blockOf hbd eV hcd (Pos.mk 0 0 0 0) [W.topFrame hqp])=some (.next,Sb w os,hcd,(Pos.mk 0 0 0 0))
theorem Qi2:∀w,PB w:=fun w os=>by kernel_rfl
noncomputable abbrev PC1(w:World):Prop:=∀os:OsState,Iv.segRunT treeTable hp w 11 hn6 1 2308 (Sb w os) (W.piecesOf (hbd.take 24) eV hcd (Pos.mk 0 0 0 0) [W.topFrame hqp])=some (.next,S1 w os,hcd,(Pos.mk 91 0 109 17))
theorem Qd9(w:World):PC1 (w.withFollow "special-get-raises" false):=fun os=>by kernel_rfl
theorem Qd8(w:World):PC1 (w.withFollow "special-get-raises" true):=fun os=>by kernel_rfl
theorem QgB:∀w,PC1 w:=W.byRow2 "special-get-raises" Qd9 Qd8
noncomputable abbrev PF(w:World):Prop:=∀os:OsState,(Iv.topRunT treeTable hp w 11 hn6 9937 (S1 w os) (W.restOf (hbd.drop 24) eV hcd (Pos.mk 91 0 109 17) [W.topFrame hqp])).map (Iv.vF hp hq w)=some (Iv.gF hq)
theorem QgA(w:World):PF (w.withFollow "special-get-raises" false):=fun os=>by kernel_rfl
theorem Qgz(w:World):PF (w.withFollow "special-get-raises" true):=fun os=>by kernel_rfl
theorem Qi1:∀w,PF w:=W.byRow2 "special-get-raises" QgA Qgz
noncomputable abbrev PK(w:World):Prop:=∀os:OsState,(Iv.topRunT treeTable hp w 11 hn6 9937 (S1 w os) (W.restOf (hbd.drop 24) eV hcd (Pos.mk 91 0 109 17) [W.topFrame hqp])).map (Iv.vK hp hq hlo hXt true)=some (true,true,true)
theorem Qgw(w:World):PK (w.withFollow "special-get-raises" false):=fun os=>by kernel_rfl
theorem Qgv(w:World):PK (w.withFollow "special-get-raises" true):=fun os=>by kernel_rfl
theorem QiZ:∀w,PK w:=W.byRow2 "special-get-raises" Qgw Qgv
noncomputable abbrev PL(w:World):Prop:=∀os:OsState,(Iv.topRunT treeTable hp w 11 hn6 9937 (S1 w os) (W.restOf (hbd.drop 24) eV hcd (Pos.mk 91 0 109 17) [W.topFrame hqp])).map (Iv.vL hq hlo)=some (Iv.gL hq hlo)
theorem Qgu(w:World):PL (w.withFollow "special-get-raises" false):=fun os=>by kernel_rfl
theorem Qgt(w:World):PL (w.withFollow "special-get-raises" true):=fun os=>by kernel_rfl
theorem QiY:∀w,PL w:=W.byRow2 "special-get-raises" Qgu Qgt
noncomputable abbrev PG(w:World):Prop:=∀os:OsState,(Iv.topRunT treeTable hp w 11 hn6 9937 (S1 w os) (W.restOf (hbd.drop 24) eV hcd (Pos.mk 91 0 109 17) [W.topFrame hqp])).map (fun s=>hYf s.abs)=some (hYa w)
theorem Qgy(w:World):PG (w.withFollow "special-get-raises" false):=fun os=>by kernel_rfl
theorem Qgx(w:World):PG (w.withFollow "special-get-raises" true):=fun os=>by kernel_rfl
theorem Qi0:∀w,PG w:=W.byRow2 "special-get-raises" Qgy Qgx
theorem Qnu(w:World)(os:OsState):Iv.Gl2 hp w 11 hn6 (Iv.seenAll hp hq hlo hXt hYf true w) (true,W.openGood hq hlo,hYa w) 12258 (hB.at w os) (W.topStub hp):=by
 have f:=Iv.ch_fin (F:=Iv.seenAll hp hq hlo hXt hYf true w) (a:=(true,W.openGood hq hlo,hYa w)) (Iv.looks3 (Qi1 w os) (QiZ w os) (QiY w os) (Qi0 w os));have f:=Iv.ch_cut 24 (QgB w os) f;exact Iv.ch_pre (Qi3 w os) (Iv.ch_blk (Qi2 w os) f)
theorem hleft:W.LeftO hp hq hlo hXt hYf hYa 12258 true:=Iv.left_pieces hop (by decide) hfm hbo hsz Qnu
section
variable {b:Bool}
theorem Zw:biU T .len [.ref n] hs=(match Q8 T (.ref n) hs with|some xs=>some (.int xs.length 0,hs)|none=>none):=rfl
theorem Zj:biU T .len [.str x] hs=if x.length<=1000000 then some (.int x.length 0,hs)else none:=rfl
theorem Qlr:biU T .len [.scr] hs=some (.int T.scr.length 0,hs):=rfl
theorem QnW:biU T .int [.bl b] hs=some (.int (if b then 1 else 0) 0,hs):=rfl
theorem Z7:biU T .str [.int i 0] hs=if 0<=i&&decide (i.natAbs.log2<1920)then some (.str (Z5 i.toNat),hs)else none:=rfl
theorem Qjr(h:hs[n]?=some (.lst xs)):biU T .tuple [.ref n] hs=some (.ref hs.length,hs++[.tup xs]):=by
 unfold biU;simp only [h]
theorem Qjs:biU T .min [.int i 0,.int j 0] hs=some (.int (if j<i then j else i) 0,hs):=rfl
theorem Zp:bmL .append n xs [u] hs=if xs.length<1000000 then some (.non,hs.set n (.lst (xs++[u])))else none:=rfl
theorem QkU:bmL .pop n xs [] hs=(match xs[xs.length-1]? with|some y=>some (y,hs.set n (.lst xs.dropLast))|none=>none):=rfl
theorem ZA:bmS T .join x [w] hs=(match QM T w hs with
  | some ys=>match Yb ys with
   | some ts=>if ts.length*x.length+(ts.map List.length).sum<=1000000 then some (.str (Qj x ts),hs)else none
   | none=>none
  | none=>none):=rfl
theorem Qmv:YN T .str (.str x) hs=some true:=rfl
theorem Qk0(h:hs[n]?=some (.lst xs)):YN T .list (.ref n) hs=some true:=by
 unfold YN Qas;dsimp only;rw [h];rfl
theorem QiS(h:hs[n]?=some (.tup xs)):YN T .list (.ref n) hs=some false/\YN T .tuple (.ref n) hs=some true:=by
 unfold YN Qas;dsimp only;rw [h];exact⟨rfl,rfl⟩
theorem QiU{fs:List (Nat×U)}(h:hs[n]?=some (.ins c fs)):YN T .list (.ref n) hs=T.isi.lookup (.cls c,.list)/\YN T .tuple (.ref n) hs=T.isi.lookup (.cls c,.tuple):=by
 unfold YN Qas;dsimp only;rw [h];exact⟨rfl,rfl⟩
theorem Yh:eqA T (.int i 0) (.int j 0) hs=some (decide (i=j)):=rfl
theorem Yg:eqA T (.str x) (.str y) hs=some (decide (x=y)):=rfl
theorem QgI{m:Nat}:eqW T (m+1) (.int i 0) (.int i 0) hs=true:=by
 show(i==i)=true;simp
end
noncomputable def yy:=And.intro @QV (And.intro @Yo (And.intro @QC (And.intro @ZO (And.intro @ZI (And.intro @Yn (And.intro @Y5 (And.intro @Qev (And.intro @Qj4 (And.intro @y_c (And.intro @Qj7 (And.intro @QF (And.intro @QlC (And.intro @Jq (And.intro @Zv (And.intro @Qj5 (And.intro @Qj6 (And.intro @J0 (And.intro @Zu (And.intro @Qdl (And.intro @QlB (And.intro @Q1 (And.intro @Qdh (And.intro @Qe9 (And.intro @QbQ (And.intro @QbP (And.intro @Qj8 (And.intro @QmK (And.intro @Qhj (And.intro @Zx (And.intro @Qj9 (And.intro @Q2 (And.intro @Qhi (And.intro @QbR (@Qfc))))))))))))))))))))))))))))))))))
noncomputable def bb:=And.intro @Zw (And.intro @Zj (And.intro @QnW (And.intro @Z7 (And.intro @Qjr (@Qjs)))))
theorem QcT(n:Nat)(h:¬n<10):Z5 n=Z5 (n / 10)++Z5 (n % 10):=by
 have hm:n % 10<10:=Nat.mod_lt n (by decide)
 have t:Nat.toDigits 10 (n / 10)++Nat.toDigits 10 (n % 10)=Nat.toDigits 10 (10*(n / 10)+n % 10):=Nat.toDigits_append_toDigits (by decide) (by lia) hm
 rw [Nat.div_add_mod]at t;unfold Z5;rw [<-t,List.map_append]
theorem Jj(n:Nat)(h:n<10):Z5 n=[48+n]:=by
 have:n=0\/n=1\/n=2\/n=3\/n=4\/n=5\/n=6\/n=7\/n=8\/n=9:=by lia
 rcases this with rfl|rfl|rfl|rfl|rfl|rfl|rfl|rfl|rfl|rfl<;>decide +kernel
theorem Qba:∀(k n:Nat),n<10 ^ (k+1)->(Z5 n).length<=k+1
 | 0,n,h=>by rw [Jj n (by simpa using h)];simp
 | k+1,n,h=>by
  by_cases h1:n<10
  ·rw [Jj n h1];simp
  ·rw [QcT n h1,List.length_append,Jj (n % 10) (Nat.mod_lt n (by decide))]
   have:=Qba k (n / 10) (by rw [Nat.pow_succ]at h;lia)
   simp only [List.length_cons,List.length_nil];lia
noncomputable def Ok(i:Int):Prop:=0<=i/\i<10 ^ 60
theorem Ok.len(h:Ok i):(Z5 i.toNat).length<=60:=Qba 59 _ (by have:=h.1;have:=h.2;lia)
theorem Ok.log(h:Ok i):i.natAbs.log2<1920:=by
 by_cases z:i.natAbs=0
 ·rw [z];decide
 ·rw [Nat.log2_lt z];have h1:=h.2;have h2:=h.1
  have:i.natAbs<10 ^ 60:=by lia
  exact Nat.lt_of_lt_of_le (Nat.lt_trans this (show 10 ^ 60<2 ^ 200 by decide)) (Nat.pow_le_pow_right (by decide) (by decide))
noncomputable def tm(i:Int)(x:List Nat):List Nat:=if i=1 then x else Z5 i.toNat++x
theorem Qjj(h:Ok i):Qa (tb s) (n+1) 1 [.int i 0,.str [c]] hs=some (.str (tm i [c]),hs):=by
 have e1:=h.len;have e2:=h.log;have e0:=h.1;by_cases z:i=1
 ·subst z;rfl
 ·have e3:(Z5 i.toNat).length<=999999:=by lia
  rw [Qe fnL[1] rfl rfl];show fin (exs (tb s) (Qa (tb s) n) 100 b1 [some (.int i 0),some (.str [c])] hs)=_;simp [b1,yy,evs,evO,Ql,Qs,Qd,Qo,Yh,Yg,Qi,Qk,opU,Qm,Zw,Zj,Z7,slU,fin,tm,z,e0,e2,e3]
theorem Qez(h:Ok i)(c:Nat):(tm i [c]).length<=61:=by
 have:=h.len;unfold tm;split
 ·simp
 ·simp;lia
noncomputable def seg(i:Int)(c:Nat):List Nat:=if i=0 then []else 43::tm i [c]
theorem Ja(h:Ok i)(c:Nat):(seg i c).length<=62:=by
 have:=Qez h c;unfold seg;split
 ·simp
 ·simp;lia
noncomputable def Y3:List S:=match b40 with
 | [_,.loop _ _ b,_,_]=>b
 | _=>[]
theorem Qa5{k:Int}{ns:List U}(hp:hs[p]?=some (.tup ns))(hk:atU ns k=some (.int i 0))(hc:atU [32,97,98,99,100] k=some c)(h:Ok i)(hx:x.length<=300):
  exs T cf (d+20) Y3 [some (.ref p),some (.str x),some (.int k 0)] hs=some (.next,[some (.ref p),some (.str (x++seg i c)),some (.int k 0)],hs):=by
 have e1:=h.len;have e2:=h.log;have e0:=h.1
 have e3:(Z5 i.toNat).length<=999999:=by lia
 by_cases z0:i=0
 ·subst z0;simp [Y3,b40,yy,evs,evO,Ql,Qs,Qd,Qo,Yh,Yg,Qi,Qk,opU,Qm,Zw,Zj,Z7,slU,fin,hp,hk,seg]
 by_cases z1:i=1
 ·subst z1
  have e4:x.length+1<=1000000:=by lia
  have e5:x.length+1+1<=1000000:=by lia
  simp [Y3,b40,yy,evs,evO,Ql,Qs,Qd,Qo,Yh,Yg,Qi,Qk,opU,Qm,Zw,Zj,Z7,slU,fin,hp,hk,hc,seg,tm,e4,e5]
 ·have z2:1<i:=by lia
  have e4:x.length+1<=1000000:=by lia
  have e6:x.length+1+(Z5 i.toNat).length<=1000000:=by lia
  have e7:x.length+((Z5 i.toNat).length+1)<=999999:=by lia
  have e8:x.length+(Z5 i.toNat).length<=999998:=by lia
  simp [Y3,b40,yy,evs,evO,Ql,Qs,Qd,Qo,Yh,Yg,Qi,Qk,opU,Qm,Zw,Zj,Z7,slU,fin,hp,hk,hc,seg,tm,z0,z1,z2,e0,e2,e3,e4,e6,e7,e8]
noncomputable def J4(n1 n2 n3 n4:Int):List Nat:=seg n1 97++seg n2 98++seg n3 99++seg n4 100
noncomputable def J(n0 n1 n2 n3 n4:Int):List Nat:=if 0<n0\/J4 n1 n2 n3 n4=[]then J4 n1 n2 n3 n4++43::Z5 n0.toNat else J4 n1 n2 n3 n4
noncomputable def nums(n0 n1 n2 n3 n4:Int):List U:=[.int n0 0,.int n1 0,.int n2 0,.int n3 0,.int n4 0]
structure Oks(n0 n1 n2 n3 n4:Int):Prop where
 h0:Ok n0
 h1:Ok n1
 h2:Ok n2
 h3:Ok n3
 h4:Ok n4
theorem Qen{n0 n1 n2 n3 n4:Int}(h:Oks n0 n1 n2 n3 n4)(hp:hs[p]?=some (.tup (nums n0 n1 n2 n3 n4))):
  Qa (tb s) (n+1) 40 [.ref p] hs=some (.str (ZV (J n0 n1 n2 n3 n4) (some 1) none),hs):=by
 have l1:=Ja h.h1 97;have l2:=Ja h.h2 98;have l3:=Ja h.h3 99;have l4:=Ja h.h4 100
 have t1:=fun d=>Qa5 (T:=tb s) (cf:=Qa (tb s) n) (d:=d) (k:=1) (x:=[]) (c:=97) hp rfl rfl h.h1 (by simp)
 have t2:=fun d=>Qa5 (T:=tb s) (cf:=Qa (tb s) n) (d:=d) (k:=2) (x:=[]++seg n1 97) (c:=98) hp rfl rfl h.h2 (by simp;lia)
 have t3:=fun d=>Qa5 (T:=tb s) (cf:=Qa (tb s) n) (d:=d) (k:=3) (x:=[]++seg n1 97++seg n2 98) (c:=99) hp rfl rfl h.h3 (by simp;lia)
 have t4:=fun d=>Qa5 (T:=tb s) (cf:=Qa (tb s) n) (d:=d) (k:=4) (x:=[]++seg n1 97++seg n2 98++seg n3 99) (c:=100) hp rfl rfl h.h4 (by simp;lia)
 have lp:∀d,JL (tb s) (.rng 1 4) (.name 2) (exs (tb s) (Qa (tb s) n) (d+20) Y3) 5 0 [some (.ref p),some (.str []),none] hs=some (.next,[some (.ref p),some (.str (J4 n1 n2 n3 n4)),some (.int 4 0)],hs):=fun d=>by
  have t1:=t1 d;have t2:=t2 d;have t3:=t3 d;have t4:=t4 d;simp only [List.nil_append]at t1 t2 t3 t4;simp [JL,itm,tgt,t1,t2,t3,t4,J4,-List.append_assoc]
 have lj:(J4 n1 n2 n3 n4).length<=248:=by simp [J4];lia
 have e1:=h.h0.len;have e2:=h.h0.log;have e0:=h.h0.1;have lp:=lp 77;simp only [Nat.reduceAdd]at lp;have eb:b40=[.set 1 (.c (.str [])),.loop (.name 2) (.rng2 (.c (.int 1 0)) (.c (.int 5 0))) Y3,b40[2],b40[3]]:=rfl
 have e3:(J4 n1 n2 n3 n4).length+1<=1000000:=by lia
 have e4:(J4 n1 n2 n3 n4).length+1+(Z5 n0.toNat).length<=1000000:=by lia
 have e5:(J4 n1 n2 n3 n4).length<=1000000:=by lia
 have e6:(J4 n1 n2 n3 n4).length+((Z5 n0.toNat).length+1)<=1000000:=by lia
 rw [Qe fnL[40] rfl rfl];show fin (exs (tb s) (Qa (tb s) n) 100 b40 [some (.ref p),none,none] hs)=_;rw [eb];by_cases z0:0<n0
 ·simp [b40,yy,evs,evO,Ql,Qs,Qd,Qo,Yh,Yg,Qi,Qk,opU,Qm,Zw,Zj,Z7,slU,fin,lp,hp,nums,atU,ixU,J,z0,e0,e2,e3,e4,e5,e6]
 ·by_cases z1:J4 n1 n2 n3 n4=[]
  ·have e7:1+(Z5 n0.toNat).length<=1000000:=by lia
   have e8:(Z5 n0.toNat).length<=999999:=by lia
   simp [b40,yy,evs,evO,Ql,Qs,Qd,Qo,Yh,Yg,Qi,Qk,opU,Qm,Zw,Zj,Z7,slU,fin,lp,hp,nums,atU,ixU,J,z0,z1,e0,e2,e3,e4,e5,e6,e7,e8]
  ·simp [b40,yy,evs,evO,Ql,Qs,Qd,Qo,Yh,Yg,Qi,Qk,opU,Qm,Zw,Zj,Z7,slU,fin,lp,hp,nums,atU,ixU,J,z0,z1,e0,e2,e3,e4,e5,e6]
theorem at0{a:O}{r:Hs}:(hs++a::r)[hs.length]?=some a:=by rw [List.getElem?_append_right (Nat.le_refl _),Nat.sub_self];rfl
theorem at1{a b:O}{r:Hs}:(hs++a::b::r)[hs.length+1]?=some b:=by rw [List.getElem?_append_right (by lia),show hs.length+1-hs.length=1 by lia];rfl
theorem at2{a b c:O}{r:Hs}:(hs++a::b::c::r)[hs.length+2]?=some c:=by rw [List.getElem?_append_right (by lia),show hs.length+2-hs.length=2 by lia];rfl
theorem QdB{a c:O}{r:Hs}:(hs++a::r).set hs.length c=hs++c::r:=by rw [List.set_append_right _ _ (Nat.le_refl _),Nat.sub_self];rfl
theorem Qme{a b c:O}{r:Hs}:(hs++a::b::r).set (hs.length+1) c=hs++a::c::r:=by rw [List.set_append_right _ _ (by lia),show hs.length+1-hs.length=1 by lia];rfl
noncomputable def tlS(i:Int)(c:Nat):List (List Nat):=if i=0 then []else [tm i [c]]
theorem YQ:(tb s).cons[0]?=some (.tup [.str [97],.str [98],.str [99],.str [100]]):=rfl
theorem QaK{i:Nat}{acc:List U}{ns:List U}{m:Int}(hq:hs[q]?=some (.tup ns))(hn:ns[i]?=some (.int m 0))(hc:[U.str [97],.str [98],.str [99],.str [100]][i]?=some (.str [c]))(h:Ok m)(ha:acc.length<=10):
  Zt (tb s) (ev (tb s) (Qa (tb s) (n+1)) (d+10)) (JO (evT (tb s) (Qa (tb s) (n+1)) (d+10)) (some (.cmp .NotEq (.var 2) (.c (.int 0 0))))) (.zipB false false (.ref q) (.con 0)) true (.call 1 [.var 2,.var 3]) [some (.ref p),none] (k+1) i acc hs
   = Zt (tb s) (ev (tb s) (Qa (tb s) (n+1)) (d+10)) (JO (evT (tb s) (Qa (tb s) (n+1)) (d+10)) (some (.cmp .NotEq (.var 2) (.c (.int 0 0))))) (.zipB false false (.ref q) (.con 0)) true (.call 1 [.var 2,.var 3]) [some (.ref p),none] k (i+1) (acc++(tlS m c).map .str) hs:=by
 have ha':acc.length<1000000:=by lia
 have hc':[U.str [97],.str [98],.str [99],.str [100]][i]?=some (.str [c]):=hc;by_cases z:m=0
 ·subst z;rw [Zt];simp only [itm,sqU,Bool.false_eq_true,if_false,ZK,hq,YQ,two,hn,hc',tgt,tgN,Qdi];simp [JO,yy,evs,evO,Ql,Qs,Qd,Qo,Yh,Yg,Qi,Qk,opU,Qm,Zw,Zj,Z7,slU,fin,ha',tlS]
 ·rw [Zt];simp only [itm,sqU,Bool.false_eq_true,if_false,ZK,hq,YQ,two,hn,hc',tgt,tgN,Qdi];simp [JO,yy,evs,evO,Ql,Qs,Qd,Qo,Yh,Yg,Qi,Qk,opU,Qm,Zw,Zj,Z7,slU,fin,ha',tlS,z,Qjj h]
noncomputable def T4(n1 n2 n3 n4:Int):List (List Nat):=tlS n1 97++tlS n2 98++tlS n3 99++tlS n4 100
noncomputable def Ts(n0 n1 n2 n3 n4:Int):List (List Nat):=if n0≠0\/T4 n1 n2 n3 n4=[]then T4 n1 n2 n3 n4++[Z5 n0.toNat]else T4 n1 n2 n3 n4
theorem Q5(i:Int)(c:Nat):(tlS i c).length<=1:=by unfold tlS;split<;>simp
theorem Qjn{n1 n2 n3 n4:Int}(h1:Ok n1)(h2:Ok n2)(h3:Ok n3)(h4:Ok n4)(hq:hs[q]?=some (.tup [.int n1 0,.int n2 0,.int n3 0,.int n4 0])):
  Zt (tb s) (ev (tb s) (Qa (tb s) (n+1)) (d+10)) (JO (evT (tb s) (Qa (tb s) (n+1)) (d+10)) (some (.cmp .NotEq (.var 2) (.c (.int 0 0))))) (.zipB false false (.ref q) (.con 0)) true (.call 1 [.var 2,.var 3]) [some (.ref p),none] 5 0 [] hs=some ((T4 n1 n2 n3 n4).map .str,hs):=by
 have l1:=Q5 n1 97;have l2:=Q5 n2 98;have l3:=Q5 n3 99
 rw [QaK (c:=97) hq rfl rfl h1 (by simp),QaK (c:=98) hq rfl rfl h2 (by simp;lia),QaK (c:=99) hq rfl rfl h3 (by simp;lia),QaK (c:=100) hq rfl rfl h4 (by simp;lia),Zt]
 simp only [itm,sqU,Bool.false_eq_true,if_false,ZK,hq,YQ,two];simp [T4]
theorem QH:∀ts:List (List Nat),Yb (ts.map .str)=some ts
 | []=>rfl
 | t::r=>by simp [Yb,QH r]
theorem Qe5{n0 n1 n2 n3 n4:Int}:(Ts n0 n1 n2 n3 n4).length<=5:=by
 have l1:=Q5 n1 97;have l2:=Q5 n2 98;have l3:=Q5 n3 99;have l4:=Q5 n4 100;unfold Ts;split<;>simp [T4]<;>lia
theorem Qe4{n0 n1 n2 n3 n4:Int}(h:Oks n0 n1 n2 n3 n4):∀t∈Ts n0 n1 n2 n3 n4,t.length<=61:=by
 have one:∀{i:Int} {c:Nat},Ok i->∀t∈tlS i c,t.length<=61:=fun {i c} hi t ht=>by
  unfold tlS at ht;split at ht
  ·cases ht
  ·simp at ht;subst ht;exact Qez hi c
 have four:∀t∈T4 n1 n2 n3 n4,t.length<=61:=fun t ht=>by
  simp only [T4,List.mem_append]at ht
  rcases ht with((ht|ht)|ht)|ht
  ·exact one h.h1 t ht
  ·exact one h.h2 t ht
  ·exact one h.h3 t ht
  ·exact one h.h4 t ht
 intro t ht;unfold Ts at ht;split at ht
 ·rcases List.mem_append.mp ht with ht|ht
  ·exact four t ht
  ·simp at ht;subst ht;have:=h.h0.len;lia
 ·exact four t ht
theorem Qb1(k:Nat):∀ts:List (List Nat),(∀t∈ts,t.length<=k)->(ts.map List.length).sum<=ts.length*k
 | [],_=>by simp
 | t::r,h=>by
  have h1:=h t List.mem_cons_self;have h2:=Qb1 k r fun x hx=>h x (List.mem_cons_of_mem _ hx);simp only [List.map_cons,List.sum_cons,List.length_cons,Nat.succ_mul];lia
theorem Qc4{n0 n1 n2 n3 n4:Int}(h:Oks n0 n1 n2 n3 n4)(hp:hs[p]?=some (.tup (nums n0 n1 n2 n3 n4))):
  Qa (tb s) (n+2) 0 [.ref p] hs=some (.str (Qj [43] (Ts n0 n1 n2 n3 n4)),hs++[.tup [.int n1 0,.int n2 0,.int n3 0,.int n4 0],.lst ((Ts n0 n1 n2 n3 n4).map .str)]):=by
 rw [Qe fnL[0] rfl rfl];show fin (exs (tb s) (Qa (tb s) (n+1)) 100 b0 [some (.ref p),none] hs)=_;have lt:p<hs.length:=(List.getElem?_eq_some_iff.mp hp).1
 have hp2:∀r,(hs++r)[p]?=some (.tup (nums n0 n1 n2 n3 n4)):=fun r=>by rw [List.getElem?_append_left lt];exact hp
 have hq:(hs++[O.tup [.int n1 0,.int n2 0,.int n3 0,.int n4 0]])[hs.length]?=some (.tup [.int n1 0,.int n2 0,.int n3 0,.int n4 0]):=by simp
 have cc:=fun d=>Qjn (s:=s) (n:=n) (d:=d) (p:=p) h.h1 h.h2 h.h3 h.h4 hq;have cc:=cc 87;simp only [Nat.reduceAdd]at cc;have e1:=h.h0.len;have e2:=h.h0.log;have e0:=h.h0.1;have ln:=Qe5 (n0:=n0) (n1:=n1) (n2:=n2) (n3:=n3) (n4:=n4);have sm:=Qb1 61 _ (Qe4 h)
 have le:(Ts n0 n1 n2 n3 n4).length+((Ts n0 n1 n2 n3 n4).map List.length).sum<=1000000:=by lia
 have l4:(T4 n1 n2 n3 n4).length<1000000:=by
  have l1:=Q5 n1 97;have l2:=Q5 n2 98;have l3:=Q5 n3 99;have l4:=Q5 n4 100;simp [T4];lia
 have e3:(Z5 n0.toNat).length<=60:=e1;by_cases z:n0≠0\/T4 n1 n2 n3 n4=[]
 ·have et:Ts n0 n1 n2 n3 n4=T4 n1 n2 n3 n4++[Z5 n0.toNat]:=if_pos z;rw [et]at le ⊢
  have sm2:Yb ((T4 n1 n2 n3 n4).map .str++[.str (Z5 n0.toNat)])=some (T4 n1 n2 n3 n4++[Z5 n0.toNat]):=by
   have:=QH (T4 n1 n2 n3 n4++[Z5 n0.toNat]);simpa using this
  by_cases z0:n0=0
  ·have z1:T4 n1 n2 n3 n4=[]:=z.resolve_left (fun q=>q z0);subst z0;simp only [z1,List.nil_append,List.map_nil]at cc sm2 le l4 ⊢;simp at le;simp [b0,yy,evs,evO,Ql,Qs,Qd,Qo,Yh,Yg,Qi,Qk,opU,Qm,Zw,Zj,Z7,slU,fin,hp,nums,ZX,ZV,wkZ,sqU,QM,ZK,hq,YQ,cc,hp2,Q8,Zd,bmU,bmS,bmL,bS,bL,Yb,atU,ixU,at0,at1,Qme,e2,le]
  ·simp at le;simp [b0,yy,evs,evO,Ql,Qs,Qd,Qo,Yh,Yg,Qi,Qk,opU,Qm,Zw,Zj,Z7,slU,fin,hp,nums,ZX,ZV,wkZ,sqU,QM,ZK,hq,YQ,cc,hp2,Q8,Zd,bmU,bmS,bmL,bS,bL,sm2,atU,ixU,at0,at1,Qme,z0,e0,e2,l4,le]
 ·have et:Ts n0 n1 n2 n3 n4=T4 n1 n2 n3 n4:=if_neg z;have z0:n0=0:=Classical.byContradiction fun q=>z (.inl q);have z1:¬T4 n1 n2 n3 n4=[]:=fun q=>z (.inr q);rw [et]at le ⊢;simp [b0,yy,evs,evO,Ql,Qs,Qd,Qo,Yh,Yg,Qi,Qk,opU,Qm,Zw,Zj,Z7,slU,fin,hp,nums,ZX,ZV,wkZ,sqU,QM,ZK,hq,YQ,cc,hp2,Q8,Zd,bmU,bmS,bmL,bS,bL,QH,atU,ixU,at0,at1,z0,z1,le]
theorem Qlu(n0 n1 n2 n3 n4:Int):Ts n0 n1 n2 n3 n4≠[]:=by
 unfold Ts;split
 ·simp
 ·rename_i z;exact fun q=>z (.inr q)
theorem Qa3(sep:List Nat):∀ts:List (List Nat),(Qj sep ts).length<=(ts.map List.length).sum+ts.length*sep.length
 | []=>by simp [Qj]
 | [x]=>by simp [Qj]
 | x::y::r=>by
  have ih:=Qa3 sep (y::r);simp only [Qj,List.length_append,List.map_cons,List.sum_cons,List.length_cons,Nat.succ_mul]at ih ⊢;lia
noncomputable def txt(n0 n1 n2 n3 n4:Int):List Nat:=Qj [43] (Ts n0 n1 n2 n3 n4)
theorem Yp{n0 n1 n2 n3 n4:Int}(h:Oks n0 n1 n2 n3 n4):(txt n0 n1 n2 n3 n4).length<=400:=by
 have ln:=Qe5 (n0:=n0) (n1:=n1) (n2:=n2) (n3:=n3) (n4:=n4);have sm:=Qb1 61 _ (Qe4 h);have j:=Qa3 [43] (Ts n0 n1 n2 n3 n4);simp only [List.length_singleton]at j;unfold txt;lia
noncomputable def QbL(ts:List (List Nat)):List Nat:=ts.flatMap (43::·)
theorem JN:∀{ts:List (List Nat)},ts≠[]->QbL ts=43::Qj [43] ts
 | [],h=>absurd rfl h
 | [x],_=>by simp [QbL,Qj]
 | x::y::r,_=>by
  have ih:=JN (ts:=y::r) (by simp)
  show 43::x++QbL (y::r)=_;rw [ih];simp [Qj]
theorem QdC(i:Int)(c:Nat):seg i c=QbL (tlS i c):=by unfold seg tlS QbL;split<;>simp
theorem QaG(n1 n2 n3 n4:Int):J4 n1 n2 n3 n4=QbL (T4 n1 n2 n3 n4):=by simp [J4,T4,QdC,QbL]
theorem Qeg:QbL ts=[]↔ts=[]:=by
 cases ts with
 | nil=>simp [QbL]
 | cons a r=>simp [QbL]
theorem Qn2{n0 n1 n2 n3 n4:Int}(h:Oks n0 n1 n2 n3 n4):J n0 n1 n2 n3 n4=43::txt n0 n1 n2 n3 n4:=by
 have e:J n0 n1 n2 n3 n4=QbL (Ts n0 n1 n2 n3 n4):=by
  have p:=h.h0.1
  have c:(0<n0\/J4 n1 n2 n3 n4=[])↔(n0≠0\/T4 n1 n2 n3 n4=[]):=by
   rw [QaG,Qeg];constructor
   ·rintro(z|z)
    ·exact .inl (by lia)
    ·exact .inr z
   ·rintro(z|z)
    ·exact .inl (by lia)
    ·exact .inr z
  unfold J Ts;by_cases z:n0≠0\/T4 n1 n2 n3 n4=[]
  ·rw [if_pos z,if_pos (c.mpr z),QaG];simp [QbL]
  ·rw [if_neg z,if_neg (fun q=>z (c.mp q)),QaG]
 rw [e];exact JN (Qlu n0 n1 n2 n3 n4)
theorem YF{n0 n1 n2 n3 n4:Int}(h:Oks n0 n1 n2 n3 n4)(hp:hs[p]?=some (.tup (nums n0 n1 n2 n3 n4))):
  Qa (tb s) (n+1) 40 [.ref p] hs=some (.str (txt n0 n1 n2 n3 n4),hs):=by
 rw [Qen h hp,Qn2 h]
 have:ZV (43::txt n0 n1 n2 n3 n4) (some 1) none=txt n0 n1 n2 n3 n4:=by
  simp [ZV,ZX]
 rw [this]
theorem eq_int:eqA T (.int i 0) (.int j 0) hs=some (decide (i=j)):=rfl
noncomputable def sg(l:List Nat)(z:Int):Nat:=(l[(z % (l.length:Int)).toNat]?).getD 0
theorem Qb2{l:List Nat}{k:Int}(hk:(l.length:Int)=k)(h0:0<k)(hl:l.length<=1000000)(z:Int):Qk T (.str l) (.int (z % k) 0) hs=some (.str [sg l z]):=by
 subst hk;have h1:=Int.emod_nonneg z (Int.ne_of_gt h0);have h2:=Int.emod_lt_of_pos z h0
 have h3:(z % (l.length:Int)).toNat<l.length:=by lia
 have e:atU l (z % (l.length:Int))=some (sg l z):=by
  unfold atU ixU sg;rw [if_pos h1,if_pos h2];simp [h3]
 simp [Qk,hl,e]
theorem Qb7{l:List Nat}(h:0<l.length)(z:Int):sg l z∈l:=by
 have h0:(0:Int) < (l.length:Int):=by lia
 have h1:=Int.emod_nonneg z (Int.ne_of_gt h0);have h2:=Int.emod_lt_of_pos z h0
 have h3:(z % (l.length:Int)).toNat<l.length:=by lia
 unfold sg;rw [List.getElem?_eq_getElem h3];exact List.getElem_mem h3
inductive Mk:List Nat->Prop
 | bare {a:Nat} (h:a∈[107,112,115,111,98]):Mk [a]
 | lean {a b c:Nat} (h:a∈[107,112]) (hb:b∈[50,51,52]) (hc:c∈[114,108]):Mk [a,b,c]
 | grow {a b:Nat} (h:a∈[107,112]) (hb:b∈[50,51,52]):Mk [a,120,b]
 | cross {a b c e:Nat} (h:a∈[99,113]) (hb:b∈[49,50,51,52]) (hc:c∈[102,98]) (he:e∈[49,50,51,52]):Mk [a,b,c,e]
 | keep {a b:Nat} (h:a∈[104,102]) (hb:b∈[119,120,121,122]):Mk [a,b]
theorem Mk.len(h:Mk m):1<=m.length/\m.length<=4:=by cases h<;>exact⟨by simp,by simp⟩
theorem Qjm{x:Int}:∃m,Mk m/\Qa (tb s) (n+1) 33 [.int x 0] hs=some (.str m,hs):=by
 rw [Qe fnL[33] rfl rfl];show ∃m,_/\fin (exs (tb s) (Qa (tb s) n) 100 b33 [some (.int x 0),none,none,none] hs)=_;generalize Qa (tb s) n=cf;generalize tb s=T
 have q2:∀(a b:Nat) (z:Int),Qk T (.str [a,b]) (.int (z % 2) 0) hs=some (.str [sg [a,b] z]):=fun a b z=>Qb2 (k:=2) rfl (by decide) (by simp) z
 have q3:∀(a b c:Nat) (z:Int),Qk T (.str [a,b,c]) (.int (z % 3) 0) hs=some (.str [sg [a,b,c] z]):=fun a b c z=>Qb2 (k:=3) rfl (by decide) (by simp) z
 have q4:∀(a b c e:Nat) (z:Int),Qk T (.str [a,b,c,e]) (.int (z % 4) 0) hs=some (.str [sg [a,b,c,e] z]):=fun a b c e z=>Qb2 (k:=4) rfl (by decide) (by simp) z
 have M2:∀(a b:Nat) (z:Int),sg [a,b] z∈[a,b]:=fun a b z=>Qb7 (by simp) z
 have M3:∀(a b c:Nat) (z:Int),sg [a,b,c] z∈[a,b,c]:=fun a b c z=>Qb7 (by simp) z
 have M4:∀(a b c e:Nat) (z:Int),sg [a,b,c,e] z∈[a,b,c,e]:=fun a b c e z=>Qb7 (by simp) z
 rcases (show x / 2 % 9=2\/x / 2 % 9=3\/x / 2 % 9=4\/x / 2 % 9=5\/x / 2 % 9=6\/x / 2 % 9=7\/x / 2 % 9=8\/(x / 2 % 9≠2/\x / 2 % 9≠3/\x / 2 % 9≠4/\x / 2 % 9≠5/\x / 2 % 9≠6/\x / 2 % 9≠7/\x / 2 % 9≠8) by lia)with z|z|z|z|z|z|z|⟨z1,z2,z3,z4,z5,z6,z7⟩
 ·exact⟨[115],.bare (by simp),by simp [b33,yy,evs,evO,Ql,Qd,Qo,eq_int,Qi,opU,Qm,bb,slU,fin,Yk,JZ,z]⟩
 ·exact⟨[111],.bare (by simp),by simp [b33,yy,evs,evO,Ql,Qd,Qo,eq_int,Qi,opU,Qm,bb,slU,fin,Yk,JZ,z]⟩
 ·exact⟨_,.lean (M2 107 112 x) (M3 50 51 52 (x / 18)) (M2 114 108 (x / 18 / 3)),by simp [b33,yy,evs,evO,Ql,Qd,Qo,eq_int,Qi,opU,Qm,bb,slU,fin,Yk,JZ,z,q2,q3]⟩
 ·exact⟨_,.grow (M2 107 112 x) (M3 50 51 52 (x / 18)),by simp [b33,yy,evs,evO,Ql,Qd,Qo,eq_int,Qi,opU,Qm,bb,slU,fin,Yk,JZ,z,q2,q3]⟩
 ·exact⟨_,.cross (M2 99 113 x) (M4 49 50 51 52 (x / 18)) (M2 102 98 (x / 18 / 4)) (M4 49 50 51 52 (x / 18 / 8)),by simp [b33,yy,evs,evO,Ql,Qd,Qo,eq_int,Qi,opU,Qm,bb,slU,fin,Yk,JZ,z,q2,q4]⟩
 ·exact⟨[98],.bare (by simp),by simp [b33,yy,evs,evO,Ql,Qd,Qo,eq_int,Qi,opU,Qm,bb,slU,fin,Yk,JZ,z]⟩
 ·exact⟨_,.keep (M2 104 102 x) (M4 119 120 121 122 (x / 18)),by simp [b33,yy,evs,evO,Ql,Qd,Qo,eq_int,Qi,opU,Qm,bb,slU,fin,Yk,JZ,z,q2,q4]⟩
 ·refine⟨_,.bare (a:=sg [107,112] x) ?_,by simp [b33,yy,evs,evO,Ql,Qd,Qo,eq_int,Qi,opU,Qm,bb,slU,fin,Yk,JZ,z1,z2,z3,z4,z5,z6,z7,q2]⟩
  have:=M2 107 112 x;simp only [List.mem_cons,List.not_mem_nil,or_false]at this ⊢;lia
theorem Qe8{T:Tbl}{cf:Cf}{d f:Nat}{o e:E}{ρ:Rho}{hs:Hs}:ex T cf (d+1) (.fld o f e) ρ hs=bd (ev T cf d e ρ hs) fun u h1=>bd (ev T cf d o ρ h1) fun x h2=>match x with
   | .ref n=>match h2[n]? with
    | some (.ins c fs)=>if fs.length<500 then some (.next,ρ,h2.set n (.ins c (Qbp f u fs)))else none
    | _=>none
   | _=>none:=rfl
theorem Qew{T:Tbl}{cf:Cf}{d f:Nat}{a:E}{ρ:Rho}{hs:Hs}:ev T cf (d+1) (.fld a f) ρ hs=bd (ev T cf d a ρ hs) fun u h1=>match u with
   | .ref n=>match h1[n]? with
    | some (.ins _ fs)=>(fs.lookup f).map fun x=>(x,h1)
    | _=>none
   | _=>none:=rfl
theorem Qbg{b:E}:ev T cf (d+1) (.tab k b) ρ hs=bd (ev T cf d b ρ hs) fun w h1=>(Qdr T k w).map fun x=>(x,h1):=rfl
theorem QbO{es:List E}:ev T cf (d+1) (.make c es) ρ hs=bd (evs (ev T cf d) ρ es hs) fun us h1=>Zo T cf c us h1:=rfl
noncomputable def St(s:List U)(o:O)(m:List Nat):Prop:=∃c fs,o=.ins c fs/\1<=c/\c<=9/\∃f,(∀p hs,hs[p]?=some o->JG (tb s) 4 (.ref p) hs=some f)/\∀n p hs,hs[p]?=some o->Qa (tb s) (n+1) f [.ref p] hs=some (.str m,hs)
noncomputable def sd(a:Nat):Int:=if a=107\/a=99 then 1 else -1
section

theorem tS(h:a∈[107,112]):Qdr (tb s) 4 (.str [a])=some (.int (sd a) 0)/\Qdr (tb s) 2 (.int (sd a) 0)=some (.str [a])/\Qo (tb s) .In (.str [a]) (.con 4) hs=some true/\Qo (tb s) .NotIn (.str [a]) (.con 4) hs=some false:=by
 simp only [List.mem_cons,List.not_mem_nil,or_false]at h
 rcases h with rfl|rfl<;>exact⟨rfl,rfl,rfl,rfl⟩
theorem tC(h:a∈[99,113]):Qdr (tb s) 5 (.str [a])=some (.int (sd a) 0)/\Qdr (tb s) 3 (.int (sd a) 0)=some (.str [a])/\Qo (tb s) .In (.str [a]) (.con 5) hs=some true:=by
 simp only [List.mem_cons,List.not_mem_nil,or_false]at h
 rcases h with rfl|rfl<;>exact⟨rfl,rfl,rfl⟩
theorem tM(h:b∈[50,51,52]):Qdr (tb s) 8 (.str [b])=some (.int ((b:Int) - 48) 0)/\Qo (tb s) .In (.str [b]) (.con 8) hs=some true/\biU (tb s) .str [.int ((b:Int) - 48) 0] hs=some (.str [b],hs)/\b≠120:=by
 simp only [List.mem_cons,List.not_mem_nil,or_false]at h
 rcases h with rfl|rfl|rfl<;>exact⟨rfl,rfl,rfl,by decide⟩
theorem tX(h:b∈[49,50,51,52]):Qdr (tb s) 9 (.str [b])=some (.int ((b:Int) - 48) 0)/\Qo (tb s) .In (.str [b]) (.con 9) hs=some true/\biU (tb s) .str [.int ((b:Int) - 48) 0] hs=some (.str [b],hs):=by
 simp only [List.mem_cons,List.not_mem_nil,or_false]at h
 rcases h with rfl|rfl|rfl|rfl<;>exact⟨rfl,rfl,rfl⟩
theorem tK(h:b∈[119,120,121,122]):Qo (tb s) .NotIn (.str [b]) (.con 1) hs=some false:=by
 simp only [List.mem_cons,List.not_mem_nil,or_false]at h
 rcases h with rfl|rfl|rfl|rfl<;>rfl
theorem tL(h:b∈[114,108]):Qo (tb s) .In (.str [b]) (.con 6) hs=some true:=by
 simp only [List.mem_cons,List.not_mem_nil,or_false]at h
 rcases h with rfl|rfl<;>rfl
theorem tF(h:b∈[102,98]):Qo (tb s) .In (.str [b]) (.con 7) hs=some true:=by
 simp only [List.mem_cons,List.not_mem_nil,or_false]at h
 rcases h with rfl|rfl<;>rfl
theorem Qao{f:Nat}{fs:List (Nat×U)}(h:∃C,(tb s).cls[c]?=some C/\C.meths.lookup 4=some f):∀p hs,hs[p]?=some (.ins c fs)->JG (tb s) 4 (.ref p) hs=some f:=fun p hs e=>by
 obtain⟨C,h1,h2⟩:=h;unfold JG;simp only [e,h1,h2]
theorem Qgq:Qa (tb s) (n+1) 9 [.ref hs.length,u] (hs++[.ins 1 []])=some (.non,hs++[.ins 1 [(0,u)]]):=by
 rw [Qe fnL[9] rfl rfl];show fin (exs (tb s) (Qa (tb s) n) 100 b9 [some (.ref hs.length),some u] (hs++[.ins 1 []]))=_;generalize Qa (tb s) n=cf;generalize tb s=T;simp [b9,yy,evs,evO,Ql,Qd,Qo,eq_int,Qi,Qk,opU,Qm,bb,slU,fin,Qe8,at0,QdB,Qbp]
theorem QiW:Qa (tb s) (n+1) 20 [.ref hs.length,u] (hs++[.ins 8 []])=some (.non,hs++[.ins 8 [(5,u)]]):=by
 rw [Qe fnL[20] rfl rfl];show fin (exs (tb s) (Qa (tb s) n) 100 b20 [some (.ref hs.length),some u] (hs++[.ins 8 []]))=_;generalize Qa (tb s) n=cf;generalize tb s=T;simp [b20,yy,evs,evO,Ql,Qd,Qo,eq_int,Qi,Qk,opU,Qm,bb,slU,fin,Qe8,at0,QdB,Qbp]
theorem Qgr:Qa (tb s) (n+1) 22 [.ref hs.length,u] (hs++[.ins 9 []])=some (.non,hs++[.ins 9 [(5,u)]]):=by
 rw [Qe fnL[22] rfl rfl];show fin (exs (tb s) (Qa (tb s) n) 100 b22 [some (.ref hs.length),some u] (hs++[.ins 9 []]))=_;generalize Qa (tb s) n=cf;generalize tb s=T;simp [b22,yy,evs,evO,Ql,Qd,Qo,eq_int,Qi,Qk,opU,Qm,bb,slU,fin,Qe8,at0,QdB,Qbp]
theorem QiX:Qa (tb s) (n+1) 15 [.ref hs.length,u,w] (hs++[.ins 5 []])=some (.non,hs++[.ins 5 [(1,u),(0,w)]]):=by
 rw [Qe fnL[15] rfl rfl];show fin (exs (tb s) (Qa (tb s) n) 100 b15 [some (.ref hs.length),some u,some w] (hs++[.ins 5 []]))=_;generalize Qa (tb s) n=cf;generalize tb s=T;simp [b15,yy,evs,evO,Ql,Qd,Qo,eq_int,Qi,Qk,opU,Qm,bb,slU,fin,Qe8,at0,QdB,Qbp]
theorem QiV{x:U}:Qa (tb s) (n+1) 13 [.ref hs.length,u,w,x] (hs++[.ins 4 []])=some (.non,hs++[.ins 4 [(1,u),(2,w),(0,x)]]):=by
 rw [Qe fnL[13] rfl rfl];show fin (exs (tb s) (Qa (tb s) n) 100 b13 [some (.ref hs.length),some u,some w,some x] (hs++[.ins 4 []]))=_;generalize Qa (tb s) n=cf;generalize tb s=T;simp [b13,yy,evs,evO,Ql,Qd,Qo,eq_int,Qi,Qk,opU,Qm,bb,slU,fin,Qe8,at0,QdB,Qbp]
theorem Qgs{x y:U}:Qa (tb s) (n+1) 17 [.ref hs.length,u,w,x,y] (hs++[.ins 6 []])=some (.non,hs++[.ins 6 [(3,u),(4,w),(2,x),(0,y)]]):=by
 rw [Qe fnL[17] rfl rfl];show fin (exs (tb s) (Qa (tb s) n) 100 b17 [some (.ref hs.length),some u,some w,some x,some y] (hs++[.ins 6 []]))=_;generalize Qa (tb s) n=cf;generalize tb s=T;simp [b17,yy,evs,evO,Ql,Qd,Qo,eq_int,Qi,Qk,opU,Qm,bb,slU,fin,Qe8,at0,QdB,Qbp]
end
section

theorem QdY:Zo (tb s) (Qa (tb s) (n+1)) 1 [u] hs=some (.ref hs.length,hs++[.ins 1 [(0,u)]]):=by
 show(match Qa (tb s) (n+1) 9 (.ref hs.length::[u]) (hs++[.ins 1 []])with|some (.non,h2)=>some (U.ref hs.length,h2)|_=>none)=_
 rw [Qgq]
theorem Qgc:Zo (tb s) (Qa (tb s) (n+1)) 8 [u] hs=some (.ref hs.length,hs++[.ins 8 [(5,u)]]):=by
 show(match Qa (tb s) (n+1) 20 (.ref hs.length::[u]) (hs++[.ins 8 []])with|some (.non,h2)=>some (U.ref hs.length,h2)|_=>none)=_
 rw [QiW]
theorem QdZ:Zo (tb s) (Qa (tb s) (n+1)) 9 [u] hs=some (.ref hs.length,hs++[.ins 9 [(5,u)]]):=by
 show(match Qa (tb s) (n+1) 22 (.ref hs.length::[u]) (hs++[.ins 9 []])with|some (.non,h2)=>some (U.ref hs.length,h2)|_=>none)=_
 rw [Qgr]
theorem Qgd:Zo (tb s) (Qa (tb s) (n+1)) 5 [u,w] hs=some (.ref hs.length,hs++[.ins 5 [(1,u),(0,w)]]):=by
 show(match Qa (tb s) (n+1) 15 (.ref hs.length::[u,w]) (hs++[.ins 5 []])with|some (.non,h2)=>some (U.ref hs.length,h2)|_=>none)=_
 rw [QiX]
theorem Qgb{x:U}:Zo (tb s) (Qa (tb s) (n+1)) 4 [u,w,x] hs=some (.ref hs.length,hs++[.ins 4 [(1,u),(2,w),(0,x)]]):=by
 show(match Qa (tb s) (n+1) 13 (.ref hs.length::[u,w,x]) (hs++[.ins 4 []])with|some (.non,h2)=>some (U.ref hs.length,h2)|_=>none)=_
 rw [QiV]
theorem Qd0{x y:U}:Zo (tb s) (Qa (tb s) (n+1)) 6 [u,w,x,y] hs=some (.ref hs.length,hs++[.ins 6 [(3,u),(4,w),(2,x),(0,y)]]):=by
 show(match Qa (tb s) (n+1) 17 (.ref hs.length::[u,w,x,y]) (hs++[.ins 6 []])with|some (.non,h2)=>some (U.ref hs.length,h2)|_=>none)=_
 rw [Qgs]
theorem Qal{C:Cl}(h:(tb s).cls[c]?=some C)(h':C.init=none):Zo (tb s) cf c [] hs=some (.ref hs.length,hs++[.ins c []]):=by
 unfold Zo;simp only [h,h',if_true]
theorem eqs:Qo T .Eq (.str x) (.str y) hs=some (decide (x=y)):=rfl
theorem eqi{x y:Int}:Qo T .Eq (.int x 0) (.int y 0) hs=some (decide (x=y)):=rfl
theorem Qdu(h:a∈[107,112]):St s (.ins 1 [(0,.int (sd a) 0)]) [a]:=by
 refine⟨1,_,rfl,by decide,by decide,10,Qao ⟨_,rfl,rfl⟩,fun n p hs e=>?_⟩
 have t:=(tS (s:=s) (hs:=hs) h).2.1;rw [Qe fnL[10] rfl rfl];show fin (exs (tb s) (Qa (tb s) n) 100 b10 [some (.ref p)] hs)=_;generalize Qa (tb s) n=cf;generalize tb s=T at t ⊢;simp [b10,yy,evs,evO,Ql,Qd,Qo,eq_int,Qi,Qk,opU,Qm,bb,slU,fin,Qew,Qbg,e,t]
theorem Qb4{f:Nat}(hc:1<=c/\c<=9)(hm:∃C,(tb s).cls[c]?=some C/\C.meths.lookup 4=some f)(hf:∀n p hs,Qa (tb s) (n+1) f [.ref p] hs=some (.str x,hs)):St s (.ins c []) x:=⟨c,[],rfl,hc.1,hc.2,f,Qao hm,fun n p hs _=>hf n p hs⟩
theorem Qfs:St s (.ins 8 [(5,.str [b])]) [104,b]:=by
 refine⟨8,_,rfl,by decide,by decide,21,Qao ⟨_,rfl,rfl⟩,fun n p hs e=>?_⟩
 rw [Qe fnL[21] rfl rfl];show fin (exs (tb s) (Qa (tb s) n) 100 b21 [some (.ref p)] hs)=_;generalize Qa (tb s) n=cf;generalize tb s=T;simp [b21,yy,evs,evO,Ql,Qd,Qo,eq_int,Qi,Qk,opU,Qm,bb,slU,fin,Qew,Qbg,e]
theorem Qdv:St s (.ins 9 [(5,.str [b])]) [102,b]:=by
 refine⟨9,_,rfl,by decide,by decide,23,Qao ⟨_,rfl,rfl⟩,fun n p hs e=>?_⟩
 rw [Qe fnL[23] rfl rfl];show fin (exs (tb s) (Qa (tb s) n) 100 b23 [some (.ref p)] hs)=_;generalize Qa (tb s) n=cf;generalize tb s=T;simp [b23,yy,evs,evO,Ql,Qd,Qo,eq_int,Qi,Qk,opU,Qm,bb,slU,fin,Qew,Qbg,e]
theorem Qft(h:a∈[107,112])(hb:b∈[50,51,52]):St s (.ins 5 [(1,.int ((b:Int) - 48) 0),(0,.int (sd a) 0)]) [a,120,b]:=by
 refine⟨5,_,rfl,by decide,by decide,16,Qao ⟨_,rfl,rfl⟩,fun n p hs e=>?_⟩
 have t:=(tS (s:=s) (hs:=hs) h).2.1;have t':=(tM (s:=s) (hs:=hs) hb).2.2.1;rw [Qe fnL[16] rfl rfl];show fin (exs (tb s) (Qa (tb s) n) 100 b16 [some (.ref p)] hs)=_;generalize Qa (tb s) n=cf;generalize tb s=T at t t' ⊢;simp [b16,yy,evs,evO,Ql,Qd,Qo,eq_int,Qi,Qk,opU,Qm,slU,fin,Qew,Qbg,List.lookup,e,t,t']
theorem Qfr(h:a∈[107,112])(hb:b∈[50,51,52]):St s (.ins 4 [(1,.int ((b:Int) - 48) 0),(2,.str [c]),(0,.int (sd a) 0)]) [a,b,c]:=by
 refine⟨4,_,rfl,by decide,by decide,14,Qao ⟨_,rfl,rfl⟩,fun n p hs e=>?_⟩
 have t:=(tS (s:=s) (hs:=hs) h).2.1;have t':=(tM (s:=s) (hs:=hs) hb).2.2.1;rw [Qe fnL[14] rfl rfl];show fin (exs (tb s) (Qa (tb s) n) 100 b14 [some (.ref p)] hs)=_;generalize Qa (tb s) n=cf;generalize tb s=T at t t' ⊢;simp [b14,yy,evs,evO,Ql,Qd,Qo,eq_int,Qi,Qk,opU,Qm,slU,fin,Qew,Qbg,List.lookup,e,t,t']
theorem Qdw{e':Nat}(h:a∈[99,113])(hb:b∈[49,50,51,52])(he:e'∈[49,50,51,52]):St s (.ins 6 [(3,.int ((b:Int) - 48) 0),(4,.int ((e':Int) - 48) 0),(2,.str [c]),(0,.int (sd a) 0)]) [a,b,c,e']:=by
 refine⟨6,_,rfl,by decide,by decide,18,Qao ⟨_,rfl,rfl⟩,fun n p hs e=>?_⟩
 have t:=(tC (s:=s) (hs:=hs) h).2.1;have t':=(tX (s:=s) (hs:=hs) hb).2.2;have t2:=(tX (s:=s) (hs:=hs) he).2.2;rw [Qe fnL[18] rfl rfl];show fin (exs (tb s) (Qa (tb s) n) 100 b18 [some (.ref p)] hs)=_;generalize Qa (tb s) n=cf;generalize tb s=T at t t' t2 ⊢;simp [b18,yy,evs,evO,Ql,Qd,Qo,eq_int,Qi,Qk,opU,Qm,slU,fin,Qew,Qbg,List.lookup,e,t,t',t2]
end
section

theorem QnK(h:a∈[107,112,115,111,98]):∃o,St s o [a]/\Qa (tb s) (n+2) 26 [.str [a]] hs=some (.ref hs.length,hs++[o]):=by
 rw [Qe fnL[26] rfl rfl];show ∃o,_/\fin (exs (tb s) (Qa (tb s) (n+1)) 100 b26 [some (.str [a])] hs)=_
 have h':a∈[107,112]\/a=115\/a=111\/a=98:=by simp only [List.mem_cons,List.not_mem_nil,or_false]at h ⊢;lia
 rcases h' with h|rfl|rfl|rfl
 ·obtain⟨t1,_,t3,_⟩:=tS (s:=s) (hs:=hs) h;have mk:=QdY (s:=s) (hs:=hs) (n:=n) (u:=.int (sd a) 0);refine⟨_,Qdu h,?_⟩;generalize Qa (tb s) (n+1)=cf at mk ⊢;generalize tb s=T at t1 t3 mk ⊢;simp [b26,yy,evs,evO,Ql,Qd,eq_int,Qi,Qk,opU,Qm,bb,slU,fin,Qbg,QbO,t1,t3,mk]
 ·have i1:Qo (tb s) .In (.str [115]) (.con 4) hs=some false:=rfl;have mk:=Qal (s:=s) (hs:=hs) (c:=2) (cf:=Qa (tb s) (n+1)) rfl rfl
  refine⟨_,Qb4 (c:=2) (f:=11) (by decide) ⟨_,rfl,rfl⟩ (fun n p hs=>by rw [Qe fnL[11] rfl rfl];rfl),?_⟩
  generalize Qa (tb s) (n+1)=cf at mk ⊢;generalize tb s=T at i1 mk ⊢;simp [b26,yy,evs,evO,Ql,Qd,eq_int,Qi,Qk,opU,Qm,bb,slU,fin,eqs,Qbg,QbO,i1,mk]
 ·have i1:Qo (tb s) .In (.str [111]) (.con 4) hs=some false:=rfl;have mk:=Qal (s:=s) (hs:=hs) (c:=3) (cf:=Qa (tb s) (n+1)) rfl rfl
  refine⟨_,Qb4 (c:=3) (f:=12) (by decide) ⟨_,rfl,rfl⟩ (fun n p hs=>by rw [Qe fnL[12] rfl rfl];rfl),?_⟩
  generalize Qa (tb s) (n+1)=cf at mk ⊢;generalize tb s=T at i1 mk ⊢;simp [b26,yy,evs,evO,Ql,Qd,eq_int,Qi,Qk,opU,Qm,bb,slU,fin,eqs,Qbg,QbO,i1,mk]
 ·have i1:Qo (tb s) .In (.str [98]) (.con 4) hs=some false:=rfl;have mk:=Qal (s:=s) (hs:=hs) (c:=7) (cf:=Qa (tb s) (n+1)) rfl rfl
  refine⟨_,Qb4 (c:=7) (f:=19) (by decide) ⟨_,rfl,rfl⟩ (fun n p hs=>by rw [Qe fnL[19] rfl rfl];rfl),?_⟩
  generalize Qa (tb s) (n+1)=cf at mk ⊢;generalize tb s=T at i1 mk ⊢;simp [b26,yy,evs,evO,Ql,Qd,eq_int,Qi,Qk,opU,Qm,bb,slU,fin,eqs,Qbg,QbO,i1,mk]
theorem QnJ(h:a∈[104,102])(hb:b∈[119,120,121,122]):∃o,St s o [a,b]/\Qa (tb s) (n+2) 27 [.str [a],.str [b]] hs=some (.ref hs.length,hs++[o]):=by
 rw [Qe fnL[27] rfl rfl];show ∃o,_/\fin (exs (tb s) (Qa (tb s) (n+1)) 100 b27 [some (.str [a]),some (.str [b])] hs)=_;have t:=tK (s:=s) (hs:=hs) hb;simp only [List.mem_cons,List.not_mem_nil,or_false]at h
 rcases h with rfl|rfl
 ·have mk:=Qgc (s:=s) (hs:=hs) (n:=n) (u:=.str [b]);refine⟨_,Qfs,?_⟩;generalize Qa (tb s) (n+1)=cf at mk ⊢;generalize tb s=T at t mk ⊢;simp [b27,yy,evs,evO,Ql,Qd,eq_int,Qi,Qk,opU,Qm,bb,slU,fin,eqs,QbO,t,mk]
 ·have mk:=QdZ (s:=s) (hs:=hs) (n:=n) (u:=.str [b]);refine⟨_,Qdv,?_⟩;generalize Qa (tb s) (n+1)=cf at mk ⊢;generalize tb s=T at t mk ⊢;simp [b27,yy,evs,evO,Ql,Qd,eq_int,Qi,Qk,opU,Qm,bb,slU,fin,eqs,QbO,t,mk]
theorem Qll(h:a∈[107,112])(hb:b∈[50,51,52]):∃o,St s o [a,120,b]/\Qa (tb s) (n+2) 28 [.str [a],.str [120],.str [b]] hs=some (.ref hs.length,hs++[o]):=by
 rw [Qe fnL[28] rfl rfl];show ∃o,_/\fin (exs (tb s) (Qa (tb s) (n+1)) 100 b28 [some (.str [a]),some (.str [120]),some (.str [b])] hs)=_;obtain⟨t1,_,_,t2⟩:=tS (s:=s) (hs:=hs) h;obtain⟨t3,t4,_,_⟩:=tM (s:=s) (hs:=hs) hb;have mk:=Qgd (s:=s) (hs:=hs) (n:=n) (u:=.int ((b:Int) - 48) 0) (w:=.int (sd a) 0);refine⟨_,Qft h hb,?_⟩;generalize Qa (tb s) (n+1)=cf at mk ⊢;generalize tb s=T at t1 t2 t3 t4 mk ⊢;simp [b28,yy,evs,evO,Ql,Qd,eq_int,Qi,Qk,opU,Qm,bb,slU,fin,eqs,QbO,Qbg,t1,t2,t3,t4,mk]
theorem Qlk(h:a∈[107,112])(hb:b∈[50,51,52])(hc:c∈[114,108]):∃o,St s o [a,b,c]/\Qa (tb s) (n+2) 28 [.str [a],.str [b],.str [c]] hs=some (.ref hs.length,hs++[o]):=by
 rw [Qe fnL[28] rfl rfl];show ∃o,_/\fin (exs (tb s) (Qa (tb s) (n+1)) 100 b28 [some (.str [a]),some (.str [b]),some (.str [c])] hs)=_;obtain⟨t1,_,_,t2⟩:=tS (s:=s) (hs:=hs) h;obtain⟨t3,t4,_,t5⟩:=tM (s:=s) (hs:=hs) hb;have t6:=tL (s:=s) (hs:=hs) hc;have mk:=Qgb (s:=s) (hs:=hs) (n:=n) (u:=.int ((b:Int) - 48) 0) (w:=.str [c]) (x:=.int (sd a) 0);refine⟨_,Qfr h hb,?_⟩;generalize Qa (tb s) (n+1)=cf at mk ⊢;generalize tb s=T at t1 t2 t3 t4 t6 mk ⊢;simp [b28,yy,evs,evO,Ql,Qd,eq_int,Qi,Qk,opU,Qm,bb,slU,fin,eqs,QbO,Qbg,t1,t2,t3,t4,t5,t6,mk]
theorem QnI{e:Nat}(h:a∈[99,113])(hb:b∈[49,50,51,52])(hc:c∈[102,98])(he:e∈[49,50,51,52]):∃o,St s o [a,b,c,e]/\Qa (tb s) (n+2) 29 [.str [a],.str [b],.str [c],.str [e]] hs=some (.ref hs.length,hs++[o]):=by
 rw [Qe fnL[29] rfl rfl];show ∃o,_/\fin (exs (tb s) (Qa (tb s) (n+1)) 100 b29 [some (.str [a]),some (.str [b]),some (.str [c]),some (.str [e])] hs)=_;obtain⟨t1,_,t2⟩:=tC (s:=s) (hs:=hs) h;obtain⟨t3,t4,_⟩:=tX (s:=s) (hs:=hs) hb;obtain⟨t5,t6,_⟩:=tX (s:=s) (hs:=hs) he;have t7:=tF (s:=s) (hs:=hs) hc;have mk:=Qd0 (s:=s) (hs:=hs) (n:=n) (u:=.int ((b:Int) - 48) 0) (w:=.int ((e:Int) - 48) 0) (x:=.str [c]) (y:=.int (sd a) 0);refine⟨_,Qdw h hb he,?_⟩;generalize Qa (tb s) (n+1)=cf at mk ⊢;generalize tb s=T at t1 t2 t3 t4 t5 t6 t7 mk ⊢;simp [b29,yy,evs,evO,Ql,Qd,eq_int,Qi,Qk,opU,Qm,bb,slU,fin,eqs,QbO,Qbg,t1,t2,t3,t4,t5,t6,t7,mk]
theorem QnL(h:Mk m):∃o,St s o m/\Qa (tb s) (n+3) 25 [.str m] hs=some (.ref hs.length,hs++[o]):=by
 rw [Qe fnL[25] rfl rfl];show ∃o,_/\fin (exs (tb s) (Qa (tb s) (n+2)) 100 b25 [some (.str m),none] hs)=_
 cases h with
 | bare h =>
  obtain⟨o,h1,e⟩:=QnK (s:=s) (n:=n) (hs:=hs) h;refine⟨o,h1,?_⟩;generalize Qa (tb s) (n+2)=cf at e ⊢;generalize tb s=T;simp [b25,yy,evs,evO,Ql,Qd,Qo,eq_int,Qi,Qk,opU,Qm,bb,slU,fin,Q8,e]
 | keep h hb =>
  obtain⟨o,h1,e⟩:=QnJ (s:=s) (n:=n) (hs:=hs) h hb;refine⟨o,h1,?_⟩;generalize Qa (tb s) (n+2)=cf at e ⊢;generalize tb s=T;simp [b25,yy,evs,evO,Ql,Qd,Qo,eq_int,Qi,Qk,opU,Qm,bb,slU,fin,Q8,atU,ixU,e]
 | grow h hb =>
  obtain⟨o,h1,e⟩:=Qll (s:=s) (n:=n) (hs:=hs) h hb;refine⟨o,h1,?_⟩;generalize Qa (tb s) (n+2)=cf at e ⊢;generalize tb s=T;simp [b25,yy,evs,evO,Ql,Qd,Qo,eq_int,Qi,Qk,opU,Qm,bb,slU,fin,Q8,atU,ixU,e]
 | lean h hb hc =>
  obtain⟨o,h1,e⟩:=Qlk (s:=s) (n:=n) (hs:=hs) h hb hc;refine⟨o,h1,?_⟩;generalize Qa (tb s) (n+2)=cf at e ⊢;generalize tb s=T;simp [b25,yy,evs,evO,Ql,Qd,Qo,eq_int,Qi,Qk,opU,Qm,bb,slU,fin,Q8,atU,ixU,e]
 | cross h hb hc he =>
  obtain⟨o,h1,e⟩:=QnI (s:=s) (n:=n) (hs:=hs) h hb hc he;refine⟨o,h1,?_⟩;generalize Qa (tb s) (n+2)=cf at e ⊢;generalize tb s=T;simp [b25,yy,evs,evO,Ql,Qd,Qo,eq_int,Qi,Qk,opU,Qm,bb,slU,fin,Q8,atU,ixU,e]
theorem Jo(h:Mk m):∃o,St s o m/\Qa (tb s) (n+4) 24 [.str m] hs=some (.ref hs.length,hs++[o]):=by
 rw [Qe fnL[24] rfl rfl];show ∃o,_/\fin (exs (tb s) (Qa (tb s) (n+3)) 100 b24 [some (.str m),none] hs)=_;obtain⟨o,h1,e⟩:=QnL (s:=s) (n:=n) (hs:=hs) h;refine⟨o,h1,?_⟩;have is:YN (tb s) .str (.str m) hs=some true:=rfl;have nn:Qo (tb s) .Is (.ref hs.length) .non (hs++[o])=some false:=rfl;generalize Qa (tb s) (n+3)=cf at e ⊢;generalize tb s=T at is nn ⊢;simp [b24,yy,evs,evO,Ql,Qd,eq_int,Qi,Qk,opU,Qm,bb,slU,fin,is,e,nn]
end
theorem QiH{T:Tbl}{w:Wk}{t:Tg}{body:Ex}(I:Nat->Rho->Hs->Prop){n:Nat}
  (st:∀i,i<n->∀ρ hs,I i ρ hs->∃x ρ' ρ2 h2,itm T w i hs=some (some x)/\tgt t x ρ hs=some ρ'/\body ρ' hs=some (.next,ρ2,h2)/\I (i+1) ρ2 h2)
  (en:∀ρ hs,I n ρ hs->itm T w n hs=some none):
  ∀(m i k:Nat) (ρ:Rho) (hs:Hs),n=i+m->m<k->I i ρ hs->∃ρ2 h2,JL T w t body k i ρ hs=some (.next,ρ2,h2)/\I n ρ2 h2
 | m,i,0,ρ,hs,e,l,h=>by lia
 | 0,i,k+1,ρ,hs,e,l,h=>by
  have e':n=i:=by lia
  subst e'
  exact⟨ρ,hs,by simp only [JL,en ρ hs h],h⟩
 | m+1,i,k+1,ρ,hs,e,l,h=>by
  obtain⟨x,ρ',ρ1,h1,a,b,c,d⟩:=st i (by lia) ρ hs h
  obtain⟨ρ2,h2,g1,g2⟩:=QiH I st en m (i+1) k ρ1 h1 (by lia) (by lia) d
  exact⟨ρ2,h2,by simp only [JL,a,b,c,g1],g2⟩
theorem Qja{T:Tbl}{f:Ev}{ft:Rho->Hs->Option (Bool×Hs)}{w:Wk}{el:E}{ρ:Rho}(I:Nat->List U->Hs->Prop){n:Nat}
  (st:∀i,i<n->∀acc hs,I i acc hs->acc.length<1000000/\∃x u h2,itm T w i hs=some (some (.one x))/\ft ((ρ++[none]).set ρ.length (some x)) hs=some (true,hs)/\f el ((ρ++[none]).set ρ.length (some x)) hs=some (u,h2)/\I (i+1) (acc++[u]) h2)
  (en:∀acc hs,I n acc hs->itm T w n hs=some none):
  ∀(m i k:Nat) (acc:List U) (hs:Hs),n=i+m->m<k->I i acc hs->∃us h2,Zt T f ft w false el ρ k i acc hs=some (us,h2)/\I n us h2
 | m,i,0,acc,hs,e,l,h=>by lia
 | 0,i,k+1,acc,hs,e,l,h=>by
  have e':n=i:=by lia
  subst e'
  exact⟨acc,hs,by simp only [Zt,en acc hs h],h⟩
 | m+1,i,k+1,acc,hs,e,l,h=>by
  obtain⟨la,x,u,h1,a,b,c,d⟩:=st i (by lia) acc hs h
  obtain⟨us,h2,g1,g2⟩:=Qja I st en m (i+1) k _ h1 (by lia) (by lia) d
  refine⟨us,h2,?_,g2⟩;rw [Zt];simp only [a,tgt,tgN,Qdi,Bool.false_eq_true,if_false,la,if_true,b,QV,c,g1]
noncomputable abbrev Gt:=Nat->Option O
noncomputable def Ge(g g':Gt):Prop:=∀p o,g p=some o->g' p=some o
noncomputable abbrev Hg(hs:Hs):Gt:=fun p=>hs[p]?
noncomputable def Kp(hs hs':Hs):Prop:=Ge (Hg hs) (Hg hs')
theorem Qx{r:Hs}(h:hs[p]?=some o):(hs++r)[p]?=some o:=by
 rw [List.getElem?_append_left (List.getElem?_eq_some_iff.mp h).1];exact h
theorem Kp.refl(hs:Hs):Kp hs hs:=fun _ _ h=>h
theorem Kp.app(hs r:Hs):Kp hs (hs++r):=fun _ _ h=>Qx h
theorem Kp.trans{a b c:Hs}(h:Kp a b)(h':Kp b c):Kp a c:=fun p o e=>h' p o (h p o e)
theorem Kp.put{a b:Hs}{j:Nat}(h:Kp a b)(hj:a.length<=j):Kp a (b.set j o):=fun p x e=>by
 have lt:=(List.getElem?_eq_some_iff.mp e).1;show(b.set j o)[p]?=_
 rw [List.getElem?_set_ne (by lia)]
 exact h p x e
noncomputable def Q7:List Nat:=[111,110,101]
noncomputable def YL:List Nat:=[116,105,109,101,115]
noncomputable def tmT(ts:List (List Nat))(t:List Nat):List Nat:=[91]++Qj [44,32] ts++[93,32]++t
noncomputable def cst(ts:List (List Nat)):Nat:=(ts.map fun t=>t.length+2).sum
noncomputable def LP(g:Gt):Nat->U->List Nat->Prop
 | 0,_,_=>False
 | d+1,u,t=>(∃p m,u=.ref p/\g p=some (.tup [.str Q7,.str m])/\Mk m/\t=m)\/∃p q l us ts n0 n1 n2 n3 n4,u=.ref p/\g p=some (.tup [.str YL,.ref q,.ref l])/\g q=some (.tup (nums n0 n1 n2 n3 n4))/\Oks n0 n1 n2 n3 n4/\g l=some (.lst us)/\PySem.Paired (LP g d) us ts/\t=tmT ts (txt n0 n1 n2 n3 n4)
theorem Qb{α β:Type}{P Q:α->β->Prop}(h:∀a b,P a b->Q a b):∀{l:List α} {r:List β},PySem.Paired P l r->PySem.Paired Q l r
 | _,_,.nil=>.nil
 | _,_,.cons a t=>.cons (h _ _ a) (Qb h t)
theorem QJ{α β:Type}{P:α->β->Prop}:∀{l:List α} {r:List β},PySem.Paired P l r->l.length=r.length
 | _,_,.nil=>rfl
 | _,_,.cons _ t=>congrArg (· + 1) (QJ t)
theorem LP.mono{g g':Gt}(h:Ge g g'):∀{d:Nat} {u:U} {t:List Nat},LP g d u t->LP g' d u t
 | 0,_,_,z=>z
 | d+1,u,t,z=>by
  rcases z with⟨p,m,e1,e2,e3,e4⟩|⟨p,q,l,us,ts,n0,n1,n2,n3,n4,e1,e2,e3,e4,e5,e6,e7⟩
  ·exact .inl ⟨p,m,e1,h _ _ e2,e3,e4⟩
  ·exact .inr ⟨p,q,l,us,ts,n0,n1,n2,n3,n4,e1,h _ _ e2,h _ _ e3,e4,h _ _ e5,Qb (fun _ _ z=>LP.mono h z) e6,e7⟩
theorem QQ:ts.length<=cst ts:=by
 induction ts with
 | nil=>exact Nat.le_refl _
 | cons t r ih=>simp only [cst,List.map_cons,List.sum_cons,List.length_cons]at ih ⊢;lia
theorem Qy:∀{ts:List (List Nat)},(Qj [44,32] ts).length<=cst ts/\cst ts<=(Qj [44,32] ts).length+2
 | []=>by simp [Qj,cst]
 | [x]=>by simp [Qj,cst]
 | x::y::r=>by
  have ih:=Qy (ts:=y::r);simp only [cst,Qj,List.map_cons,List.sum_cons,List.length_append,List.length_cons,List.length_nil]at ih ⊢;lia
theorem ZH{i:Nat}(h:ts[i]?=some t):t.length+2<=cst ts:=by
 induction ts generalizing i with
 | nil=>simp at h
 | cons x r ih =>
  simp only [cst,List.map_cons,List.sum_cons]
  cases i with
  | zero=>simp at h;subst h;lia
  | succ i =>
   have:=ih (by simpa using h)
   simp only [cst]at this;lia
theorem QX{l:List α}{i:Nat}{a:α}(h:l[i]?=some a):l.take (i+1)=l.take i++[a]:=by
 rw [List.take_add_one,h];rfl
theorem QZ(h:cst ts<=900000):ts.length*2+(ts.map List.length).sum<=1000000:=by
 have:∀l:List (List Nat),(l.map List.length).sum+l.length*2=cst l:=fun l=>by
  induction l with
  | nil=>rfl
  | cons a r ih=>simp only [cst,List.map_cons,List.sum_cons,List.length_cons]at ih ⊢;lia
 rw [Nat.add_comm,this];lia
theorem J1:(tmT ts t).length=(Qj [44,32] ts).length+t.length+3:=by simp [tmT];lia
theorem ZZ{j:Nat}{body:List S}(I:Nat->Rho->Hs->Prop)(hv:ρ[j]?=some (some (.ref p)))(hp:hs[p]?=some (.lst us))(kp:∀i ρ h,I i ρ h->h[p]?=some (.lst us))
  (st:∀i u,us[i]?=some u->∀ρ h,I i ρ h->∃ρ2 h2,exs T cf (d+1) body (ρ.set k (some u)) h=some (.next,ρ2,h2)/\I (i+1) ρ2 h2) (h0:I 0 ρ hs):
  ∃ρ2 h2,ex T cf (d+2) (.loop (.name k) (.seq (.var j)) body) ρ hs=some (.next,ρ2,h2)/\I us.length ρ2 h2:=by
 obtain⟨ρ2,h2,e2,i2⟩:=QiH (T:=T) (w:=.seqL (.ref p)) (t:=.name k) (body:=exs T cf (d+1) body) I (n:=us.length)
  (fun i hi ρ h z=>by
   obtain⟨ρ2,h2,e,z2⟩:=st i us[i] (List.getElem?_eq_getElem hi) ρ h z
   exact⟨.one us[i],_,ρ2,h2,by simp [itm,QM,kp _ _ _ z,hi],rfl,e,z2⟩)
  (fun ρ h z=>by simp [itm,QM,kp _ _ _ z]) us.length 0 (us.length+1) ρ hs (by lia) (by lia) h0
 refine⟨ρ2,h2,?_,i2⟩;rw [Qev]
 have sr:Ql T (ev T cf (d+1)) ρ (.seq (.var j)) hs=some (.seqL (.ref p),hs):=by simp only [Ql,QF,hv,QV,wkS,QM,hp,Option.map_some]
 have tn:Qd T (.seqL (.ref p)) hs=us.length+1:=by simp only [Qd,QM,hp,Option.getD_some]
 rw [sr,QV,tn];exact e2
theorem QbU{w:Wk}{e:E}(I:Nat->List U->Hs->Prop)(hv:ev T cf (d+1) e ρ h0=some (.ref p,hs))(hw:wkS T (.ref p) hs=some w)(ht:Qd T w hs=us.length+1)(hl:us.length<=1000000)(kp:∀i acc h,I i acc h->(∀j,itm T w j h=some ((us[j]?).map .one))/\acc.length<=i)
  (st:∀i u,us[i]?=some u->∀acc h,I i acc h->∃v h2,ev T cf (d+1) el (ρ++[some u]) h=some (v,h2)/\I (i+1) (acc++[v]) h2) (z0:I 0 [] hs):
  ∃vs h2,ev T cf (d+2) (.comp (.seq e) false none el) ρ h0=some (.ref h2.length,h2++[.lst vs])/\I us.length vs h2:=by
 have sx:∀x:U,(ρ++[none]).set ρ.length (some x)=ρ++[some x]:=fun x=>by
  rw [List.set_append_right _ _ (Nat.le_refl _),Nat.sub_self];rfl
 obtain⟨vs,h2,e2,i2⟩:=Qja (T:=T) (f:=ev T cf (d+1)) (ft:=JO (evT T cf (d+1)) none) (w:=w) (el:=el) (ρ:=ρ) I (n:=us.length)
  (fun i hi acc h z=>by
   obtain⟨v,h2,e,z2⟩:=st i us[i] (List.getElem?_eq_getElem hi) acc h z
   refine⟨by have:=(kp _ _ _ z).2;lia,us[i],v,h2,by rw [(kp _ _ _ z).1,List.getElem?_eq_getElem hi];rfl,rfl,?_,z2⟩
   rw [sx]
   exact e)
  (fun acc h z=>by rw [(kp _ _ _ z).1];simp) us.length 0 (us.length+1) [] hs (by lia) (by lia) z0
 refine⟨vs,h2,?_,i2⟩;rw [QbP];simp only [Ql,hv,QV,hw,Option.map_some,ht,e2]
theorem Y7{e:E}(I:Nat->List U->Hs->Prop)(hv:ev T cf (d+1) e ρ h0=some (.ref p,hs))(hp:hs[p]?=some (.lst us))(hl:us.length<=1000000)(kp:∀i acc h,I i acc h->h[p]?=some (.lst us)/\acc.length<=i)
  (st:∀i u,us[i]?=some u->∀acc h,I i acc h->∃v h2,ev T cf (d+1) el (ρ++[some u]) h=some (v,h2)/\I (i+1) (acc++[v]) h2) (z0:I 0 [] hs):
  ∃vs h2,ev T cf (d+2) (.comp (.seq e) false none el) ρ h0=some (.ref h2.length,h2++[.lst vs])/\I us.length vs h2 :=
 QbU I hv (w:=.seqL (.ref p)) (by simp only [wkS,QM,hp]) (by simp only [Qd,QM,hp,Option.getD_some]) hl (fun i acc h z=>⟨fun j=>by simp only [itm,QM,(kp i acc h z).1,Option.map_some],(kp i acc h z).2⟩) st z0
theorem Qff{e:E}(I:Nat->List U->Hs->Prop)(hv:ev T cf (d+1) e ρ h0=some (.ref p,hs))(hp:hs[p]?=some (.tup us))(hl:us.length<=1000000)(kp:∀i acc h,I i acc h->h[p]?=some (.tup us)/\acc.length<=i)
  (st:∀i u,us[i]?=some u->∀acc h,I i acc h->∃v h2,ev T cf (d+1) el (ρ++[some u]) h=some (v,h2)/\I (i+1) (acc++[v]) h2) (z0:I 0 [] hs):
  ∃vs h2,ev T cf (d+2) (.comp (.seq e) false none el) ρ h0=some (.ref h2.length,h2++[.lst vs])/\I us.length vs h2 :=
 QbU I hv (w:=.seqT (.ref p)) (by simp only [wkS,QM,ZK,hp]) (by simp only [Qd,ZK,hp,Option.getD_some]) hl (fun i acc h z=>⟨fun j=>by simp only [itm,ZK,(kp i acc h z).1,Option.map_some],(kp i acc h z).2⟩) st z0
theorem ZS{α β:Type}{P:α->β->Prop}:∀{l:List α} {r:List β},PySem.Paired P l r->∀{i:Nat} {a:α},l[i]?=some a->∃b,r[i]?=some b/\P a b
 | _,_,.nil,i,b,h=>by simp at h
 | _,_,.cons h t,0,b,e=>by
  simp only [List.getElem?_cons_zero,Option.some.injEq]at e ⊢;subst e;exact⟨_,rfl,h⟩
 | _,_,.cons h t,i+1,b,e=>by
  simp only [List.getElem?_cons_succ]at e ⊢;exact ZS t e
noncomputable def Qha:List S:=match b41 with
 | [_,.loop _ _ b,_]=>b
 | _=>[]
theorem Qe3:b41=[.set 1 (.lst []),.loop (.name 2) (.seq (.var 0)) Qha,.ret (.bm .join (.c (.str [44,32])) [.var 1])]:=rfl
theorem Qp{st:S}{r:List S}{ρ1:Rho}(h:ex T cf d st ρ h0=some (.next,ρ1,h1)):exs T cf (d+1) (st::r) ρ h0=exs T cf d r ρ1 h1:=by rw [QC,h]
section

theorem QkQ(hq:hs[q]?=some (.tup [.str Q7,.str m]))(ha:hs[a]?=some (.lst xs))(l:xs.length<1000000):
  exs (tb s) cf (d+20) Qha [some (.ref p),some (.ref a),some (.ref q)] hs=some (.next,[some (.ref p),some (.ref a),some (.ref q)],hs.set a (.lst (xs++[.str m]))):=by
 have e:Qha=[.ite (.cmp .Eq (.ix (.var 2) (.c (.int 0 0))) (.c (.str Q7))) [.expr (.bm .append (.var 1) [.ix (.var 2) (.c (.int 1 0))])] [.expr (.bm .append (.var 1) [.op .Add (.op .Add (.op .Add (.c (.str [91])) (.call 41 [.ix (.var 2) (.c (.int 2 0))])) (.c (.str [93,32]))) (.call 40 [.ix (.var 2) (.c (.int 1 0))])])]]:=rfl;rw [e];generalize tb s=T;simp [yy,evs,evO,Ql,Qd,eq_int,Qi,Qk,opU,Qm,bb,slU,fin,eqs,hq,atU,ixU,Zd,ha,bL,bmU,Zp,l]
theorem Qkc(hq:hs[q]?=some (.tup [.str YL,.ref r,.ref l]))(ha:h1[a]?=some (.lst xs))(hA:hs[a]?=some (.lst xs))(hq1:h1[q]?=some (.tup [.str YL,.ref r,.ref l]))(ln:xs.length<1000000)
  (c1:cf 41 [.ref l] hs=some (.str t,h1)) (c2:cf 40 [.ref r] h1=some (.str x,h1)) (b:t.length+x.length+3<=1000000):
  exs (tb s) cf (d+20) Qha [some (.ref p),some (.ref a),some (.ref q)] hs=some (.next,[some (.ref p),some (.ref a),some (.ref q)],h1.set a (.lst (xs++[.str ([91]++t++[93,32]++x)]))):=by
 have e:Qha=[.ite (.cmp .Eq (.ix (.var 2) (.c (.int 0 0))) (.c (.str Q7))) [.expr (.bm .append (.var 1) [.ix (.var 2) (.c (.int 1 0))])] [.expr (.bm .append (.var 1) [.op .Add (.op .Add (.op .Add (.c (.str [91])) (.call 41 [.ix (.var 2) (.c (.int 2 0))])) (.c (.str [93,32]))) (.call 40 [.ix (.var 2) (.c (.int 1 0))])])]]:=rfl;rw [e]
 have ne:¬YL=Q7:=by decide
 have a1:Qm (.str [91]) (.str t) h1=some (.str ([91]++t),h1):=by simp [Qm];lia
 have a2:Qm (.str ([91]++t)) (.str [93,32]) h1=some (.str ([91]++t++[93,32]),h1):=by simp [Qm];lia
 have a3:Qm (.str ([91]++t++[93,32])) (.str x) h1=some (.str ([91]++t++[93,32]++x),h1):=by simp [Qm];lia
 generalize [91]++t++[93,32]++x=t3 at a3 ⊢;generalize [91]++t++[93,32]=t2 at a2 a3;generalize [91]++t=t1 at a1 a2;generalize tb s=T;simp [yy,evs,evO,Ql,Qd,eq_int,Qi,Qk,opU,bb,slU,fin,eqs,hq,hq1,ne,atU,ixU,Zd,ha,hA,bL,bmU,Zp,ln,c1,c2,a1,a2,a3]
theorem QjY:∀{d n p:Nat} {us:List U} {ts:List (List Nat)} {hs:Hs},hs[p]?=some (.lst us)->PySem.Paired (LP (Hg hs) d) us ts->cst ts<=900000->∃h1,Kp hs h1/\Qa (tb s) (n+d+1) 41 [.ref p] hs=some (.str (Qj [44,32] ts),h1):=by
 intro d
 induction d with
 | zero =>
  intro n p us ts hs hp hP hc
  cases hP with
  | cons z _=>exact z.elim
  | nil =>
   refine⟨hs++[.lst []],Kp.app _ _,?_⟩;rw [Qe fnL[41] rfl rfl];show fin (exs (tb s) (Qa (tb s) (n+0)) 100 b41 [some (.ref p),none,none] hs)=_;rw [Qe3];have hp':=Qx (r:=[.lst []]) hp;generalize Qa (tb s) (n+0)=cf;generalize tb s=T;simp [yy,evs,evO,Ql,Qd,Qo,eq_int,Qi,Qk,opU,Qm,bb,slU,fin,wkS,QM,hp',JL,itm,Zd,bmU,Zp,bL,bS,ZA,at0,Yb,Qj]
 | succ d ih =>
  intro n p us ts hs hp hP hc;rw [Qe fnL[41] rfl rfl];show ∃h1,_/\fin (exs (tb s) (Qa (tb s) (n+(d+1))) 100 b41 [some (.ref p),none,none] hs)=_;rw [Qe3];have x1:ex (tb s) (Qa (tb s) (n+(d+1))) 99 (.set 1 (.lst [])) [some (.ref p),none,none] hs=some (.next,[some (.ref p),some (.ref hs.length),none],hs++[.lst []]):=rfl;rw [Qp x1];have ul:=QJ hP;have cl:=QQ (ts:=ts)
  obtain⟨ρ2,h2,x2,o,rfl,k2,g2⟩:=ZZ (T:=tb s) (cf:=Qa (tb s) (n+(d+1))) (d:=96) (j:=0) (k:=2) (p:=p) (us:=us) (body:=Qha) (ρ:=[some (.ref p),some (.ref hs.length),none]) (hs:=hs++[.lst []])
   (fun i ρ h=>∃o,ρ=[some (.ref p),some (.ref hs.length),o]/\Kp hs h/\h[hs.length]?=some (.lst ((ts.take i).map .str))) rfl (Qx hp) (fun i ρ h zz=>by
    obtain⟨_,_,k,_⟩:=zz
    exact k _ _ hp)
   (fun i u hu ρ h zz=>by
    obtain⟨o,e,k,g⟩:=zz;subst e;obtain⟨t,et,hz⟩:=ZS hP hu;have bt:=ZH et
    have lx:((ts.take i).map U.str).length<1000000:=by simp;lia
    have sn:((ts.take i).map U.str)++[.str t]=(ts.take (i+1)).map U.str:=by rw [QX et,List.map_append];rfl
    rcases hz with⟨q,m,rfl,e2,e3,rfl⟩|⟨q,r,l,us',ts',n0,n1,n2,n3,n4,rfl,e2,e3,e4,e5,e6,rfl⟩
    ·refine⟨_,_,QkQ (d:=77) (k _ _ e2) g lx,_,rfl,k.put (Nat.le_refl _),?_⟩;rw [sn];exact List.getElem?_set_self (List.getElem?_eq_some_iff.mp g).1
    ·have bj:=Qy (ts:=ts');have bl:=J1 (ts:=ts') (t:=txt n0 n1 n2 n3 n4)
     obtain⟨h1,k1,c1⟩:=ih (n:=n) (k _ _ e5) (Qb (fun _ _ z=>LP.mono k z) e6) (by lia)
     have c2:=YF (s:=s) (n:=n+d) e4 (k1 _ _ (k _ _ e3))
     refine⟨_,_,Qkc (d:=77) (k _ _ e2) (k1 _ _ g) g (k1 _ _ (k _ _ e2)) lx c1 c2 (by lia),_,rfl,(k.trans k1).put (Nat.le_refl _),?_⟩
     show _=some (O.lst ((ts.take (i+1)).map U.str));rw [<-sn]
     exact List.getElem?_set_self (List.getElem?_eq_some_iff.mp (k1 _ _ g)).1)
   ⟨none,rfl,Kp.app _ _,at0⟩
  rw [Qp x2];rw [ul,List.take_length]at g2;have bj:=(Qy (ts:=ts)).1;refine⟨h2,k2,?_⟩;have lt:=QZ hc;generalize Qa (tb s) (n+(d+1))=cf;generalize tb s=T;simp [yy,evs,evO,Ql,Qd,Qo,eq_int,Qi,Qk,opU,Qm,bb,slU,fin,Zd,bmU,Zp,bL,bS,ZA,QM,g2,QH,lt]
end
noncomputable def PP(s:List U)(g:Gt):Nat->U->List Nat->Prop
 | 0,_,_=>False
 | d+1,u,t=>(∃p o ob,u=.ref p/\g p=some (.tup [.str Q7,.ref o])/\g o=some ob/\St s ob t)\/∃p q l us ts n0 n1 n2 n3 n4,u=.ref p/\g p=some (.tup [.str YL,.ref q,.ref l])/\g q=some (.tup (nums n0 n1 n2 n3 n4))/\Oks n0 n1 n2 n3 n4/\g l=some (.lst us)/\PySem.Paired (PP s g d) us ts/\t=tmT ts (txt n0 n1 n2 n3 n4)
theorem PP.mono{s:List U}{g g':Gt}(h:Ge g g'):∀{d:Nat} {u:U} {t:List Nat},PP s g d u t->PP s g' d u t
 | 0,_,_,z=>z
 | d+1,u,t,z=>by
  rcases z with⟨p,o,ob,e1,e2,e3,e4⟩|⟨p,q,l,us,ts,n0,n1,n2,n3,n4,e1,e2,e3,e4,e5,e6,e7⟩
  ·exact .inl ⟨p,o,ob,e1,h _ _ e2,h _ _ e3,e4⟩
  ·exact .inr ⟨p,q,l,us,ts,n0,n1,n2,n3,n4,e1,h _ _ e2,h _ _ e3,e4,h _ _ e5,Qb (fun _ _ z=>PP.mono h z) e6,e7⟩
theorem QmL{T:Tbl}{cf:Cf}{d m:Nat}{o:E}{es:List E}{ρ:Rho}{hs:Hs}:ev T cf (d+1) (.meth m o es) ρ hs=bd (ev T cf d o ρ hs) fun u h1=>match JG T m u h1 with
   | some f=>bd (evs (ev T cf d) ρ es h1) fun us h2=>cf f (u::us) h2
   | none=>none:=rfl
section

theorem Qnm{o:Nat}{ob:O}(hq:hs[q]?=some (.tup [.str Q7,.ref o]))(ho:hs[o]?=some ob)(h:St s ob t):Qa (tb s) (n+2) 8 [.ref q] hs=some (.str t,hs):=by
 obtain⟨c,fs,rfl,_,_,f,m1,m2⟩:=h;have m1:=m1 _ _ ho;have m2:=m2 n _ _ ho;rw [Qe fnL[8] rfl rfl];show fin (exs (tb s) (Qa (tb s) (n+1)) 100 b8 [some (.ref q)] hs)=_;have e:b8=[.ite (.cmp .Eq (.ix (.var 0) (.c (.int 0 0))) (.c (.str Q7))) [.ret (.meth 4 (.ix (.var 0) (.c (.int 1 0))) [])] [],b8[1]]:=rfl;rw [e];generalize Qa (tb s) (n+1)=cf at m2 ⊢;generalize tb s=T at m1 ⊢;simp [yy,evs,evO,Ql,Qd,eq_int,Qi,Qk,opU,Qm,bb,slU,fin,eqs,QmL,hq,atU,ixU,m1,m2]
theorem QmN(hq:hs[q]?=some (.tup [.str YL,.ref r,.ref l]))(hq1:h1[q]?=some (.tup [.str YL,.ref r,.ref l]))
  (c1:Qa (tb s) (n+1) 3 [.ref l] hs=some (.str t,h1)) (c2:Qa (tb s) (n+1) 0 [.ref r] h1=some (.str x,h2)) (b:t.length+x.length+3<=1000000):Qa (tb s) (n+2) 8 [.ref q] hs=some (.str ([91]++t++[93,32]++x),h2):=by
 rw [Qe fnL[8] rfl rfl];show fin (exs (tb s) (Qa (tb s) (n+1)) 100 b8 [some (.ref q)] hs)=_;have e:b8=[.ite (.cmp .Eq (.ix (.var 0) (.c (.int 0 0))) (.c (.str Q7))) [.ret (.meth 4 (.ix (.var 0) (.c (.int 1 0))) [])] [],.ret (.op .Add (.op .Add (.op .Add (.c (.str [91])) (.call 3 [.ix (.var 0) (.c (.int 2 0))])) (.c (.str [93,32]))) (.call 0 [.ix (.var 0) (.c (.int 1 0))]))]:=rfl;rw [e]
 have ne:¬YL=Q7:=by decide
 have a1:Qm (.str [91]) (.str t) h1=some (.str ([91]++t),h1):=by simp [Qm];lia
 have a2:Qm (.str ([91]++t)) (.str [93,32]) h1=some (.str ([91]++t++[93,32]),h1):=by simp [Qm];lia
 have a3:Qm (.str ([91]++t++[93,32])) (.str x) h2=some (.str ([91]++t++[93,32]++x),h2):=by simp [Qm];lia
 generalize [91]++t++[93,32]++x=t3 at a3 ⊢;generalize [91]++t++[93,32]=t2 at a2 a3;generalize [91]++t=t1 at a1 a2;generalize Qa (tb s) (n+1)=cf at c1 c2 ⊢;generalize tb s=T;simp [yy,evs,evO,Ql,Qd,eq_int,Qi,Qk,opU,bb,slU,fin,eqs,hq,hq1,ne,atU,ixU,c1,c2,a1,a2,a3]
theorem Qgl(c:Qa (tb s) n 7 [.ref p] hs=some (.ref r,h1))(hr:h1[r]?=some (.lst (ts.map .str)))(b:cst ts<=900000):Qa (tb s) (n+1) 3 [.ref p] hs=some (.str (Qj [44,32] ts),h1):=by
 rw [Qe fnL[3] rfl rfl];show fin (exs (tb s) (Qa (tb s) n) 100 b3 [some (.ref p)] hs)=_;have lt:=QZ b;generalize Qa (tb s) n=cf at c ⊢;generalize tb s=T;simp [b3,yy,evs,evO,Ql,Qd,Qo,eq_int,Qi,Qk,opU,Qm,bb,slU,fin,Zd,bmU,bS,ZA,QM,c,hr,QH,lt]
end
theorem Qjk:∀{d n p:Nat} {us:List U} {ts:List (List Nat)} {hs:Hs},hs[p]?=some (.lst us)->PySem.Paired (PP s (Hg hs) d) us ts->cst ts<=900000->∃h1 r,Kp hs h1/\h1[r]?=some (.lst (ts.map .str))/\Qa (tb s) (n+3*d+1) 7 [.ref p] hs=some (.ref r,h1):=by
 intro d
 induction d with
 | zero =>
  intro n p us ts hs hp hP hc
  cases hP with
  | cons z _=>exact z.elim
  | nil =>
   refine⟨hs++[.lst []],hs.length,Kp.app _ _,at0,?_⟩;rw [Qe fnL[7] rfl rfl];show fin (exs (tb s) (Qa (tb s) (n+3*0)) 100 b7 [some (.ref p)] hs)=_;generalize Qa (tb s) (n+3*0)=cf;generalize tb s=T;simp [b7,yy,evs,evO,Ql,Qd,Qo,eq_int,Qi,Qk,opU,Qm,bb,slU,fin,wkS,QM,hp,Zt,itm]
 | succ d ih =>
  intro n p us ts hs hp hP hc;rw [Qe fnL[7] rfl rfl];show ∃h1 r,_/\_/\fin (exs (tb s) (Qa (tb s) (n+3*d+1+2)) 100 b7 [some (.ref p)] hs)=_;have ul:=QJ hP;have cl:=QQ (ts:=ts)
  obtain⟨us2,h2,e2,rfl,k2⟩:=Y7 (T:=tb s) (cf:=Qa (tb s) (n+3*d+1+2)) (d:=96) (p:=p) (us:=us) (e:=.var 0) (el:=.call 8 [.var 1]) (ρ:=[some (.ref p)]) (h0:=hs) (hs:=hs)
   (fun i acc h=>acc=(ts.take i).map U.str/\Kp hs h) rfl hp (by lia) (fun i acc h zz=>by
    obtain⟨e,k⟩:=zz
    exact⟨k _ _ hp,by rw [e];simp;lia⟩)
   (fun i u hu acc h zz=>by
    obtain⟨e,k⟩:=zz;obtain⟨t,et,hz⟩:=ZS hP hu;have bt:=ZH et
    have en:∀h2,Kp hs h2->Qa (tb s) (n+3*d+1+2) 8 [u] h=some (.str t,h2)->∃v h2,ev (tb s) (Qa (tb s) (n+3*d+1+2)) 97 (.call 8 [.var 1]) ([some (.ref p)]++[some u]) h=some (v,h2)/\acc++[v]=(ts.take (i+1)).map U.str/\Kp hs h2:=fun h2 k2 c=>⟨.str t,h2,c,by rw [e,QX et,List.map_append];rfl,k2⟩
    rcases hz with⟨q,o,ob,rfl,e2,e3,e4⟩|⟨q,r,l,us',ts',n0,n1,n2,n3,n4,rfl,e2,e3,e4,e5,e6,rfl⟩
    ·exact en h k (Qnm (k _ _ e2) (k _ _ e3) e4)
    ·have bj:=Qy (ts:=ts');have bl:=J1 (ts:=ts') (t:=txt n0 n1 n2 n3 n4)
     obtain⟨h1,r',k1,g1,c1⟩:=ih (n:=n) (k _ _ e5) (Qb (fun _ _ z=>PP.mono k z) e6) (by lia)
     have c2:=Qc4 (s:=s) (n:=n+3*d) e4 (k1 _ _ (k _ _ e3))
     exact en _ ((k.trans k1).trans (Kp.app _ _)) (QmN (n:=n+3*d+1) (k _ _ e2) (k1 _ _ (k _ _ e2)) (Qgl c1 g1 (by lia)) c2 (by show _+(txt n0 n1 n2 n3 n4).length+3<=_;lia)))
   ⟨rfl,Kp.refl _⟩
  rw [ul,List.take_length]at e2;refine⟨h2++[.lst (ts.map .str)],h2.length,k2.trans (Kp.app _ _),at0,?_⟩;generalize Qa (tb s) (n+3*d+1+2)=cf at e2 ⊢;generalize tb s=T at e2 ⊢;simp [b7,QC,Yn,QV,fin,e2]
noncomputable def Nv(g:Gt)(L:Nat)(h:Hs):Gt:=fun p=>if p<L then g p else h[p]?
noncomputable def Ng(g:Gt)(L:Nat)(h:Hs):Gt:=fun p=>if p<L then g p else if p=L then none else h[p]?
theorem QjG{g:Gt}:Ge (Ng g L h) (Nv g L h):=fun p o e=>by
 unfold Ng at e;unfold Nv;split at e
 ·rename_i z;rw [if_pos z];exact e
 ·rename_i z;rw [if_neg z];split at e
  ·cases e
  ·exact e
theorem Qde{g:Gt}:Ng g L (h.set L o)=Ng g L h:=by
 funext p
 unfold Ng;split
 ·rfl
 ·split
  ·rfl
  ·rename_i z;exact List.getElem?_set_ne (Ne.symm z)
theorem YK{g:Gt}(k:Kp h h1):Ge (Ng g L h) (Ng g L h1):=fun p o e=>by
 unfold Ng at e ⊢;split at e
 ·rename_i z;rw [if_pos z];exact e
 ·rename_i z;rw [if_neg z];split at e
  ·cases e
  ·rename_i z2;rw [if_neg z2];exact k _ _ e
theorem Zk{g:Gt}(l:L<p)(e:h1[p]?=some o):Ng g L h1 p=some o:=by
 unfold Ng
 rw [if_neg (by lia),if_neg (by lia)]
 exact e
theorem Qg5{g:Gt}(k:Kp h h1)(l:L<h.length):Ge (Nv (Ng g L h) h.length h1) (Ng g L h1):=fun p o e=>by
 unfold Nv at e;split at e
 ·exact YK k p o e
 ·exact Zk (by lia) e
theorem Qdf{g:Gt}(hg:Ge g (Hg hs)):Ge g (Ng g hs.length h):=fun p o e=>by
 have:=(List.getElem?_eq_some_iff.mp (hg _ _ e)).1;unfold Ng;rw [if_pos this];exact e
theorem Qg6{g:Gt}(hg:Ge g (Hg hs))(k:Kp hs h):Ge (Ng g hs.length h) (Hg h):=fun p o e=>by
 unfold Ng at e;split at e
 ·exact k _ _ (hg _ _ e)
 ·split at e
  ·cases e
  ·exact e
noncomputable def QiF:List S:=match b43 with
 | [_,.loop _ _ b,_]=>b
 | _=>[]
theorem Qe1:b43=[.set 1 (.lst []),.loop (.name 2) (.seq (.var 0)) QiF,.ret (.var 1)]:=rfl
theorem QcB:QiF=[.ite (.cmp .Eq (.ix (.var 2) (.c (.int 0 0))) (.c (.str Q7))) [.expr (.bm .append (.var 1) [.tup [.c (.str Q7),.call 24 [.ix (.var 2) (.c (.int 1 0))]]])] [.expr (.bm .append (.var 1) [.tup [.c (.str YL),.ix (.var 2) (.c (.int 1 0)),.call 43 [.ix (.var 2) (.c (.int 2 0))]]])]]:=rfl
section

theorem QkP(hq:hs[q]?=some (.tup [.str Q7,.str m]))(ha:hs[a]?=some (.lst xs))(l:xs.length<1000000)(c:cf 24 [.str m] hs=some (.ref hs.length,hs++[o])):
  exs (tb s) cf (d+20) QiF [some (.ref p),some (.ref a),some (.ref q)] hs=some (.next,[some (.ref p),some (.ref a),some (.ref q)],(hs++[o,.tup [.str Q7,.ref hs.length]]).set a (.lst (xs++[.ref (hs.length+1)]))):=by
 rw [QcB];have ha':∀r,(hs++r)[a]?=some (.lst xs):=fun r=>Qx ha;generalize tb s=T;simp [yy,evs,evO,Ql,Qd,eq_int,Qi,Qk,opU,Qm,bb,slU,fin,eqs,hq,atU,ixU,Zd,ha,ha',bL,bmU,Zp,l,c]
theorem Qkb(hq:hs[q]?=some (.tup [.str YL,.ref r,.ref l]))(hA:hs[a]?=some (.lst xs))(ha:h1[a]?=some (.lst xs))(ln:xs.length<1000000)(c:cf 43 [.ref l] hs=some (.ref k,h1)):
  exs (tb s) cf (d+20) QiF [some (.ref p),some (.ref a),some (.ref q)] hs=some (.next,[some (.ref p),some (.ref a),some (.ref q)],(h1++[O.tup [U.str YL,.ref r,.ref k]]).set a (O.lst (xs++[U.ref h1.length]))):=by
 rw [QcB]
 have ne:¬YL=Q7:=by decide
 have ha':∀r,(h1++r)[a]?=some (.lst xs):=fun r=>Qx ha;generalize tb s=T;simp [yy,evs,evO,Ql,Qd,eq_int,Qi,Qk,opU,Qm,bb,slU,fin,eqs,hq,ne,atU,ixU,Zd,hA,ha',bL,bmU,Zp,ln,c]
theorem ZD{α β:Type}{P:α->β->Prop}:∀{l:List α} {r:List β} {a:α} {b:β},PySem.Paired P l r->P a b->PySem.Paired P (l++[a]) (r++[b])
 | _,_,_,_,.nil,h=>.cons h .nil
 | _,_,_,_,.cons x t,h=>.cons x (ZD t h)
theorem Qc5:∀{d n p:Nat} {g:Gt} {us:List U} {ts:List (List Nat)} {hs:Hs},Ge g (Hg hs)->g p=some (.lst us)->PySem.Paired (LP g d) us ts->cst ts<=900000->∃h1 us',Kp hs h1/\h1[hs.length]?=some (.lst us')/\PySem.Paired (PP s (Nv g hs.length h1) d) us' ts/\Qa (tb s) (n+d+5) 43 [.ref p] hs=some (.ref hs.length,h1):=by
 intro d
 induction d with
 | zero =>
  intro n p g us ts hs hg hp hP hc;have hp:=hg _ _ hp
  cases hP with
  | cons z _=>exact z.elim
  | nil =>
   refine⟨hs++[.lst []],[],Kp.app _ _,at0,.nil,?_⟩;rw [Qe fnL[43] rfl rfl];show fin (exs (tb s) (Qa (tb s) (n+0+4)) 100 b43 [some (.ref p),none,none] hs)=_;rw [Qe1];have hp':=Qx (r:=[.lst []]) hp;generalize Qa (tb s) (n+0+4)=cf;generalize tb s=T;simp [yy,evs,evO,Ql,Qd,Qo,eq_int,Qi,Qk,opU,Qm,bb,slU,fin,wkS,QM,hp',JL,itm]
 | succ d ih =>
  intro n p g us ts hs hg hp hP hc;have hp:=hg _ _ hp;rw [Qe fnL[43] rfl rfl];show ∃h1 us',_/\_/\_/\fin (exs (tb s) (Qa (tb s) (n+d+5)) 100 b43 [some (.ref p),none,none] hs)=_;rw [Qe1];have x1:ex (tb s) (Qa (tb s) (n+d+5)) 99 (.set 1 (.lst [])) [some (.ref p),none,none] hs=some (.next,[some (.ref p),some (.ref hs.length),none],hs++[.lst []]):=rfl;rw [Qp x1];have ul:=QJ hP;have cl:=QQ (ts:=ts)
  obtain⟨ρ2,h2,x2,o,us2,rfl,k2,g2,P2⟩:=ZZ (T:=tb s) (cf:=Qa (tb s) (n+d+5)) (d:=96) (j:=0) (k:=2) (p:=p) (us:=us) (body:=QiF) (ρ:=[some (.ref p),some (.ref hs.length),none]) (hs:=hs++[.lst []])
   (fun i ρ h=>∃o us',ρ=[some (.ref p),some (.ref hs.length),o]/\Kp hs h/\h[hs.length]?=some (.lst us')/\PySem.Paired (PP s (Ng g hs.length h) (d+1)) us' (ts.take i)) rfl (Qx hp) (fun i ρ h zz=>by
    obtain⟨_,_,_,k,_⟩:=zz
    exact k _ _ hp)
   (fun i u hu ρ h zz=>by
    obtain⟨o,us1,e,k,ga,pA0⟩:=zz;subst e;obtain⟨t,et,hz⟩:=ZS hP hu;have bt:=ZH et;have lh:hs.length<h.length:=(List.getElem?_eq_some_iff.mp ga).1
    have lx:us1.length<1000000:=by
     have:=QJ pA0;simp at this;lia
    have sn:ts.take (i+1)=ts.take i++[t]:=QX et
    rcases hz with⟨q,m,rfl,e2,e3,rfl⟩|⟨q,r,l,us',ts',n0,n1,n2,n3,n4,rfl,e2,e3,e4,e5,e6,rfl⟩
    ·obtain⟨ob,so,c⟩:=Jo (s:=s) (n:=n+d+1) (hs:=h) e3;have kk:Kp h (h++[ob,.tup [.str Q7,.ref h.length]]):=Kp.app _ _;refine⟨_,_,QkP (d:=77) (k _ _ (hg _ _ e2)) ga lx c,_,us1++[.ref (h.length+1)],rfl,(k.trans kk).put (Nat.le_refl _),List.getElem?_set_self (List.getElem?_eq_some_iff.mp (kk _ _ ga)).1,?_⟩;rw [Qde,sn]
     refine ZD (Qb (fun _ _ z=>PP.mono (YK kk) z) pA0) (.inl ⟨h.length+1,h.length,ob,rfl,Zk (by lia) at1,Zk lh at0,so⟩)
    ·have bj:=Qy (ts:=ts');have bl:=J1 (ts:=ts') (t:=txt n0 n1 n2 n3 n4);have go:=Qdf (h:=h) hg
     obtain⟨h1,us'',k1,g1,P1,c1⟩:=ih (n:=n) (g:=Ng g hs.length h) (Qg6 hg k) (go _ _ e5) (Qb (fun _ _ z=>LP.mono go z) e6) (by lia)
     have kk:Kp h1 (h1++[.tup [.str YL,.ref r,.ref h.length]]):=Kp.app _ _;have l1:hs.length<h1.length:=(List.getElem?_eq_some_iff.mp (k1 _ _ ga)).1;refine⟨_,_,Qkb (d:=77) (k _ _ (hg _ _ e2)) ga (k1 _ _ ga) lx c1,_,us1++[.ref h1.length],rfl,((k.trans k1).trans kk).put (Nat.le_refl _),List.getElem?_set_self (List.getElem?_eq_some_iff.mp (kk _ _ (k1 _ _ ga))).1,?_⟩;rw [Qde,sn];have up:Ge (Ng g hs.length h1) (Ng g hs.length (h1++[.tup [.str YL,.ref r,.ref h.length]])):=YK kk
     refine ZD (Qb (fun _ _ z=>PP.mono up (PP.mono (YK k1) z)) pA0) (.inr ⟨h1.length,r,h.length,us'',ts',n0,n1,n2,n3,n4,rfl,Zk l1 at0,up _ _ (YK k1 _ _ (go _ _ e3)),e4,Zk lh (kk _ _ g1),Qb (fun _ _ z=>PP.mono up (PP.mono (Qg5 k1 lh) z)) P1,rfl⟩))
   ⟨none,[],rfl,Kp.app _ _,at0,.nil⟩
  rw [Qp x2];rw [ul,List.take_length]at P2;refine⟨h2,us2,k2,g2,Qb (fun _ _ z=>PP.mono QjG z) P2,?_⟩;rw [QC,Yn,QF];rfl
end
noncomputable def QU:List Nat:=[114,111,119]
noncomputable def ZN:List Nat:=[98,108,111,99,107]
noncomputable def rT(ts:List (List Nat))(b:Bool):List Nat:=[114,111,119,32]++Qj [44,32] ts++(if b=true then [32,116,117,114,110]else [])
noncomputable def Qu(ts:List (List Nat)):List Nat:=[114,101,115,116,32,91]++Qj [44,32] ts++[93]
noncomputable def r5(ts ts2 ts3:List (List Nat)):List (List Nat):=ts++[Qu ts2]++ts3
noncomputable def bT(ts:List (List Nat))(x:List Nat):List Nat:=x++[32,116,105,109,101,115,32,40]++Qj [59,32] ts++[41]
noncomputable def IT(g:Gt)(R:U->List Nat->Prop):Nat->U->List Nat->Prop
 | 0,_,_=>False
 | d+1,u,t=>∃p,u=.ref p/\((∃l us ts b,g p=some (.tup [.str QU,.ref l,.bl b])/\g l=some (.lst us)/\PySem.Paired R us ts/\t=rT ts b)
   \/ (∃l us ts l2 us2 ts2 l3 us3 ts3,g p=some (.tup [.str QU,.ref l,.bl false,.ref l2,.ref l3])/\g l=some (.lst us)/\PySem.Paired R us ts/\g l2=some (.lst us2)/\PySem.Paired R us2 ts2/\g l3=some (.lst us3)/\PySem.Paired R us3 ts3/\t=rT (r5 ts ts2 ts3) false)
   \/ ∃q l us ts n0 n1 n2 n3 n4,g p=some (.tup [.str ZN,.ref q,.ref l])/\g q=some (.tup (nums n0 n1 n2 n3 n4))/\Oks n0 n1 n2 n3 n4/\g l=some (.lst us)/\PySem.Paired (IT g R d) us ts/\t=bT ts (txt n0 n1 n2 n3 n4))
theorem IT.mono{g g':Gt}{R R':U->List Nat->Prop}(h:Ge g g')(hR:∀u t,R u t->R' u t):∀{d:Nat} {u:U} {t:List Nat},IT g R d u t->IT g' R' d u t
 | 0,_,_,z=>z
 | d+1,u,t,z=>by
  obtain⟨p,e,z⟩:=z;refine⟨p,e,?_⟩
  rcases z with⟨l,us,ts,b,e1,e2,e3,e4⟩|⟨l,us,ts,l2,us2,ts2,l3,us3,ts3,e1,e2,e3,e4,e5,e6,e7,e8⟩|⟨q,l,us,ts,n0,n1,n2,n3,n4,e1,e2,e3,e4,e5,e6⟩
  ·exact .inl ⟨l,us,ts,b,h _ _ e1,h _ _ e2,Qb hR e3,e4⟩
  ·exact .inr (.inl ⟨l,us,ts,l2,us2,ts2,l3,us3,ts3,h _ _ e1,h _ _ e2,Qb hR e3,h _ _ e4,Qb hR e5,h _ _ e6,Qb hR e7,e8⟩)
  ·exact .inr (.inr ⟨q,l,us,ts,n0,n1,n2,n3,n4,h _ _ e1,h _ _ e2,e3,h _ _ e4,Qb (fun _ _ z=>IT.mono h hR z) e5,e6⟩)
noncomputable abbrev LI(g:Gt)(d:Nat):U->List Nat->Prop:=IT g (LP g 5) d
noncomputable abbrev PI(s:List U)(g:Gt)(d:Nat):U->List Nat->Prop:=IT g (PP s g 5) d
theorem LI.mono{g g':Gt}(h:Ge g g')(z:LI g d u t):LI g' d u t:=IT.mono h (fun _ _ z=>LP.mono h z) z
theorem PI.mono{g g':Gt}(h:Ge g g')(z:PI s g d u t):PI s g' d u t:=IT.mono h (fun _ _ z=>PP.mono h z) z
theorem JX:(bT ts x).length=x.length+(Qj [59,32] ts).length+9:=by simp [bT];lia
theorem Zs{a b:List (List Nat)}:cst (a++b)=cst a+cst b:=by simp [cst]
theorem YM(h:x.length+y.length<=1000000):Qm (.str x) (.str y) hs=some (.str (x++y),hs):=by simp [Qm,h]
theorem Qfb{a b:E}:evT T cf (d+1) (.ix a b) ρ hs=bd (ev T cf d (.ix a b) ρ hs) fun u h1=>(Qi T u h1).map fun c=>(c,h1):=rfl
section

theorem Qnc{b:Bool}(hp:hs[p]?=some (.tup [.str QU,.ref l,.bl b]))(hp1:h1[p]?=some (.tup [.str QU,.ref l,.bl b]))(c:Qa (tb s) n 7 [.ref l] hs=some (.ref r,h1))(hr:h1[r]?=some (.lst (ts.map .str)))(bd:cst ts<=900000):
  Qa (tb s) (n+1) 6 [.ref p] hs=some (.str (rT ts b),h1):=by
 rw [Qe fnL[6] rfl rfl];show fin (exs (tb s) (Qa (tb s) n) 100 b6 [some (.ref p),none,none] hs)=_;have lt:=QZ bd;have bj:=(Qy (ts:=ts)).1
 have a1:=YM (hs:=h1) (x:=[114,111,119,32]) (y:=Qj [44,32] ts) (by simp;lia)
 have a2:∀e:List Nat,e.length<=5->Qm (.str ([114,111,119,32]++Qj [44,32] ts)) (.str e) h1=some (.str ([114,111,119,32]++Qj [44,32] ts++e),h1):=fun e he=>YM (by simp;lia)
 have a3:=a2 [32,116,117,114,110] (by decide)
 have a4:=a2 [] (by decide)
 unfold rT;generalize [114,111,119,32]++Qj [44,32] ts=t1 at a1 a3 a4 ⊢;generalize Qa (tb s) n=cf at c ⊢;generalize tb s=T
 cases b with
 | true=>simp [b6,yy,evs,evO,Ql,Qd,eq_int,Qi,Qk,opU,bb,slU,fin,Qfb,hp,hp1,atU,ixU,Q8,Qo,c,Zd,bmU,bS,ZA,QM,hr,QH,lt,a1,a3]
 | false=>simp [b6,yy,evs,evO,Ql,Qd,eq_int,Qi,Qk,opU,bb,slU,fin,Qfb,hp,hp1,atU,ixU,Q8,Qo,c,Zd,bmU,bS,ZA,QM,hr,QH,lt,a1,a4]
end
section

theorem QcY(ha:h[a]?=some (.lst xs))(hb:h[b]?=some (.lst ys))(l:xs.length+ys.length<=1000000):Qm (.ref a) (.ref b) h=some (.ref h.length,h++[.lst (xs++ys)]):=by
 simp [Qm,ha,hb,QjX,l]
theorem Qnb{r3:Nat}{ts2 ts3:List (List Nat)}{h4:Hs}(hp:hs[p]?=some (.tup [.str QU,.ref l,.bl false,.ref l2,.ref l3]))(k1:Kp hs h1)(c1:Qa (tb s) n 7 [.ref l] hs=some (.ref r,h1))(g1:h1[r]?=some (.lst (ts.map .str)))
  (k2:Kp h1 h2) (c2:Qa (tb s) n 3 [.ref l2] h1=some (.str (Qj [44,32] ts2),h2))
  (k3:Kp (h2++[.lst [.str (Qu ts2)],.lst (ts.map .str++[.str (Qu ts2)])]) h4) (c3:Qa (tb s) n 7 [.ref l3] (h2++[.lst [.str (Qu ts2)],.lst (ts.map .str++[.str (Qu ts2)])])=some (.ref r3,h4)) (g3:h4[r3]?=some (.lst (ts3.map .str))) (bd:cst (r5 ts ts2 ts3)<=900000):
  Qa (tb s) (n+1) 6 [.ref p] hs=some (.str (rT (r5 ts ts2 ts3) false),h4++[.lst ((r5 ts ts2 ts3).map .str)]):=by
 rw [Qe fnL[6] rfl rfl];show fin (exs (tb s) (Qa (tb s) n) 100 b6 [some (.ref p),none,none] hs)=_;have lt:=QZ bd;have bj:=(Qy (ts:=r5 ts ts2 ts3)).1;have ln:=QQ (ts:=r5 ts ts2 ts3)
 have e5:(r5 ts ts2 ts3).map U.str=ts.map .str++[.str (Qu ts2)]++ts3.map .str:=by simp [r5]
 have l5:(r5 ts ts2 ts3).length=ts.length+1+ts3.length:=by simp [r5];lia
 have cr:(Qu ts2).length+2<=cst (r5 ts ts2 ts3):=ZH (i:=ts.length) (by simp [r5])
 have rl:(Qu ts2).length=(Qj [44,32] ts2).length+7:=by simp [Qu]
 have s1:=YM (hs:=h2) (x:=[114,101,115,116,32,91]) (y:=Qj [44,32] ts2) (by simp;lia)
 have s2:Qm (.str ([114,101,115,116,32,91]++Qj [44,32] ts2)) (.str [93]) h2=some (.str (Qu ts2),h2):=YM (by simp;lia)
 generalize [114,101,115,116,32,91]++Qj [44,32] ts2=j1 at s1 s2
 have q1:Qm (.ref r) (.ref h2.length) (h2++[.lst [.str (Qu ts2)]])=some (.ref (h2.length+1),h2++[.lst [.str (Qu ts2)],.lst (ts.map .str++[.str (Qu ts2)])]):=by
  have:=QcY (h:=h2++[.lst [.str (Qu ts2)]]) (Qx (k2 _ _ g1)) at0 (by simp;lia)
  simpa using this
 have q2:Qm (.ref (h2.length+1)) (.ref r3) h4=some (.ref h4.length,h4++[.lst ((r5 ts ts2 ts3).map .str)]):=by
  rw [e5]
  exact QcY (k3 _ _ at1) g3 (by simp;lia)
 have hp1:=k1 _ _ hp;have hp3:(h2++[O.lst [.str (Qu ts2)],.lst (ts.map .str++[.str (Qu ts2)])])[p]?=some (.tup [.str QU,.ref l,.bl false,.ref l2,.ref l3]):=Qx (k2 _ _ hp1);have hp5:(h4++[O.lst ((r5 ts ts2 ts3).map .str)])[p]?=some (.tup [.str QU,.ref l,.bl false,.ref l2,.ref l3]):=Qx (k3 _ _ hp3);have gg:(h4++[O.lst ((r5 ts ts2 ts3).map .str)])[h4.length]?=some (.lst ((r5 ts ts2 ts3).map .str)):=at0;generalize eF:h4++[O.lst ((r5 ts ts2 ts3).map .str)]=hF at q2 hp5 gg ⊢
 have a1:=YM (hs:=hF) (x:=[114,111,119,32]) (y:=Qj [44,32] (r5 ts ts2 ts3)) (by simp;lia)
 have a4:Qm (.str ([114,111,119,32]++Qj [44,32] (r5 ts ts2 ts3))) (.str []) hF=some (.str ([114,111,119,32]++Qj [44,32] (r5 ts ts2 ts3)++[]),hF):=YM (by simp;lia)
 unfold rT;rw [if_neg Bool.false_ne_true];generalize [114,111,119,32]++Qj [44,32] (r5 ts ts2 ts3)=t1 at a1 a4 ⊢;generalize h2++[O.lst [.str (Qu ts2)],.lst (ts.map .str++[.str (Qu ts2)])]=h3 at q1 c3 hp3;generalize eG:h2++[O.lst [.str (Qu ts2)]]=hG at q1;generalize r5 ts ts2 ts3=R at *
 have ev1:ex (tb s) (Qa (tb s) n) 99 (.set 1 (.call 7 [.ix (.var 0) (.c (.int 1 0))])) [some (.ref p),none,none] hs=some (.next,[some (.ref p),some (.ref r),none],h1):=by
  generalize Qa (tb s) n=cf at c1 ⊢;generalize tb s=T;simp [yy,evs,evO,Ql,Qd,eq_int,Qi,Qk,opU,bb,slU,fin,hp,atU,ixU,c1]
 have hb6:b6=[.set 1 (.call 7 [.ix (.var 0) (.c (.int 1 0))]),b6[1],b6[2],b6[3]]:=rfl;rw [hb6,Qp ev1];generalize Qa (tb s) n=cf at c2 c3 ⊢;generalize tb s=T;simp [b6,yy,evs,evO,Ql,Qd,eq_int,Qi,Qk,opU,bb,slU,fin,Qfb,hp1,atU,ixU,Q8,Qo,c2,s1,s2,eG,q1,hp3,c3,q2,hp5,Zd,bmU,bS,ZA,QM,gg,QH,lt,a1,a4]
end
theorem Q0:∀{ts:List (List Nat)},(Qj [59,32] ts).length<=cst ts/\cst ts<=(Qj [59,32] ts).length+2
 | []=>by simp [Qj,cst]
 | [x]=>by simp [Qj,cst]
 | x::y::r=>by
  have ih:=Q0 (ts:=y::r);simp only [cst,Qj,List.map_cons,List.sum_cons,List.length_append,List.length_cons,List.length_nil]at ih ⊢;lia
theorem ZG{b:Bool}:cst ts<=(rT ts b).length:=by
 have:=(Qy (ts:=ts)).2;simp [rT];lia
theorem QnV(hp:hs[p]?=some (.tup [.str ZN,.ref q,.ref l]))(k1:Kp hs h1)(c1:Qa (tb s) n 0 [.ref q] hs=some (.str x,h1))(c2:Qa (tb s) n 4 [.ref l] h1=some (.ref r,h2))(g2:h2[r]?=some (.lst (ts.map .str)))(b:cst ts<=900000)(bx:x.length<=400):
  Qa (tb s) (n+1) 5 [.ref p] hs=some (.str (bT ts x),h2):=by
 rw [Qe fnL[5] rfl rfl];show fin (exs (tb s) (Qa (tb s) n) 100 b5 [some (.ref p)] hs)=_;have lt:=QZ b;have bj:=(Q0 (ts:=ts)).1;have hp1:=k1 _ _ hp
 have a1:=YM (hs:=h1) (x:=x) (y:=[32,116,105,109,101,115,32,40]) (by simp;lia)
 have a2:=YM (hs:=h2) (x:=x++[32,116,105,109,101,115,32,40]) (y:=Qj [59,32] ts) (by simp;lia)
 have a3:=YM (hs:=h2) (x:=x++[32,116,105,109,101,115,32,40]++Qj [59,32] ts) (y:=[41]) (by simp;lia)
 unfold bT;generalize x++[32,116,105,109,101,115,32,40]++Qj [59,32] ts++[41]=t3 at a3 ⊢;generalize x++[32,116,105,109,101,115,32,40]++Qj [59,32] ts=t2 at a2 a3;generalize x++[32,116,105,109,101,115,32,40]=t1 at a1 a2;generalize Qa (tb s) n=cf at c1 c2 ⊢;generalize tb s=T;simp [b5,yy,evs,evO,Ql,Qd,eq_int,Qi,Qk,opU,bb,slU,fin,hp,hp1,atU,ixU,c1,c2,Zd,bmU,bS,ZA,QM,g2,QH,lt,a1,a2,a3]
noncomputable def el4:E:=.ife (.cmp .Eq (.ix (.var 1) (.c (.int 0 0))) (.c (.str QU))) (.call 6 [.var 1]) (.call 5 [.var 1])
theorem Qls:b4=[.ret (.comp (.seq (.var 0)) false none el4)]:=rfl
theorem QcS(hq:hs[q]?=some (.tup (.str QU::xs)))(c:cf 6 [.ref q] hs=some (u,h1)):ev T cf (d+10) el4 [some (.ref p),some (.ref q)] hs=some (u,h1):=by
 have e:atU (U.str QU::xs) 0=some (.str QU):=by simp [atU,ixU]
 simp [el4,yy,evs,evO,Ql,Qd,eq_int,Qi,Qk,opU,Qm,bb,slU,fin,eqs,hq,e,c]
theorem QgJ(hq:hs[q]?=some (.tup (.str ZN::xs)))(c:cf 5 [.ref q] hs=some (u,h1)):ev T cf (d+10) el4 [some (.ref p),some (.ref q)] hs=some (u,h1):=by
 have e:atU (U.str ZN::xs) 0=some (.str ZN):=by simp [atU,ixU]
 have ne:¬ZN=QU:=by decide
 simp [el4,yy,evs,evO,Ql,Qd,eq_int,Qi,Qk,opU,Qm,bb,slU,fin,eqs,hq,e,ne,c]
theorem QgO:∀{d n p:Nat} {us:List U} {ts:List (List Nat)} {hs:Hs},hs[p]?=some (.lst us)->PySem.Paired (PI s (Hg hs) d) us ts->cst ts<=900000->∃h1 r,Kp hs h1/\h1[r]?=some (.lst (ts.map .str))/\Qa (tb s) (n+2*d+17) 4 [.ref p] hs=some (.ref r,h1):=by
 intro d
 induction d with
 | zero =>
  intro n p us ts hs hp hP hc
  cases hP with
  | cons z _=>exact z.elim
  | nil =>
   refine⟨hs++[.lst []],hs.length,Kp.app _ _,at0,?_⟩;rw [Qe fnL[4] rfl rfl];show fin (exs (tb s) (Qa (tb s) (n+2*0+16)) 100 b4 [some (.ref p)] hs)=_;generalize Qa (tb s) (n+2*0+16)=cf;generalize tb s=T;simp [b4,yy,evs,evO,Ql,Qd,Qo,eq_int,Qi,Qk,opU,Qm,bb,slU,fin,wkS,QM,hp,Zt,itm]
 | succ d ih =>
  intro n p us ts hs hp hP hc;rw [Qe fnL[4] rfl rfl];show ∃h1 r,_/\_/\fin (exs (tb s) (Qa (tb s) (n+2*d+17+1)) 100 b4 [some (.ref p)] hs)=_;rw [Qls];have ul:=QJ hP;have cl:=QQ (ts:=ts)
  obtain⟨us2,h2,e2,rfl,k2⟩:=Y7 (T:=tb s) (cf:=Qa (tb s) (n+2*d+17+1)) (d:=96) (p:=p) (us:=us) (e:=.var 0) (el:=el4) (ρ:=[some (.ref p)]) (h0:=hs) (hs:=hs)
   (fun i acc h=>acc=(ts.take i).map U.str/\Kp hs h) rfl hp (by lia) (fun i acc h zz=>by
    obtain⟨e,k⟩:=zz
    exact⟨k _ _ hp,by rw [e];simp;lia⟩)
   (fun i u hu acc h zz=>by
    obtain⟨e,k⟩:=zz;obtain⟨t,et,q,rfl,hz⟩:=ZS hP hu;have bt:=ZH et;have mo:∀{h':Hs} {us:List U} {ts:List (List Nat)},Kp hs h'->PySem.Paired (PP s (Hg hs) 5) us ts->PySem.Paired (PP s (Hg h') 5) us ts:=fun k' z=>Qb (fun _ _ z=>PP.mono k' z) z
    have en:∀h2,Kp hs h2->ev (tb s) (Qa (tb s) (n+2*d+17+1)) (87+10) el4 [some (.ref p),some (.ref q)] h=some (.str t,h2)->∃v h2,ev (tb s) (Qa (tb s) (n+2*d+17+1)) 97 el4 ([some (.ref p)]++[some (.ref q)]) h=some (v,h2)/\acc++[v]=(ts.take (i+1)).map U.str/\Kp hs h2:=fun h2 k2 c=>⟨.str t,h2,c,by rw [e,QX et,List.map_append];rfl,k2⟩
    rcases hz with⟨l,us',ts',b,e1,e2,e3,rfl⟩|⟨l,us1,ts1,l2,us2,ts2,l3,us3,ts3,e1,e2,e3,e4,e5,e6,e7,rfl⟩|⟨r,l,us',ts',n0,n1,n2,n3,n4,e1,e2,e3,e4,e5,rfl⟩
    ·have bl:=ZG (ts:=ts') (b:=b)
     obtain⟨h1,r,k1,g1,c1⟩:=Qjk (s:=s) (d:=5) (n:=n+2*d+1) (k _ _ e2) (mo k e3) (by lia)
     exact en h1 (k.trans k1) (QcS (k _ _ e1) (Qnc (k _ _ e1) (k1 _ _ (k _ _ e1)) c1 g1 (by lia)))
    ·have bl:=ZG (ts:=r5 ts1 ts2 ts3) (b:=false)
     have b5:cst (r5 ts1 ts2 ts3)=cst ts1+((Qu ts2).length+2)+cst ts3:=by simp [r5,Zs,cst];lia
     have b2:=(Qy (ts:=ts2)).2
     have rl:(Qu ts2).length=(Qj [44,32] ts2).length+7:=by simp [Qu]
     obtain⟨h1,r,k1,g1,c1⟩:=Qjk (s:=s) (d:=5) (n:=n+2*d+1) (k _ _ e2) (mo k e3) (by lia)
     have kk1:=k.trans k1
     obtain⟨h2,r2,k2,g2,c2⟩:=Qjk (s:=s) (d:=5) (n:=n+2*d) (kk1 _ _ e4) (mo kk1 e5) (by lia)
     have c2':=Qgl c2 g2 (by lia)
     have kk3:Kp hs (h2++[.lst [.str (Qu ts2)],.lst (ts1.map .str++[.str (Qu ts2)])]):=(kk1.trans k2).trans (Kp.app _ _)
     obtain⟨h4,r3,k3,g3,c3⟩:=Qjk (s:=s) (d:=5) (n:=n+2*d+1) (kk3 _ _ e6) (mo kk3 e7) (by lia)
     exact en _ ((kk3.trans k3).trans (Kp.app _ _)) (QcS (k _ _ e1) (Qnb (k _ _ e1) k1 c1 g1 k2 c2' k3 c3 g3 (by lia)))
    ·have bl:=JX (ts:=ts') (x:=txt n0 n1 n2 n3 n4);have bj:=(Q0 (ts:=ts')).2;have c1:=Qc4 (s:=s) (n:=n+2*d+15) e3 (k _ _ e2);have k1:Kp h (h++[.tup [.int n1 0,.int n2 0,.int n3 0,.int n4 0],.lst ((Ts n0 n1 n2 n3 n4).map .str)]):=Kp.app _ _;have kk:=k.trans k1
     obtain⟨h2,r2,k2,g2,c2⟩:=ih (n:=n) (kk _ _ e4) (Qb (fun _ _ z=>PI.mono kk z) e5) (by lia)
     exact en h2 (kk.trans k2) (QgJ (k _ _ e1) (QnV (k _ _ e1) k1 c1 c2 g2 (by lia) (Yp e3))))
   ⟨rfl,Kp.refl _⟩
  rw [ul,List.take_length]at e2;refine⟨h2++[.lst (ts.map .str)],h2.length,k2.trans (Kp.app _ _),at0,?_⟩;generalize Qa (tb s) (n+2*d+17+1)=cf at e2 ⊢;generalize tb s=T at e2 ⊢;simp [QC,Yn,QV,fin,e2]
noncomputable def ZJ:List Nat:=[99,97,115,116,32]
noncomputable def shT(w x:List Nat)(ts:List (List Nat)):List Nat:=Qj [59,32] ([w,ZJ++x]++ts)
theorem QaC{P:Nat}{w:List Nat}{n0 n1 n2 n3 n4:Int}(hP:hs[P]?=some (.ins 10 [(2,.str w),(6,.ref c),(7,.ref l)]))(hc:hs[c]?=some (.tup (nums n0 n1 n2 n3 n4)))(ho:Oks n0 n1 n2 n3 n4)(hl:hs[l]?=some (.lst us))(hI:PySem.Paired (PI s (Hg hs) d) us ts)(b:cst ts<=800000)(bw:w.length<=10):
  ∃h1,Kp hs h1/\Qa (tb s) (n+2*d+18) 2 [.ref P] hs=some (.str (shT w (txt n0 n1 n2 n3 n4) ts),h1):=by
 rw [Qe fnL[2] rfl rfl];show ∃h1,_/\fin (exs (tb s) (Qa (tb s) (n+2*d+17)) 100 b2 [some (.ref P)] hs)=_;have c1:=Qc4 (s:=s) (n:=n+2*d+15) ho hc;have k1:Kp hs (hs++[.tup [.int n1 0,.int n2 0,.int n3 0,.int n4 0],.lst ((Ts n0 n1 n2 n3 n4).map .str)]):=Kp.app _ _;generalize hs++[O.tup [.int n1 0,.int n2 0,.int n3 0,.int n4 0],.lst ((Ts n0 n1 n2 n3 n4).map .str)]=hA at c1 k1
 change Qa (tb s) (n+2*d+17) 0 [.ref c] hs=some (.str (txt n0 n1 n2 n3 n4),hA)at c1
 have xl:=Yp ho;generalize hx:txt n0 n1 n2 n3 n4=x at c1 xl ⊢;have k2:Kp hA (hA++[.lst [.str w,.str (ZJ++x)]]):=Kp.app _ _;have kk:=k1.trans k2
 obtain⟨h2,r,k3,g3,c3⟩:=QgO (s:=s) (n:=n) (kk _ _ hl) (Qb (fun _ _ z=>PI.mono kk z) hI) (by lia)
 have cl:=QQ (ts:=ts)
 have a1:=YM (hs:=hA) (x:=ZJ) (y:=x) (by simp [ZJ];lia)
 have q1:Qm (.ref hA.length) (.ref r) h2=some (.ref h2.length,h2++[.lst (([w,ZJ++x]++ts).map .str)]):=QcY (k3 _ _ at0) g3 (by simp;lia)
 have bc:cst ([w,ZJ++x]++ts)<=900000:=by
  rw [Zs];simp [cst,ZJ]at b ⊢;lia
 have lt:=QZ bc;have gg:(h2++[O.lst (([w,ZJ++x]++ts).map .str)])[h2.length]?=some (.lst (([w,ZJ++x]++ts).map .str)):=at0;have sm:=QH ([w,ZJ++x]++ts);refine⟨h2++[.lst (([w,ZJ++x]++ts).map .str)],(kk.trans k3).trans (Kp.app _ _),?_⟩;unfold shT;have e2:b2=[.ret (.bm .join (.c (.str [59,32])) [.op .Add (.lst [.fld (.var 0) 2,.op .Add (.c (.str ZJ)) (.call 0 [.fld (.var 0) 6])]) (.call 4 [.fld (.var 0) 7])])]:=rfl;rw [e2];have hP1:=kk _ _ hP;generalize [w,ZJ++x]++ts=R at lt gg sm q1 ⊢;generalize ZJ++x=y at *;generalize hG:hA++[O.lst [.str w,.str y]]=G at c3 hP1;generalize hF:h2++[O.lst (R.map .str)]=F at q1 gg ⊢;generalize Qa (tb s) (n+2*d+17)=cf at c1 c3 ⊢;generalize tb s=T;simp [yy,evs,evO,Ql,Qd,eq_int,Qi,Qk,opU,bb,slU,fin,Qew,List.lookup,hP,hP1,c1,a1,hG,c3,q1,Zd,bmU,bS,ZA,QM,gg,sm,lt]
theorem QhC{w:List Nat}(h:ts≠[]):shT w x ts=w++[59,32,99,97,115,116,32]++x++[59,32]++Qj [59,32] ts:=by
 cases ts with
 | nil=>exact absurd rfl h
 | cons a r=>simp [shT,Qj,ZJ]
theorem QgN{w:List Nat}{n0 n1 n2 n3 n4:Int}(hc:hs[c]?=some (.tup (nums n0 n1 n2 n3 n4)))(ho:Oks n0 n1 n2 n3 n4)(c2:Qa (tb s) (n+1) 42 [.ref l] hs=some (.str (Qj [59,32] ts),h1))(ne:ts≠[])(b:cst ts<=800000)(bw:w.length<=10):
  Qa (tb s) (n+2) 45 [.str w,.ref c,.ref l] hs=some (.str (shT w (txt n0 n1 n2 n3 n4) ts),h1):=by
 rw [Qe fnL[45] rfl rfl];show fin (exs (tb s) (Qa (tb s) (n+1)) 100 b45 [some (.str w),some (.ref c),some (.ref l)] hs)=_;rw [QhC ne];have c1:=YF (s:=s) (n:=n) ho hc;have xl:=Yp ho;have bj:=(Q0 (ts:=ts)).1;generalize txt n0 n1 n2 n3 n4=x at c1 xl ⊢;generalize Qj [59,32] ts=j at c2 bj ⊢
 have a1:=YM (hs:=hs) (x:=w) (y:=[59,32,99,97,115,116,32]) (by simp;lia)
 have a2:=YM (hs:=hs) (x:=w++[59,32,99,97,115,116,32]) (y:=x) (by simp;lia)
 have a3:=YM (hs:=hs) (x:=w++[59,32,99,97,115,116,32]++x) (y:=[59,32]) (by simp;lia)
 have a4:=YM (hs:=h1) (x:=w++[59,32,99,97,115,116,32]++x++[59,32]) (y:=j) (by simp;lia)
 generalize w++[59,32,99,97,115,116,32]++x++[59,32]++j=t4 at a4 ⊢;generalize w++[59,32,99,97,115,116,32]++x++[59,32]=t3 at a3 a4;generalize w++[59,32,99,97,115,116,32]++x=t2 at a2 a3;generalize w++[59,32,99,97,115,116,32]=t1 at a1 a2;generalize Qa (tb s) (n+1)=cf at c1 c2 ⊢;generalize tb s=T;simp [b45,yy,evs,evO,Ql,Qd,eq_int,Qi,Qk,opU,bb,slU,fin,c1,c2,a1,a2,a3,a4]
theorem okS(h0:0<=i)(h1:i<10 ^ 18+10):Ok i:=⟨h0,by lia⟩
theorem ok0:Ok 0:=⟨by decide,by decide⟩
theorem ok3(y:Int):Ok (y % 3):=okS (by lia) (by lia)
noncomputable def IO(u:U):Prop:=∃i,u=.int i 0/\Ok i
theorem Qny:∀{us:List U},us.length=5->(∀u,u∈us->IO u)->∃n0 n1 n2 n3 n4,us=nums n0 n1 n2 n3 n4/\Oks n0 n1 n2 n3 n4
 | [a,b,c,d,e],_,h=>by
  obtain⟨n0,rfl,o0⟩:=h a (by simp)
  obtain⟨n1,rfl,o1⟩:=h b (by simp)
  obtain⟨n2,rfl,o2⟩:=h c (by simp)
  obtain⟨n3,rfl,o3⟩:=h d (by simp)
  obtain⟨n4,rfl,o4⟩:=h e (by simp)
  exact⟨n0,n1,n2,n3,n4,rfl,o0,o1,o2,o3,o4⟩
theorem Qa8{v:U}(l:us.length=5)(h:∀u,u∈us->IO u)(hv:IO v):∃n0 n1 n2 n3 n4,us.set p v=nums n0 n1 n2 n3 n4/\Oks n0 n1 n2 n3 n4:=Qny (by rw [List.length_set];exact l) fun u m=>(List.mem_or_eq_of_mem_set m).elim (h u) fun e=>e▸hv
theorem Qmw{a:Int}(h:Ok a):∀u,u∈nums a 0 0 0 0->IO u:=fun u m=>by
 simp only [nums,List.mem_cons,List.not_mem_nil,or_false]at m
 rcases m with rfl|rfl|rfl|rfl|rfl
 ·exact⟨_,rfl,h⟩
 all_goals exact⟨_,rfl,ok0⟩
theorem ix5(h0:0<=j)(h1:j<5):ixU 5 j=some j.toNat:=by simp [ixU,h0,h1]
theorem QaB{x:Int}:∃h1 r n0 n1 n2 n3 n4,Kp hs h1/\hs.length<=r/\h1[r]?=some (.tup (nums n0 n1 n2 n3 n4))/\Oks n0 n1 n2 n3 n4/\Qa (tb s) (n+1) 34 [.int x 0] hs=some (.ref r,h1):=by
 rw [Qe fnL[34] rfl rfl];show ∃h1 r n0 n1 n2 n3 n4,_/\_/\_/\_/\fin (exs (tb s) (Qa (tb s) n) 100 b34 [some (.int x 0),none,none] hs)=_;generalize Qa (tb s) n=cf;generalize tb s=T
 have s20:Qs 20=true:=by decide
 have s48:Qs 48271=true:=by decide
 have pw:QkC (.int 10 0) (.int 18 0)=some (.int 1000000000000000000 0):=rfl
 rcases (show x % 4=0\/x % 4=1\/x % 4=2\/x % 4=3 by lia)with z|z|z|z
 ·refine⟨hs++[.tup (nums (x / 4 % 6) 0 0 0 0)],hs.length,_,_,_,_,_,Kp.app _ _,Nat.le_refl _,at0,⟨okS (by lia) (by lia),ok0,ok0,ok0,ok0⟩,?_⟩
  simp [b34,yy,evs,evO,Ql,Qd,Qo,eq_int,Qi,Qk,opU,Qm,bb,slU,fin,Yk,JZ,z,nums]
 ·obtain⟨n0,n1,n2,n3,n4,e,o⟩:=Qa8 (p:=(1+x / 4 % 4).toNat) rfl (Qmw (ok3 (x / 4 / 4))) ⟨1+x / 4 / 12 % 3,rfl,okS (by lia) (by lia)⟩
  refine⟨hs++[.lst (nums n0 n1 n2 n3 n4),.tup (nums n0 n1 n2 n3 n4)],hs.length+1,n0,n1,n2,n3,n4,Kp.app _ _,Nat.le_add_right _ _,at1,o,?_⟩;rw [<-e]
  have i5:=ix5 (j:=1+x / 4 % 4) (by lia) (by lia)
  simp [b34,yy,evs,evO,Ql,Qd,Qo,eq_int,Qi,Qk,opU,Qm,bb,slU,fin,Yk,JZ,z,nums,QhW,at0,QdB,i5,gz,Q8]
 ·refine⟨hs++[.lst [.int 1 0,.int 3 0,.int 9 0,.int 27 0,.int 81 0],.lst [.int 1 0,.int 3 0,.int 9 0,.int 27 0,.int 81 0],.lst [.int 1 0,.int 3 0,.int 9 0,.int 27 0,.int 81 0],.lst [.int 1 0,.int 3 0,.int 9 0,.int 27 0,.int 81 0],.lst [.int 1 0,.int 3 0,.int 9 0,.int 27 0,.int 81 0],.lst (nums (x / 4 / 1 % 3) (x / 4 / 3 % 3) (x / 4 / 9 % 3) (x / 4 / 27 % 3) (x / 4 / 81 % 3)),.tup (nums (x / 4 / 1 % 3) (x / 4 / 3 % 3) (x / 4 / 9 % 3) (x / 4 / 27 % 3) (x / 4 / 81 % 3))],hs.length+6,x / 4 / 1 % 3,x / 4 / 3 % 3,x / 4 / 9 % 3,x / 4 / 27 % 3,x / 4 / 81 % 3,Kp.app _ _,Nat.le_add_right _ _,?_,⟨ok3 _,ok3 _,ok3 _,ok3 _,ok3 _⟩,?_⟩
  ·rw [List.getElem?_append_right (Nat.le_add_right _ _),Nat.add_sub_cancel_left];rfl
  ·simp [b34,yy,evs,evO,Ql,Qd,Qo,eq_int,Qi,Qk,opU,Qm,bb,slU,fin,Yk,JZ,z,nums,s20,Zt,itm,tgt,tgN,Qdi,JO,atU,ixU,Q8]
 ·obtain⟨n0,n1,n2,n3,n4,e,o⟩:=Qa8 (p:=(x / 4 % 5).toNat) rfl (Qmw ok0) ⟨x / 4 / 5*48271 % 1000000000000000000,rfl,okS (by lia) (by lia)⟩
  refine⟨hs++[.lst (nums n0 n1 n2 n3 n4),.tup (nums n0 n1 n2 n3 n4)],hs.length+1,n0,n1,n2,n3,n4,Kp.app _ _,Nat.le_add_right _ _,at1,o,?_⟩;rw [<-e]
  have i5:=ix5 (j:=x / 4 % 5) (by lia) (by lia)
  simp [b34,yy,evs,evO,Ql,Qd,Qo,eq_int,Qi,Qk,opU,Qm,bb,slU,fin,Yk,JZ,QjV,s48,pw,z,nums,QhW,at0,QdB,i5,gz,Q8]
noncomputable def QeM:List S:=match b42 with
 | [_,.loop _ _ b,_]=>b
 | _=>[]
theorem Qe2:b42=[.set 1 (.lst []),.loop (.name 2) (.seq (.var 0)) QeM,.ret (.bm .join (.c (.str [59,32])) [.var 1])]:=rfl
noncomputable def Qkk:E:=.comp (.seq (.ix (.var 2) (.var 5))) false none (.call 41 [.lst [.var 6]])
noncomputable def Qgh:List S:=[.set 3 (.lst [.op .Add (.op .Add (.c (.str [114,101,115,116,32,91])) (.call 41 [.ix (.var 2) (.c (.int 3 0))])) (.c (.str [93]))]),.set 4 (.comp (.seq (.lst [.c (.int 1 0),.c (.int 4 0)])) false none Qkk),.expr (.bm .append (.var 1) [.op .Add (.c (.str [114,111,119,32])) (.bm .join (.c (.str [44,32])) [.op .Add (.op .Add (.ix (.var 4) (.c (.int 0 0))) (.var 3)) (.ix (.var 4) (.c (.int 1 0)))])])]
noncomputable def Qgi:List S:=[.expr (.bm .append (.var 1) [.op .Add (.op .Add (.c (.str [114,111,119,32])) (.call 41 [.ix (.var 2) (.c (.int 1 0))])) (.ix (.lst [.c (.str []),.c (.str [32,116,117,114,110])]) (.bi .int [.ix (.var 2) (.c (.int 2 0))]))])]
noncomputable def QiI:List S:=[.expr (.bm .append (.var 1) [.op .Add (.op .Add (.op .Add (.call 40 [.ix (.var 2) (.c (.int 1 0))]) (.c (.str [32,116,105,109,101,115,32,40]))) (.call 42 [.ix (.var 2) (.c (.int 2 0))])) (.c (.str [41]))])]
theorem Qaq:QeM=[.ite (.cmp .Eq (.ix (.var 2) (.c (.int 0 0))) (.c (.str ZN))) QiI [.ite (.cmp .Eq (.bi .len [.var 2]) (.c (.int 3 0))) Qgi Qgh]]:=rfl
section

theorem QkZ{r:Nat}{B:List S}(hq:hs[q]?=some (.tup (.str ZN::ys))):ex T cf (d+20) (.ite (.cmp .Eq (.ix (.var 2) (.c (.int 0 0))) (.c (.str ZN))) A B) [some (.ref p),some (.ref a),some (.ref q),o3,o4] hs=exs T cf (d+19) A [some (.ref p),some (.ref a),some (.ref q),o3,o4] hs:=by
 have e:atU (U.str ZN::ys) 0=some (.str ZN):=by simp [atU,ixU]
 simp [yy,evs,evO,Ql,Qd,eq_int,Qi,Qk,opU,Qm,bb,slU,fin,eqs,hq,e]
theorem QiQ{B:List S}(hq:hs[q]?=some (.tup (.str QU::ys))):ex T cf (d+20) (.ite (.cmp .Eq (.ix (.var 2) (.c (.int 0 0))) (.c (.str ZN))) A B) [some (.ref p),some (.ref a),some (.ref q),o3,o4] hs=exs T cf (d+19) B [some (.ref p),some (.ref a),some (.ref q),o3,o4] hs:=by
 have e:atU (U.str QU::ys) 0=some (.str QU):=by simp [atU,ixU]
 have ne:¬QU=ZN:=by decide
 simp [yy,evs,evO,Ql,Qd,eq_int,Qi,Qk,opU,Qm,bb,slU,fin,eqs,hq,e,ne]
theorem QiR{B:List S}(hq:hs[q]?=some (.tup ys))(b:Bool)(hb:decide (ys.length=3)=b):ex T cf (d+20) (.ite (.cmp .Eq (.bi .len [.var 2]) (.c (.int 3 0))) A B) [some (.ref p),some (.ref a),some (.ref q),o3,o4] hs=exs T cf (d+19) (if b=true then A else B) [some (.ref p),some (.ref a),some (.ref q),o3,o4] hs:=by
 have e:decide ((ys.length:Int)=3)=b:=by rw [<-hb];exact decide_eq_decide.mpr (by lia)
 have eb:biU T .len [.ref q] hs=some (.int ys.length 0,hs):=by simp [Zw,Q8,hq]
 have ec:Qo T .Eq (.int ys.length 0) (.int 3 0) hs=some b:=by rw [eqi,e]
 cases b<;>simp [yy,evs,evO,Ql,Qd,eq_int,Qi,Qk,opU,Qm,slU,fin,eb,ec]
end
section

theorem Qlp(hq:hs[q]?=some (.tup [.str ZN,.ref r,.ref l]))(hA:hs[a]?=some (.lst xs))(ha:h1[a]?=some (.lst xs))(ln:xs.length<1000000)(c2:cf 40 [.ref r] hs=some (.str x,hs))(c1:cf 42 [.ref l] hs=some (.str t,h1))(b:t.length+x.length+9<=1000000):
  exs (tb s) cf (d+30) QeM [some (.ref p),some (.ref a),some (.ref q),o3,o4] hs=some (.next,[some (.ref p),some (.ref a),some (.ref q),o3,o4],h1.set a (O.lst (xs++[U.str (x++[32,116,105,109,101,115,32,40]++t++[41])]))):=by
 rw [Qaq,QC,QkZ (r:=0) (d:=d+9) hq]
 have a1:=YM (hs:=hs) (x:=x) (y:=[32,116,105,109,101,115,32,40]) (by simp;lia)
 have a2:=YM (hs:=h1) (x:=x++[32,116,105,109,101,115,32,40]) (y:=t) (by simp;lia)
 have a3:=YM (hs:=h1) (x:=x++[32,116,105,109,101,115,32,40]++t) (y:=[41]) (by simp;lia)
 generalize x++[32,116,105,109,101,115,32,40]++t++[41]=t3 at a3 ⊢;generalize x++[32,116,105,109,101,115,32,40]++t=t2 at a2 a3;generalize x++[32,116,105,109,101,115,32,40]=t1 at a1 a2;generalize tb s=T;simp [QiI,yy,evs,evO,Ql,Qd,eq_int,Qi,Qk,opU,bb,slU,fin,hq,atU,ixU,Zd,ha,hA,bL,bmU,Zp,ln,c1,c2,a1,a2,a3]
theorem Qks{b:Bool}(hq:hs[q]?=some (.tup [.str QU,.ref l,.bl b]))(k:Kp hs h1)(hA:hs[a]?=some (.lst xs))(ln:xs.length<1000000)(c1:cf 41 [.ref l] hs=some (.str (Qj [44,32] ts),h1))(bd:cst ts<=900000):
  exs (tb s) cf (d+30) QeM [some (.ref p),some (.ref a),some (.ref q),o3,o4] hs=some (.next,[some (.ref p),some (.ref a),some (.ref q),o3,o4],(h1++[O.lst [.str [],.str [32,116,117,114,110]]]).set a (O.lst (xs++[U.str (rT ts b)]))):=by
 rw [Qaq,QC,QiQ (d:=d+9) hq,QC,QiR (d:=d+7) hq true rfl,if_pos rfl];have ha:=k _ _ hA;have hq1:=k _ _ hq;simp only [Hg]at ha hq1;have ha':=Qx (r:=[O.lst [.str [],.str [32,116,117,114,110]]]) ha;have hq':=Qx (r:=[O.lst [.str [],.str [32,116,117,114,110]]]) hq1;have h0:(h1++[O.lst [.str [],.str [32,116,117,114,110]]])[h1.length]?=some (.lst [.str [],.str [32,116,117,114,110]]):=at0;have bj:=(Qy (ts:=ts)).1
 have a1:=YM (hs:=h1) (x:=[114,111,119,32]) (y:=Qj [44,32] ts) (by simp;lia)
 generalize hG:h1++[O.lst [.str [],.str [32,116,117,114,110]]]=G at ha' hq' h0 ⊢
 have a2:∀e:List Nat,e.length<=5->Qm (.str ([114,111,119,32]++Qj [44,32] ts)) (.str e) G=some (.str ([114,111,119,32]++Qj [44,32] ts++e),G):=fun e he=>YM (by simp;lia)
 have a3:=a2 [32,116,117,114,110] (by decide)
 have a4:=a2 [] (by decide)
 unfold rT;generalize [114,111,119,32]++Qj [44,32] ts=t1 at a1 a3 a4 ⊢;generalize tb s=T
 cases b with
 | true=>simp [Qgi,yy,evs,evO,Ql,Qd,eq_int,Qi,Qk,opU,bb,slU,fin,hq,hq',hG,h0,atU,ixU,Zd,hA,ha',bL,bmU,Zp,ln,c1,a1,a3]
 | false=>simp [Qgi,yy,evs,evO,Ql,Qd,eq_int,Qi,Qk,opU,bb,slU,fin,hq,hq',hG,h0,atU,ixU,Zd,hA,ha',bL,bmU,Zp,ln,c1,a1,a4]
theorem QhE{D:Nat}{o0:Option U}(hq:hs[q]?=some (.tup ys))(hk:atU ys (k:Int)=some (.ref l))(hl:hs[l]?=some (.lst us))(hP:PySem.Paired (LP (Hg hs) D) us ts)(b:cst ts<=900000):
  ∃h1 r,Kp hs h1/\h1[r]?=some (.lst (ts.map .str))/\ev (tb s) (Qa (tb s) (n+D+1)) (d+20) Qkk [o0,o1,some (.ref q),o3,o4,some (.int (k:Int) 0)] hs=some (.ref r,h1):=by
 have ul:=QJ hP;have cl:=QQ (ts:=ts)
 obtain⟨vs,h2,e2,rfl,k2⟩:=Y7 (T:=tb s) (cf:=Qa (tb s) (n+D+1)) (d:=d+18) (p:=l) (us:=us) (e:=.ix (.var 2) (.var 5)) (el:=.call 41 [.lst [.var 6]]) (ρ:=[o0,o1,some (.ref q),o3,o4,some (.int (k:Int) 0)]) (h0:=hs) (hs:=hs)
  (fun i acc h=>acc=(ts.take i).map U.str/\Kp hs h)
  (by
   generalize Qa (tb s) (n+D+1)=cf;generalize tb s=T
   simp [yy,evs,evO,Ql,Qd,Qo,eq_int,Qi,Qk,opU,Qm,bb,slU,fin,hq,hk]) hl (by lia)
  (fun i acc h zz=>by
    obtain⟨e,kk⟩:=zz
    exact⟨kk _ _ hl,by rw [e];simp;lia⟩)
  (fun i u hu acc h zz=>by
   obtain⟨e,kk⟩:=zz;obtain⟨t,et,hu⟩:=ZS hP hu;have bt:=ZH et;have k1:Kp h (h++[.lst [u]]):=Kp.app _ _
   obtain⟨h1,k2,c⟩:=QjY (s:=s) (n:=n) (p:=h.length) (us:=[u]) (ts:=[t]) (hs:=h++[.lst [u]]) at0 (.cons (LP.mono (kk.trans k1) hu) .nil) (by simp [cst];lia)
   refine⟨.str t,h1,?_,?_,(kk.trans k1).trans k2⟩
   ·generalize Qa (tb s) (n+D+1)=cf at c ⊢;generalize tb s=T;simp [yy,evs,evO,Ql,Qd,Qo,eq_int,Qi,Qk,opU,Qm,bb,slU,fin,c,Qj]
   ·rw [e,QX et,List.map_append];rfl)
  ⟨rfl,Kp.refl _⟩
 rw [ul,List.take_length]at e2;exact⟨_,_,k2.trans (Kp.app _ _),at0,e2⟩
end
section

theorem Qfa{a b:Nat}(c1:ev T cf (d+2) el (ρ++[some (.int i 0)]) (hs++[.lst [.int i 0,.int j 0]])=some (u,h1))(g1:h1[hs.length]?=some (.lst [.int i 0,.int j 0]))(c2:ev T cf (d+2) el (ρ++[some (.int j 0)]) h1=some (w,h2))(g2:h2[hs.length]?=some (.lst [.int i 0,.int j 0])):
  ev T cf (d+3) (.comp (.seq (.lst [.c (.int i 0),.c (.int j 0)])) false none el) ρ hs=some (.ref h2.length,h2++[.lst [u,w]]):=by
 have sx:∀x:U,(ρ++[none]).set ρ.length (some x)=ρ++[some x]:=fun x=>by
  rw [List.set_append_right _ _ (Nat.le_refl _),Nat.sub_self];rfl
 have g0:(hs++[O.lst [.int i 0,.int j 0]])[hs.length]?=some (.lst [.int i 0,.int j 0]):=at0;rw [QbP];simp [Ql,Zu,y_c,evs,QV,wkS,QM,Qd,g0,Zt,itm,tgt,tgN,Qdi,sx,JO,c1,g1,c2,g2]
theorem QfD{D:Nat}{us2 us3:List U}{ts2 ts3:List (List Nat)}(hq:hs[q]?=some (.tup [.str QU,.ref l,.bl false,.ref l2,.ref l3]))(hA:hs[a]?=some (.lst xs))(ln:xs.length<1000000)
  (hl:hs[l]?=some (.lst us)) (hP:PySem.Paired (LP (Hg hs) D) us ts) (hl2:hs[l2]?=some (.lst us2)) (hP2:PySem.Paired (LP (Hg hs) D) us2 ts2) (hl3:hs[l3]?=some (.lst us3)) (hP3:PySem.Paired (LP (Hg hs) D) us3 ts3) (bd:cst (r5 ts ts2 ts3)<=900000):
  ∃h1 o3' o4',Kp hs h1/\exs (tb s) (Qa (tb s) (n+D+1)) (d+40) QeM [some (.ref p),some (.ref a),some (.ref q),o3,o4] hs=some (.next,[some (.ref p),some (.ref a),some (.ref q),o3',o4'],h1.set a (O.lst (xs++[U.str (rT (r5 ts ts2 ts3) false)]))):=by
 have b5:cst (r5 ts ts2 ts3)=cst ts+((Qu ts2).length+2)+cst ts3:=by simp [r5,Zs,cst];lia
 have b2:=(Qy (ts:=ts2)).2
 have rl:(Qu ts2).length=(Qj [44,32] ts2).length+7:=by simp [Qu]
 have l1:=QQ (ts:=ts);have l3':=QQ (ts:=ts3);rw [Qaq,QC,QiQ (d:=d+19) hq,QC,QiR (d:=d+17) hq false rfl,if_neg Bool.false_ne_true]
 obtain⟨h1,k1,c1⟩:=QjY (s:=s) (n:=n) hl2 hP2 (by lia)
 have kR:Kp h1 (h1++[.lst [.str (Qu ts2)]]):=Kp.app _ _
 have s1:=YM (hs:=h1) (x:=[114,101,115,116,32,91]) (y:=Qj [44,32] ts2) (by simp;lia)
 have s2:Qm (.str ([114,101,115,116,32,91]++Qj [44,32] ts2)) (.str [93]) h1=some (.str (Qu ts2),h1):=YM (by simp;lia)
 generalize [114,101,115,116,32,91]++Qj [44,32] ts2=j1 at s1 s2
 have x1:ex (tb s) (Qa (tb s) (n+D+1)) (d+35) (.set 3 (.lst [.op .Add (.op .Add (.c (.str [114,101,115,116,32,91])) (.call 41 [.ix (.var 2) (.c (.int 3 0))])) (.c (.str [93]))])) [some (.ref p),some (.ref a),some (.ref q),o3,o4] hs=some (.next,[some (.ref p),some (.ref a),some (.ref q),some (.ref h1.length),o4],h1++[.lst [.str (Qu ts2)]]):=by
  generalize Qa (tb s) (n+D+1)=cf at c1 ⊢;generalize tb s=T;simp [yy,evs,evO,Ql,Qd,eq_int,Qi,Qk,opU,bb,slU,fin,hq,atU,ixU,c1,s1,s2]
 have hm:(h1++[O.lst [.str (Qu ts2)]])[h1.length]?=some (.lst [.str (Qu ts2)]):=at0;generalize hH:h1++[O.lst [.str (Qu ts2)]]=H at kR x1 hm;have kH:=k1.trans kR;have kA:Kp H (H++[.lst [.int 1 0,.int 4 0]]):=Kp.app _ _;have kB:=kH.trans kA
 obtain⟨h3,r1,k3,g3,c3⟩:=QhE (s:=s) (n:=n) (d:=d+12) (D:=D) (k:=1) (o0:=some (.ref p)) (o1:=some (.ref a)) (o3:=some (.ref h1.length)) (o4:=o4) (kB _ _ hq) (by simp [atU,ixU]) (kB _ _ hl) (Qb (fun _ _ z=>LP.mono kB z) hP) (by lia)
 have kC:=kB.trans k3
 obtain⟨h4,r4,k4,g4,c4⟩:=QhE (s:=s) (n:=n) (d:=d+12) (D:=D) (k:=4) (o0:=some (.ref p)) (o1:=some (.ref a)) (o3:=some (.ref h1.length)) (o4:=o4) (kC _ _ hq) (by simp [atU,ixU]) (kC _ _ hl3) (Qb (fun _ _ z=>LP.mono kC z) hP3) (by lia)
 have x2:ex (tb s) (Qa (tb s) (n+D+1)) (d+34) (.set 4 (.comp (.seq (.lst [.c (.int 1 0),.c (.int 4 0)])) false none Qkk)) [some (.ref p),some (.ref a),some (.ref q),some (.ref h1.length),o4] H=some (.next,[some (.ref p),some (.ref a),some (.ref q),some (.ref h1.length),some (.ref h4.length)],h4++[.lst [.ref r1,.ref r4]]):=by
  rw [ZI,Qfa (d:=d+30) (a:=0) (b:=0) c3 (k3 _ _ at0) c4 (k4 _ _ (k3 _ _ at0)),QV];rfl
 have kD:Kp h4 (h4++[.lst [.ref r1,.ref r4]]):=Kp.app _ _;have h0:(h4++[O.lst [.ref r1,.ref r4]])[h4.length]?=some (.lst [.ref r1,.ref r4]):=at0;generalize h4++[O.lst [.ref r1,.ref r4]]=F at kD h0 x2;have kE:=kC.trans (k4.trans kD)
 have q1:Qm (.ref r1) (.ref h1.length) F=some (.ref F.length,F++[.lst (ts.map .str++[.str (Qu ts2)])]):=QcY (kD _ _ (k4 _ _ g3)) (kD _ _ (k4 _ _ (k3 _ _ (kA _ _ hm)))) (by simp;lia)
 have kF:Kp F (F++[.lst (ts.map .str++[.str (Qu ts2)])]):=Kp.app _ _;have hf:(F++[O.lst (ts.map .str++[.str (Qu ts2)])])[F.length]?=some (.lst (ts.map .str++[.str (Qu ts2)])):=at0;generalize F++[O.lst (ts.map .str++[.str (Qu ts2)])]=F1 at q1 kF hf
 have e5:(r5 ts ts2 ts3).map U.str=ts.map .str++[.str (Qu ts2)]++ts3.map .str:=by simp [r5]
 have q2:Qm (.ref F.length) (.ref r4) F1=some (.ref F1.length,F1++[.lst ((r5 ts ts2 ts3).map .str)]):=by
  rw [e5]
  exact QcY hf (kF _ _ (kD _ _ g4)) (by simp;lia)
 have h01:=kF _ _ h0;have kG:Kp F1 (F1++[.lst ((r5 ts ts2 ts3).map .str)]):=Kp.app _ _;have gg:(F1++[O.lst ((r5 ts ts2 ts3).map .str)])[F1.length]?=some (.lst ((r5 ts ts2 ts3).map .str)):=at0;have lt:=QZ bd;have bj:=(Qy (ts:=r5 ts ts2 ts3)).1;generalize F1++[O.lst ((r5 ts ts2 ts3).map .str)]=F2 at q2 kG gg;have hz:=(kE.trans (kF.trans kG)) _ _ hA;have hz1:=kE _ _ hA;simp only [Hg]at hz h01 hz1;refine⟨F2,some (.ref h1.length),some (.ref h4.length),kE.trans (kF.trans kG),?_⟩
 have a1:=YM (hs:=F2) (x:=[114,111,119,32]) (y:=Qj [44,32] (r5 ts ts2 ts3)) (by simp;lia)
 unfold rT;rw [if_neg Bool.false_ne_true,List.append_nil];generalize [114,111,119,32]++Qj [44,32] (r5 ts ts2 ts3)=t1 at a1 ⊢;generalize r5 ts ts2 ts3=R at *
 show(match (match exs (tb s) (Qa (tb s) (n+D+1)) (d+35+1) Qgh _ hs with|some (.next,ρ1,h1)=>_|x=>x)with|some (.next,ρ1,h1)=>_|x=>x)=_
 unfold Qgh;rw [Qp x1,Qp x2];generalize Qa (tb s) (n+D+1)=cf;generalize tb s=T;simp [yy,evs,evO,Ql,Qd,eq_int,Qi,Qk,opU,bb,slU,fin,Zd,bmU,Zp,bL,bS,ZA,QM,hz,hz1,h0,h01,atU,ixU,q1,q2,gg,QH,lt,a1,ln]
end
section

theorem Qlj:∀{d n p:Nat} {us:List U} {ts:List (List Nat)} {hs:Hs},hs[p]?=some (.lst us)->PySem.Paired (LI (Hg hs) d) us ts->cst ts<=900000->∃h1,Kp hs h1/\Qa (tb s) (n+d+7) 42 [.ref p] hs=some (.str (Qj [59,32] ts),h1):=by
 intro d
 induction d with
 | zero =>
  intro n p us ts hs hp hP hc
  cases hP with
  | cons z _=>exact z.elim
  | nil =>
   refine⟨hs++[.lst []],Kp.app _ _,?_⟩;rw [Qe fnL[42] rfl rfl];show fin (exs (tb s) (Qa (tb s) (n+0+6)) 100 b42 [some (.ref p),none,none,none,none] hs)=_;rw [Qe2];have hp':=Qx (r:=[.lst []]) hp;generalize Qa (tb s) (n+0+6)=cf;generalize tb s=T;simp [yy,evs,evO,Ql,Qd,Qo,eq_int,Qi,Qk,opU,Qm,bb,slU,fin,wkS,QM,hp',JL,itm,Zd,bmU,Zp,bL,bS,ZA,at0,Yb,Qj]
 | succ d ih =>
  intro n p us ts hs hp hP hc;rw [Qe fnL[42] rfl rfl];show ∃h1,_/\fin (exs (tb s) (Qa (tb s) (n+d+7)) 100 b42 [some (.ref p),none,none,none,none] hs)=_;rw [Qe2];have x1:ex (tb s) (Qa (tb s) (n+d+7)) 99 (.set 1 (.lst [])) [some (.ref p),none,none,none,none] hs=some (.next,[some (.ref p),some (.ref hs.length),none,none,none],hs++[.lst []]):=rfl;rw [Qp x1];have ul:=QJ hP;have cl:=QQ (ts:=ts)
  obtain⟨ρ2,h2,x2,o2,o3,o4,rfl,k2,g2⟩:=ZZ (T:=tb s) (cf:=Qa (tb s) (n+d+7)) (d:=96) (j:=0) (k:=2) (p:=p) (us:=us) (body:=QeM) (ρ:=[some (.ref p),some (.ref hs.length),none,none,none]) (hs:=hs++[.lst []])
   (fun i ρ h=>∃o2 o3 o4,ρ=[some (.ref p),some (.ref hs.length),o2,o3,o4]/\Kp hs h/\h[hs.length]?=some (.lst ((ts.take i).map .str))) rfl (Qx hp) (fun i ρ h zz=>by
    obtain⟨_,_,_,_,k,_⟩:=zz
    exact k _ _ hp)
   (fun i u hu ρ h zz=>by
    obtain⟨o2,o3,o4,e,k,g⟩:=zz;subst e;obtain⟨t,et,q,rfl,hz⟩:=ZS hP hu;have bt:=ZH et
    have lx:((ts.take i).map U.str).length<1000000:=by simp;lia
    have sn:((ts.take i).map U.str)++[.str t]=(ts.take (i+1)).map U.str:=by rw [QX et,List.map_append];rfl
    have mo:∀{us:List U} {ts:List (List Nat)},PySem.Paired (LP (Hg hs) 5) us ts->PySem.Paired (LP (Hg h) 5) us ts:=fun z=>Qb (fun _ _ z=>LP.mono k z) z
    have en:∀h1 o3' o4',Kp h h1->exs (tb s) (Qa (tb s) (n+d+7)) 97 QeM [some (.ref p),some (.ref hs.length),some (.ref q),o3,o4] h=some (.next,[some (.ref p),some (.ref hs.length),some (.ref q),o3',o4'],h1.set hs.length (O.lst ((ts.take i).map U.str++[U.str t])))->∃ρ2 h2,exs (tb s) (Qa (tb s) (n+d+7)) 97 QeM [some (.ref p),some (.ref hs.length),some (.ref q),o3,o4] h=some (.next,ρ2,h2)/\∃o2 o3 o4,ρ2=[some (.ref p),some (.ref hs.length),o2,o3,o4]/\Kp hs h2/\h2[hs.length]?=some (.lst ((ts.take (i+1)).map .str)):=fun h1 o3' o4' k1 e=>by
     refine⟨_,_,e,_,_,_,rfl,(k.trans k1).put (Nat.le_refl _),?_⟩;rw [sn];exact List.getElem?_set_self (List.getElem?_eq_some_iff.mp (k1 _ _ g)).1
    rcases hz with⟨l,us',ts',b,e1,e2,e3,rfl⟩|⟨l,us1,ts1,l2,us2,ts2,l3,us3,ts3,e1,e2,e3,e4,e5,e6,e7,rfl⟩|⟨r,l,us',ts',n0,n1,n2,n3,n4,e1,e2,e3,e4,e5,rfl⟩
    ·have bl:=ZG (ts:=ts') (b:=b)
     obtain⟨h1,k1,c1⟩:=QjY (s:=s) (d:=5) (n:=n+d+1) (k _ _ e2) (mo e3) (by lia)
     exact en _ _ _ (k1.trans (Kp.app _ _)) (Qks (d:=67) (k _ _ e1) k1 g lx c1 (by lia))
    ·have bl:=ZG (ts:=r5 ts1 ts2 ts3) (b:=false)
     obtain⟨h1,o3',o4',k1,e⟩:=QfD (s:=s) (n:=n+d+1) (d:=57) (D:=5) (p:=p) (a:=hs.length) (o3:=o3) (o4:=o4) (k _ _ e1) g lx (k _ _ e2) (mo e3) (k _ _ e4) (mo e5) (k _ _ e6) (mo e7) (by lia)
     exact en _ _ _ k1 e
    ·have bl:=JX (ts:=ts') (x:=txt n0 n1 n2 n3 n4);have bj:=(Q0 (ts:=ts')).2;have c2:=YF (s:=s) (n:=n+d+6) e3 (k _ _ e2)
     obtain⟨h1,k1,c1⟩:=ih (n:=n) (k _ _ e4) (Qb (fun _ _ z=>LI.mono k z) e5) (by lia)
     exact en _ _ _ k1 (Qlp (d:=67) (k _ _ e1) g (k1 _ _ g) lx c2 c1 (by lia)))
   ⟨none,none,none,rfl,Kp.app _ _,at0⟩
  rw [Qp x2];rw [ul,List.take_length]at g2;have lt:=QZ hc;refine⟨h2,k2,?_⟩;generalize Qa (tb s) (n+d+7)=cf;generalize tb s=T;simp [yy,evs,evO,Ql,Qd,Qo,eq_int,Qi,Qk,opU,Qm,bb,slU,fin,Zd,bmU,Zp,bL,bS,ZA,QM,g2,QH,lt]
end
noncomputable def QeL:List S:=match b44 with
 | [_,.loop _ _ b,_]=>b
 | _=>[]
theorem Qe0:b44=[.set 1 (.lst []),.loop (.name 2) (.seq (.var 0)) QeL,.ret (.var 1)]:=rfl
theorem Qap:QeL=[.ite (.cmp .Eq (.ix (.var 2) (.c (.int 0 0))) (.c (.str ZN))) [.expr (.bm .append (.var 1) [.tup [.c (.str ZN),.ix (.var 2) (.c (.int 1 0)),.call 44 [.ix (.var 2) (.c (.int 2 0))]]])] [.ite (.cmp .Eq (.bi .len [.var 2]) (.c (.int 3 0))) [.expr (.bm .append (.var 1) [.tup [.c (.str QU),.call 43 [.ix (.var 2) (.c (.int 1 0))],.ix (.var 2) (.c (.int 2 0))]])] [.expr (.bm .append (.var 1) [.tup [.c (.str QU),.call 43 [.ix (.var 2) (.c (.int 1 0))],.c (.bl false),.call 43 [.ix (.var 2) (.c (.int 3 0))],.call 43 [.ix (.var 2) (.c (.int 4 0))]]])]]]:=rfl
section

theorem Qlo(hq:hs[q]?=some (.tup [.str ZN,.ref r,.ref l]))(hA:hs[a]?=some (.lst xs))(kk:Kp hs h1)(ln:xs.length<1000000)(c:cf 44 [.ref l] hs=some (.ref k,h1)):
  exs (tb s) cf (d+20) QeL [some (.ref p),some (.ref a),some (.ref q)] hs=some (.next,[some (.ref p),some (.ref a),some (.ref q)],(h1++[O.tup [U.str ZN,.ref r,.ref k]]).set a (O.lst (xs++[U.ref h1.length]))):=by
 rw [Qap];have ha':∀r,(h1++r)[a]?=some (.lst xs):=fun r=>Qx (kk _ _ hA);generalize tb s=T;simp [yy,evs,evO,Ql,Qd,eq_int,Qi,Qk,opU,Qm,bb,slU,fin,eqs,hq,atU,ixU,Zd,hA,ha',bL,bmU,Zp,ln,c]
theorem Qkr{b:Bool}(hq:hs[q]?=some (.tup [.str QU,.ref l,.bl b]))(hA:hs[a]?=some (.lst xs))(kk:Kp hs h1)(ln:xs.length<1000000)(c:cf 43 [.ref l] hs=some (.ref k,h1)):
  exs (tb s) cf (d+20) QeL [some (.ref p),some (.ref a),some (.ref q)] hs=some (.next,[some (.ref p),some (.ref a),some (.ref q)],(h1++[O.tup [U.str QU,.ref k,.bl b]]).set a (O.lst (xs++[U.ref h1.length]))):=by
 rw [Qap]
 have ne:¬QU=ZN:=by decide
 have hq1:=kk _ _ hq;simp only [Hg]at hq1;have ha':∀r,(h1++r)[a]?=some (.lst xs):=fun r=>Qx (kk _ _ hA);generalize tb s=T;simp [yy,evs,evO,Ql,Qd,eq_int,Qi,Qk,opU,Qm,bb,slU,fin,eqs,eqi,Q8,hq,hq1,ne,atU,ixU,Zd,hA,ha',bL,bmU,Zp,ln,c]
theorem QfC{k2 k3:Nat}{h3:Hs}(hq:hs[q]?=some (.tup [.str QU,.ref l,.bl false,.ref l2,.ref l3]))(hA:hs[a]?=some (.lst xs))(kk:Kp hs h1)(kk2:Kp h1 h2)(kk3:Kp h2 h3)(ln:xs.length<1000000)(c:cf 43 [.ref l] hs=some (.ref k,h1))(c2:cf 43 [.ref l2] h1=some (.ref k2,h2))(c3:cf 43 [.ref l3] h2=some (.ref k3,h3)):
  exs (tb s) cf (d+20) QeL [some (.ref p),some (.ref a),some (.ref q)] hs=some (.next,[some (.ref p),some (.ref a),some (.ref q)],(h3++[O.tup [U.str QU,.ref k,.bl false,.ref k2,.ref k3]]).set a (O.lst (xs++[U.ref h3.length]))):=by
 rw [Qap]
 have ne:¬QU=ZN:=by decide
 have hq1:=kk _ _ hq;have hq2:=kk2 _ _ hq1;simp only [Hg]at hq1 hq2;have ha':∀r,(h3++r)[a]?=some (.lst xs):=fun r=>Qx (kk3 _ _ (kk2 _ _ (kk _ _ hA)));generalize tb s=T;simp [yy,evs,evO,Ql,Qd,eq_int,Qi,Qk,opU,Qm,bb,slU,fin,eqs,eqi,Q8,hq,hq1,hq2,ne,atU,ixU,Zd,hA,ha',bL,bmU,Zp,ln,c,c2,c3]
theorem Qji:∀{d n p:Nat} {g:Gt} {us:List U} {ts:List (List Nat)} {hs:Hs},Ge g (Hg hs)->g p=some (.lst us)->PySem.Paired (LI g d) us ts->cst ts<=900000->∃h1 us',Kp hs h1/\h1[hs.length]?=some (.lst us')/\PySem.Paired (PI s (Nv g hs.length h1) d) us' ts/\Qa (tb s) (n+d+12) 44 [.ref p] hs=some (.ref hs.length,h1):=by
 intro d
 induction d with
 | zero =>
  intro n p g us ts hs hg hp hP hc;have hp:=hg _ _ hp
  cases hP with
  | cons z _=>exact z.elim
  | nil =>
   refine⟨hs++[.lst []],[],Kp.app _ _,at0,.nil,?_⟩;rw [Qe fnL[44] rfl rfl];show fin (exs (tb s) (Qa (tb s) (n+0+11)) 100 b44 [some (.ref p),none,none] hs)=_;rw [Qe0];have hp':=Qx (r:=[.lst []]) hp;generalize Qa (tb s) (n+0+11)=cf;generalize tb s=T;simp [yy,evs,evO,Ql,Qd,Qo,eq_int,Qi,Qk,opU,Qm,bb,slU,fin,wkS,QM,hp',JL,itm]
 | succ d ih =>
  intro n p g us ts hs hg hp hP hc;have hp:=hg _ _ hp;rw [Qe fnL[44] rfl rfl];show ∃h1 us',_/\_/\_/\fin (exs (tb s) (Qa (tb s) (n+d+12)) 100 b44 [some (.ref p),none,none] hs)=_;rw [Qe0];have x1:ex (tb s) (Qa (tb s) (n+d+12)) 99 (.set 1 (.lst [])) [some (.ref p),none,none] hs=some (.next,[some (.ref p),some (.ref hs.length),none],hs++[.lst []]):=rfl;rw [Qp x1];have ul:=QJ hP;have cl:=QQ (ts:=ts)
  have cp:∀{h l us ts},Kp hs h->hs.length<h.length->g l=some (.lst us)->PySem.Paired (LP g 5) us ts->cst ts<=900000->∃h1 us',Kp h h1/\h1[h.length]?=some (.lst us')/\PySem.Paired (PP s (Ng g hs.length h1) 5) us' ts/\Qa (tb s) (n+d+12) 43 [.ref l] h=some (.ref h.length,h1):=fun {h l us ts} k lh e z b=>by
   have go:=Qdf (h:=h) hg;obtain⟨h1,us',k1,g1,P1,c1⟩:=Qc5 (s:=s) (d:=5) (n:=n+d+2) (g:=Ng g hs.length h) (Qg6 hg k) (go _ _ e) (Qb (fun _ _ z=>LP.mono go z) z) b;exact⟨h1,us',k1,g1,Qb (fun _ _ z=>PP.mono (Qg5 k1 lh) z) P1,c1⟩
  obtain⟨ρ2,h2,x2,o,us2,rfl,k2,g2,P2⟩:=ZZ (T:=tb s) (cf:=Qa (tb s) (n+d+12)) (d:=96) (j:=0) (k:=2) (p:=p) (us:=us) (body:=QeL) (ρ:=[some (.ref p),some (.ref hs.length),none]) (hs:=hs++[.lst []])
   (fun i ρ h=>∃o us',ρ=[some (.ref p),some (.ref hs.length),o]/\Kp hs h/\h[hs.length]?=some (.lst us')/\PySem.Paired (PI s (Ng g hs.length h) (d+1)) us' (ts.take i)) rfl (Qx hp) (fun i ρ h zz=>by
    obtain⟨_,_,_,k,_⟩:=zz
    exact k _ _ hp)
   (fun i u hu ρ h zz=>by
    obtain⟨o,us1,e,k,ga,pA0⟩:=zz;subst e;obtain⟨t,et,q,rfl,hz⟩:=ZS hP hu;have bt:=ZH et;have lh:hs.length<h.length:=(List.getElem?_eq_some_iff.mp ga).1
    have lx:us1.length<1000000:=by
     have:=QJ pA0;simp at this;lia
    have sn:ts.take (i+1)=ts.take i++[t]:=QX et
    have en:∀h1 x,Kp h h1->PI s (Ng g hs.length (h1++[O.tup x])) (d+1) (.ref h1.length) t->exs (tb s) (Qa (tb s) (n+d+12)) 97 QeL [some (.ref p),some (.ref hs.length),some (.ref q)] h=some (.next,[some (.ref p),some (.ref hs.length),some (.ref q)],(h1++[O.tup x]).set hs.length (O.lst (us1++[U.ref h1.length])))->∃ρ2 h2,exs (tb s) (Qa (tb s) (n+d+12)) 97 QeL [some (.ref p),some (.ref hs.length),some (.ref q)] h=some (.next,ρ2,h2)/\∃o us',ρ2=[some (.ref p),some (.ref hs.length),o]/\Kp hs h2/\h2[hs.length]?=some (.lst us')/\PySem.Paired (PI s (Ng g hs.length h2) (d+1)) us' (ts.take (i+1)):=fun h1 x k1 z e=>by
     have kk:Kp h (h1++[O.tup x]):=k1.trans (Kp.app _ _);refine⟨_,_,e,_,_,rfl,(k.trans kk).put (Nat.le_refl _),List.getElem?_set_self (List.getElem?_eq_some_iff.mp (kk _ _ ga)).1,?_⟩;rw [Qde,sn];exact ZD (Qb (fun _ _ z=>PI.mono (YK kk) z) pA0) z
    have up:∀{h1:Hs} {x:List U},Ge (Ng g hs.length h1) (Ng g hs.length (h1++[O.tup x])):=YK (Kp.app _ _);have mo:∀{g g':Gt} {us:List U} {ts:List (List Nat)},Ge g g'->PySem.Paired (PP s g 5) us ts->PySem.Paired (PP s g' 5) us ts:=fun z y=>Qb (fun _ _ y=>PP.mono z y) y;have lt:∀{h1:Hs},Kp h h1->hs.length<h1.length:=fun k1=>(List.getElem?_eq_some_iff.mp (k1 _ _ ga)).1
    rcases hz with⟨l,us',ts',b,e1,e2,e3,rfl⟩|⟨l,us1',ts1,l2,us2,ts2,l3,us3,ts3,e1,e2,e3,e4,e5,e6,e7,rfl⟩|⟨r,l,us',ts',n0,n1,n2,n3,n4,e1,e2,e3,e4,e5,rfl⟩
    ·have bl:=ZG (ts:=ts') (b:=b)
     obtain⟨h1,us'',k1,g1,P1,c1⟩:=cp k lh e2 e3 (by lia)
     exact en h1 _ k1 ⟨_,rfl,.inl ⟨h.length,us'',ts',b,Zk (lt k1) at0,up _ _ (Zk lh g1),mo up P1,rfl⟩⟩ (Qkr (d:=77) (k _ _ (hg _ _ e1)) ga k1 lx c1)
    ·have bl:=ZG (ts:=r5 ts1 ts2 ts3) (b:=false)
     have b5:cst (r5 ts1 ts2 ts3)=cst ts1+((Qu ts2).length+2)+cst ts3:=by simp [r5,Zs,cst];lia
     have b2:=(Qy (ts:=ts2)).2
     have rl:(Qu ts2).length=(Qj [44,32] ts2).length+7:=by simp [Qu]
     obtain⟨h1,v1,k1,g1,P1,c1⟩:=cp k lh e2 e3 (by lia)
     obtain⟨h2,v2,k2,g2,P2,c2⟩:=cp (k.trans k1) (lt k1) e4 e5 (by lia)
     obtain⟨h3,v3,k3,g3,P3,c3⟩:=cp ((k.trans k1).trans k2) (lt (k1.trans k2)) e6 e7 (by lia)
     have l3:=lt ((k1.trans k2).trans k3);refine en h3 _ ((k1.trans k2).trans k3) ⟨_,rfl,.inr (.inl ⟨h.length,v1,ts1,h1.length,v2,ts2,h2.length,v3,ts3,Zk l3 at0,up _ _ (Zk lh (k3 _ _ (k2 _ _ g1))),mo up (mo (YK k3) (mo (YK k2) P1)),up _ _ (Zk (lt k1) (k3 _ _ g2)),mo up (mo (YK k3) P2),up _ _ (Zk (lt (k1.trans k2)) g3),mo up P3,rfl⟩)⟩ (QfC (d:=77) (k _ _ (hg _ _ e1)) ga k1 k2 k3 lx c1 c2 c3)
    ·have bl:=JX (ts:=ts') (x:=txt n0 n1 n2 n3 n4);have bj:=(Q0 (ts:=ts')).2;have go:=Qdf (h:=h) hg
     obtain⟨h1,us'',k1,g1,P1,c1⟩:=ih (n:=n) (g:=Ng g hs.length h) (Qg6 hg k) (go _ _ e4) (Qb (fun _ _ z=>LI.mono go z) e5) (by lia)
     exact en h1 _ k1 ⟨_,rfl,.inr (.inr ⟨r,h.length,us'',ts',n0,n1,n2,n3,n4,Zk (lt k1) at0,up _ _ (YK k1 _ _ (go _ _ e2)),e3,up _ _ (Zk lh g1),Qb (fun _ _ z=>PI.mono up (PI.mono (Qg5 k1 lh) z)) P1,rfl⟩)⟩ (Qlo (d:=77) (k _ _ (hg _ _ e1)) ga k1 lx c1))
   ⟨none,[],rfl,Kp.app _ _,at0,.nil⟩
  rw [Qp x2];rw [ul,List.take_length]at P2;refine⟨h2,us2,k2,g2,Qb (fun _ _ z=>PI.mono QjG z) P2,?_⟩;rw [QC,Yn,QF];rfl
end
noncomputable def scA:U->Bool
 | .str _=>true|.bl _=>true|.int _ _=>true|_=>false
noncomputable def Tr(g:Gt):Nat->U->Prop
 | 0,_=>False
 | d+1,u=>scA u=true\/∃p,u=.ref p/\((∃c fs,g p=some (.ins c fs)/\1<=c/\c<=9)\/∃us,(g p=some (.lst us)\/g p=some (.tup us))/\us.length<=1000000/\∀x,x∈us->Tr g d x)
noncomputable def Cp(g g':Gt):Nat->U->U->Prop
 | 0,_,_=>False
 | d+1,u,u'=>(scA u=true/\u'=u)\/∃p p',u=.ref p/\u'=.ref p'/\((∃c fs,g p=some (.ins c fs)/\g' p'=some (.ins c fs))\/(∃us us',g p=some (.lst us)/\g' p'=some (.lst us')/\PySem.Paired (Cp g g' d) us us')\/∃us us',g p=some (.tup us)/\g' p'=some (.tup us')/\PySem.Paired (Cp g g' d) us us')
theorem Tr.up{g:Gt}:∀{d:Nat} (k:Nat) {u:U},Tr g d u->Tr g (d+k) u
 | 0,_,_,z=>z.elim
 | d+1,k,u,z=>by
  rw [Nat.add_right_comm]
  rcases z with z|⟨p,e,z|⟨us,z,l,a⟩⟩
  ·exact .inl z
  ·exact .inr ⟨p,e,.inl z⟩
  ·exact .inr ⟨p,e,.inr ⟨us,z,l,fun x hx=>Tr.up k (a x hx)⟩⟩
theorem Tr.le{g:Gt}(l:d<=k)(z:Tr g d u):Tr g k u:=by
 have:=z.up (k-d)
 rwa [show d+(k-d)=k by lia]at this
theorem Cp.mono{g g1 g2:Gt}(h:Ge g1 g2):∀{d:Nat} {u u':U},Cp g g1 d u u'->Cp g g2 d u u'
 | 0,_,_,z=>z
 | d+1,u,u',z=>by
  rcases z with z|⟨p,p',e,e',⟨c,fs,a,b⟩|⟨us,us',a,b,c⟩|⟨us,us',a,b,c⟩⟩
  ·exact .inl z
  ·exact .inr ⟨p,p',e,e',.inl ⟨c,fs,a,h _ _ b⟩⟩
  ·exact .inr ⟨p,p',e,e',.inr (.inl ⟨us,us',a,h _ _ b,Qb (fun _ _ z=>Cp.mono h z) c⟩)⟩
  ·exact .inr ⟨p,p',e,e',.inr (.inr ⟨us,us',a,h _ _ b,Qb (fun _ _ z=>Cp.mono h z) c⟩)⟩
theorem Cp.sc{g g':Gt}(h:scA u=true)(z:Cp g g' d u u'):u'=u:=by
 cases d with
 | zero=>exact z.elim
 | succ d =>
  rcases z with⟨_,z⟩|⟨p,p',rfl,_⟩
  ·exact z
  ·cases h
theorem Cp.tup{g g':Gt}(h:g p=some (.tup us))(z:Cp g g' d (.ref p) u'):∃D p' us',u'=.ref p'/\g' p'=some (.tup us')/\PySem.Paired (Cp g g' D) us us':=by
 cases d with
 | zero=>exact z.elim
 | succ d =>
  rcases z with⟨z,_⟩|⟨p,p',e,e',z⟩
  ·cases z
  ·cases e
   rcases z with⟨c,fs,a,b⟩|⟨us,us',a,b,c⟩|⟨us,us',a,b,c⟩<;>rw [h]at a<;>cases a
   exact⟨d,p',us',e',b,c⟩
theorem Cp.lst{g g':Gt}(h:g p=some (.lst us))(z:Cp g g' d (.ref p) u'):∃D p' us',u'=.ref p'/\g' p'=some (.lst us')/\PySem.Paired (Cp g g' D) us us':=by
 cases d with
 | zero=>exact z.elim
 | succ d =>
  rcases z with⟨z,_⟩|⟨p,p',e,e',z⟩
  ·cases z
  ·cases e
   rcases z with⟨c,fs,a,b⟩|⟨us,us',a,b,c⟩|⟨us,us',a,b,c⟩<;>rw [h]at a<;>cases a
   exact⟨d,p',us',e',b,c⟩
theorem Cp.ins{g g':Gt}{fs:List (Nat×U)}(h:g p=some (.ins c fs))(z:Cp g g' d (.ref p) u'):∃p',u'=.ref p'/\g' p'=some (.ins c fs):=by
 cases d with
 | zero=>exact z.elim
 | succ d =>
  rcases z with⟨z,_⟩|⟨p,p',e,e',z⟩
  ·cases z
  ·cases e
   rcases z with⟨c,fs,a,b⟩|⟨us,us',a,b,c⟩|⟨us,us',a,b,c⟩<;>rw [h]at a<;>cases a
   exact⟨p',e',b⟩
theorem Qmq{a b:U}{r:List U}(h:PySem.Paired P [a,b] r):∃a' b',r=[a',b']/\P a a'/\P b b':=by
 cases h with
 | cons x t=>cases t with
  | cons y t=>cases t;exact⟨_,_,rfl,x,y⟩
theorem QjS{a b c:U}{r:List U}(h:PySem.Paired P [a,b,c] r):∃a' b' c',r=[a',b',c']/\P a a'/\P b b'/\P c c':=by
 cases h with
 | cons x t =>
  obtain⟨b',c',rfl,y,z⟩:=Qmq t;exact⟨_,_,_,rfl,x,y,z⟩
theorem Qmp{a b c d e:U}{r:List U}(h:PySem.Paired P [a,b,c,d,e] r):∃a' b' c' d' e',r=[a',b',c',d',e']/\P a a'/\P b b'/\P c c'/\P d d'/\P e e':=by
 cases h with
 | cons x t=>cases t with
  | cons y t =>
   obtain⟨b',c',d',rfl,z⟩:=QjS t;exact⟨_,_,_,_,_,rfl,x,y,z⟩
theorem ZR{P:U->List Nat->Prop}{Q:U->U->Prop}{R:U->List Nat->Prop}:∀{us:List U} {ts:List (List Nat)} {us':List U},PySem.Paired P us ts->PySem.Paired Q us us'->(∀u t u',P u t->Q u u'->R u' t)->PySem.Paired R us' ts
 | _,_,_,.nil,.nil,_=>.nil
 | _,_,_,.cons a t,.cons b t',f=>.cons (f _ _ _ a b) (ZR t t' f)
theorem Cp.nums{g g':Gt}{d p:Nat}{n0 n1 n2 n3 n4:Int}{u':U}(h:g p=some (.tup (nums n0 n1 n2 n3 n4)))(z:Cp g g' d (.ref p) u'):∃p',u'=.ref p'/\g' p'=some (.tup (nums n0 n1 n2 n3 n4)):=by
 obtain⟨D,p',us',e,a,b⟩:=z.tup h;obtain⟨_,_,_,_,_,rfl,x0,x1,x2,x3,x4⟩:=Qmp b;cases x0.sc rfl;cases x1.sc rfl;cases x2.sc rfl;cases x3.sc rfl;cases x4.sc rfl;exact⟨p',e,a⟩
theorem PP.cp{s:List U}{g g':Gt}:∀{d D:Nat} {u u':U} {t:List Nat},PP s g d u t->Cp g g' D u u'->PP s g' d u' t
 | 0,_,_,_,_,z,_=>z.elim
 | d+1,D,u,u',t,z,c=>by
  rcases z with⟨p,o,ob,rfl,e2,e3,e4⟩|⟨p,q,l,us,ts,n0,n1,n2,n3,n4,rfl,e2,e3,e4,e5,e6,e7⟩
  ·obtain⟨_,p',us',rfl,a,b⟩:=c.tup e2;obtain⟨x,y,rfl,cx,cy⟩:=Qmq b;cases cx.sc rfl;obtain⟨k,fs,rfl,_⟩:=e4;obtain⟨o',rfl,go⟩:=cy.ins e3
   exact .inl ⟨p',o',_,rfl,a,go,_,_,rfl,by assumption⟩
  ·obtain⟨_,p',us',rfl,a,b⟩:=c.tup e2;obtain⟨x,y,z,rfl,cx,cy,cz⟩:=QjS b;cases cx.sc rfl;obtain⟨q',rfl,gq⟩:=cy.nums e3;obtain⟨_,l',us',rfl,gl,cl⟩:=cz.lst e5;exact .inr ⟨p',q',l',us',ts,n0,n1,n2,n3,n4,rfl,a,gq,e4,gl,ZR e6 cl (fun _ _ _ x y=>PP.cp x y),e7⟩
theorem PI.cp{s:List U}{g g':Gt}:∀{d D:Nat} {u u':U} {t:List Nat},PI s g d u t->Cp g g' D u u'->PI s g' d u' t
 | 0,_,_,_,_,z,_=>z.elim
 | d+1,D,u,u',t,z,c=>by
  obtain⟨p,rfl,z⟩:=z
  have pp:∀{l D:Nat} {us:List U} {ts:List (List Nat)} {u':U},g l=some (.lst us)->PySem.Paired (PP s g 5) us ts->Cp g g' D (.ref l) u'->∃l' us',u'=.ref l'/\g' l'=some (.lst us')/\PySem.Paired (PP s g' 5) us' ts:=fun h z c=>by
   obtain⟨_,l',us',rfl,gl,cl⟩:=c.lst h;exact⟨l',us',rfl,gl,ZR z cl fun _ _ _ x y=>PP.cp x y⟩
  rcases z with⟨l,us,ts,b,e1,e2,e3,e4⟩|⟨l,us,ts,l2,us2,ts2,l3,us3,ts3,e1,e2,e3,e4,e5,e6,e7,e8⟩|⟨q,l,us,ts,n0,n1,n2,n3,n4,e1,e2,e3,e4,e5,e6⟩
  ·obtain⟨_,p',us',rfl,a,b⟩:=c.tup e1;obtain⟨x,y,z,rfl,cx,cy,cz⟩:=QjS b;cases cx.sc rfl;cases cz.sc rfl;obtain⟨l',us',rfl,gl,pl⟩:=pp e2 e3 cy;exact⟨p',rfl,.inl ⟨l',us',ts,_,a,gl,pl,e4⟩⟩
  ·obtain⟨_,p',us',rfl,a,b⟩:=c.tup e1;obtain⟨x,y,z,v,w,rfl,cx,cy,cz,cv,cw⟩:=Qmp b;cases cx.sc rfl;cases cz.sc rfl;obtain⟨l',us',rfl,gl,pl⟩:=pp e2 e3 cy;obtain⟨l2',us2',rfl,gl2,pl2⟩:=pp e4 e5 cv;obtain⟨l3',us3',rfl,gl3,pl3⟩:=pp e6 e7 cw;exact⟨p',rfl,.inr (.inl ⟨l',us',ts,l2',us2',ts2,l3',us3',ts3,a,gl,pl,gl2,pl2,gl3,pl3,e8⟩)⟩
  ·obtain⟨_,p',us',rfl,a,b⟩:=c.tup e1;obtain⟨x,y,z,rfl,cx,cy,cz⟩:=QjS b;cases cx.sc rfl;obtain⟨q',rfl,gq⟩:=cy.nums e2;obtain⟨_,l',us',rfl,gl,cl⟩:=cz.lst e4;exact⟨p',rfl,.inr (.inr ⟨q',l',us',ts,n0,n1,n2,n3,n4,a,gq,e3,gl,ZR e5 cl (fun _ _ _ x y=>PI.cp x y),e6⟩)⟩
theorem Jc{α β:Type}{P:α->β->Prop}:∀{l:List α} {r:List β},PySem.Paired P l r->∀{a:α},a∈l->∃b,b∈r/\P a b
 | _,_,.nil,_,h=>by cases h
 | _,_,.cons x t,a,h=>by
  rcases List.mem_cons.mp h with rfl|h
  ·exact⟨_,List.mem_cons_self,x⟩
  ·obtain⟨b,hb,z⟩:=Jc t h;exact⟨b,List.mem_cons_of_mem _ hb,z⟩
theorem QgK(h:t∈ts):t.length+2<=cst ts:=by
 obtain⟨i,hi⟩:=List.mem_iff_getElem?.mp h;exact ZH hi
theorem Tr.sc{g:Gt}(h:scA u=true):Tr g (d+1) u:=.inl h
theorem QbY{g:Gt}{n0 n1 n2 n3 n4:Int}(h:g p=some (.tup (nums n0 n1 n2 n3 n4))):Tr g (d+2) (.ref p):=
 .inr ⟨p,rfl,.inr ⟨_,.inr h,by simp [nums],fun x hx=>.inl (by
  simp only [nums,List.mem_cons,List.not_mem_nil,or_false]at hx
  rcases hx with rfl|rfl|rfl|rfl|rfl<;>rfl)⟩⟩
theorem QaI{g:Gt}{P:U->List Nat->Prop}(h:g p=some (.lst us))(z:PySem.Paired P us ts)(b:cst ts<=900000)(f:∀u t,P u t->t.length<=900000->Tr g d u):Tr g (d+1) (.ref p):=by
 have cl:=QQ (ts:=ts);have ul:=QJ z
 refine .inr ⟨p,rfl,.inr ⟨us,.inl h,by lia,fun x hx=>?_⟩⟩
 obtain⟨t,ht,hz⟩:=Jc z hx;have:=QgK ht
 exact f _ _ hz (by lia)
theorem Ju{g:Gt}(h:g p=some (.tup us))(l:us.length<=5)(f:∀x,x∈us->Tr g d x):Tr g (d+1) (.ref p):=.inr ⟨p,rfl,.inr ⟨us,.inr h,by lia,f⟩⟩
theorem PP.tr{s:List U}{g:Gt}:∀{d:Nat} {u:U} {t:List Nat},PP s g d u t->t.length<=900000->Tr g (2*d+1) u
 | 0,_,_,z,_=>z.elim
 | d+1,u,t,z,b=>by
  rcases z with⟨p,o,ob,rfl,e2,e3,k,fs,rfl,c1,c2,_⟩|⟨p,q,l,us,ts,n0,n1,n2,n3,n4,rfl,e2,e3,e4,e5,e6,rfl⟩
  ·refine Ju e2 (by simp) fun x hx=>?_
   simp only [List.mem_cons,List.not_mem_nil,or_false]at hx
   rcases hx with rfl|rfl
   ·exact Tr.sc rfl
   ·exact .inr ⟨o,rfl,.inl ⟨k,fs,e3,c1,c2⟩⟩
  ·have bj:=(Qy (ts:=ts)).2
   have bl:(tmT ts (txt n0 n1 n2 n3 n4)).length=(Qj [44,32] ts).length+(txt n0 n1 n2 n3 n4).length+3:=by simp [tmT];lia
   refine Ju e2 (by simp) fun x hx=>?_
   simp only [List.mem_cons,List.not_mem_nil,or_false]at hx
   rcases hx with rfl|rfl|rfl
   ·exact Tr.sc rfl
   ·exact QbY e3
   ·exact QaI e5 e6 (by lia) fun u t z b=>PP.tr z b
theorem PI.tr{s:List U}{g:Gt}:∀{d:Nat} {u:U} {t:List Nat},PI s g d u t->t.length<=900000->Tr g (2*d+11) u
 | 0,_,_,z,_=>z.elim
 | d+1,u,t,z,b=>by
  obtain⟨p,rfl,z⟩:=z
  have pp:∀{l:Nat} {us:List U} {ts:List (List Nat)},g l=some (.lst us)->PySem.Paired (PP s g 5) us ts->cst ts<=900000->Tr g (2*(d+1)+10) (.ref l):=fun h z b=>Tr.le (d:=12) (by lia) (QaI h z b fun u t z b=>PP.tr z b)
  rcases z with⟨l,us,ts,b',e1,e2,e3,rfl⟩|⟨l,us,ts,l2,us2,ts2,l3,us3,ts3,e1,e2,e3,e4,e5,e6,e7,rfl⟩|⟨q,l,us,ts,n0,n1,n2,n3,n4,e1,e2,e3,e4,e5,rfl⟩
  ·have bl:=ZG (ts:=ts) (b:=b')
   refine Ju e1 (by simp) fun x hx=>?_
   simp only [List.mem_cons,List.not_mem_nil,or_false]at hx
   rcases hx with rfl|rfl|rfl
   ·exact Tr.sc rfl
   ·exact pp e2 e3 (by lia)
   ·exact Tr.sc rfl
  ·have bl:=ZG (ts:=r5 ts ts2 ts3) (b:=false)
   have b5:cst (r5 ts ts2 ts3)=cst ts+((Qu ts2).length+2)+cst ts3:=by simp [r5,Zs,cst];lia
   have b2:=(Qy (ts:=ts2)).2
   have rl:(Qu ts2).length=(Qj [44,32] ts2).length+7:=by simp [Qu]
   refine Ju e1 (by simp) fun x hx=>?_
   simp only [List.mem_cons,List.not_mem_nil,or_false]at hx
   rcases hx with rfl|rfl|rfl|rfl|rfl
   ·exact Tr.sc rfl
   ·exact pp e2 e3 (by lia)
   ·exact Tr.sc rfl
   ·exact pp e4 e5 (by lia)
   ·exact pp e6 e7 (by lia)
  ·have bl:=JX (ts:=ts) (x:=txt n0 n1 n2 n3 n4);have bj:=(Q0 (ts:=ts)).2
   refine Ju e1 (by simp) fun x hx=>?_
   simp only [List.mem_cons,List.not_mem_nil,or_false]at hx
   rcases hx with rfl|rfl|rfl
   ·exact Tr.sc rfl
   ·exact QbY e2
   ·exact QaI (d:=2*d+11) e4 e5 (by lia) fun u t z b=>PI.tr z b
theorem Qlx{G:Gt}(k:Kp h h1)(l:L<=h.length):Ge (Nv (Nv G L h) h.length h1) (Nv G L h1):=fun p o e=>by
 unfold Nv at e ⊢;split at e
 ·split at e
  ·rename_i z;rw [if_pos z];exact e
  ·rename_i z;rw [if_neg z];exact k _ _ e
 ·rw [if_neg (by lia)];exact e
theorem Qg4{G:Gt}(k:Kp h h1):Ge (Nv G L h) (Nv G L h1):=fun p o e=>by
 unfold Nv at e ⊢;split at e
 ·rename_i z;rw [if_pos z];exact e
 ·rename_i z;rw [if_neg z];exact k _ _ e
theorem Qe7{G:Gt}(l:L<=p)(e:h[p]?=some o):Nv G L h p=some o:=by
 unfold Nv;rw [if_neg (by lia)];exact e
theorem Qdd{G:Gt}(l:p<L)(e:G p=some o):Nv G L h p=some o:=by
 unfold Nv;rw [if_pos l];exact e
theorem Kp.len{a b:Hs}(k:Kp a b):a.length<=b.length:=by
 rcases Nat.lt_or_ge 0 a.length with z|z
 ·have:=k (a.length-1) _ (List.getElem?_eq_getElem (by lia))
  have:=(List.getElem?_eq_some_iff.mp this).1;lia
 ·lia
theorem QcI(h1:1<=c)(h2:c<=9):isiL.lookup (.cls c,.list)=some false/\isiL.lookup (.cls c,.tuple)=some false:=by
 have:∀c<10,1<=c->isiL.lookup (.cls c,.list)=some false/\isiL.lookup (.cls c,.tuple)=some false:=by decide
 exact this c (by lia) h1
theorem QjA:b31=[.ite (.isi (.var 0) .list) [.ret (.comp (.seq (.var 0)) false none (.call 31 [.var 1]))] [],.ite (.isi (.var 0) .tuple) [.ret (.bi .tuple [.comp (.seq (.var 0)) false none (.call 31 [.var 1])])] [],.ret (.var 0)]:=rfl
theorem Qht{β:Type}{P:α->β->Prop}{l:List α}{r:List β}{i:Nat}{a:α}{b:β}(z:PySem.Paired P (l.take i) r)(e:l[i]?=some a)(h:P a b):PySem.Paired P (l.take (i+1)) (r++[b]):=by
 rw [QX e];exact ZD z h
section

theorem Qlh{g:Gt}:∀{d n:Nat} {G:Gt} {u:U} {hs:Hs},Ge g (Hg hs)->(∀p c fs,g p=some (.ins c fs)->G p=some (.ins c fs))->Tr g d u->∃h1 u',Kp hs h1/\Cp g (Nv G hs.length h1) d u u'/\Qa (tb s) (n+d) 31 [u] hs=some (u',h1):=by
 intro d
 induction d with
 | zero=>intro n G u hs _ _ z;exact z.elim
 | succ d ih =>
  intro n G u hs hg hG z;rw [<-Nat.add_assoc,Qe fnL[31] rfl rfl];show ∃h1 u',_/\_/\fin (exs (tb s) (Qa (tb s) (n+d)) 100 b31 [some u] hs)=_;rw [QjA]
  have st:∀{us:List U},(∀x,x∈us->Tr g d x)->∀i u,us[i]?=some u->∀acc h,(Kp hs h/\PySem.Paired (Cp g (Nv G hs.length h) d) (us.take i) acc)->∀p m,∃v h2,ev (tb s) (Qa (tb s) (n+d)) (m+10) (.call 31 [.var 1]) ([some (.ref p)]++[some u]) h=some (v,h2)/\Kp hs h2/\PySem.Paired (Cp g (Nv G hs.length h2) d) (us.take (i+1)) (acc++[v]):=fun {us} a i u hu acc h zz p m=>by
   obtain⟨k,z⟩:=zz;obtain⟨h1,v,k1,c,e⟩:=ih (n:=n) (G:=Nv G hs.length h) (fun p o e=>k _ _ (hg p o e)) (fun p c fs e=>Qdd (List.getElem?_eq_some_iff.mp (hg _ _ e)).1 (hG p c fs e)) (a u (List.mem_of_getElem? hu));refine⟨v,h1,?_,k.trans k1,Qht (Qb (fun _ _ z=>Cp.mono (Qg4 k1) z) z) hu (Cp.mono (Qlx k1 k.len) c)⟩;generalize Qa (tb s) (n+d)=cf at e ⊢;generalize tb s=T;simp [yy,evs,evO,Ql,Qd,Qo,eq_int,Qi,Qk,opU,Qm,bb,slU,fin,e]
  have ls:∀{p us},hs[p]?=some (.lst us)->us.length<=1000000->(∀x,x∈us->Tr g d x)->∃vs h2,ev (tb s) (Qa (tb s) (n+d)) 96 (.comp (.seq (.var 0)) false none (.call 31 [.var 1])) [some (.ref p)] hs=some (.ref h2.length,h2++[.lst vs])/\Kp hs h2/\PySem.Paired (Cp g (Nv G hs.length h2) d) us vs:=fun {p us} hp l a=>by
   have:=Y7 (T:=tb s) (cf:=Qa (tb s) (n+d)) (d:=94) (us:=us) (el:=.call 31 [.var 1]) (ρ:=[some (.ref p)]) (e:=.var 0) (h0:=hs) (hs:=hs) (fun i acc h=>Kp hs h/\PySem.Paired (Cp g (Nv G hs.length h) d) (us.take i) acc) rfl hp l
    (fun i acc h zz=>by
    obtain⟨k,z⟩:=zz
    exact⟨k _ _ hp,by have:=QJ z;simp at this;lia⟩) (fun i u hu acc h z=>st a i u hu acc h z p 85) ⟨Kp.refl _,.nil⟩
   rw [List.take_length]at this;exact this
  have tp:∀{p us},hs[p]?=some (.tup us)->us.length<=1000000->(∀x,x∈us->Tr g d x)->∃vs h2,ev (tb s) (Qa (tb s) (n+d)) 94 (.comp (.seq (.var 0)) false none (.call 31 [.var 1])) [some (.ref p)] hs=some (.ref h2.length,h2++[.lst vs])/\Kp hs h2/\PySem.Paired (Cp g (Nv G hs.length h2) d) us vs:=fun {p us} hp l a=>by
   have:=Qff (T:=tb s) (cf:=Qa (tb s) (n+d)) (d:=92) (us:=us) (el:=.call 31 [.var 1]) (ρ:=[some (.ref p)]) (e:=.var 0) (h0:=hs) (hs:=hs) (fun i acc h=>Kp hs h/\PySem.Paired (Cp g (Nv G hs.length h) d) (us.take i) acc) rfl hp l
    (fun i acc h zz=>by
    obtain⟨k,z⟩:=zz
    exact⟨k _ _ hp,by have:=QJ z;simp at this;lia⟩) (fun i u hu acc h z=>st a i u hu acc h z p 83) ⟨Kp.refl _,.nil⟩
   rw [List.take_length]at this;exact this
  rcases z with z|⟨p,rfl,⟨c,fs,e,c1,c2⟩|⟨us,e|e,l,a⟩⟩
  ·refine⟨hs,u,Kp.refl _,.inl ⟨z,rfl⟩,?_⟩;generalize Qa (tb s) (n+d)=cf;generalize tb s=T
   have i1:YN T .list u hs=some false:=by cases u<;>first|rfl|cases z
   have i2:YN T .tuple u hs=some false:=by cases u<;>first|rfl|cases z
   simp [yy,evs,evO,Ql,Qd,Qo,eq_int,Qi,Qk,opU,Qm,bb,slU,fin,i1,i2]
  ·have hp:=hg _ _ e;simp only [Hg]at hp;refine⟨hs,.ref p,Kp.refl _,.inr ⟨p,p,rfl,rfl,.inl ⟨c,fs,e,Qdd (List.getElem?_eq_some_iff.mp hp).1 (hG p c fs e)⟩⟩,?_⟩
   have i1:YN (tb s) .list (.ref p) hs=some false:=by
    rw [(QiU hp).1];exact(QcI c1 c2).1
   have i2:YN (tb s) .tuple (.ref p) hs=some false:=by
    rw [(QiU hp).2];exact(QcI c1 c2).2
   generalize Qa (tb s) (n+d)=cf;generalize tb s=T at i1 i2 ⊢;simp [yy,evs,evO,Ql,Qd,Qo,eq_int,Qi,Qk,opU,Qm,bb,slU,fin,i1,i2]
  ·have hp:=hg _ _ e;simp only [Hg]at hp;obtain⟨vs,h2,e2,k2,z2⟩:=ls hp l a;have up:Ge (Nv G hs.length h2) (Nv G hs.length (h2++[.lst vs])):=Qg4 (Kp.app _ _);refine⟨_,.ref h2.length,k2.trans (Kp.app _ _),.inr ⟨p,h2.length,rfl,rfl,.inr (.inl ⟨us,vs,e,Qe7 k2.len at0,Qb (fun _ _ z=>Cp.mono up z) z2⟩)⟩,?_⟩;have i1:YN (tb s) .list (.ref p) hs=some true:=Qk0 hp;generalize Qa (tb s) (n+d)=cf at e2 ⊢;generalize tb s=T at i1 e2 ⊢;simp [QV,QC,Y5,QbR,Qe9,QF,Qi,Yn,fin,i1,e2]
  ·have hp:=hg _ _ e;simp only [Hg]at hp;obtain⟨vs,h2,e2,k2,z2⟩:=tp hp l a;have up:Ge (Nv G hs.length h2) (Nv G hs.length (h2++[.lst vs,.tup vs])):=Qg4 (Kp.app _ _);refine⟨_,.ref (h2.length+1),k2.trans (Kp.app _ [.lst vs,.tup vs]),.inr ⟨p,h2.length+1,rfl,rfl,.inr (.inr ⟨us,vs,e,Qe7 (Nat.le_succ_of_le k2.len) at1,Qb (fun _ _ z=>Cp.mono up z) z2⟩)⟩,?_⟩;have i1:YN (tb s) .list (.ref p) hs=some false:=(QiS hp).1;have i2:YN (tb s) .tuple (.ref p) hs=some true:=(QiS hp).2
   have bt:∀T:Tbl,biU T .tuple [.ref h2.length] (h2++[.lst vs])=some (.ref (h2.length+1),h2++[.lst vs,.tup vs]):=fun T=>by rw [Qjr at0];simp
   generalize Qa (tb s) (n+d)=cf at e2 ⊢;generalize tb s=T at i1 i2 e2 ⊢;simp [QV,Yo,QC,Y5,QbR,Qe9,QF,Qi,Yn,fin,i1,i2,Qdh,evs,e2,bt]
theorem Qjl{g G:Gt}{w:List Nat}(hg:Ge g (Hg hs))(hG:∀p c fs,g p=some (.ins c fs)->G p=some (.ins c fs))(hl:g l=some (.lst us))(hI:PySem.Paired (PI s g d) us ts)(b:cst ts<=900000):
  ∃h1 l' us',Kp hs h1/\h1[hs.length]?=some (.ins 10 [(2,.str w),(6,.ref c),(7,.ref l')])/\Nv G hs.length h1 l'=some (.lst us')/\PySem.Paired (PI s (Nv G hs.length h1) d) us' ts/\Zo (tb s) (Qa (tb s) (n+2*d+14)) 10 [.str w,.ref c,.ref l] hs=some (.ref hs.length,h1):=by
 have k0:Kp hs (hs++[.ins 10 [(2,.str w),(6,.ref c)]]):=Kp.app _ _;have lt:Tr g (2*d+12) (.ref l):=QaI hl hI b fun u t z b=>PI.tr z b;obtain⟨h1,u',k1,cp,e⟩:=Qlh (s:=s) (n:=n+1) (G:=Nv G hs.length []) (fun p o e=>k0 _ _ (hg p o e)) (fun p c fs e=>Qdd (List.getElem?_eq_some_iff.mp (hg _ _ e)).1 (hG p c fs e)) lt
 have up:∀x,Ge (Nv (Nv G hs.length []) (hs++[O.ins 10 [(2,.str w),(6,.ref c)]]).length h1) (Nv G hs.length (h1.set hs.length x)):=fun x p o e=>by
  unfold Nv at e ⊢;simp only [List.length_append,List.length_singleton]at e;split at e
  ·split at e
   ·rename_i z;rw [if_pos z];exact e
   ·simp at e
  ·rw [if_neg (by lia),List.getElem?_set_ne (by lia)];exact e
 obtain⟨D,l',us',rfl,gl,pl⟩:=cp.lst hl;have hi:h1[hs.length]?=some (.ins 10 [(2,.str w),(6,.ref c)]):=k1 _ _ at0;refine⟨h1.set hs.length (.ins 10 [(2,.str w),(6,.ref c),(7,.ref l')]),l',us',(k0.trans k1).put (Nat.le_refl _),List.getElem?_set_self (List.getElem?_eq_some_iff.mp hi).1,up _ _ _ gl,Qb (fun _ _ z=>PI.mono (up _) z) (ZR hI pl fun _ _ _ x y=>PI.cp x y),?_⟩
 have c30:Qa (tb s) (n+2*d+14) 30 [.ref hs.length,.str w,.ref c,.ref l] (hs++[.ins 10 []])=some (.non,h1.set hs.length (.ins 10 [(2,.str w),(6,.ref c),(7,.ref l')])):=by
  rw [Qe fnL[30] rfl rfl];show fin (exs (tb s) (Qa (tb s) (n+2*d+13)) 100 b30 [some (.ref hs.length),some (.str w),some (.ref c),some (.ref l)] (hs++[.ins 10 []]))=_
  have e':Qa (tb s) (n+2*d+13) 31 [.ref l] (hs++[.ins 10 [(2,.str w),(6,.ref c)]])=some (.ref l',h1):=by
   rw [show n+2*d+13=n+1+(2*d+12) by lia];exact e
  generalize Qa (tb s) (n+2*d+13)=cf at e' ⊢;generalize tb s=T;simp [b30,yy,evs,evO,Ql,Qd,Qo,eq_int,Qi,Qk,opU,Qm,bb,slU,fin,Qe8,at0,QdB,Qbp,e',hi]
 have hc:(tb s).cls[10]?=some ⟨"Pattern",some 30,[],[10]⟩:=rfl;simp only [Zo,hc,c30]
end
noncomputable def Qg9:List S:=match b46 with
 | [.loop _ _ b,_]=>b
 | _=>[]
theorem Qjv:b46=[.loop (.name 1) (.seq (.var 0)) Qg9,.ret (.c (.bl true))]:=rfl
theorem QcA:Qg9=[.ite (.cmp .Eq (.ix (.var 1) (.c (.int 0 0))) (.c (.str QU))) [.set 2 (.call 3 [.call 43 [.ix (.var 1) (.c (.int 1 0))]]),.ite (.or (.not (.isi (.var 2) .str)) (.cmp .NotEq (.var 2) (.call 41 [.ix (.var 1) (.c (.int 1 0))]))) [.ret (.c (.bl false))] []] []]:=rfl
theorem nes:Qo T .NotEq (.str x) (.str x) hs=some false:=by
 have:Qo T .NotEq (.str x) (.str x) hs=some (!decide (x=x)):=rfl;rw [this,decide_eq_true rfl];rfl
section

theorem Qkq{o:Option U}{h3:Hs}(hq:hs[q]?=some (.tup (.str QU::.ref l::ys)))(hq2:h2[q]?=some (.tup (.str QU::.ref l::ys)))(c1:cf 43 [.ref l] hs=some (.ref k,h1))(c2:cf 3 [.ref k] h1=some (.str t,h2))(c3:cf 41 [.ref l] h2=some (.str t,h3)):
  exs (tb s) cf (d+30) Qg9 [some (.ref p),some (.ref q),o] hs=some (.next,[some (.ref p),some (.ref q),some (.str t)],h3):=by
 rw [QcA]
 have e0:atU (U.str QU::.ref l::ys) 0=some (.str QU):=by
  have:(0:Int) < (ys.length:Int)+1+1:=by lia
  simp [atU,ixU,this]
 have e1:atU (U.str QU::.ref l::ys) 1=some (.ref l):=by
  have:(1:Int) < (ys.length:Int)+1+1:=by lia
  simp [atU,ixU,this]
 generalize tb s=T;simp [yy,evs,evO,Ql,Qd,eq_int,Qi,Qk,opU,Qm,bb,slU,fin,eqs,nes,hq,hq2,e0,e1,c1,c2,c3,Qmv]
theorem Qln{o:Option U}(hq:hs[q]?=some (.tup (.str ZN::ys))):
  exs (tb s) cf (d+30) Qg9 [some (.ref p),some (.ref q),o] hs=some (.next,[some (.ref p),some (.ref q),o],hs):=by
 rw [QcA]
 have e0:atU (U.str ZN::ys) 0=some (.str ZN):=by simp [atU,ixU]
 have ne:¬ZN=QU:=by decide
 generalize tb s=T;simp [yy,evs,evO,Ql,Qd,eq_int,Qi,Qk,opU,Qm,bb,slU,fin,eqs,hq,e0,ne]
theorem QgP(hp:hs[p]?=some (.lst us))(hP:PySem.Paired (LI (Hg hs) d) us ts)(hc:cst ts<=900000):∃h1,Kp hs h1/\Qa (tb s) (n+18) 46 [.ref p] hs=some (.bl true,h1):=by
 rw [Qe fnL[46] rfl rfl];show ∃h1,_/\fin (exs (tb s) (Qa (tb s) (n+17)) 100 b46 [some (.ref p),none,none] hs)=_;rw [Qjv]
 have rw1:∀{h q l us ts o ys},Kp hs h->hs[q]?=some (.tup (.str QU::.ref l::ys))->hs[l]?=some (.lst us)->PySem.Paired (LP (Hg hs) 5) us ts->cst ts<=900000->∃ρ2 h2,exs (tb s) (Qa (tb s) (n+17)) 98 Qg9 [some (.ref p),some (.ref q),o] h=some (.next,ρ2,h2)/\∃o o',ρ2=[some (.ref p),o,o']/\Kp hs h2:=fun {h q l us ts o ys} k e1 e2 e3 b=>by
  obtain⟨h1,us',k1,g1,P1,c1⟩:=Qc5 (s:=s) (d:=5) (n:=n+7) (g:=Hg h) (fun _ _ z=>z) (k _ _ e2) (Qb (fun _ _ z=>LP.mono k z) e3) b
  have gg:Ge (Nv (Hg h) h.length h1) (Hg h1):=fun p o e=>by
   unfold Nv at e;split at e
   ·exact k1 _ _ e
   ·exact e
  obtain⟨h2,r,k2,g2,c2⟩:=Qjk (s:=s) (d:=5) (n:=n) g1 (Qb (fun _ _ z=>PP.mono gg z) P1) b;have c2':=Qgl c2 g2 b;have kk:=k.trans (k1.trans k2);obtain⟨h3,k3,c3⟩:=QjY (s:=s) (d:=5) (n:=n+11) (kk _ _ e2) (Qb (fun _ _ z=>LP.mono kk z) e3) b;exact⟨_,_,Qkq (d:=68) (k _ _ e1) (kk _ _ e1) c1 c2' c3,_,_,rfl,kk.trans k3⟩
 obtain⟨ρ2,h2,x2,o,o',rfl,k2⟩:=ZZ (T:=tb s) (cf:=Qa (tb s) (n+17)) (d:=97) (j:=0) (k:=1) (p:=p) (us:=us) (body:=Qg9) (ρ:=[some (.ref p),none,none]) (hs:=hs)
  (fun i ρ h=>∃o o',ρ=[some (.ref p),o,o']/\Kp hs h) rfl hp (fun i ρ h zz=>by
    obtain⟨_,_,_,k⟩:=zz
    exact k _ _ hp)
  (fun i u hu ρ h zz=>by
   obtain⟨o,o',e,k⟩:=zz;subst e;obtain⟨t,et,hz⟩:=ZS hP hu;have bt:=ZH et
   cases d with
   | zero=>exact hz.elim
   | succ d =>
    obtain⟨q,rfl,hz⟩:=hz
    rcases hz with⟨l,us',ts',b,e1,e2,e3,rfl⟩|⟨l,us1,ts1,l2,us2,ts2,l3,us3,ts3,e1,e2,e3,e4,e5,e6,e7,rfl⟩|⟨r,l,us',ts',n0,n1,n2,n3,n4,e1,e2,e3,e4,e5,rfl⟩
    ·have bl:=ZG (ts:=ts') (b:=b)
     exact rw1 k e1 e2 e3 (by lia)
    ·have bl:=ZG (ts:=r5 ts1 ts2 ts3) (b:=false)
     have b5:cst (r5 ts1 ts2 ts3)=cst ts1+((Qu ts2).length+2)+cst ts3:=by simp [r5,Zs,cst];lia
     exact rw1 k e1 e2 e3 (by lia)
    ·exact⟨_,_,Qln (d:=68) (k _ _ e1),_,_,rfl,k⟩)
  ⟨none,none,rfl,Kp.refl _⟩
 rw [Qp x2];exact⟨h2,k2,rfl⟩
end
noncomputable def Vw(M:List Nat)(h:Hs):Gt:=fun p=>if p∈M then none else h[p]?
noncomputable def Fr(X:List Nat)(h h1:Hs):Prop:=h.length<=h1.length/\∀p o,p∉X->h[p]?=some o->h1[p]?=some o
theorem Fr.of(k:Kp h h1):Fr X h h1:=⟨k.len,fun p o _ e=>k p o e⟩
theorem Fr.trans{a b c:Hs}(h:Fr X a b)(h':Fr X b c):Fr X a c:=⟨Nat.le_trans h.1 h'.1,fun p o m e=>h'.2 p o m (h.2 p o m e)⟩
theorem Fr.mono{Y:List Nat}{a b:Hs}(z:∀p,p∈X->p∈Y)(h:Fr X a b):Fr Y a b:=⟨h.1,fun p o m e=>h.2 p o (fun x=>m (z p x)) e⟩
theorem Fr.put{a b:Hs}{j:Nat}(h:Fr X a b)(m:j∈X):Fr X a (b.set j o):=⟨by rw [List.length_set];exact h.1,fun p x n e=>by
 have ne:j≠p:=fun z=>n (z▸m);rw [List.getElem?_set_ne ne]
 exact h.2 p x n e⟩
theorem Vw.le(f:Fr X h h1)(z:∀p,p∈X->p∈M)(y:∀p,p∈M'->p∈M\/h.length<=p):Ge (Vw M h) (Vw M' h1):=fun p o e=>by
 unfold Vw at e ⊢;split at e
 ·cases e
 ·rename_i n;have lp:=(List.getElem?_eq_some_iff.mp e).1;rw [if_neg fun m=>(y p m).elim n (fun l=>absurd lp (Nat.not_lt.mpr l))];exact f.2 p o (fun m=>n (z p m)) e
theorem Vw.hg:Ge (Vw M h) (Hg h):=fun p o e=>by
 unfold Vw at e;split at e
 ·cases e
 ·exact e
theorem Vw.at(n:p∉M)(e:h[p]?=some o):Vw M h p=some o:=by
 unfold Vw;rw [if_neg n];exact e
noncomputable def SK(P:Nat->U->List Nat->Prop)(h:Hs):List Nat->List (List (List Nat))->Prop
 | [],[]=>True
 | a::as,ts::tss=>(∃us,h[a]?=some (.lst us)/\PySem.Paired (P (4-as.length)) us ts)/\SK P h as tss
 | _,_=>False
theorem SK.mono{P Q:Nat->U->List Nat->Prop}{h h1:Hs}(z:∀d u t,P d u t->Q d u t):∀{as:List Nat} {tss:List (List (List Nat))},(∀a,a∈as->h1[a]?=h[a]?)->SK P h as tss->SK Q h1 as tss
 | [],[],_,_=>trivial
 | a::as,ts::tss,y,⟨⟨us,e,w⟩,r⟩=>⟨⟨us,by rw [y a List.mem_cons_self];exact e,Qb (z _) w⟩,SK.mono z (fun b m=>y b (List.mem_cons_of_mem _ m)) r⟩
 | [],_::_,_,w=>w.elim
 | _::_,[],_,w=>w.elim
theorem SK.at{P:Nat->U->List Nat->Prop}{h:Hs}:∀{as:List Nat} {tss:List (List (List Nat))},SK P h as tss->∀a,a∈as->∃us,h[a]?=some (.lst us)
 | [],[],_,a,m=>by cases m
 | b::as,ts::tss,⟨⟨us,e,w⟩,r⟩,a,m=>by
  rcases List.mem_cons.mp m with rfl|m
  ·exact⟨us,e⟩
  ·exact SK.at r a m
 | [],_::_,w,_,_=>w.elim
 | _::_,[],w,_,_=>w.elim
theorem SK.len{P:Nat->U->List Nat->Prop}{h:Hs}:∀{as:List Nat} {tss:List (List (List Nat))},SK P h as tss->as.length=tss.length
 | [],[],_=>rfl
 | b::as,ts::tss,⟨_,r⟩=>congrArg (· + 1) (SK.len r)
 | [],_::_,w=>w.elim
 | _::_,[],w=>w.elim
noncomputable def tot(tss:List (List (List Nat))):Nat:=(tss.map cst).sum
theorem Qr{tss:List (List (List Nat))}:tot (ts::tss)=cst ts+tot tss:=by simp [tot]
noncomputable abbrev Qw(as:List Nat):List U:=(as.map U.ref).reverse
theorem QA:Qw (a::as)=Qw as++[.ref a]:=by simp [Qw]
theorem Zm:(Qw as).length=as.length:=by simp [Qw]
theorem Zq{xs:List α}{x:α}:atU (xs++[x]) (-1)=some x:=by
 have h1:¬(0:Int)<=-1:=by decide
 have h2:-(((xs++[x]).length:Nat):Int)<=-1:=by simp;lia
 have h3:(-1+(((xs++[x]).length:Nat):Int)).toNat=xs.length  :=by simp;lia
 simp only [atU,ixU,if_neg h1,if_pos h2,h3];simp
theorem LP.up{g:Gt}:∀{d:Nat} (k:Nat) {u:U} {t:List Nat},LP g d u t->LP g (d+k) u t
 | 0,_,_,_,z=>z.elim
 | d+1,k,u,t,z=>by
  rw [Nat.add_right_comm]
  rcases z with z|⟨p,q,l,us,ts,n0,n1,n2,n3,n4,e1,e2,e3,e4,e5,e6,e7⟩
  ·exact .inl z
  ·exact .inr ⟨p,q,l,us,ts,n0,n1,n2,n3,n4,e1,e2,e3,e4,e5,Qb (fun _ _ z=>LP.up k z) e6,e7⟩
section

theorem Qa9(h:hs[a]?=some (.lst xs))(h':hs[b]?=some (.lst [])):eqA T (.ref a) (.ref b) hs=some (decide (xs=[])):=by
 have e:eqS (.ref a) (.ref b)=none:=rfl
 cases xs with
 | nil=>simp [eqA,e,Jg,Qad,QM,h,h']
 | cons x r=>simp [eqA,e,Jg,QM,h,h']
theorem Qak(h:∀c,c∈x->c<128):okW T (n+1) (.str x) hs=true:=by
 simp only [okW,QM,ZK,List.all_eq_true];exact fun c m=>decide_eq_true (h c m)
theorem Qcr:okW T (n+1) (.int i 0) hs=true:=rfl
theorem Jf(h:hs[p]?=some (.tup xs))(a:∀x,x∈xs->okW T n x hs=true):okW T (n+1) (.ref p) hs=true:=by
 simp only [okW,QM,h,ZK,List.all_eq_true];exact a
theorem Yx(h:hs[p]?=some (.lst xs))(a:∀x,x∈xs->okW T n x hs=true):okW T (n+1) (.ref p) hs=true:=by
 simp only [okW,QM,h,List.all_eq_true];exact a
theorem Mk.asc(h:Mk m):∀c,c∈m->c<128:=by
 have f:∀{a:Nat} {l:List Nat},a∈l->(∀x,x∈l->x<128)->a<128:=fun m z=>z _ m;intro c hc;cases h<;>simp only [List.mem_cons,List.not_mem_nil,or_false]at *<;>lia
theorem LP.ok{g:Gt}(hg:Ge g (Hg hs)):∀{d n:Nat} {u:U} {t:List Nat},LP g d u t->okW T (n+2*d+1) u hs=true
 | 0,_,_,_,z=>z.elim
 | d+1,n,u,t,z=>by
  rcases z with⟨p,m,rfl,e2,e3,_⟩|⟨p,q,l,us,ts,n0,n1,n2,n3,n4,rfl,e2,e3,e4,e5,e6,_⟩
  ·refine Jf (hg _ _ e2) fun x hx=>?_;simp only [List.mem_cons,List.not_mem_nil,or_false]at hx
   rcases hx with rfl|rfl
   ·exact Qak (by decide)
   ·exact Qak e3.asc
  ·refine Jf (hg _ _ e2) fun x hx=>?_;simp only [List.mem_cons,List.not_mem_nil,or_false]at hx
   rcases hx with rfl|rfl|rfl
   ·exact Qak (by decide)
   ·refine Jf (n:=n+2*d+1) (hg _ _ e3) fun x hx=>?_;simp only [nums,List.mem_cons,List.not_mem_nil,or_false]at hx
    rcases hx with rfl|rfl|rfl|rfl|rfl<;>exact Qcr
   ·refine Yx (n:=n+2*d+1) (hg _ _ e5) fun x hx=>?_;obtain⟨t,_,z⟩:=Jc e6 hx;exact LP.ok hg z
theorem Qk9{g:Gt}(hg:Ge g (Hg hs))(hR:hs[R]?=some (.lst (Qw (a::rs))))(ha:hs[a]?=some (.lst us))(hP:PySem.Paired (LP g (4-rs.length)) us ts)(hb:hs[b]?=some (.lst [.ref c]))(hc:hs[c]?=some (.lst []))(ne:a≠c):eqA T (.ref R) (.ref b) hs=some (decide (rs=[]/\us=[])):=by
 have e:eqS (.ref R) (.ref b)=none:=rfl
 cases rs with
 | cons x r =>
  have:¬(Qw (a::x::r)).length=1:=by rw [Zm];simp
  simp [eqA,e,Jg,QM,hR,hb]
 | nil =>
  have o1:okW T 20 (.ref R) hs=true:=Yx (n:=19) hR fun x hx=>by
   simp [Qw]at hx;subst hx;refine Yx (n:=18) ha fun x hx=>?_;obtain⟨t,_,z⟩:=Jc hP hx;exact LP.ok (n:=9) hg z
  have o2:okW T 20 (.ref b) hs=true:=Yx (n:=19) hb fun x hx=>by
   simp at hx;subst hx
   exact Yx (n:=18) hc fun x hx=>by cases hx
  have hR':hs[R]?=some (.lst [.ref a]):=hR
  have w1:eqW T 20 (.ref R) (.ref b) hs=decide (us=[]):=by
   have w0:eqW T 19 (.ref a) (.ref c) hs=decide (us=[]):=by
    cases us<;>simp [eqW,QM,ha,hc]
   have:eqW T (19+1) (.ref R) (.ref b) hs=((1==1)&&([((.ref a:U),(.ref c:U))].all fun p=>eqW T 19 p.1 p.2 hs)):=by
    rw [eqW];simp only [QM,hR',hb];rfl
   rw [show(20:Nat)=19+1 from rfl,this];simp [w0]
  simp [eqA,e,Jg,Qad,QM,hR',hb,ne,o1,o2,w1]
end
structure Stk(P:Gt->Nat->U->List Nat->Prop)(h:Hs)(M:List Nat)(R:Nat)(rs:List Nat)(tr:List (List (List Nat))):Prop where
 nd:(R::rs).Nodup
 ms:∀p,p∈R::rs->p∈M
 lt:∀p,p∈M->p<h.length
 hR:h[R]?=some (.lst (Qw rs))
 sk:SK (P (Vw M h)) h rs tr
 le:rs.length<=4
section
variable {P:Gt->Nat->U->List Nat->Prop}(mo:∀(g g':Gt) (d:Nat) (u:U) (t:List Nat),Ge g g'->P g d u t->P g' d u t)
variable {tr:List (List (List Nat))}
include mo
theorem Stk.fr(Z:Stk P h M R rs tr)(f:Fr X h h1)(x1:∀p,p∈X->p∈M)(x2:∀p,p∈R::rs->p∉X)(m1:∀p,p∈M'->p∈M\/h.length<=p)(m2:∀p,p∈R::rs->p∈M')(m3:∀p,p∈M'->p<h1.length):Stk P h1 M' R rs tr where
 nd:=Z.nd
 ms:=m2
 lt:=m3
 hR:=f.2 _ _ (x2 R List.mem_cons_self) Z.hR
 sk:=SK.mono (fun d u t z=>mo _ _ _ _ _ (Vw.le f x1 m1) z) (fun a m=>by
  obtain⟨us,e⟩:=Z.sk.at a m;rw [e]
  exact f.2 _ _ (x2 a (List.mem_cons_of_mem _ m)) e) Z.sk
 le:=Z.le
theorem Stk.kp(Z:Stk P h M R rs tr)(k:Kp h h1):Stk P h1 M R rs tr:=Z.fr mo (Fr.of (X:=[]) k) (fun p m=>by cases m) (fun p _ m=>by cases m) (fun p m=>.inl m) Z.ms (fun p m=>Nat.lt_of_lt_of_le (Z.lt p m) k.len)
theorem Stk.app(Z:Stk P h M R (b::as) (ta::tr))(hb:h[b]?=some (.lst ub))(hu:P (Vw M h) (4-as.length) u t):Stk P (h.set b (.lst (ub++[u]))) M R (b::as) ((ta++[t])::tr):=by
 have nd:=Z.nd;simp only [List.nodup_cons,List.mem_cons,not_or]at nd;obtain⟨⟨us,e,w⟩,r⟩:=Z.sk;rw [e]at hb;cases hb;have f:Fr [b] h (h.set b (.lst (ub++[u]))):=(Fr.of (Kp.refl h)).put List.mem_cons_self
 have g:Ge (Vw M h) (Vw M (h.set b (.lst (ub++[u])))):=Vw.le f (fun p m=>by cases List.mem_singleton.mp m;exact Z.ms _ (List.mem_cons_of_mem _ List.mem_cons_self)) (fun p m=>.inl m)
 exact⟨Z.nd,Z.ms,fun p m=>by rw [List.length_set];exact Z.lt p m,by rw [List.getElem?_set_ne (Ne.symm nd.1.1)];exact Z.hR,
  ⟨⟨_,List.getElem?_set_self (List.getElem?_eq_some_iff.mp e).1,Qb (fun _ _ z=>mo _ _ _ _ _ g z) (ZD w hu)⟩,SK.mono (fun d u t z=>mo _ _ _ _ _ g z) (fun c m=>List.getElem?_set_ne fun(z:b=c)=>nd.2.1 (z▸m)) r⟩,Z.le⟩
theorem Stk.pop(Z:Stk P h M R (a::rs) (ta::tr))(f:Fr [R] h h1)(hR:h1[R]?=some (.lst (Qw rs))):Stk P h1 (M.filter (·≠a)) R rs tr/\∃ua,h1[a]?=some (.lst ua)/\Vw (M.filter (·≠a)) h1 a=some (.lst ua)/\PySem.Paired (P (Vw (M.filter (·≠a)) h1) (4-rs.length)) ua ta/\h[a]?=some (.lst ua):=by
 have nd:=Z.nd;simp only [List.nodup_cons,List.mem_cons,not_or]at nd;obtain⟨⟨us,e,w⟩,r⟩:=Z.sk
 have mf:∀p,p∈M.filter (·≠a)->p∈M/\p≠a:=fun p m=>by simpa using m
 have g:Ge (Vw M h) (Vw (M.filter (·≠a)) h1):=Vw.le f (fun p m=>by cases List.mem_singleton.mp m;exact Z.ms _ List.mem_cons_self) (fun p m=>.inl (mf p m).1)
 have ea:=f.2 a _ (fun m=>nd.1.1 (List.mem_singleton.mp m).symm) e;refine⟨⟨?_,fun p m=>?_,fun p m=>Nat.lt_of_lt_of_le (Z.lt p (mf p m).1) f.1,hR,SK.mono (fun d u t z=>mo _ _ _ _ _ g z) (fun c m=>?_) r,Nat.le_of_succ_le Z.le⟩,us,ea,Vw.at (fun m=>(mf a m).2 rfl) ea,Qb (fun _ _ z=>mo _ _ _ _ _ g z) w,e⟩
 ·simp only [List.nodup_cons];exact⟨nd.1.2,nd.2.2⟩
 ·rcases List.mem_cons.mp m with rfl|m
  ·simpa using ⟨Z.ms _ List.mem_cons_self,nd.1.1⟩
  ·have:p≠a:=fun z=>nd.2.1 (z▸m);simpa using ⟨Z.ms _ (List.mem_cons_of_mem _ (List.mem_cons_of_mem _ m)),this⟩
 ·obtain⟨us',e'⟩:=SK.at r c m;rw [e'];exact f.2 c _ (fun z=>nd.1.2 (List.mem_singleton.mp z▸m)) e'
theorem Stk.push(Z:Stk P h M R rs tr)(l:rs.length<4):Stk P ((h++[O.lst []]).set R (O.lst (Qw (h.length::rs)))) (h.length::M) R (h.length::rs) ([]::tr):=by
 have lR:=Z.lt R (Z.ms R List.mem_cons_self);have f:Fr [R] h ((h++[O.lst []]).set R (O.lst (Qw (h.length::rs)))):=(Fr.of (Kp.app _ _)).put List.mem_cons_self
 have g:Ge (Vw M h) (Vw (h.length::M) ((h++[O.lst []]).set R (O.lst (Qw (h.length::rs))))):=Vw.le f (fun p m=>by cases List.mem_singleton.mp m;exact Z.ms _ List.mem_cons_self) (fun p m=>by
  rcases List.mem_cons.mp m with rfl|m
  ·exact .inr (Nat.le_refl _)
  ·exact .inl m)
 have nd:=Z.nd;simp only [List.nodup_cons]at nd
 refine⟨?_,fun p m=>?_,fun p m=>?_,List.getElem?_set_self (by simp;lia),⟨⟨[],by rw [List.getElem?_set_ne (Nat.ne_of_lt lR)];exact at0,.nil⟩,SK.mono (fun d u t z=>mo _ _ _ _ _ g z) (fun c m=>?_) Z.sk⟩,l⟩
 ·simp only [List.nodup_cons,List.mem_cons,not_or];exact⟨⟨Nat.ne_of_lt lR,nd.1⟩,fun m=>Nat.lt_irrefl _ (Z.lt _ (Z.ms _ (List.mem_cons_of_mem _ m))),nd.2⟩
 ·simp only [List.mem_cons]at m ⊢
  rcases m with rfl|rfl|m
  ·exact .inr (Z.ms _ List.mem_cons_self)
  ·exact .inl rfl
  ·exact .inr (Z.ms _ (List.mem_cons_of_mem _ m))
 ·rw [List.length_set,List.length_append,List.length_singleton]
  rcases List.mem_cons.mp m with rfl|m
  ·lia
  ·have:=Z.lt p m;lia
 ·obtain⟨us',e'⟩:=SK.at Z.sk c m;rw [e'];exact f.2 c _ (fun z=>nd.1 (List.mem_singleton.mp z▸m)) e'
end
theorem QbN{t:E}{body:List S}:ex T cf (d+1) (.while t body) ρ hs=Q9 (evT T cf d t) (exs T cf d body) 1000000 ρ hs:=by rw [ex]
noncomputable def t35:E:=.cmp .Gt (.bi .len [.var 0]) (.c (.int 1 0))
noncomputable def Qg7:List S:=[.set 1 (.bm .pop (.var 0) []),.ite (.cmp .Eq (.var 1) (.lst [])) [.set 1 (.lst [.tup [.c (.str Q7),.c (.str [107])]])] [],.expr (.bm .append (.ix (.var 0) (.neg (.c (.int 1 0)))) [.tup [.c (.str YL),.tup [.c (.int 2 0),.c (.int 0 0),.c (.int 0 0),.c (.int 0 0),.c (.int 0 0)],.var 1]])]
theorem Qjz:b35=[.while t35 Qg7,.ite (.cmp .Eq (.ix (.var 0) (.c (.int 0 0))) (.lst [])) [.expr (.bm .append (.ix (.var 0) (.c (.int 0 0))) [.tup [.c (.str Q7),.c (.str [112])]])] [],.ret (.ix (.var 0) (.c (.int 0 0)))]:=rfl
section

theorem Qhq{o:Option U}(hR:h[R]?=some (.lst (Qw rs))):evT T cf (d+10) t35 [some (.ref R),o] h=some (decide (1<rs.length),h):=by
 have e:decide ((1:Int) < ((Qw rs).length:Int))=decide (1<rs.length):=by rw [Zm];exact decide_eq_decide.mpr (by lia)
 simp [t35,yy,evs,evO,Ql,Qd,Qo,eq_int,Qi,Qk,opU,Qm,bb,slU,fin,Q8,hR]at e ⊢;exact e
theorem QdJ:bmL .pop R (Qw (a::rs)) [] h=some (.ref a,h.set R (.lst (Qw rs))):=by
 have e:(Qw (a::rs))[(Qw (a::rs)).length-1]?=some (.ref a):=by rw [QA];simp
 have e2:(Qw (a::rs)).dropLast=Qw rs:=by rw [QA];simp
 rw [QkU,e,e2]
theorem Qdn{o:Option U}{ua:List U}(hR:h[R]?=some (.lst (Qw (a::b::as))))(ha:h[a]?=some (.lst ua))(hb:h[b]?=some (.lst ub))(n1:R≠a)(n2:R≠b)(l:ub.length<1000000):
  exs T cf (d+30) Qg7 [some (.ref R),o] h=if ua=[]then some (.next,[some (.ref R),some (.ref (h.length+2))],((h.set R (.lst (Qw (b::as))))++[O.lst [],.tup [.str Q7,.str [107]],.lst [.ref (h.length+1)],.tup (nums 2 0 0 0 0),.tup [.str YL,.ref (h.length+3),.ref (h.length+2)]]).set b (O.lst (ub++[U.ref (h.length+4)])))
   else some (.next,[some (.ref R),some (.ref a)],((h.set R (.lst (Qw (b::as))))++[O.lst [],.tup (nums 2 0 0 0 0),.tup [.str YL,.ref (h.length+1),.ref a]]).set b (O.lst (ub++[U.ref (h.length+2)]))):=by
 have lR:R<h.length:=(List.getElem?_eq_some_iff.mp hR).1
 have x1:ex T cf (d+29) (.set 1 (.bm .pop (.var 0) [])) [some (.ref R),o] h=some (.next,[some (.ref R),some (.ref a)],h.set R (.lst (Qw (b::as)))):=by
  simp [yy,evs,evO,Ql,Qd,Qo,eq_int,Qi,Qk,opU,Qm,bb,slU,fin,Zd,hR,bL,bmU,QdJ]
 have ha':(h.set R (.lst (Qw (b::as))))[a]?=some (.lst ua):=by rw [List.getElem?_set_ne n1];exact ha
 have hb':(h.set R (.lst (Qw (b::as))))[b]?=some (.lst ub):=by rw [List.getElem?_set_ne n2];exact hb
 have hR':(h.set R (.lst (Qw (b::as))))[R]?=some (.lst (Qw (b::as))):=List.getElem?_set_self lR;have hl:(h.set R (.lst (Qw (b::as)))).length=h.length:=List.length_set;unfold Qg7;rw [Qp x1];generalize h.set R (.lst (Qw (b::as)))=h1 at ha' hb' hR' hl ⊢;rw [<-hl];have q1:=Qa9 (T:=T) (Qx (r:=[O.lst []]) ha') (at0 (r:=[]))
 have la:atU (Qw (b::as)) (-1)=some (.ref b):=by rw [QA];exact Zq
 have kR:∀r,(h1++r)[R]?=some (.lst (Qw (b::as))):=fun r=>Qx hR';have kb:∀r,(h1++r)[b]?=some (.lst ub):=fun r=>Qx hb';by_cases z:ua=[]
 ·rw [if_pos z];rw [decide_eq_true z]at q1;simp [yy,evs,evO,Ql,Qd,Qo,eq_int,Qi,Qk,opU,Qm,bb,slU,fin,q1,kR,kb,la,Zd,bL,bmU,Zp,l,nums]
 ·rw [if_neg z];rw [decide_eq_false z]at q1;simp [yy,evs,evO,Ql,Qd,Qo,eq_int,Qi,Qk,opU,Qm,bb,slU,fin,q1,kR,kb,la,Zd,bL,bmU,Zp,l,nums]
end
theorem Vw.kp(k:Kp h h1):Ge (Vw M h) (Vw M h1):=Vw.le (Fr.of (X:=[]) k) (fun p m=>by cases m) (fun p m=>.inl m)
theorem mLP:∀(g g':Gt) (d:Nat) (u:U) (t:List Nat),Ge g g'->LP g d u t->LP g' d u t:=fun _ _ _ _ _ h z=>LP.mono h z
theorem mLI:∀(g g':Gt) (d:Nat) (u:U) (t:List Nat),Ge g g'->LI g d u t->LI g' d u t:=fun _ _ _ _ _ h z=>LI.mono h z
theorem at3{a b c:O}{r:Hs}:(hs++a::b::c::e::r)[hs.length+3]?=some e:=by rw [List.getElem?_append_right (by lia),show hs.length+3-hs.length=3 by lia];rfl
theorem at4{a b c:O}{r:Hs}:(hs++a::b::c::e::f::r)[hs.length+4]?=some f:=by rw [List.getElem?_append_right (by lia),show hs.length+4-hs.length=4 by lia];rfl
theorem Qiw:Oks 2 0 0 0 0:=⟨okS (by decide) (by decide),ok0,ok0,ok0,ok0⟩
theorem Za{P:Gt->Nat->U->List Nat->Prop}{tr:List (List (List Nat))}(Z:Stk P h M R (b::as) (ta::tr)):∃ub,h[b]?=some (.lst ub)/\ub.length<=cst ta/\PySem.Paired (P (Vw M h) (4-as.length)) ub ta/\(ub=[]↔ta=[]):=by
 obtain⟨⟨us,e,w⟩,r⟩:=Z.sk;have:=QJ w;have cl:=QQ (ts:=ta)
 refine⟨us,e,by lia,w,fun z=>?_,fun z=>?_⟩
 ·subst z;exact List.length_eq_zero_iff.mp this.symm
 ·subst z;exact List.length_eq_zero_iff.mp this
section

theorem LP.tim{g:Gt}{n0 n1 n2 n3 n4:Int}(h:k+2<=4)(hp:g p=some (.tup [.str YL,.ref q,.ref l]))(hq:g q=some (.tup (nums n0 n1 n2 n3 n4)))(ho:Oks n0 n1 n2 n3 n4)(hl:g l=some (.lst us))(z:PySem.Paired (LP g (4-(k+1))) us ts):LP g (4-k) (.ref p) (tmT ts (txt n0 n1 n2 n3 n4)):=by
 rw [show 4-k=4-(k+1)+1 by lia]
 exact .inr ⟨p,q,l,us,ts,n0,n1,n2,n3,n4,rfl,hp,hq,ho,hl,z,rfl⟩
theorem LP.one{g:Gt}(h:k<=3)(hp:g p=some (.tup [.str Q7,.str m]))(z:Mk m):LP g (4-k) (.ref p) m:=by
 rw [show 4-k=3-k+1 by lia]
 exact .inl ⟨p,m,rfl,hp,z,rfl⟩
theorem Qaa{n0 n1 n2 n3 n4:Int}(ho:Oks n0 n1 n2 n3 n4):(tmT ts (txt n0 n1 n2 n3 n4)).length+2<=cst ts+410:=by
 have:=(Qy (ts:=ts)).1;have:=Yp ho;simp [tmT];lia
theorem Zr:cst (ts++[t])=cst ts+(t.length+2):=by rw [Zs];simp [cst]
theorem Qhz{o:Option U}{tb:List (List Nat)}{tr:List (List (List Nat))}(Z:Stk LP h M R (a::b::as) (ta::tb::tr))(bd:cst tb<=900000):
  ∃h1 o' tb',exs T cf (d+30) Qg7 [some (.ref R),o] h=some (.next,[some (.ref R),o'],h1)/\Fr [R,b] h h1/\Stk LP h1 (M.filter (·≠a)) R (b::as) (tb'::tr)/\cst tb'<=cst ta+cst tb+420:=by
 have nd:=Z.nd;simp only [List.nodup_cons,List.mem_cons,not_or]at nd;have lR:=Z.lt R (Z.ms R List.mem_cons_self);have le:=Z.le;simp only [List.length_cons]at le;obtain⟨Z1,ua,ha1,va,pa,ha⟩:=Z.pop mLP (h1:=h.set R (.lst (Qw (b::as)))) ((Fr.of (Kp.refl h)).put List.mem_cons_self) (List.getElem?_set_self lR);obtain⟨ub,hb1,lb,pb,_⟩:=Za Z1
 have hb:h[b]?=some (.lst ub):=by rw [List.getElem?_set_ne nd.1.2.1]at hb1;exact hb1
 have run:=Qdn (T:=T) (cf:=cf) (d:=d) (o:=o) Z.hR ha hb nd.1.1 nd.1.2.1 (by lia)
 have hl:(h.set R (.lst (Qw (b::as)))).length=h.length:=List.length_set;have f1:Fr [R,b] h (h.set R (.lst (Qw (b::as)))):=(Fr.of (Kp.refl h)).put List.mem_cons_self;rw [<-hl]at run;generalize h.set R (.lst (Qw (b::as)))=g at *;have nw:∀{p},g.length<=p->p∉M.filter (·≠a):=fun l m=>Nat.not_lt.mpr l (Z1.lt _ m);by_cases z:ua=[]
 ·rw [if_pos z]at run
  refine⟨_,_,_,run,((f1.trans (Fr.of (Kp.app _ _))).put (List.mem_cons_of_mem _ List.mem_cons_self)),(Z1.kp mLP (Kp.app _ _)).app mLP (Qx hb1) (LP.tim (k:=as.length) (n0:=2) (n1:=0) (n2:=0) (n3:=0) (n4:=0) (ts:=[[107]]) (us:=[.ref (g.length+1)]) (by lia) (Vw.at (nw (by lia)) at4) (Vw.at (nw (by lia)) at3) Qiw (Vw.at (nw (by lia)) at2) (.cons (LP.one (by lia) (Vw.at (nw (by lia)) at1) (.bare (by decide))) .nil)),?_⟩
  have:=Qaa (ts:=[[107]]) Qiw;have e:cst [[107]]=3:=rfl;rw [Zr];lia
 ·rw [if_neg z]at run
  refine⟨_,_,_,run,((f1.trans (Fr.of (Kp.app _ _))).put (List.mem_cons_of_mem _ List.mem_cons_self)),(Z1.kp mLP (Kp.app _ _)).app mLP (Qx hb1) (LP.tim (k:=as.length) (n0:=2) (n1:=0) (n2:=0) (n3:=0) (n4:=0) (ts:=ta) (us:=ua) (by lia) (Vw.at (nw (by lia)) at2) (Vw.at (nw (by lia)) at1) Qiw (Vw.kp (Kp.app _ _) _ _ va) (Qb (fun _ _ z=>LP.mono (Vw.kp (Kp.app _ _)) z) pa)),?_⟩
  have:=Qaa (ts:=ta) Qiw;rw [Zr];lia
theorem QbT{R:Nat}:∀{rs M:List Nat} {tr:List (List (List Nat))} {h:Hs} {o:Option U} {k:Nat},Stk LP h M R rs tr->rs≠[]->rs.length<=k->tot tr+420*rs.length<=800000 ->
  ∃h1 M1 r ts o',Q9 (evT T cf (d+30) t35) (exs T cf (d+30) Qg7) k [some (.ref R),o] h=some (.next,[some (.ref R),o'],h1)/\Fr (R::rs) h h1/\r∈rs/\Stk LP h1 M1 R [r] [ts]/\(∀p,p∈M->p∉rs->p∈M1)/\cst ts<=tot tr+420*rs.length
 | [],_,_,_,_,_,_,ne,_,_=>absurd rfl ne
 | _,_,_,_,_,0,_,ne,l,_=>absurd (List.length_eq_zero_iff.mp (Nat.le_zero.mp l)) ne
 | [r],M,tr,h,o,k+1,Z,ne,l,b=>by
  have tl:=Z.sk.len
  match tr,tl,Z,b with
  | [ts],_,Z,b =>
   refine⟨h,M,r,ts,o,?_,Fr.of (Kp.refl _),List.mem_cons_self,Z,fun p m _=>m,by simp [tot]⟩
   rw [Q9,Qhq (d:=d+20) Z.hR];rfl
 | a::b::as,M,tr,h,o,k+1,Z,ne,l,bd=>by
  have tl:=Z.sk.len
  match tr,tl,Z,bd with
  | ta::tb::tr,_,Z,bd =>
   simp only [Qr,List.length_cons]at bd
   obtain⟨h1,o',tb',e,f,Z1,c⟩:=Qhz (T:=T) (cf:=cf) (d:=d) (o:=o) Z (by lia)
   obtain⟨h2,M2,r,ts,o2,e2,f2,m2,Z2,s2,c2⟩:=QbT (o:=o') (k:=k) Z1 (by simp) (by simp only [List.length_cons]at l ⊢;lia) (by simp only [Qr,List.length_cons];lia)
   refine⟨h2,M2,r,ts,o2,?_,Fr.trans (f.mono ?_) (f2.mono ?_),List.mem_cons_of_mem _ m2,Z2,fun p m n=>s2 p ?_ (fun z=>n (List.mem_cons_of_mem _ z)),by simp only [Qr,List.length_cons]at c2 ⊢;lia⟩
   ·rw [Q9,Qhq (d:=d+20) Z.hR]
    have:decide (1<(a::b::as).length)=true:=by simp
    rw [this];simp only [e];exact e2
   ·intro p m;simp only [List.mem_cons,List.not_mem_nil,or_false]at m ⊢
    rcases m with rfl|rfl
    ·exact .inl rfl
    ·exact .inr (.inr (.inl rfl))
   ·intro p m;simp only [List.mem_cons]at m ⊢
    rcases m with rfl|m
    ·exact .inl rfl
    ·exact .inr (.inr m)
   ·have:p≠a:=fun z=>n (z▸List.mem_cons_self);simpa using ⟨m,this⟩
end
section

theorem Qeo{tr:List (List (List Nat))}(Z:Stk LP h M R rs tr)(ne:rs≠[])(b:tot tr<=700000):
  ∃h1 r us ts,Fr (R::rs) h h1/\r∈rs/\h1[r]?=some (.lst us)/\us≠[]/\(∀M',(∀p,p∈M'->p∈M/\p∉rs)->PySem.Paired (LP (Vw M' h1) 4) us ts)/\cst ts<=tot tr+2000/\Qa (tb s) (n+1) 35 [.ref R] h=some (.ref r,h1):=by
 rw [Qe fnL[35] rfl rfl];show ∃h1 r us ts,_/\_/\_/\_/\_/\_/\fin (exs (tb s) (Qa (tb s) n) 100 b35 [some (.ref R),none] h)=_;generalize Qa (tb s) n=cf;generalize tb s=T;have le:=Z.le
 obtain⟨h1,M1,r,ts,o',e,f,mr,Z1,s1,c⟩:=QbT (T:=T) (cf:=cf) (d:=68) (o:=none) (k:=1000000) Z ne (by lia) (by lia)
 rw [Qjz]
 have x1:ex T cf 99 (.while t35 Qg7) [some (.ref R),none] h=some (.next,[some (.ref R),o'],h1):=by rw [QbN];exact e
 rw [Qp x1];obtain⟨us,hr,lu,pu,en⟩:=Za Z1;have hR:h1[R]?=some (.lst [.ref r]):=Z1.hR;have q1:=Qa9 (T:=T) (Qx (r:=[O.lst []]) hr) (at0 (r:=[]));have kR:∀r',(h1++r')[R]?=some (.lst [.ref r]):=fun r=>Qx hR;have kr:∀r',(h1++r')[r]?=some (.lst us):=fun r=>Qx hr
 have gv:∀M',(∀p,p∈M'->p∈M/\p∉rs)->∀h2,Fr [r] h1 h2->Ge (Vw M1 h1) (Vw M' h2):=fun M' z h2 f2=>Vw.le f2 (fun p m=>by cases List.mem_singleton.mp m;exact Z1.ms _ (List.mem_cons_of_mem _ List.mem_cons_self)) (fun p m=>.inl (s1 p (z p m).1 (z p m).2))
 have fx:∀h2,Fr [r] h1 h2->Fr (R::rs) h h2:=fun h2 f2=>f.trans (f2.mono fun p m=>by cases List.mem_singleton.mp m;exact List.mem_cons_of_mem _ mr)
 by_cases z:us=[]
 ·subst z;have nt:=en.mp rfl;subst nt;rw [decide_eq_true rfl]at q1;have f2:Fr [r] h1 ((h1++[O.lst [],.tup [.str Q7,.str [112]]]).set r (O.lst [.ref (h1.length+1)])):=(Fr.of (Kp.app _ _)).put List.mem_cons_self
  have nR:R≠r:=fun z=>by have:=Z1.nd;simp [z]at this
  refine⟨_,r,[.ref (h1.length+1)],[[112]],fx _ f2,mr,List.getElem?_set_self (by have:=(List.getElem?_eq_some_iff.mp hr).1;simp;lia),by simp,fun M' z'=>.cons (LP.one (k:=0) (by lia) (Vw.at (fun m=>?_) ?_) (.bare (by decide))) .nil,by simp [cst],?_⟩
  ·have:=Z.lt _ (z' _ m).1;have:=f.1;lia
  ·rw [List.getElem?_set_ne (by have:=(List.getElem?_eq_some_iff.mp hr).1;lia)];exact at1
  ·have hR2:((h1++[O.lst [],.tup [.str Q7,.str [112]]]).set r (O.lst [.ref (h1.length+1)]))[R]?=some (.lst [.ref r]):=by rw [List.getElem?_set_ne (Ne.symm nR)];exact kR _
   simp [yy,evs,evO,Ql,Qd,Qo,eq_int,Qi,Qk,opU,Qm,bb,slU,fin,hR,kR,kr,atU,ixU,q1,Zd,bL,bmU,Zp,hR2]
 ·rw [decide_eq_false z]at q1;have f2:Fr [r] h1 (h1++[O.lst []]):=Fr.of (Kp.app _ _)
  refine⟨_,r,us,ts,fx _ f2,mr,kr _,z,fun M' z'=>Qb (fun _ _ y=>LP.mono (gv M' z' _ f2) y) pu,by lia,?_⟩
  simp [yy,evs,evO,Ql,Qd,Qo,eq_int,Qi,Qk,opU,Qm,bb,slU,fin,hR,kR,kr,atU,ixU,q1]
theorem Yi{α β:Type}{P:α->β->Prop}:∀(k:Nat) {l:List α} {r:List β},PySem.Paired P l r->PySem.Paired P (l.take k) (r.take k)
 | 0,_,_,_=>.nil
 | k+1,_,_,.nil=>.nil
 | k+1,_,_,.cons a t=>.cons a (Yi k t)
theorem Jd{α β:Type}{P:α->β->Prop}:∀(k:Nat) {l:List α} {r:List β},PySem.Paired P l r->PySem.Paired P (l.drop k) (r.drop k)
 | 0,_,_,z=>z
 | k+1,_,_,.nil=>.nil
 | k+1,_,_,.cons a t=>Jd k t
end
theorem Qaz(k:Nat)(ts:List (List Nat)):cst (ts.take k)+cst (ts.drop k)=cst ts:=by rw [<-Zs,List.take_append_drop]
theorem QaS{b:Bool}:(rT ts b).length<=cst ts+9:=by
 have:=(Qy (ts:=ts)).1;unfold rT;cases b<;>simp<;>lia
theorem Qjt{n0 n1 n2 n3 n4:Int}(ho:Oks n0 n1 n2 n3 n4):(bT ts (txt n0 n1 n2 n3 n4)).length<=cst ts+409:=by
 have:=(Q0 (ts:=ts)).1;have:=Yp ho;rw [JX];lia
theorem Qbb{A:Nat}(h:A<=n):ZX n d (some (A:Int))=A:=by
 have:¬(A:Int) < 0:=by lia
 simp only [ZX,if_neg this,Int.toNat_natCast,Nat.min_eq_left h]
noncomputable def r36:List S:=[.set 3 (.op .Mod (.op .FloorDiv (.var 1) (.c (.int 4 0))) (.bi .len [.var 0])),.set 4 (.bi .min [.bi .len [.var 0],.op .Add (.op .Add (.var 3) (.c (.int 1 0))) (.op .Mod (.op .FloorDiv (.var 1) (.c (.int 32 0))) (.c (.int 2 0)))]),.ret (.tup [.c (.str QU),.sl (.var 0) none (some (.var 3)),.c (.bl false),.sl (.var 0) (some (.var 3)) (some (.var 4)),.sl (.var 0) (some (.var 4)) none])]
theorem Qjy:b36=[.ite (.cmp .Eq (.op .Mod (.var 1) (.c (.int 4 0))) (.c (.int 2 0))) [.ret (.tup [.c (.str QU),.var 0,.var 2])] [],.ite (.cmp .Eq (.op .Mod (.var 1) (.c (.int 4 0))) (.c (.int 3 0))) r36 [],.ret (.tup [.c (.str QU),.var 0,.c (.bl false)])]:=rfl
section

theorem QgM{x:Int}(hr:h[r]?=some (.lst us))(ne:us≠[])(nr:r∉M)(lt:∀p,p∈M->p<h.length)(z:PySem.Paired (LP (Vw M h) 4) us ts)(b:cst ts<=900000):
  ∃h1 p t,Kp h h1/\LI (Vw M h1) (d+1) (.ref p) t/\t.length<=cst ts+30/\Qa (tb s) (n+1) 36 [.ref r,.int x 0,.bl fl] h=some (.ref p,h1):=by
 rw [Qe fnL[36] rfl rfl];show ∃h1 p t,_/\_/\_/\fin (exs (tb s) (Qa (tb s) n) 100 b36 [some (.ref r),some (.int x 0),some (.bl fl),none,none] h)=_;rw [Qjy];generalize Qa (tb s) n=cf;generalize tb s=T;have nw:∀{p},h.length<=p->p∉M:=fun l m=>Nat.not_lt.mpr l (lt _ m);have pm:∀{h1},Kp h h1->PySem.Paired (LP (Vw M h1) 5) us ts:=fun k=>Qb (fun _ _ z=>LP.up 1 (LP.mono (Vw.kp k) z)) z;have sh:∀fl,LI (Vw M (h++[O.tup [.str QU,.ref r,.bl fl]])) (d+1) (.ref h.length) (rT ts fl):=fun fl=>⟨_,rfl,.inl ⟨r,us,ts,fl,Vw.at (nw (Nat.le_refl _)) at0,Vw.at nr (Qx hr),pm (Kp.app _ _),rfl⟩⟩;have ul:=QJ z;have cl:=QQ (ts:=ts)
 rcases (show x % 4=2\/x % 4=3\/(x % 4≠2/\x % 4≠3) by lia)with q|q|⟨q1,q2⟩
 ·refine⟨_,h.length,rT ts fl,Kp.app _ _,sh fl,by have:=QaS (ts:=ts) (b:=fl);lia,?_⟩
  simp [yy,evs,evO,Ql,Qd,Qo,eq_int,Qi,Qk,opU,Qm,bb,slU,fin,Yk,q]
 ·have n0:0<us.length:=List.length_pos_iff.mpr ne
  have n0':(0:Int) < (us.length:Int):=by lia
  have a0:=Int.emod_nonneg (x / 4) (Int.ne_of_gt n0');have a1:=Int.emod_lt_of_pos (x / 4) n0';obtain⟨A,eA⟩:=Int.eq_ofNat_of_zero_le a0
  have bb:∃B:Nat,(if(x / 4 % (us.length:Int))+1+x / 32 % 2<(us.length:Int)then(x / 4 % (us.length:Int))+1+x / 32 % 2 else(us.length:Int))=(B:Int)/\A<=B/\B<=us.length:=by
   split
   ·exact⟨(x / 4 % (us.length:Int)+1+x / 32 % 2).toNat,by lia,by lia,by lia⟩
   ·exact⟨us.length,rfl,by lia,by lia⟩
  obtain⟨B,eB,lAB,lB⟩:=bb;rw [eA]at eB a1
  have lA:A<us.length:=by lia
  have c1:ZV us none (some (A:Int))=us.take A:=by rw [ZV,Qbb (Nat.le_of_lt lA)];simp [ZX]
  have c2:ZV us (some (A:Int)) (some (B:Int))=(us.drop A).take (B-A):=by rw [ZV,Qbb (Nat.le_of_lt lA),Qbb lB]
  have c3:ZV us (some (B:Int)) none=(us.drop B).take (us.length-B):=by rw [ZV,Qbb lB];rfl
  have k:Kp h (h++[.lst (us.take A),.lst ((us.drop A).take (B-A)),.lst ((us.drop B).take (us.length-B)),.tup [.str QU,.ref h.length,.bl false,.ref (h.length+1),.ref (h.length+2)]]):=Kp.app _ _
  refine⟨_,h.length+3,_,k,⟨_,rfl,.inr (.inl ⟨h.length,us.take A,ts.take A,h.length+1,(us.drop A).take (B-A),(ts.drop A).take (B-A),h.length+2,(us.drop B).take (us.length-B),(ts.drop B).take (us.length-B),Vw.at (nw (by lia)) at3,Vw.at (nw (by lia)) at0,Yi _ (pm k),Vw.at (nw (by lia)) at1,Yi _ (Jd _ (pm k)),Vw.at (nw (by lia)) at2,Yi _ (Jd _ (pm k)),rfl⟩)⟩,?_,?_⟩
  ·have r1:=QaS (ts:=r5 (ts.take A) ((ts.drop A).take (B-A)) ((ts.drop B).take (us.length-B))) (b:=false)
   have b5:∀a c e:List (List Nat),cst (r5 a c e)=cst a+((Qu c).length+2)+cst e:=fun a c e=>by simp [r5,Zs,cst];lia
   rw [b5]at r1;have b2:=(Qy (ts:=(ts.drop A).take (B-A))).1
   have rl:(Qu ((ts.drop A).take (B-A))).length=(Qj [44,32] ((ts.drop A).take (B-A))).length+7:=by simp [Qu]
   have k1:=Qaz A ts;have k2:=Qaz (B-A) (ts.drop A)
   rw [List.drop_drop,show A+(B-A)=B by lia]at k2
   have k3:=Qaz (us.length-B) (ts.drop B);lia
  ·have e1:Yk (.int (x / 4) 0) (.int us.length 0)=some (.int A 0):=by simp [Yk,n0,eA]
   have e3:Yk (.int x 0) (.int 4 0)=some (.int 3 0):=by simp [Yk,q]
   have e4:Yk (.int (x / 32) 0) (.int 2 0)=some (.int (x / 32 % 2) 0):=by simp [Yk]
   have k1:∀r',(h++r')[r]?=some (.lst us):=fun r'=>Qx hr
   have bl:biU T .len [.ref r] h=some (.int us.length 0,h):=by simp [Zw,Q8,hr]
   have bm:biU T .min [.int us.length 0,.int ((A:Int)+1+x / 32 % 2) 0] h=some (.int B 0,h):=by rw [Qjs,eB]
   have y1:ex T cf 96 (.set 3 (.op .Mod (.op .FloorDiv (.var 1) (.c (.int 4 0))) (.bi .len [.var 0]))) [some (.ref r),some (.int x 0),some (.bl fl),none,none] h=some (.next,[some (.ref r),some (.int x 0),some (.bl fl),some (.int A 0),none],h):=by
    simp [yy,evs,evO,Ql,Qd,Qo,eq_int,Qi,Qk,opU,Qm,slU,fin,JZ,bl,e1]
   have y2:ex T cf 95 (.set 4 (.bi .min [.bi .len [.var 0],.op .Add (.op .Add (.var 3) (.c (.int 1 0))) (.op .Mod (.op .FloorDiv (.var 1) (.c (.int 32 0))) (.c (.int 2 0)))])) [some (.ref r),some (.int x 0),some (.bl fl),some (.int A 0),none] h=some (.next,[some (.ref r),some (.int x 0),some (.bl fl),some (.int A 0),some (.int B 0)],h):=by
    simp [yy,evs,evO,Ql,Qd,Qo,eq_int,Qi,Qk,opU,Qm,slU,fin,JZ,bl,e4,gz,bm]
   have y3:exs T cf 97 r36 [some (.ref r),some (.int x 0),some (.bl fl),none,none] h=some (.ret (.ref (h.length+3)),[some (.ref r),some (.int x 0),some (.bl fl),some (.int A 0),some (.int B 0)],h++[.lst (us.take A),.lst ((us.drop A).take (B-A)),.lst ((us.drop B).take (us.length-B)),.tup [.str QU,.ref h.length,.bl false,.ref (h.length+1),.ref (h.length+2)]]):=by
    unfold r36;rw [Qp y1,Qp y2];simp [yy,evs,evO,Ql,Qd,Qo,eq_int,Qi,Qk,opU,Qm,bb,slU,fin,hr,k1,c1,c2,c3]
   rw [QC]
   have y0:ex T cf 99 (.ite (.cmp .Eq (.op .Mod (.var 1) (.c (.int 4 0))) (.c (.int 2 0))) [.ret (.tup [.c (.str QU),.var 0,.var 2])] []) [some (.ref r),some (.int x 0),some (.bl fl),none,none] h=some (.next,[some (.ref r),some (.int x 0),some (.bl fl),none,none],h):=by
    simp [yy,evs,evO,Ql,Qd,Qo,eq_int,Qi,Qk,opU,Qm,bb,slU,fin,e3]
   rw [y0];show fin (exs T cf 99 _ _ _)=_;rw [QC]
   have y5:ex T cf 98 (.ite (.cmp .Eq (.op .Mod (.var 1) (.c (.int 4 0))) (.c (.int 3 0))) r36 []) [some (.ref r),some (.int x 0),some (.bl fl),none,none] h=exs T cf 97 r36 [some (.ref r),some (.int x 0),some (.bl fl),none,none] h:=by
    simp [yy,evs,evO,Ql,Qd,Qo,eq_int,Qi,Qk,opU,Qm,bb,slU,fin,e3]
   rw [y5,y3];rfl
 ·refine⟨_,h.length,rT ts false,Kp.app _ _,sh false,by have:=QaS (ts:=ts) (b:=false);lia,?_⟩
  simp [yy,evs,evO,Ql,Qd,Qo,eq_int,Qi,Qk,opU,Qm,bb,slU,fin,Yk,q1,q2]
theorem Qem{x:Int}:∃h1 r n0 n1 n2 n3 n4,Kp hs h1/\hs.length<=r/\h1[r]?=some (.tup (nums n0 n1 n2 n3 n4))/\Oks n0 n1 n2 n3 n4/\Qa (tb s) (n+2) 37 [.int x 0] hs=some (.ref r,h1):=by
 rw [Qe fnL[37] rfl rfl];show ∃h1 r n0 n1 n2 n3 n4,_/\_/\_/\_/\fin (exs (tb s) (Qa (tb s) (n+1)) 100 b37 [some (.int x 0),none] hs)=_;obtain⟨h1,r,n0,n1,n2,n3,n4,k,l,e,o,c⟩:=QaB (s:=s) (n:=n) (x:=x) (hs:=hs);generalize Qa (tb s) (n+1)=cf at c ⊢;generalize tb s=T;by_cases z:n0=0
 ·refine⟨h1++[.tup [.int 1 0],.tup [.int n1 0,.int n2 0,.int n3 0,.int n4 0],.tup (nums 1 n1 n2 n3 n4)],h1.length+2,1,n1,n2,n3,n4,k.trans (Kp.app _ _),Nat.le_add_right_of_le k.len,at2,⟨okS (by decide) (by decide),o.h1,o.h2,o.h3,o.h4⟩,?_⟩
  subst z;have e':(h1++[O.tup [.int 1 0]])[r]?=some (.tup (nums 0 n1 n2 n3 n4)):=Qx e;simp [b37,yy,evs,evO,Ql,Qd,Qo,eq_int,Qi,Qk,opU,Qm,bb,slU,fin,c,e,e',nums,atU,ixU,ZV,ZX,QjX]
 ·refine⟨h1,r,n0,n1,n2,n3,n4,k,l,e,o,?_⟩;simp [b37,yy,evs,evO,Ql,Qd,Qo,eq_int,Qi,Qk,opU,Qm,bb,slU,fin,c,e,nums,atU,ixU,z]
end
structure Blk(h:Hs)(M:List Nat)(B S:Nat)(bs sms:List Nat)(tb:List (List (List Nat))):Prop where
 kb:Stk LI h M B bs tb
 sM:S∈M
 sb:S∉B::bs
 hS:h[S]?=some (.lst (Qw sms))
 sm:∀q,q∈sms->∃n0 n1 n2 n3 n4,Vw M h q=some (.tup (nums n0 n1 n2 n3 n4))/\Oks n0 n1 n2 n3 n4
 ln:bs.length=sms.length+1
theorem Blk.fr{S:Nat}{bs:List Nat}{tb:List (List (List Nat))}(Z:Blk h M B S bs sms tb)(f:Fr X h h1)(x1:∀p,p∈X->p∈M)(x2:∀p,p∈B::bs->p∉X)(x3:S∉X)(m1:∀p,p∈M'->p∈M\/h.length<=p)(m2:∀p,p∈B::bs->p∈M')(m3:∀p,p∈M'->p<h1.length)(m4:S∈M'):Blk h1 M' B S bs sms tb where
 kb:=Z.kb.fr mLI f x1 x2 m1 m2 m3
 sM:=m4
 sb:=Z.sb
 hS:=f.2 _ _ x3 Z.hS
 sm:=fun q m=>by
  obtain⟨n0,n1,n2,n3,n4,e,o⟩:=Z.sm q m;exact⟨n0,n1,n2,n3,n4,Vw.le f x1 m1 _ _ e,o⟩
 ln:=Z.ln
theorem Blk.kp{S:Nat}{bs:List Nat}{tb:List (List (List Nat))}(Z:Blk h M B S bs sms tb)(k:Kp h h1):Blk h1 M B S bs sms tb:=Z.fr (Fr.of (X:=[]) k) (fun p m=>by cases m) (fun p _ m=>by cases m) (fun m=>by cases m) (fun p m=>.inl m) Z.kb.ms (fun p m=>Nat.lt_of_lt_of_le (Z.kb.lt p m) k.len) Z.sM
theorem Blk.app{S:Nat}{tr:List (List (List Nat))}(Z:Blk h M B S (b::as) sms (ta::tr))(hb:h[b]?=some (.lst ub))(hu:LI (Vw M h) (4-as.length) u t):Blk (h.set b (.lst (ub++[u]))) M B S (b::as) sms ((ta++[t])::tr):=by
 have mb:b∈M:=Z.kb.ms _ (List.mem_cons_of_mem _ List.mem_cons_self);have nb:b≠S:=fun z=>Z.sb (z▸List.mem_cons_of_mem _ List.mem_cons_self);have f:Fr [b] h (h.set b (.lst (ub++[u]))):=(Fr.of (Kp.refl h)).put List.mem_cons_self
 refine⟨Z.kb.app mLI hb hu,Z.sM,Z.sb,by rw [List.getElem?_set_ne nb];exact Z.hS,fun q m=>?_,Z.ln⟩
 obtain⟨n0,n1,n2,n3,n4,e,o⟩:=Z.sm q m
 exact⟨n0,n1,n2,n3,n4,Vw.le f (fun p m=>by cases List.mem_singleton.mp m;exact mb) (fun p m=>.inl m) _ _ e,o⟩
theorem LI.blk{g:Gt}{n0 n1 n2 n3 n4:Int}(h:k+2<=4)(hp:g p=some (.tup [.str ZN,.ref q,.ref l]))(hq:g q=some (.tup (nums n0 n1 n2 n3 n4)))(ho:Oks n0 n1 n2 n3 n4)(hl:g l=some (.lst us))(z:PySem.Paired (LI g (4-(k+1))) us ts):LI g (4-k) (.ref p) (bT ts (txt n0 n1 n2 n3 n4)):=by
 rw [show 4-k=4-(k+1)+1 by lia]
 exact⟨p,rfl,.inr (.inr ⟨q,l,us,ts,n0,n1,n2,n3,n4,hp,hq,ho,hl,z,rfl⟩)⟩
theorem Jp(l:xs.length<1000000):bmL .append n xs [u] h=some (.non,h.set n (.lst (xs++[u]))):=by rw [Zp,if_pos l]
noncomputable def clB(iB iS iO:Nat):List S:=[.set iO (.bm .pop (.var iB) []),.expr (.bm .append (.ix (.var iB) (.neg (.c (.int 1 0)))) [.tup [.c (.str ZN),.bm .pop (.var iS) [],.var iO]])]
section

theorem QgL{iB iS iO S:Nat}{qs:List Nat}(rB:ρ[iB]?=some (some (.ref B)))(rS:ρ[iS]?=some (some (.ref S)))(n1:iO≠iB)(n2:iO≠iS)(lO:iO < ρ.length)(hB:h[B]?=some (.lst (Qw (a::b::as))))(hS:h[S]?=some (.lst (Qw (q::qs))))(hb:h[b]?=some (.lst ub))(m1:B≠S)(m2:B≠b)(m3:S≠b)(l:ub.length<1000000):
  exs T cf (d+30) (clB iB iS iO) ρ h=some (.next,ρ.set iO (some (.ref a)),(((h.set B (.lst (Qw (b::as)))).set S (.lst (Qw qs)))++[O.tup [U.str ZN,.ref q,.ref a]]).set b (O.lst (ub++[U.ref h.length]))):=by
 have lB:B<h.length:=(List.getElem?_eq_some_iff.mp hB).1;have lS:S<h.length:=(List.getElem?_eq_some_iff.mp hS).1
 have x1:ex T cf (d+29) (.set iO (.bm .pop (.var iB) [])) ρ h=some (.next,ρ.set iO (some (.ref a)),h.set B (.lst (Qw (b::as)))):=by
  simp only [ZI,QbQ,QF,rB,QV,Zd,hB,bL,if_true,evs,bmU,QdJ]
 have hB1:(h.set B (.lst (Qw (b::as))))[B]?=some (.lst (Qw (b::as))):=List.getElem?_set_self lB
 have hb1:(h.set B (.lst (Qw (b::as))))[b]?=some (.lst ub):=by rw [List.getElem?_set_ne m2];exact hb
 have hS1:(h.set B (.lst (Qw (b::as))))[S]?=some (.lst (Qw (q::qs))):=by rw [List.getElem?_set_ne m1];exact hS
 have hl:(h.set B (.lst (Qw (b::as)))).length=h.length:=List.length_set;unfold clB;rw [Qp x1];generalize h.set B (.lst (Qw (b::as)))=h1 at hB1 hb1 hS1 hl ⊢
 have la:atU (Qw (b::as)) (-1)=some (.ref b):=by rw [QA];exact Zq
 have hb2:(h1.set S (.lst (Qw qs))++[O.tup [U.str ZN,.ref q,.ref a]])[b]?=some (.lst ub):=Qx (by rw [List.getElem?_set_ne m3];exact hb1)
 have r1:(ρ.set iO (some (U.ref a)))[iB]?=some (some (.ref B)):=by rw [List.getElem?_set_ne n1];exact rB
 have r2:(ρ.set iO (some (U.ref a)))[iS]?=some (some (.ref S)):=by rw [List.getElem?_set_ne n2];exact rS
 have r3:(ρ.set iO (some (U.ref a)))[iO]?=some (some (.ref a)):=List.getElem?_set_self lO
 have hl2:(h1.set S (.lst (Qw qs))).length=h.length:=by rw [List.length_set,hl]
 simp only [QC,Yo,ZO,QbQ,Qdl,QF,Jq,y_c,J0,evs,QV,r1,r2,r3,Qk,hB1,la,Option.map_some,Zd,hb1,bL,if_true,hS1,bmU,QdJ,hl2,hb2,Jp l,Int.reduceNeg]
end
section

theorem Qbd{iB iS iO S:Nat}{tb:List (List Nat)}{tr:List (List (List Nat))}(Z:Blk h M B S (a::b::as) sms (ta::tb::tr))(rB:ρ[iB]?=some (some (.ref B)))(rS:ρ[iS]?=some (some (.ref S)))(n1:iO≠iB)(n2:iO≠iS)(lO:iO < ρ.length)(bd:cst tb<=900000):
  ∃h1 qs tb',exs T cf (d+30) (clB iB iS iO) ρ h=some (.next,ρ.set iO (some (.ref a)),h1)/\Fr [B,S,b] h h1/\Blk h1 (M.filter (·≠a)) B S (b::as) qs (tb'::tr)/\cst tb'<=cst ta+cst tb+420/\tb'≠[]:=by
 have nd:=Z.kb.nd;simp only [List.nodup_cons,List.mem_cons,not_or]at nd;have sb:=Z.sb;simp only [List.mem_cons,not_or]at sb;have lB:=Z.kb.lt B (Z.kb.ms B List.mem_cons_self);have lS:=Z.kb.lt S Z.sM;have le:=Z.kb.le;simp only [List.length_cons]at le;have ln:=Z.ln
 obtain⟨q,qs,rfl⟩:∃q qs,sms=q::qs:=by
  cases sms with
  | nil=>simp at ln
  | cons q qs=>exact⟨q,qs,rfl⟩
 have fB:Fr [B] h (h.set B (.lst (Qw (b::as)))):=(Fr.of (Kp.refl h)).put List.mem_cons_self;obtain⟨K1,ua,ha1,va,pa,ha⟩:=Z.kb.pop mLI fB (List.getElem?_set_self lB);obtain⟨ub,hb1,lb,pb,_⟩:=Za K1
 have hb:h[b]?=some (.lst ub):=by rw [List.getElem?_set_ne nd.1.2.1]at hb1;exact hb1
 have run:=QgL (T:=T) (cf:=cf) (d:=d) rB rS n1 n2 lO Z.kb.hR Z.hS hb (Ne.symm sb.1) nd.1.2.1 sb.2.2.1 (by lia)
 have fS:Fr [S] (h.set B (.lst (Qw (b::as)))) ((h.set B (.lst (Qw (b::as)))).set S (.lst (Qw qs))):=(Fr.of (Kp.refl _)).put List.mem_cons_self
 have sM:S∈M.filter (·≠a):=by simpa using ⟨Z.sM,sb.2.1⟩
 have hs2:((h.set B (.lst (Qw (b::as)))).set S (.lst (Qw qs)))[S]?=some (.lst (Qw qs)):=List.getElem?_set_self (by rw [List.length_set];exact lS)
 have l2:((h.set B (.lst (Qw (b::as)))).set S (.lst (Qw qs))).length=h.length:=by rw [List.length_set,List.length_set]
 rw [<-l2]at run
 have x1:∀p,p∈[S]->p∈M.filter (·≠a):=fun p m=>by cases List.mem_singleton.mp m;exact sM
 have gS:Ge (Vw (M.filter (·≠a)) (h.set B (.lst (Qw (b::as))))) (Vw (M.filter (·≠a)) ((h.set B (.lst (Qw (b::as)))).set S (.lst (Qw qs)))):=Vw.le fS x1 (fun p m=>.inl m)
 have gB:Ge (Vw M h) (Vw (M.filter (·≠a)) (h.set B (.lst (Qw (b::as))))):=Vw.le fB (fun p m=>by cases List.mem_singleton.mp m;exact Z.kb.ms _ List.mem_cons_self) (fun p m=>.inl (List.mem_filter.mp m).1)
 have K2:=K1.fr mLI fS x1 (fun p m z=>by cases List.mem_singleton.mp z;simp only [List.mem_cons]at m;exact m.elim sb.1 (fun m=>m.elim sb.2.2.1 sb.2.2.2)) (M':=M.filter (·≠a)) (fun p m=>.inl m) K1.ms (fun p m=>by rw [List.length_set];exact K1.lt p m)
 have hb2:((h.set B (.lst (Qw (b::as)))).set S (.lst (Qw qs)))[b]?=some (.lst ub):=by rw [List.getElem?_set_ne sb.2.2.1];exact hb1
 have f12:Fr [B,S,b] h ((h.set B (.lst (Qw (b::as)))).set S (.lst (Qw qs))):=((Fr.of (Kp.refl h)).put List.mem_cons_self).put (List.mem_cons_of_mem _ List.mem_cons_self);have pa:=Qb (fun _ _ z=>LI.mono gS z) pa;have va:=gS _ _ va;generalize (h.set B (.lst (Qw (b::as)))).set S (.lst (Qw qs))=g at *;obtain⟨n0,m1,m2,m3,n4,eq,oq⟩:=Z.sm q List.mem_cons_self;have nw:∀{p},g.length<=p->p∉M.filter (·≠a):=fun l m=>Nat.not_lt.mpr l (K2.lt _ m)
 have K3:Blk g (M.filter (·≠a)) B S (b::as) qs (tb::tr):=⟨K2,sM,by simp only [List.mem_cons,not_or];exact⟨sb.1,sb.2.2⟩,hs2,fun q m=>by
  obtain⟨n0,n1,n2,n3,n4,e,o⟩:=Z.sm q (List.mem_cons_of_mem _ m)
  exact⟨n0,n1,n2,n3,n4,gS _ _ (gB _ _ e),o⟩,by simp only [List.length_cons]at ln ⊢;lia⟩
 have k:Kp g (g++[O.tup [U.str ZN,.ref q,.ref a]]):=Kp.app _ _
 refine⟨_,qs,_,run,(f12.trans (Fr.of k)).put (List.mem_cons_of_mem _ (List.mem_cons_of_mem _ List.mem_cons_self)),(K3.kp k).app (k _ _ hb2) (LI.blk (k:=as.length) (by lia) (Vw.at (nw (Nat.le_refl _)) at0) (Vw.kp k _ _ (gS _ _ (gB _ _ eq))) oq (Vw.kp k _ _ va) (Qb (fun _ _ z=>LI.mono (Vw.kp k) z) pa)),?_,by simp⟩
 have:=Qjt (ts:=ta) oq;rw [Zr];lia
noncomputable def t38:E:=.cmp .Gt (.bi .len [.var 0]) (.c (.int 1 0))
theorem Qhp{bs:List Nat}(hB:h[B]?=some (.lst (Qw bs))):evT T cf (d+10) t38 (some (.ref B)::ρ) h=some (decide (1<bs.length),h):=by
 have e:decide ((1:Int) < ((Qw bs).length:Int))=decide (1<bs.length):=by rw [Zm];exact decide_eq_decide.mpr (by lia)
 simp [t38,yy,evs,evO,Ql,Qd,Qo,eq_int,Qi,Qk,opU,Qm,bb,slU,fin,Q8,hB]at e ⊢;exact e
theorem QbS{B S:Nat}{u:Option U}:∀{bs M sms:List Nat} {tb:List (List (List Nat))} {h:Hs} {o:Option U} {k:Nat},Blk h M B S bs sms tb->bs.length<=k->tot tb+420*bs.length<=800000->tb.head?≠some [] ->
  ∃h1 M1 r ts sms1 o',Q9 (evT T cf (d+30) t38) (exs T cf (d+30) (clB 0 1 3)) k [some (.ref B),some (.ref S),u,o] h=some (.next,[some (.ref B),some (.ref S),u,o'],h1)/\Fr M h h1/\Blk h1 M1 B S [r] sms1 [ts]/\(∀p,p∈M1->p∈M)/\cst ts<=tot tb+420*bs.length/\ts≠[]
 | [],_,_,_,_,_,_,Z,_,_,_=>by have:=Z.ln;simp at this
 | _::_,_,_,_,_,_,0,_,l,_,_=>by simp at l
 | [r],M,sms,tb,h,o,k+1,Z,l,b,nh=>by
  have tl:=Z.kb.sk.len
  match tb,tl,Z,b,nh with
  | [ts],_,Z,b,nh =>
   refine⟨h,M,r,ts,sms,o,?_,Fr.of (Kp.refl _),Z,fun p m=>m,by simp [tot],fun z=>nh (by rw [z];rfl)⟩
   rw [Q9,Qhp (d:=d+20) Z.kb.hR];rfl
 | a::b::as,M,sms,tb,h,o,k+1,Z,l,bd,nh=>by
  have tl:=Z.kb.sk.len
  match tb,tl,Z,bd,nh with
  | ta::tb::tr,_,Z,bd,nh =>
   simp only [Qr,List.length_cons]at bd
   obtain⟨h1,qs,tb',e,f,Z1,c,ne⟩:=Qbd (T:=T) (cf:=cf) (d:=d) (iB:=0) (iS:=1) (iO:=3) (ρ:=[some (.ref B),some (.ref S),u,o]) Z rfl rfl (by decide) (by decide) (by simp) (by lia)
   obtain⟨h2,M2,r,ts,s2,o2,e2,f2,Z2,m2,c2,n2⟩:=QbS (u:=u) (o:=some (.ref a)) (k:=k) Z1 (by simp only [List.length_cons]at l ⊢;lia) (by simp only [Qr,List.length_cons];lia) (by simpa using ne)
   refine⟨h2,M2,r,ts,s2,o2,?_,Fr.trans (f.mono ?_) (f2.mono ?_),Z2,fun p m=>(List.mem_filter.mp (m2 p m)).1,by simp only [Qr,List.length_cons]at c2 ⊢;lia,n2⟩
   ·rw [Q9,Qhp (d:=d+20) Z.kb.hR]
    have:decide (1<(a::b::as).length)=true:=by simp
    rw [this];simp only [e];exact e2
   ·intro p m;simp only [List.mem_cons,List.not_mem_nil,or_false]at m
    rcases m with rfl|rfl|rfl
    ·exact Z.kb.ms _ List.mem_cons_self
    ·exact Z.sM
    ·exact Z.kb.ms _ (List.mem_cons_of_mem _ (List.mem_cons_of_mem _ List.mem_cons_self))
   ·exact fun p m=>(List.mem_filter.mp m).1
end
structure Sta(h:Hs)(M:List Nat)(B S R:Nat)(bs rs sms:List Nat)(tb tr:List (List (List Nat))):Prop where
 kb:Blk h M B S bs sms tb
 kr:Stk LP h M R rs tr
 dj:∀p,p∈R::rs->p∉B::bs
 sr:S∉R::rs
 rn:rs≠[]
theorem Sta.kp{S:Nat}{bs:List Nat}{tb tr:List (List (List Nat))}(Z:Sta h M B S R bs rs sms tb tr)(k:Kp h h1):Sta h1 M B S R bs rs sms tb tr:=⟨Z.kb.kp k,Z.kr.kp mLP k,Z.dj,Z.sr,Z.rn⟩
section

theorem Sta.closed{S:Nat}{bs:List Nat}{tb tr:List (List (List Nat))}(Z:Sta h M B S R bs rs sms tb tr)(b:tot tr<=700000):
  ∃h1 M1 r us ts,Fr M h h1/\Blk h1 M1 B S bs sms tb/\(∀p,p∈M1->p∈M)/\r∉M1/\h1[r]?=some (.lst us)/\us≠[]/\PySem.Paired (LP (Vw M1 h1) 4) us ts/\cst ts<=tot tr+2000/\Qa (K08.tb s) (n+1) 35 [.ref R] h=some (.ref r,h1):=by
 obtain⟨h1,r,us,ts,f,mr,hr,ne,gv,c,e⟩:=Qeo (s:=s) (n:=n) Z.kr Z.rn b
 have mf:∀p,p∈M.filter (fun p=>decide (p∉rs))->p∈M/\p∉rs:=fun p m=>by simpa using m
 have fm:∀p,p∈M->p∉R::rs->p∈M.filter (fun p=>decide (p∉rs)):=fun p m n=>by simpa using ⟨m,fun z=>n (List.mem_cons_of_mem _ z)⟩
 refine⟨h1,M.filter (fun p=>decide (p∉rs)),r,us,ts,f.mono Z.kr.ms,Z.kb.fr f Z.kr.ms (fun p m z=>Z.dj p z m) Z.sr (fun p m=>.inl (mf p m).1) (fun p m=>fm p (Z.kb.kb.ms p m) fun z=>Z.dj p z m) (fun p m=>Nat.lt_of_lt_of_le (Z.kb.kb.lt p (mf p m).1) f.1) (fm S Z.kb.sM Z.sr),fun p m=>(mf p m).1,fun m=>(mf r m).2 mr,hr,ne,gv _ mf,c,e⟩
noncomputable def c38:E:=.or (.cmp .Eq (.ix (.var 0) (.neg (.c (.int 1 0)))) (.lst [])) (.cmp .NotEq (.var 2) (.lst [.lst []]))
noncomputable def a38:List S:=[.expr (.bm .append (.ix (.var 0) (.neg (.c (.int 1 0)))) [.tup [.c (.str QU),.call 35 [.var 2],.c (.bl false)]])]
theorem Qjx:b38=[.ite c38 a38 [],.while t38 (clB 0 1 3),.ret (.ix (.var 0) (.c (.int 0 0)))]:=rfl
theorem Z4{l:List α}(h:l.length=n+1):∃a r,l=a::r:=by
 cases l with
 | nil=>simp at h
 | cons a r=>exact⟨a,r,rfl⟩
theorem QeK{g:Gt}(hg:Ge g (Hg h))(hR:h[R]?=some (.lst (Qw (a::rs))))(ha:h[a]?=some (.lst us))(hP:PySem.Paired (LP g (4-rs.length)) us ts):eqA T (.ref R) (.ref (h.length+1)) (h++[O.lst [],.lst [.ref h.length]])=some (decide (rs=[]/\us=[])):=
 Qk9 (fun p o e=>Qx (hg p o e)) (Qx hR) (Qx ha) hP at1 at0 (Nat.ne_of_lt (List.getElem?_eq_some_iff.mp ha).1)
theorem QgS{S:Nat}{o:Option U}{bs:List Nat}{tb tr:List (List (List Nat))}(Z:Sta h M B S R (a::bs) (r::rs) sms (ta::tb) (tc::tr)):∃h1 c,Kp h h1/\evT T cf (d+20) c38 [some (.ref B),some (.ref S),some (.ref R),o] h=some (c,h1)/\(c=false->ta≠[]):=by
 obtain⟨ua,ha,la,pa,na⟩:=Za Z.kb.kb;obtain⟨ur,hr,lr,pr,nr⟩:=Za Z.kr;have hB:=Z.kb.kb.hR
 have lst:atU (Qw (a::bs)) (-1)=some (.ref a):=by rw [QA];exact Zq
 have q1:=Qa9 (T:=T) (Qx (r:=[O.lst []]) ha) (at0 (r:=[]));have q2:=QeK (T:=T) (h:=h++[O.lst []]) (g:=Vw M h) (fun p o e=>Qx (Vw.hg p o e)) (Qx Z.kr.hR) (Qx hr) pr;simp only [List.append_assoc,List.cons_append,List.nil_append,List.length_append,List.length_singleton]at q2;by_cases z:ua=[]
 ·rw [decide_eq_true z]at q1
  refine⟨h++[O.lst []],true,Kp.app _ _,?_,fun h=>by cases h⟩
  simp [c38,yy,evs,evO,Ql,Qd,Qo,eq_int,Qi,Qk,opU,Qm,bb,slU,fin,hB,lst,q1]
 ·rw [decide_eq_false z]at q1;generalize decide (rs=[]/\ur=[])=c at q2;refine⟨h++[O.lst [],.lst [],.lst [.ref (h.length+1)]],!c,Kp.app _ _,?_,fun _=>fun e=>z (na.mpr e)⟩;simp [c38,yy,evs,evO,Ql,Qd,Qo,eq_int,Qi,Qk,opU,Qm,bb,slU,fin,hB,lst,q1,q2]
theorem QgQ{S:Nat}{bs:List Nat}{tb tr:List (List (List Nat))}(Z:Sta h M B S R bs rs sms tb tr)(b:tot tr+tot tb<=700000):
  ∃h1 r us ts,Fr M h h1/\h1[r]?=some (.lst us)/\PySem.Paired (LI (Hg h1) 4) us ts/\ts≠[]/\cst ts<=tot tr+tot tb+6000/\Qa (K08.tb s) (n+2) 38 [.ref B,.ref S,.ref R] h=some (.ref r,h1):=by
 rw [Qe fnL[38] rfl rfl];show ∃h1 r us ts,_/\_/\_/\_/\_/\fin (exs (K08.tb s) (Qa (K08.tb s) (n+1)) 100 b38 [some (.ref B),some (.ref S),some (.ref R),none] h)=_;rw [Qjx];obtain⟨a,as,rfl⟩:=Z4 Z.kb.ln
 obtain⟨r,rs',rfl⟩:∃r rs',rs=r::rs':=by
  cases rs with
  | nil=>exact absurd rfl Z.rn
  | cons r rs'=>exact⟨r,rs',rfl⟩
 have t1:=Z.kb.kb.sk.len;have t2:=Z.kr.sk.len;obtain⟨ta,tb,rfl⟩:=Z4 t1.symm;obtain⟨tc,tr,rfl⟩:=Z4 t2.symm;have le:=Z.kb.kb.le;obtain⟨h1,c,k1,ec,hc⟩:=QgS (T:=K08.tb s) (cf:=Qa (K08.tb s) (n+1)) (d:=78) (o:=none) Z;have Z1:=Z.kp k1
 have en:∃h2 M2 tb',ex (K08.tb s) (Qa (K08.tb s) (n+1)) 99 (.ite c38 a38 []) [some (.ref B),some (.ref S),some (.ref R),none] h=some (.next,[some (.ref B),some (.ref S),some (.ref R),none],h2)/\Fr M h h2/\Blk h2 M2 B S (a::as) sms (tb'::tb)/\(∀p,p∈M2->p∈M)/\tb'≠[]/\cst tb'<=cst ta+tot (tc::tr)+2030:=by
  rw [Y5,ec,QV]
  cases c with
  | false=>exact⟨h1,M,ta,rfl,Fr.of k1,Z1.kb,fun p m=>m,hc rfl,by lia⟩
  | true =>
   obtain⟨h2,M2,r',us,ts,f2,K2,m2,nr,hr,ne,pu,cu,e2⟩:=Z1.closed (s:=s) (n:=n) (by lia)
   have k3:Kp h2 (h2++[O.tup [.str QU,.ref r',.bl false]]):=Kp.app _ _;obtain⟨ua,ha,la,pa,na⟩:=Za K2.kb;obtain⟨ua1,ha1,la1,_,_⟩:=Za Z1.kb.kb;have hB:=Z1.kb.kb.hR
   have lst:atU (Qw (a::as)) (-1)=some (.ref a):=by rw [QA];exact Zq
   have nw:∀{p},h2.length<=p->p∉M2:=fun l m=>Nat.not_lt.mpr l (K2.kb.lt _ m)
   have li:LI (Vw M2 (h2++[O.tup [.str QU,.ref r',.bl false]])) (4-as.length) (.ref h2.length) (rT ts false):=by
    rw [show 4-as.length=3-as.length+1 by simp only [List.length_cons]at le;lia]
    exact⟨_,rfl,.inl ⟨r',us,ts,false,Vw.at (nw (Nat.le_refl _)) at0,Vw.at nr (Qx hr),Qb (fun _ _ z=>LP.up 1 (LP.mono (Vw.kp k3) z)) pu,rfl⟩⟩
   rw [Qr (ts:=ta)]at b
   refine⟨_,M2,_,?_,(Fr.trans (Fr.of k1) (f2.trans (Fr.of k3))).put (Z.kb.kb.ms _ (List.mem_cons_of_mem _ List.mem_cons_self)),(K2.kp k3).app (k3 _ _ ha) li,m2,by simp,?_⟩
   ·rw [if_pos rfl];have ha3:=k3 _ _ ha;simp only [Hg]at ha3
    have lu:ua.length<1000000:=by lia
    generalize Qa (K08.tb s) (n+1)=cf at e2 ⊢;generalize K08.tb s=T;simp only [a38,QC,Yo,ZO,QbQ,Qdl,QF,Jq,y_c,J0,Q1,evs,QV,List.getElem?_cons_zero,List.getElem?_cons_succ,Qk,hB,lst,Option.map_some,Zd,ha1,bL,if_true,e2,bmU,ha3,Jp lu]
   ·have:=QaS (ts:=ts) (b:=false);rw [Zr];lia
 obtain⟨h2,M2,tb',x1,f2,K2,m2,ne,cb⟩:=en;rw [Qp x1];rw [Qr (ts:=ta)]at b
 obtain⟨h3,M3,r3,ts,sms3,o3,e3,f3,K3,m3,c3,n3⟩:=QbS (T:=K08.tb s) (cf:=Qa (K08.tb s) (n+1)) (d:=67) (u:=some (.ref R)) (o:=none) (k:=1000000) K2 (by lia) (by rw [Qr];lia) (by simpa using ne)
 have x2:ex (K08.tb s) (Qa (K08.tb s) (n+1)) 98 (.while t38 (clB 0 1 3)) [some (.ref B),some (.ref S),some (.ref R),none] h2=some (.next,[some (.ref B),some (.ref S),some (.ref R),o3],h3):=by rw [QbN];exact e3
 rw [Qp x2];obtain⟨us,hr,lu,pu,_⟩:=Za K3.kb;have hB:h3[B]?=some (.lst [.ref r3]):=K3.kb.hR;refine⟨h3,r3,us,ts,f2.trans (f3.mono m2),hr,Qb (fun _ _ z=>LI.mono Vw.hg z) pu,n3,?_,?_⟩
 ·rw [Qr]at c3;rw [Qr (ts:=ta)];lia
 ·generalize Qa (K08.tb s) (n+1)=cf;generalize K08.tb s=T;simp [yy,evs,evO,Ql,Qd,Qo,eq_int,Qi,Qk,opU,Qm,bb,slU,fin,hB,atU,ixU]
end
noncomputable def rh(cl:U)(fl:Bool)(B S R:Nat)(x:Int)(ob:Option U):Rho:=[some cl,some (.bl fl),some (.ref B),some (.ref S),some (.ref R),some (.int x 0),some (.int (x % 11) 0),some (.int (x / 11) 0),ob]
noncomputable def Nx(T:Tbl)(cf:Cf)(d:Nat)(A:List S)(cl:U)(fl:Bool)(B S R:Nat)(x:Int)(ob:Option U)(h:Hs)(M:List Nat)(c:Nat):Prop :=
 ∃h2 M2 R2 bs2 rs2 sms2 tl2 tr2 ob2,exs T cf d A (rh cl fl B S R x ob) h=some (.next,rh cl fl B S R2 x ob2,h2)/\Fr M h h2/\Sta h2 M2 B S R2 bs2 rs2 sms2 tl2 tr2/\(∀p,p∈M2->p∈M\/h.length<=p)/\tot tr2+tot tl2<=c+3000
section
variable {S:Nat}{bs:List Nat}{tr:List (List (List Nat))}{ur:List U}
theorem Sta.top(Z:Sta h M B S R bs (r::rs) sms tl (tc::tr))(hr:h[r]?=some (.lst ur))(z:LP (Vw M h) (4-rs.length) u t):Sta (h.set r (.lst (ur++[u]))) M B S R bs (r::rs) sms tl ((tc++[t])::tr):=by
 have f:Fr [r] h (h.set r (.lst (ur++[u]))):=(Fr.of (Kp.refl h)).put List.mem_cons_self;have mr:r∈R::r::rs:=List.mem_cons_of_mem _ List.mem_cons_self
 exact⟨Z.kb.fr f (fun p m=>by cases List.mem_singleton.mp m;exact Z.kr.ms _ mr) (fun p m z=>by cases List.mem_singleton.mp z;exact Z.dj _ mr m) (fun z=>Z.sr (by rw [List.mem_singleton.mp z];exact mr)) (fun p m=>.inl m) Z.kb.kb.ms (fun p m=>by rw [List.length_set];exact Z.kb.kb.lt p m) Z.kb.sM,Z.kr.app mLP hr z,Z.dj,Z.sr,Z.rn⟩
theorem Sta.fresh(K:Blk h M B S bs sms tl):Sta (h++[O.lst [],.lst [.ref h.length]]) (h.length::(h.length+1)::M) B S (h.length+1) bs [h.length] sms tl [[]]:=by
 have lt:=K.kb.lt
 have l2:(h++[O.lst [],.lst [.ref h.length]]).length=h.length+2:=by simp
 have m3:∀p,p∈h.length::(h.length+1)::M->p<(h++[O.lst [],.lst [.ref h.length]]).length:=fun p m=>by
  rw [l2];simp only [List.mem_cons]at m
  rcases m with rfl|rfl|m
  ·lia
  ·lia
  ·have:=lt p m;lia
 refine⟨K.fr (Fr.of (X:=[]) (Kp.app _ _)) (fun p m=>by cases m) (fun p _ m=>by cases m) (fun m=>by cases m) (fun p m=>?_) (fun p m=>List.mem_cons_of_mem _ (List.mem_cons_of_mem _ (K.kb.ms p m))) m3 (List.mem_cons_of_mem _ (List.mem_cons_of_mem _ K.sM)),⟨?_,fun p m=>?_,m3,at1,⟨⟨[],at0,.nil⟩,trivial⟩,by simp⟩,fun p m z=>?_,fun z=>?_,by simp⟩
 ·simp only [List.mem_cons]at m
  rcases m with rfl|rfl|m
  ·exact .inr (Nat.le_refl _)
  ·exact .inr (Nat.le_succ _)
  ·exact .inl m
 ·simp
 ·simp only [List.mem_cons,List.not_mem_nil,or_false]at m ⊢
  rcases m with rfl|rfl
  ·exact .inr (.inl rfl)
  ·exact .inl rfl
 ·have:=lt p (K.kb.ms p z);simp only [List.mem_cons,List.not_mem_nil,or_false]at m
  rcases m with rfl|rfl<;>lia
 ·have:=lt S K.sM;simp only [List.mem_cons,List.not_mem_nil,or_false]at z
  rcases z with e|e<;>lia
variable {x:Int}{ob:Option U}
noncomputable def aE:List Iv.S:=[.expr (.bm .append (.ix (.var 4) (.neg (.c (.int 1 0)))) [.tup [.c (.str Q7),.call 33 [.var 7]]])]
theorem Qiy(Z:Sta h M B S R bs (r::rs) sms tl (tc::tr))(bd:tot (tc::tr)<=900000):Nx (tb s) (Qa (tb s) (n+1)) (d+30) aE cl fl B S R x ob h M (tot (tc::tr)+tot tl):=by
 obtain⟨m,mk,c⟩:=Qjm (s:=s) (n:=n) (x:=x / 11) (hs:=h);have k:Kp h (h++[O.tup [.str Q7,.str m]]):=Kp.app _ _;obtain⟨ur,hr,lr,pr,nr⟩:=Za Z.kr;rw [Qr]at bd;have le:=Z.kr.le;have nw:∀{p},h.length<=p->p∉M:=fun l m=>Nat.not_lt.mpr l (Z.kr.lt _ m)
 refine⟨_,M,R,bs,r::rs,sms,tl,_,ob,?_,(Fr.of k).put (Z.kr.ms r (List.mem_cons_of_mem _ List.mem_cons_self)),(Z.kp k).top (Qx hr) (LP.one (by simp only [List.length_cons]at le;lia) (Vw.at (nw (Nat.le_refl _)) at0) mk),fun p m=>.inl m,?_⟩
 ·have hR:=Z.kr.hR
  have lst:atU (Qw (r::rs)) (-1)=some (.ref r):=by rw [QA];exact Zq
  have hr3:=Qx (r:=[O.tup [.str Q7,.str m]]) hr
  have lu:ur.length<1000000:=by lia
  generalize Qa (tb s) (n+1)=cf at c ⊢;generalize tb s=T;simp only [aE,rh,QC,Yo,ZO,QbQ,Qdl,QF,Jq,y_c,J0,Q1,evs,QV,List.getElem?_cons_zero,List.getElem?_cons_succ,Qk,hR,lst,Option.map_some,Zd,hr,bL,if_true,c,bmU,hr3,Jp lu,Int.reduceNeg]
 ·have:=mk.len;rw [Qr,Qr,Zr];lia
noncomputable def a5:List Iv.S:=[.expr (.bm .append (.var 4) [.lst []])]
theorem Qf4(Z:Sta h M B S R bs rs sms tl tr)(l:rs.length<4):Nx (tb s) (Qa (tb s) n) (d+30) a5 cl fl B S R x ob h M (tot tr+tot tl):=by
 have lt:=Z.kr.lt;have f:Fr [R] h ((h++[O.lst []]).set R (O.lst (Qw (h.length::rs)))):=(Fr.of (Kp.app _ _)).put List.mem_cons_self;have mR:R∈R::rs:=List.mem_cons_self;have K:=Z.kr.push mLP l
 refine⟨_,h.length::M,R,bs,h.length::rs,sms,tl,[]::tr,ob,?_,f.mono (fun p m=>by cases List.mem_singleton.mp m;exact Z.kr.ms _ mR),⟨Z.kb.fr f (fun p m=>by cases List.mem_singleton.mp m;exact Z.kr.ms _ mR) (fun p m z=>by cases List.mem_singleton.mp z;exact Z.dj _ mR m) (fun z=>Z.sr (by rw [List.mem_singleton.mp z];exact mR)) (fun p m=>?_) (fun p m=>List.mem_cons_of_mem _ (Z.kb.kb.ms p m)) K.lt (List.mem_cons_of_mem _ Z.kb.sM),K,fun p m z=>?_,fun z=>?_,by simp⟩,fun p m=>?_,?_⟩
 ·have hR:=Z.kr.hR;have hR3:=Qx (r:=[O.lst []]) hR
  have lu:(Qw rs).length<1000000:=by rw [Zm];lia
  generalize Qa (tb s) n=cf;generalize tb s=T;simp only [a5,rh,QC,Yo,ZO,QbQ,QF,Zu,evs,QV,List.getElem?_cons_zero,List.getElem?_cons_succ,Zd,hR,bL,if_true,bmU,hR3,Jp lu,QA]
 ·rcases List.mem_cons.mp m with rfl|m
  ·exact .inr (Nat.le_refl _)
  ·exact .inl m
 ·have:=lt p (Z.kb.kb.ms p z);simp only [List.mem_cons]at m
  rcases m with rfl|rfl|m
  ·exact Z.dj _ mR z
  ·lia
  ·exact Z.dj p (List.mem_cons_of_mem _ m) z
 ·have:=lt S Z.kb.sM;simp only [List.mem_cons]at z
  rcases z with rfl|rfl|z
  ·exact Z.sr mR
  ·lia
  ·exact Z.sr (List.mem_cons_of_mem _ z)
 ·rcases List.mem_cons.mp m with rfl|m
  ·exact .inr (Nat.le_refl _)
  ·exact .inl m
 ·rw [Qr];have:cst []=0:=rfl;lia
end
section
variable {S:Nat}{bs:List Nat}{tr:List (List (List Nat))}{te:List (List Nat)}{ur:List U}
variable {x:Int}{ob:Option U}
noncomputable def a6:List Iv.S:=[.set 8 (.bm .pop (.var 4) []),.expr (.bm .append (.ix (.var 4) (.neg (.c (.int 1 0)))) [.tup [.c (.str YL),.call 34 [.var 7],.var 8]])]
theorem QdU(Z:Sta h M B S R bs (a::b::as) sms tl (ta::tc::tr))(bd:tot (ta::tc::tr)<=900000):Nx (tb s) (Qa (tb s) (n+1)) (d+30) a6 cl fl B S R x ob h M (tot (ta::tc::tr)+tot tl):=by
 have nd:=Z.kr.nd;simp only [List.nodup_cons,List.mem_cons,not_or]at nd;have lR:=Z.kr.lt R (Z.kr.ms R List.mem_cons_self);have le:=Z.kr.le;simp only [List.length_cons]at le;simp only [Qr]at bd;have mR:R∈R::a::b::as:=List.mem_cons_self;have ma:a∈R::a::b::as:=List.mem_cons_of_mem _ List.mem_cons_self;have fR:Fr [R] h (h.set R (.lst (Qw (b::as)))):=(Fr.of (Kp.refl h)).put List.mem_cons_self;obtain⟨K1,ua,ha1,va,pa,ha⟩:=Z.kr.pop mLP fR (List.getElem?_set_self lR)
 have mf:∀p,p∈M->p≠a->p∈M.filter (·≠a):=fun p m n=>by simpa using ⟨m,n⟩
 have Z1:Sta (h.set R (.lst (Qw (b::as)))) (M.filter (·≠a)) B S R bs (b::as) sms tl (tc::tr):=⟨Z.kb.fr fR (fun p m=>by cases List.mem_singleton.mp m;exact Z.kr.ms _ mR) (fun p m z=>by cases List.mem_singleton.mp z;exact Z.dj _ mR m) (fun z=>Z.sr (by rw [List.mem_singleton.mp z];exact mR)) (fun p m=>.inl (List.mem_filter.mp m).1) (fun p m=>mf p (Z.kb.kb.ms p m) fun z=>Z.dj a ma (z▸m)) K1.lt (mf S Z.kb.sM fun z=>Z.sr (z▸ma)),K1,fun p m=>Z.dj p (by
  simp only [List.mem_cons]at m ⊢
  rcases m with m|m
  ·exact .inl m
  ·exact .inr (.inr m)),fun m=>Z.sr (by
  simp only [List.mem_cons]at m ⊢
  rcases m with m|m
  ·exact .inl m
  ·exact .inr (.inr m)),by simp⟩
 obtain⟨ub,hb1,lb,pb,_⟩:=Za K1;obtain⟨h2,q,n0,n1,n2,n3,n4,k2,lq,hq,oq,c⟩:=QaB (s:=s) (n:=n) (x:=x / 11) (hs:=h.set R (.lst (Qw (b::as))));have k3:Kp h2 (h2++[O.tup [.str YL,.ref q,.ref a]]):=Kp.app _ _;have kk:=k2.trans k3
 have x1:ex (tb s) (Qa (tb s) (n+1)) (d+29) (.set 8 (.bm .pop (.var 4) [])) (rh cl fl B S R x ob) h=some (.next,rh cl fl B S R x (some (.ref a)),h.set R (.lst (Qw (b::as)))):=by
  have hR:=Z.kr.hR;simp only [rh,ZI,QbQ,QF,List.getElem?_cons_zero,List.getElem?_cons_succ,QV,Zd,hR,bL,if_true,evs,bmU,QdJ];rfl
 have fz:Fr M h (h2++[O.tup [.str YL,.ref q,.ref a]]):=Fr.trans (fR.mono (fun p m=>by cases List.mem_singleton.mp m;exact Z.kr.ms _ mR)) (Fr.of kk)
 have hR1:=K1.hR;generalize h.set R (.lst (Qw (b::as)))=g at *;have nw:∀{p},g.length<=p->p∉M.filter (·≠a):=fun l m=>Nat.not_lt.mpr l (K1.lt _ m);have l2:=k2.len
 refine⟨_,M.filter (·≠a),R,bs,b::as,sms,tl,_,some (.ref a),?_,fz.put (Z.kr.ms b (List.mem_cons_of_mem _ (List.mem_cons_of_mem _ List.mem_cons_self))),(Z1.kp kk).top (kk _ _ hb1) (LP.tim (k:=as.length) (by lia) (Vw.at (nw l2) at0) (Vw.at (nw lq) (k3 _ _ hq)) oq (Vw.kp kk _ _ va) (Qb (fun _ _ z=>LP.mono (Vw.kp kk) z) pa)),fun p m=>.inl (List.mem_filter.mp m).1,?_⟩
 ·unfold a6;rw [Qp x1]
  have la:atU (Qw (b::as)) (-1)=some (.ref b):=by rw [QA];exact Zq
  have hb3:=kk _ _ hb1;simp only [Hg]at hb3
  have lu:ub.length<1000000:=by lia
  generalize Qa (tb s) (n+1)=cf at c ⊢;generalize tb s=T;simp only [rh,QC,Yo,ZO,QbQ,Qdl,QF,Jq,y_c,J0,Q1,evs,QV,List.getElem?_cons_zero,List.getElem?_cons_succ,Qk,hR1,la,Option.map_some,Zd,hb1,bL,if_true,c,bmU,hb3,Jp lu,Int.reduceNeg]
 ·have:=Qaa (ts:=ta) oq;simp only [Qr,Zr];lia
noncomputable def a7:List Iv.S:=[.expr (.bm .append (.ix (.var 2) (.neg (.c (.int 1 0)))) [.call 36 [.call 35 [.var 4],.var 7,.var 1]]),.set 4 (.lst [.lst []])]
theorem Qix(Z:Sta h M B S R (b::as) rs sms (te::tl) tr)(bd:tot tr<=700000)(bd2:cst te<=900000):Nx (tb s) (Qa (tb s) (n+1)) (d+30) a7 cl fl B S R x ob h M (tot tr+tot (te::tl)):=by
 obtain⟨h1,M1,r,us,ts,f1,K1,m1,nr,hr,ne,pu,cu,e1⟩:=Z.closed (s:=s) (n:=n) bd;have le:=K1.kb.le;simp only [List.length_cons]at le
 obtain⟨h2,p,t,k2,li,lt,e2⟩:=QgM (s:=s) (n:=n) (d:=3-as.length) (x:=x / 11) (fl:=fl) hr ne nr K1.kb.lt pu (by lia)
 obtain⟨ub,hb,lb,pb,_⟩:=Za Z.kb.kb;obtain⟨ub1,hb1,lb1,pb1,_⟩:=Za K1.kb
 have K3:=(K1.kp k2).app (k2 _ _ hb1) (by rw [show 4-as.length=3-as.length+1 by lia];exact li)
 have k4:Kp (h2.set b (.lst (ub1++[.ref p]))) (h2.set b (.lst (ub1++[.ref p]))++[O.lst [],.lst [.ref (h2.set b (.lst (ub1++[.ref p]))).length]]):=Kp.app _ _;refine⟨_,_,_,b::as,_,sms,_,_,ob,?_,Fr.trans ((f1.trans (Fr.of k2)).put (Z.kb.kb.ms b (List.mem_cons_of_mem _ List.mem_cons_self))) (Fr.of k4),Sta.fresh K3,fun p m=>?_,?_⟩
 ·have hB:=Z.kb.kb.hR
  have la:atU (Qw (b::as)) (-1)=some (.ref b):=by rw [QA];exact Zq
  have hb3:=k2 _ _ hb1;simp only [Hg]at hb3
  have lu:ub1.length<1000000:=by lia
  have x1:ex (tb s) (Qa (tb s) (n+1)) (d+29) (.expr (.bm .append (.ix (.var 2) (.neg (.c (.int 1 0)))) [.call 36 [.call 35 [.var 4],.var 7,.var 1]])) (rh cl fl B S R x ob) h=some (.next,rh cl fl B S R x ob,h2.set b (.lst (ub1++[.ref p]))):=by
   generalize Qa (tb s) (n+1)=cf at e1 e2 ⊢;generalize tb s=T;simp only [rh,ZO,QbQ,Qdl,QF,Jq,y_c,Q1,evs,QV,List.getElem?_cons_zero,List.getElem?_cons_succ,Qk,hB,la,Option.map_some,Zd,hb,bL,if_true,e1,e2,bmU,hb3,Jp lu,Int.reduceNeg]
  unfold a7;rw [Qp x1];generalize h2.set b (.lst (ub1++[.ref p]))=g;simp only [rh,QC,Yo,ZI,Zu,evs,QV,List.append_assoc,List.cons_append,List.nil_append,List.length_append,List.length_singleton];rfl
 ·simp only [List.mem_cons]at m;have:=(f1.trans (Fr.of k2)).1
  rcases m with rfl|rfl|m
  ·right;rw [List.length_set];exact this
  ·right;rw [List.length_set];lia
  ·exact .inl (m1 p m)
 ·have e:cst []=0:=rfl;simp only [Qr,Zr,e,show tot []=0 from rfl];lia
noncomputable def a8:List Iv.S:=[.expr (.bm .append (.var 2) [.lst []]),.expr (.bm .append (.var 3) [.call 37 [.var 7]])]
theorem QdW(Z:Sta h M B S R bs rs sms tl tr)(l:bs.length<4):Nx (tb s) (Qa (tb s) (n+2)) (d+30) a8 cl fl B S R x ob h M (tot tr+tot tl):=by
 have lt:=Z.kr.lt;have sb:=Z.kb.sb;simp only [List.mem_cons,not_or]at sb;have lS:=lt S Z.kb.sM;have mB:B∈B::bs:=List.mem_cons_self;have f1:Fr [B] h ((h++[O.lst []]).set B (O.lst (Qw (h.length::bs)))):=(Fr.of (Kp.app _ _)).put List.mem_cons_self;have K1:=Z.kb.kb.push mLI l
 have m1:∀p,p∈h.length::M->p∈M\/h.length<=p:=fun p m=>by
  rcases List.mem_cons.mp m with rfl|m
  ·exact .inr (Nat.le_refl _)
  ·exact .inl m
 have xB:∀p,p∈[B]->p∈M:=fun p m=>by cases List.mem_singleton.mp m;exact Z.kb.kb.ms _ mB
 have g1:=Vw.le (M:=M) (M':=h.length::M) f1 xB m1
 have R1:=Z.kr.fr mLP f1 xB (fun p m z=>by cases List.mem_singleton.mp z;exact Z.dj _ m mB) m1 (fun p m=>List.mem_cons_of_mem _ (Z.kr.ms p m)) K1.lt
 have hS1:=f1.2 S _ (fun z=>sb.1 (List.mem_singleton.mp z)) Z.kb.hS;obtain⟨h2,q,n0,n1,n2,n3,n4,k2,lq,hq,oq,c⟩:=Qem (s:=s) (n:=n) (x:=x / 11) (hs:=(h++[O.lst []]).set B (O.lst (Qw (h.length::bs))));have hS2:=k2 _ _ hS1;simp only [Hg]at hS2;have f3:Fr [S] h2 (h2.set S (.lst (Qw (q::sms)))):=(Fr.of (Kp.refl _)).put List.mem_cons_self
 have xS:∀p,p∈[S]->p∈h.length::M:=fun p m=>by cases List.mem_singleton.mp m;exact List.mem_cons_of_mem _ Z.kb.sM
 have l3:∀p,p∈h.length::M->p<(h2.set S (.lst (Qw (q::sms)))).length:=fun p m=>by rw [List.length_set];exact Nat.lt_of_lt_of_le (K1.lt p m) k2.len
 have K2:=(K1.kp mLI k2).fr mLI f3 xS (fun p m z=>by
  cases List.mem_singleton.mp z;simp only [List.mem_cons]at m
  rcases m with m|m|m
  ·exact sb.1 m
  ·lia
  ·exact sb.2 m) (fun p m=>.inl m) K1.ms l3
 have R2:=(R1.kp mLP k2).fr mLP f3 xS (fun p m z=>by cases List.mem_singleton.mp z;exact Z.sr m) (fun p m=>.inl m) R1.ms l3
 have g3:=Vw.le (M:=h.length::M) (M':=h.length::M) f3 xS (fun p m=>.inl m)
 refine⟨_,h.length::M,R,h.length::bs,rs,q::sms,[]::tl,tr,ob,?_,Fr.trans (f1.mono xB) (Fr.trans (Fr.of k2) (f3.mono (fun p m=>by cases List.mem_singleton.mp m;exact Z.kb.sM))),⟨⟨K2,List.mem_cons_of_mem _ Z.kb.sM,?_,List.getElem?_set_self (by have:=k2.len;have:=f1.1;lia),fun q' m=>?_,by simp [Z.kb.ln]⟩,R2,fun p m z=>?_,Z.sr,Z.rn⟩,m1,?_⟩
 ·have hB:=Z.kb.kb.hR;have hB3:=Qx (r:=[O.lst []]) hB
  have lu:(Qw bs).length<1000000:=by rw [Zm];lia
  have ln:=Z.kb.ln
  have lu2:(Qw sms).length<1000000:=by rw [Zm];lia
  rw [QA]at c hS1;generalize hg:(h++[O.lst []]).set B (O.lst (Qw bs++[.ref h.length]))=g at c hS1;generalize Qa (tb s) (n+2)=cf at c ⊢;generalize tb s=T;simp only [a8,rh,QC,Yo,ZO,QbQ,QF,Zu,Q1,evs,QV,List.getElem?_cons_zero,List.getElem?_cons_succ,Zd,hB,bL,if_true,bmU,hB3,Jp lu,hg,hS1,c,hS2,Jp lu2,QA]
 ·simp only [List.mem_cons,not_or]
  exact⟨sb.1,by lia,sb.2⟩
 ·rcases List.mem_cons.mp m with rfl|m
  ·exact⟨n0,n1,n2,n3,n4,g3 _ _ (Vw.at (fun m=>Nat.not_lt.mpr lq (K1.lt _ m)) hq),oq⟩
  ·obtain⟨n0,n1,n2,n3,n4,e,o⟩:=Z.kb.sm q' m;exact⟨n0,n1,n2,n3,n4,g3 _ _ (Vw.kp k2 _ _ (g1 _ _ e)),o⟩
 ·have:=lt p (Z.kr.ms p m);simp only [List.mem_cons]at z
  rcases z with rfl|rfl|z
  ·exact Z.dj _ m mB
  ·lia
  ·exact Z.dj p m (List.mem_cons_of_mem _ z)
 ·rw [Qr];have:cst []=0:=rfl;lia
theorem QdV(Z:Sta h M B S R (a::b::as) rs sms (ta::te::tl) tr)(bd:tot (ta::te::tl)<=900000):Nx (tb s) (Qa (tb s) n) (d+30) (clB 2 3 8) cl fl B S R x ob h M (tot tr+tot (ta::te::tl)):=by
 simp only [Qr]at bd
 obtain⟨h1,qs,te',e,f,K,c,ne⟩:=Qbd (T:=tb s) (cf:=Qa (tb s) n) (d:=d) (iB:=2) (iS:=3) (iO:=8) (ρ:=rh cl fl B S R x ob) Z.kb rfl rfl (by decide) (by decide) (by simp [rh]) (by lia)
 have ma:a∈B::a::b::as:=List.mem_cons_of_mem _ List.mem_cons_self;have mB:B∈B::a::b::as:=List.mem_cons_self;have mb:b∈B::a::b::as:=List.mem_cons_of_mem _ (List.mem_cons_of_mem _ List.mem_cons_self)
 have x1:∀p,p∈[B,S,b]->p∈M:=fun p m=>by
  simp only [List.mem_cons,List.not_mem_nil,or_false]at m
  rcases m with rfl|rfl|rfl
  ·exact Z.kb.kb.ms _ mB
  ·exact Z.kb.sM
  ·exact Z.kb.kb.ms _ mb
 refine⟨h1,M.filter (·≠a),R,b::as,rs,qs,te'::tl,tr,some (.ref a),e,f.mono x1,⟨K,Z.kr.fr mLP f x1 (fun p m z=>?_) (fun p m=>.inl (List.mem_filter.mp m).1) (fun p m=>by simpa using ⟨Z.kr.ms p m,fun z=>Z.dj p m (z▸ma)⟩) K.kb.lt,fun p m z=>Z.dj p m ?_,Z.sr,Z.rn⟩,fun p m=>.inl (List.mem_filter.mp m).1,?_⟩
 ·simp only [List.mem_cons,List.not_mem_nil,or_false]at z
  rcases z with rfl|rfl|rfl
  ·exact Z.dj _ m mB
  ·exact Z.sr m
  ·exact Z.dj _ m mb
 ·simp only [List.mem_cons]at z ⊢
  rcases z with z|z
  ·exact .inl z
  ·exact .inr (.inr z)
 ·simp only [Qr];lia
end
noncomputable def cnd(k:Int)(X:E):E:=.and (.cmp .Eq (.var 6) (.c (.int k 0))) X
noncomputable def x5:E:=.cmp .Lt (.bi .len [.var 4]) (.c (.int 4 0))
noncomputable def x6:E:=.and (.cmp .Gt (.bi .len [.var 4]) (.c (.int 1 0))) (.cmp .NotEq (.ix (.var 4) (.neg (.c (.int 1 0)))) (.lst []))
noncomputable def x7:E:=.cmp .NotEq (.var 4) (.lst [.lst []])
noncomputable def x8:E:=.and (.cmp .Eq (.var 4) (.lst [.lst []])) (.cmp .Lt (.bi .len [.var 2]) (.c (.int 4 0)))
noncomputable def x9:E:=.and (.cmp .Eq (.var 4) (.lst [.lst []])) (.and (.cmp .Gt (.bi .len [.var 2]) (.c (.int 1 0))) (.cmp .NotEq (.ix (.var 2) (.neg (.c (.int 1 0)))) (.lst [])))
noncomputable def e9:List S:=[.ite (cnd 9 x9) (clB 2 3 8) aE]
noncomputable def e8:List S:=[.ite (cnd 8 x8) a8 e9]
noncomputable def e7:List S:=[.ite (cnd 7 x7) a7 e8]
noncomputable def e6:List S:=[.ite (cnd 6 x6) a6 e7]
noncomputable def e5:List S:=[.ite (cnd 5 x5) a5 e6]
noncomputable def QiG:List S:=.set 6 (.op .Mod (.var 5) (.c (.int 11 0)))::.set 7 (.op .FloorDiv (.var 5) (.c (.int 11 0)))::e5
theorem Qjw:b39=[.set 2 (.lst [.lst []]),.set 3 (.lst []),.set 4 (.lst [.lst []]),.loop (.name 5) (.seq (.var 0)) QiG,.ret (.call 38 [.var 2,.var 3,.var 4])]:=by
 unfold b39 QiG e5 e6 e7 e8 e9 a5 a6 a7 a8 aE clB x5 x6 x7 x8 x9 cnd Q7 YL ZN;rfl
section
variable {S:Nat}{bs:List Nat}{tr:List (List (List Nat))}{te:List (List Nat)}
variable {x k:Int}{ob:Option U}{A C:List Iv.S}{X:E}
theorem QP(hk:x % 11≠k)(N:Nx T cf (d+19) C cl fl B S R x ob h M c):Nx T cf (d+21) [.ite (cnd k X) A C] cl fl B S R x ob h M c:=by
 obtain⟨h2,M2,R2,bs2,rs2,sms2,tl2,tr2,ob2,e,z⟩:=N;refine⟨h2,M2,R2,bs2,rs2,sms2,tl2,tr2,ob2,?_,z⟩
 have t:evT T cf (d+19) (cnd k X) (rh cl fl B S R x ob) h=some (false,h):=by
  have:evT T cf (d+18) (.cmp .Eq (.var 6) (.c (.int k 0))) (rh cl fl B S R x ob) h=some (false,h):=by
   simp only [Q2,Zv,rh,QF,y_c,QV,List.getElem?_cons_zero,List.getElem?_cons_succ,eqi,Option.map_some,Qi,decide_eq_false hk]
  rw [cnd,Zx,this,QV,if_neg Bool.false_ne_true]
 rw [QC,Y5,t,QV,if_neg Bool.false_ne_true,e]<;>rfl
theorem Yy{v:Bool}(hk:x % 11=k)(t:evT T cf (d+18) X (rh cl fl B S R x ob) h=some (v,h1))(kp:Kp h h1)(N:Nx T cf (d+19) (if v=true then A else C) cl fl B S R x ob h1 M c):Nx T cf (d+21) [.ite (cnd k X) A C] cl fl B S R x ob h M c:=by
 obtain⟨h2,M2,R2,bs2,rs2,sms2,tl2,tr2,ob2,e,f,z,m,b⟩:=N;refine⟨h2,M2,R2,bs2,rs2,sms2,tl2,tr2,ob2,?_,Fr.trans (Fr.of kp) f,z,fun p hp=>(m p hp).imp id (fun l=>Nat.le_trans kp.len l),b⟩
 have t:evT T cf (d+19) (cnd k X) (rh cl fl B S R x ob) h=some (v,h1):=by
  rw [<-t]
  have:evT T cf (d+18) (.cmp .Eq (.var 6) (.c (.int k 0))) (rh cl fl B S R x ob) h=some (true,h):=by
   simp only [Q2,Zv,rh,QF,y_c,QV,List.getElem?_cons_zero,List.getElem?_cons_succ,eqi,Option.map_some,Qi,decide_eq_true hk]
  rw [cnd,Zx,this,QV,if_pos rfl]
 rw [QC,Y5,t,QV];cases v<;>simp only [Bool.false_eq_true,if_true,if_false]at e ⊢<;>rw [e]<;>rfl
theorem Qd2{ps:List Nat}(hp:h[p]?=some (.lst (Qw ps))):biU T .len [.ref p] h=some (.int ps.length 0,h):=by
 simp only [Zw,Q8,hp,Zm]
theorem lt4{i:Nat}:Qo T .Lt (.int (i:Int) 0) (.int 4 0) h=some (decide (i<4)):=by
 simp only [Qo]
 rw [decide_eq_decide.mpr (show((i:Int) < 4)↔i<4 by lia)]
theorem gt1{i:Nat}:Qo T .Gt (.int (i:Int) 0) (.int 1 0) h=some (decide (1<i)):=by
 simp only [Qo]
 rw [decide_eq_decide.mpr (show((1:Int) < i)↔1<i by lia)]
theorem QmS(Z:Sta h M B S R bs rs sms tl tr):evT T cf (d+18) x5 (rh cl fl B S R x ob) h=some (decide (rs.length<4),h):=by
 have lb:=Qd2 (T:=T) Z.kr.hR;have l4:=lt4 (T:=T) (h:=h) (i:=rs.length);simp only [x5,rh,Q2,Zv,Qdh,QF,y_c,evs,QV,List.getElem?_cons_zero,List.getElem?_cons_succ,lb,l4,Option.map_some,Qi]
theorem Qf9(Z:Sta h M B S R bs (r::rs) sms tl (tc::tr)):∃v,eqA T (.ref R) (.ref (h.length+1)) (h++[O.lst [],.lst [.ref h.length]])=some v:=by
 obtain⟨ur,hr,lr,pr,nr⟩:=Za Z.kr;exact⟨_,QeK (g:=Vw M h) Vw.hg Z.kr.hR hr pr⟩
theorem QmQ(Z:Sta h M B S R bs (r::rs) sms tl (tc::tr)):∃v h1,Kp h h1/\evT T cf (d+18) x7 (rh cl fl B S R x ob) h=some (v,h1):=by
 obtain⟨v,e⟩:=Qf9 (T:=T) Z;refine⟨!v,_,Kp.app _ [O.lst [],.lst [.ref h.length]],?_⟩;simp only [x7,rh,Q2,Zv,QF,Zu,evs,QV,List.getElem?_cons_zero,List.getElem?_cons_succ,List.append_assoc,List.cons_append,List.nil_append,List.length_append,List.length_singleton,Qo,e,Option.map_some,Qi]
theorem QiB{P:Gt->Nat->U->List Nat->Prop}(Z:Stk P h M R (r::rs) (tc::tr)):∃v,eqA T (.ref r) (.ref h.length) (h++[O.lst []])=some v:=by
 obtain⟨ur,hr,lr,pr,nr⟩:=Za Z;exact⟨_,Qa9 (Qx hr) at0⟩
theorem QmR(Z:Sta h M B S R bs (r::rs) sms tl (tc::tr)):∃v h1,Kp h h1/\evT T cf (d+18) x6 (rh cl fl B S R x ob) h=some (v,h1)/\(v=true->1<(r::rs).length):=by
 have lb:=Qd2 (T:=T) Z.kr.hR;have hR:=Z.kr.hR;have l4:=gt1 (T:=T) (h:=h) (i:=(r::rs).length);by_cases z:1<(r::rs).length
 ·obtain⟨v,e⟩:=QiB (T:=T) Z.kr
  have lst:atU (Qw (r::rs)) (-1)=some (.ref r):=by rw [QA];exact Zq
  refine⟨!v,_,Kp.app _ [O.lst []],?_,fun _=>z⟩
  have e3:Qo T .NotEq (.ref r) (.ref h.length) (h++[O.lst []])=some (!v):=by simp only [Qo,e,Option.map_some]
  simp only [x6,rh,Zx,Q2,Zv,Qdh,Qdl,Jq,QF,y_c,Zu,evs,QV,List.getElem?_cons_zero,List.getElem?_cons_succ,lb,l4,decide_eq_true z,Option.map_some,Qi,if_true,Qk,hR,lst,e3,Int.reduceNeg]
 ·refine⟨false,h,Kp.refl h,?_,fun e=>by cases e⟩
  simp only [x6,rh,Zx,Q2,Zv,Qdh,QF,y_c,evs,QV,List.getElem?_cons_zero,List.getElem?_cons_succ,lb,l4,decide_eq_false z,Option.map_some,Qi,Bool.false_eq_true,if_false]
theorem QmP(Z:Sta h M B S R bs (r::rs) sms tl (tc::tr)):∃v h1,Kp h h1/\evT T cf (d+18) x8 (rh cl fl B S R x ob) h=some (v,h1)/\(v=true->bs.length<4):=by
 obtain⟨v,e⟩:=Qf9 (T:=T) Z;have k:Kp h (h++[O.lst [],.lst [.ref h.length]]):=Kp.app _ _;have lb:=Qd2 (T:=T) (k _ _ Z.kb.kb.hR);have l4:=lt4 (T:=T) (h:=h++[O.lst [],.lst [.ref h.length]]) (i:=bs.length)
 refine⟨v&&decide (bs.length<4),_,k,?_,fun z=>by simpa using (Bool.and_eq_true_iff.mp z).2⟩
 have e':Qo T .Eq (.ref R) (.ref (h.length+1)) (h++[O.lst [],.lst [.ref h.length]])=some v:=e;cases v
 ·simp only [x8,rh,Zx,Q2,Zv,QF,Zu,evs,QV,List.getElem?_cons_zero,List.getElem?_cons_succ,List.append_assoc,List.cons_append,List.nil_append,List.length_append,List.length_singleton,e',Option.map_some,Qi,Bool.false_eq_true,if_false,Bool.false_and]
 ·simp only [x8,rh,Zx,Q2,Zv,Qdh,y_c,QF,Zu,evs,QV,List.getElem?_cons_zero,List.getElem?_cons_succ,List.append_assoc,List.cons_append,List.nil_append,List.length_append,List.length_singleton,e',Option.map_some,Qi,if_true,Bool.true_and,lb,l4]
theorem QmO(Z:Sta h M B S R (a::bs) (r::rs) sms (ta::tl) (tc::tr)):∃v h1,Kp h h1/\evT T cf (d+18) x9 (rh cl fl B S R x ob) h=some (v,h1)/\(v=true->1<(a::bs).length):=by
 obtain⟨v,e⟩:=Qf9 (T:=T) Z;have k:Kp h (h++[O.lst [],.lst [.ref h.length]]):=Kp.app _ _;have Z1:=Z.kp k;have hB:=Z1.kb.kb.hR;have lb:=Qd2 (T:=T) hB;have l4:=gt1 (T:=T) (h:=h++[O.lst [],.lst [.ref h.length]]) (i:=(a::bs).length);have e':Qo T .Eq (.ref R) (.ref (h.length+1)) (h++[O.lst [],.lst [.ref h.length]])=some v:=e;cases v
 ·refine⟨false,_,k,?_,fun z=>by cases z⟩
  simp only [x9,rh,Zx,Q2,Zv,QF,Zu,evs,QV,List.getElem?_cons_zero,List.getElem?_cons_succ,List.append_assoc,List.cons_append,List.nil_append,List.length_append,List.length_singleton,e',Option.map_some,Qi,Bool.false_eq_true,if_false]
 ·by_cases z:1<(a::bs).length
  ·obtain⟨v,e2⟩:=QiB (T:=T) Z1.kb.kb
   have lst:atU (Qw (a::bs)) (-1)=some (.ref a):=by rw [QA];exact Zq
   have e3:Qo T .NotEq (.ref a) (.ref (h++[O.lst [],.lst [.ref h.length]]).length) (h++[O.lst [],.lst [.ref h.length]]++[O.lst []])=some (!v):=by simp only [Qo,e2,Option.map_some]
   refine⟨!v,_,k.trans (Kp.app _ [O.lst []]),?_,fun _=>z⟩
   have q1:evT T cf (d+17) (.cmp .Eq (.var 4) (.lst [.lst []])) (rh cl fl B S R x ob) h=some (true,h++[O.lst [],.lst [.ref h.length]]):=by
    simp only [rh,Q2,Zv,QF,Zu,evs,QV,List.getElem?_cons_zero,List.getElem?_cons_succ,List.append_assoc,List.cons_append,List.nil_append,List.length_append,List.length_singleton,e',Option.map_some,Qi]
   rw [x9,Zx,q1,QV,if_pos rfl];generalize h++[O.lst [],.lst [.ref h.length]]=g at *;simp only [rh,Zx,Q2,Zv,Qdh,Qdl,Jq,QF,y_c,Zu,evs,QV,List.getElem?_cons_zero,List.getElem?_cons_succ,lb,l4,decide_eq_true z,Option.map_some,Qi,if_true,Qk,hB,lst,e3,Int.reduceNeg]
  ·refine⟨false,_,k,?_,fun e=>by cases e⟩
   simp only [x9,rh,Zx,Q2,Zv,Qdh,y_c,QF,Zu,evs,QV,List.getElem?_cons_zero,List.getElem?_cons_succ,List.append_assoc,List.cons_append,List.nil_append,List.length_append,List.length_singleton,e',Option.map_some,Qi,if_true,lb,l4,decide_eq_false z,Bool.false_eq_true,if_false]
end
theorem Kp.fr{a b c:Hs}(k:Kp a b)(f:Fr M b c)(m:∀p,p∈M->a.length<=p):Kp a c:=fun p o e=>f.2 p o (fun z=>Nat.not_lt.mpr (m p z) (List.getElem?_eq_some_iff.mp e).1) (k p o e)
section
variable {S:Nat}{x:Int}{ob:Option U}{bs:List Nat}{tr:List (List (List Nat))}
theorem Qf6(Z:Sta h M B S R bs rs sms tl tr)(bd:tot tr+tot tl<=600000):Nx (tb s) (Qa (tb s) (n+2)) 93 e5 cl fl B S R x ob h M (tot tr+tot tl):=by
 obtain⟨a,as,rfl⟩:=Z4 Z.kb.ln
 obtain⟨r,rs',rfl⟩:∃r rs',rs=r::rs':=by
  cases rs with
  | nil=>exact absurd rfl Z.rn
  | cons r rs'=>exact⟨r,rs',rfl⟩
 obtain⟨ta,tl,rfl⟩:=Z4 Z.kb.kb.sk.len.symm;obtain⟨tc,tr,rfl⟩:=Z4 Z.kr.sk.len.symm;have bd2:=bd;simp only [Qr]at bd2
 have oE:∀{h1},Kp h h1->Nx (tb s) (Qa (tb s) (n+2)) 83 aE cl fl B S R x ob h1 M (tot (tc::tr)+tot (ta::tl)):=fun k=>Qiy (n:=n+1) (d:=53) (Z.kp k) (by lia)
 have s9:∀{h1},Kp h h1->x % 11≠9->Nx (tb s) (Qa (tb s) (n+2)) 85 e9 cl fl B S R x ob h1 M (tot (tc::tr)+tot (ta::tl)):=fun k z=>QP (d:=64) z (oE k);have s8:∀{h1},Kp h h1->x % 11≠8->x % 11≠9->Nx (tb s) (Qa (tb s) (n+2)) 87 e8 cl fl B S R x ob h1 M (tot (tc::tr)+tot (ta::tl)):=fun k z y=>QP (d:=66) z (s9 k y);have s7:∀{h1},Kp h h1->x % 11≠7->x % 11≠8->x % 11≠9->Nx (tb s) (Qa (tb s) (n+2)) 89 e7 cl fl B S R x ob h1 M (tot (tc::tr)+tot (ta::tl)):=fun k z y w=>QP (d:=68) z (s8 k y w);have s6:∀{h1},Kp h h1->x % 11≠6->x % 11≠7->x % 11≠8->x % 11≠9->Nx (tb s) (Qa (tb s) (n+2)) 91 e6 cl fl B S R x ob h1 M (tot (tc::tr)+tot (ta::tl)):=fun k z y w v=>QP (d:=70) z (s7 k y w v);have k0:=Kp.refl h
 rcases (show x % 11=5\/x % 11=6\/x % 11=7\/x % 11=8\/x % 11=9\/(x % 11≠5/\x % 11≠6/\x % 11≠7/\x % 11≠8/\x % 11≠9) by lia)with q|q|q|q|q|⟨q5,q6,q7,q8,q9⟩
 ·refine Yy (d:=72) q (QmS Z) k0 ?_;by_cases l:(r::rs').length<4
  ·rw [decide_eq_true l,if_pos rfl];exact Qf4 (n:=n+2) (d:=61) Z l
  ·rw [decide_eq_false l,if_neg Bool.false_ne_true]
   exact s6 k0 (by lia) (by lia) (by lia) (by lia)
 ·obtain⟨v,h1,k,t,hv⟩:=QmR (T:=tb s) (cf:=Qa (tb s) (n+2)) (d:=70) (cl:=cl) (fl:=fl) (x:=x) (ob:=ob) Z
  refine QP (d:=72) (by lia) (Yy (d:=70) q t k ?_)
  cases v with
  | false=>exact s7 k (by lia) (by lia) (by lia)
  | true =>
   have l:=hv rfl
   cases rs' with
   | nil=>simp at l
   | cons b as' =>
    have Z1:=Z.kp k
    cases tr with
    | nil=>have:=Z.kr.sk.len;simp at this
    | cons tb' tr=>exact QdU (n:=n+1) (d:=59) Z1 (by lia)
 ·obtain⟨v,h1,k,t⟩:=QmQ (T:=tb s) (cf:=Qa (tb s) (n+2)) (d:=68) (cl:=cl) (fl:=fl) (x:=x) (ob:=ob) Z
  refine QP (d:=72) (by lia) (QP (d:=70) (by lia) (Yy (d:=68) q t k ?_))
  cases v with
  | false=>exact s8 k (by lia) (by lia)
  | true=>exact Qix (n:=n+1) (d:=57) (Z.kp k) (by lia) (by lia)
 ·obtain⟨v,h1,k,t,hv⟩:=QmP (T:=tb s) (cf:=Qa (tb s) (n+2)) (d:=66) (cl:=cl) (fl:=fl) (x:=x) (ob:=ob) Z
  refine QP (d:=72) (by lia) (QP (d:=70) (by lia) (QP (d:=68) (by lia) (Yy (d:=66) q t k ?_)))
  cases v with
  | false=>exact s9 k (by lia)
  | true=>exact QdW (n:=n) (d:=55) (Z.kp k) (hv rfl)
 ·obtain⟨v,h1,k,t,hv⟩:=QmO (T:=tb s) (cf:=Qa (tb s) (n+2)) (d:=64) (cl:=cl) (fl:=fl) (x:=x) (ob:=ob) Z
  refine QP (d:=72) (by lia) (QP (d:=70) (by lia) (QP (d:=68) (by lia) (QP (d:=66) (by lia) (Yy (d:=64) q t k ?_))))
  cases v with
  | false=>exact oE k
  | true =>
   have l:=hv rfl
   cases as with
   | nil=>simp at l
   | cons b as' =>
    cases tl with
    | nil=>have:=Z.kb.kb.sk.len;simp at this
    | cons te tl=>exact QdV (n:=n+2) (d:=53) (Z.kp k) (by lia)
 ·exact QP (d:=72) q5 (s6 k0 q6 q7 q8 q9)
theorem Blk.init{h:Hs}:Blk (h++[O.lst [],.lst [.ref h.length],.lst []]) [h.length,h.length+1,h.length+2] (h.length+1) (h.length+2) [h.length] [] [[]] where
 kb:=⟨by simp,fun p m=>by
  simp only [List.mem_cons,List.not_mem_nil,or_false]at m ⊢
  lia,fun p m=>by
  simp only [List.mem_cons,List.not_mem_nil,or_false]at m;simp
  lia,at1,⟨⟨[],at0,.nil⟩,trivial⟩,by simp⟩
 sM:=by simp
 sb:=by simp
 hS:=at2
 sm:=fun q m=>by cases m
 ln:=rfl
theorem QgR(hp:h[p]?=some (.lst us))(hl:us.length<=60)(hi:∀u,u∈us->∃x,u=.int x 0):
  ∃h1 r us' ts,Kp h h1/\h1[r]?=some (.lst us')/\PySem.Paired (LI (Hg h1) 4) us' ts/\ts≠[]/\cst ts<=200000/\Qa (tb s) (n+3) 39 [.ref p,.bl fl] h=some (.ref r,h1):=by
 rw [Qe fnL[39] rfl rfl];show ∃h1 r us' ts,_/\_/\_/\_/\_/\fin (exs (tb s) (Qa (tb s) (n+2)) 100 b39 [some (.ref p),some (.bl fl),none,none,none,none,none,none,none] h)=_;rw [Qjw];have Z0:=Sta.fresh (Blk.init (h:=h));have k0:Kp h ((h++[O.lst [],.lst [.ref h.length],.lst []])++[O.lst [],.lst [.ref (h++[O.lst [],.lst [.ref h.length],.lst []]).length]]):=(Kp.app _ _).trans (Kp.app _ _)
 have x1:ex (tb s) (Qa (tb s) (n+2)) 99 (.set 2 (.lst [.lst []])) [some (.ref p),some (.bl fl),none,none,none,none,none,none,none] h=some (.next,[some (.ref p),some (.bl fl),some (.ref (h.length+1)),none,none,none,none,none,none],h++[O.lst [],.lst [.ref h.length]]):=by
  simp only [ZI,Zu,evs,QV,List.append_assoc,List.cons_append,List.nil_append,List.length_append,List.length_singleton];rfl
 have x2:ex (tb s) (Qa (tb s) (n+2)) 98 (.set 3 (.lst [])) [some (.ref p),some (.bl fl),some (.ref (h.length+1)),none,none,none,none,none,none] (h++[O.lst [],.lst [.ref h.length]])=some (.next,[some (.ref p),some (.bl fl),some (.ref (h.length+1)),some (.ref (h.length+2)),none,none,none,none,none],h++[O.lst [],.lst [.ref h.length],.lst []]):=by
  simp only [ZI,Zu,evs,QV,List.append_assoc,List.cons_append,List.nil_append,List.length_append,List.length_cons,List.length_nil];rfl
 rw [Qp x1,Qp x2]
 have l3:(h++[O.lst [],.lst [.ref h.length],.lst []]).length=h.length+3:=by simp
 have mm:∀p,p∈[h.length,h.length+1,h.length+2]->h.length<=p:=fun p m=>by
  simp only [List.mem_cons,List.not_mem_nil,or_false]at m;lia
 generalize h++[O.lst [],.lst [.ref h.length],.lst []]=g at *
 have x3:ex (tb s) (Qa (tb s) (n+2)) 97 (.set 4 (.lst [.lst []])) [some (.ref p),some (.bl fl),some (.ref (h.length+1)),some (.ref (h.length+2)),none,none,none,none,none] g=some (.next,[some (.ref p),some (.bl fl),some (.ref (h.length+1)),some (.ref (h.length+2)),some (.ref (g.length+1)),none,none,none,none],g++[O.lst [],.lst [.ref g.length]]):=by
  simp only [ZI,Zu,evs,QV,List.append_assoc,List.cons_append,List.nil_append,List.length_append,List.length_singleton];rfl
 rw [Qp x3]
 have m0:∀p,p∈g.length::(g.length+1)::[h.length,h.length+1,h.length+2]->h.length<=p:=fun p m=>by
  rcases List.mem_cons.mp m with rfl|m
  ·lia
  ·rcases List.mem_cons.mp m with rfl|m
   ·lia
   ·exact mm p m
 obtain⟨ρ2,h2,x4,M,B,S,R,bs,rs,sms,tl,tr,o5,o6,o7,o8,rfl,k2,m2,Z2,c2⟩:=ZZ (T:=tb s) (cf:=Qa (tb s) (n+2)) (d:=94) (j:=0) (k:=5) (p:=p) (us:=us) (body:=QiG) (ρ:=[some (.ref p),some (.bl fl),some (.ref (h.length+1)),some (.ref (h.length+2)),some (.ref (g.length+1)),none,none,none,none]) (hs:=g++[O.lst [],.lst [.ref g.length]])
  (fun i ρ h'=>∃M B S R bs rs sms tl tr o5 o6 o7 o8,ρ=[some (.ref p),some (.bl fl),some (.ref B),some (.ref S),some (.ref R),o5,o6,o7,o8]/\Kp h h'/\(∀p,p∈M->h.length<=p)/\Sta h' M B S R bs rs sms tl tr/\tot tr+tot tl<=3000*i) rfl (k0 _ _ hp) (fun i ρ h' zz=>by
    obtain⟨_,_,_,_,_,_,_,_,_,_,_,_,_,_,k,_⟩:=zz
    exact k _ _ hp)
  (fun i u hu ρ h' zz=>by
   obtain⟨M,B,S,R,bs,rs,sms,tl,tr,o5,o6,o7,o8,e,k,m,Z,c⟩:=zz;subst e;obtain⟨x,rfl⟩:=hi u (List.mem_of_getElem? hu);have li:=(List.getElem?_eq_some_iff.mp hu).1
   obtain⟨h2,M2,R2,bs2,rs2,sms2,tl2,tr2,ob2,e,f,Z2,m2,b2⟩:=Qf6 (s:=s) (n:=n) (cl:=.ref p) (fl:=fl) (x:=x) (ob:=o8) Z (by lia)
   have y1:ex (tb s) (Qa (tb s) (n+2)) 94 (.set 6 (.op .Mod (.var 5) (.c (.int 11 0)))) [some (.ref p),some (.bl fl),some (.ref B),some (.ref S),some (.ref R),some (.int x 0),o6,o7,o8] h'=some (.next,[some (.ref p),some (.bl fl),some (.ref B),some (.ref S),some (.ref R),some (.int x 0),some (.int (x % 11) 0),o7,o8],h'):=rfl;have y2:ex (tb s) (Qa (tb s) (n+2)) 93 (.set 7 (.op .FloorDiv (.var 5) (.c (.int 11 0)))) [some (.ref p),some (.bl fl),some (.ref B),some (.ref S),some (.ref R),some (.int x 0),some (.int (x % 11) 0),o7,o8] h'=some (.next,rh (.ref p) fl B S R x o8,h'):=rfl
   refine⟨rh (.ref p) fl B S R2 x ob2,h2,?_,M2,B,S,R2,bs2,rs2,sms2,tl2,tr2,some (.int x 0),some (.int (x % 11) 0),some (.int (x / 11) 0),ob2,rfl,k.fr f m,fun p hp=>(m2 p hp).elim (m p) (fun l=>Nat.le_trans k.len l),Z2,by lia⟩
   show exs (tb s) (Qa (tb s) (n+2)) (94+1) QiG [some (.ref p),some (.bl fl),some (.ref B),some (.ref S),some (.ref R),some (.int x 0),o6,o7,o8] h'=_;unfold QiG;rw [Qp y1,Qp y2]
   exact e)
  ⟨_,_,_,_,_,_,_,_,_,_,_,_,_,rfl,k0,m0,Z0,by decide⟩
 rw [Qp x4]
 ·obtain⟨h3,r,us',ts,f3,hr,pu,ne,c3,e3⟩:=QgQ (s:=s) (n:=n) Z2 (by lia)
  refine⟨h3,r,us',ts,k2.fr f3 m2,hr,pu,ne,by lia,?_⟩
  generalize Qa (tb s) (n+2)=cf at e3 ⊢;generalize tb s=T;simp only [QC,Yn,Q1,evs,QF,QV,List.getElem?_cons_zero,List.getElem?_cons_succ,e3,fin]
end
noncomputable def Z9:List Nat:=[102,108,97,116]
noncomputable def Qbi:List Nat:=[114,111,117,110,100]
theorem Qi6{n0 n1 n2 n3 n4:Int}(h:hs[c]?=some (.tup (nums n0 n1 n2 n3 n4))):Qo T .NotEq (.ref c) (.ref c) hs=some false:=by
 have e:eqS (.ref c) (.ref c)=none:=rfl
 have o1:okW T 20 (.ref c) hs=true:=Jf (n:=19) h fun x hx=>by
  simp only [nums,List.mem_cons,List.not_mem_nil,or_false]at hx
  rcases hx with rfl|rfl|rfl|rfl|rfl<;>exact Qcr
 have w1:eqW T (19+1) (.ref c) (.ref c) hs=true:=by
  rw [eqW];simp [QM,ZK,h,nums,QgI]
 simp [Qo,eqA,e,Jg,Qad,QM,h,o1,w1]
section
variable {ns:List Int}
noncomputable abbrev sc(ns:List Int):List U:=ns.map fun i=>.int i 0
theorem QeZ:∃x,∀hs,Qa (tb (sc ns)) (n+1) 32 [.scr,.int (k:Int) 0] hs=some (.int x 0,hs):=by
 refine⟨(ns[k]?).getD 0,fun hs=>?_⟩;rw [Qe fnL[32] rfl rfl];show fin (exs (tb (sc ns)) (Qa (tb (sc ns)) n) 100 b32 [some .scr,some (.int (k:Int) 0)] hs)=_;have hT:(tb (sc ns)).scr=sc ns:=rfl;generalize Qa (tb (sc ns)) n=cf;generalize tb (sc ns)=T at hT ⊢;have e:b32=[.ite (.cmp .Lt (.var 1) (.bi .len [.var 0])) [.ret (.ix (.var 0) (.var 1))] [],.ret (.c (.int 0 0))]:=rfl
 have lb:biU T .len [.scr] hs=some (.int ns.length 0,hs):=by rw [Qlr,hT];simp
 have cl:Qo T .Lt (.int (k:Int) 0) (.int (ns.length:Int) 0) hs=some (decide (k<ns.length)):=by
  simp only [Qo]
  rw [decide_eq_decide.mpr (show((k:Int) < (ns.length:Int))↔k<ns.length by lia)]
 by_cases z:k<ns.length
 ·have sb:Qk T .scr (.int (k:Int) 0) hs=some (.int ns[k] 0):=by
   have z':(k:Int) < (ns.length:Int):=by lia
   simp [Qk,Q8,hT,atU,ixU,z,z']
  rw [List.getElem?_eq_getElem z];simp only [Option.getD_some,e,QC,Y5,Q2,Zv,Qdh,QF,evs,QV,List.getElem?_cons_zero,List.getElem?_cons_succ,lb,cl,decide_eq_true z,Option.map_some,Qi,if_true,Yn,Qdl,sb,fin]
 ·rw [List.getElem?_eq_none (Nat.le_of_not_lt z)];simp only [Option.getD_none,e,QC,Yo,Y5,Q2,Zv,Qdh,QF,evs,QV,List.getElem?_cons_zero,List.getElem?_cons_succ,lb,cl,decide_eq_false z,Option.map_some,Qi,Bool.false_eq_true,if_false,Yn,y_c,fin]
end
section

theorem l_1{x:Int}(c:∀hs,cf 32 [.scr,.int 0 0] hs=some (.int x 0,hs)):∃w,w.length<=10/\ex T cf (d+20) (.set 1 (.ix (.lst [.c (.str Z9),.c (.str Qbi)]) (.op .Mod (.call 32 [.var 0,.c (.int 0 0)]) (.c (.int 2 0))))) [some .scr,o1,o2,o3,o4,o5,o6,o7,o8] hs=some (.next,[some .scr,some (.str w),o2,o3,o4,o5,o6,o7,o8],hs++[.lst [.str Z9,.str Qbi]]):=by
 have g:(hs++[O.lst [.str Z9,.str Qbi]])[hs.length]?=some (.lst [.str Z9,.str Qbi]):=at0
 rcases (show x % 2=0\/x % 2=1 by lia)with z|z
 ·refine⟨Z9,by decide,?_⟩
  simp [yy,evs,evO,Ql,Qd,Qo,eq_int,Qi,Qk,opU,Qm,bb,slU,fin,c,Yk,z,atU,ixU]
 ·refine⟨Qbi,by decide,?_⟩
  simp [yy,evs,evO,Ql,Qd,Qo,eq_int,Qi,Qk,opU,Qm,bb,slU,fin,c,Yk,z,atU,ixU]
theorem l_6{P t:Nat}{w:List Nat}{n0 n1 n2 n3 n4:Int}{us':List U}{ρ3:Option U}(hP:h[P]?=some (.ins 10 [(2,.str w),(6,.ref c),(7,.ref l)]))(hc:h[c]?=some (.tup (nums n0 n1 n2 n3 n4)))(hl:h[l]?=some (.lst us))(ht:h[t]?=some (.lst us'))(e:us.length=us'.length):
  ex T cf (d+30) (.ite (.or (.cmp .NotEq (.fld (.var 5) 2) (.var 1)) (.or (.cmp .NotEq (.fld (.var 5) 6) (.var 2)) (.cmp .NotEq (.bi .len [.fld (.var 5) 7]) (.bi .len [.var 4])))) [.ret (.c (.bl false))] []) [some .scr,some (.str w),some (.ref c),ρ3,some (.ref t),some (.ref P),o6,o7,o8] h=some (.next,[some .scr,some (.str w),some (.ref c),ρ3,some (.ref t),some (.ref P),o6,o7,o8],h):=by
 have s1:=Qi6 (T:=T) hc
 have b1:biU T .len [.ref l] h=some (.int us'.length 0,h):=by simp [Zw,Q8,hl,e]
 have b2:biU T .len [.ref t] h=some (.int us'.length 0,h):=by simp [Zw,Q8,ht]
 have s3:Qo T .NotEq (.int (us'.length:Int) 0) (.int (us'.length:Int) 0) h=some false:=by simp [Qo,eq_int]
 simp [yy,evs,evO,Ql,Qd,eq_int,Qi,Qk,opU,Qm,slU,fin,Qew,List.lookup,hP,nes,s1,b1,b2,s3]
theorem l_9{w:List Nat}(c:cf 46 [.ref r] h=some (.bl true,h1)):
  ex T cf (d+30) (.ite (.or (.not (.isi (.var 7) .str)) (.or (.cmp .NotEq (.var 7) (.var 6)) (.not (.call 46 [.var 3])))) [.ret (.c (.bl false))] []) [some .scr,o1,o2,some (.ref r),o4,o5,some (.str w),some (.str w),o8] h=some (.next,[some .scr,o1,o2,some (.ref r),o4,o5,some (.str w),some (.str w),o8],h1):=by
 simp [yy,evs,evO,Ql,Qd,eq_int,Qi,Qk,opU,Qm,bb,slU,fin,Qmv,nes,c]
end
theorem at5{a b c k:O}{r:Hs}:(hs++a::b::c::e::f::k::r)[hs.length+5]?=some k:=by rw [List.getElem?_append_right (by lia),show hs.length+5-hs.length=5 by lia];rfl
theorem at6{a b c k l:O}{r:Hs}:(hs++a::b::c::e::f::k::l::r)[hs.length+6]?=some l:=by rw [List.getElem?_append_right (by lia),show hs.length+6-hs.length=6 by lia];rfl
noncomputable def Qhk:List Nat:=[114,111,117,110,100,59,32,99,97,115,116,32,50,59,32,114,111,119,32,98,44,32,98]
noncomputable def oth(L:Nat)(ob:O):List O:=[.tup (nums 2 0 0 0 0),ob,.tup [.str Q7,.ref (L+1)],.lst [.ref (L+2)],.lst [.ref (L+2),.ref (L+2)],.tup [.str QU,.ref (L+4),.bl false],.lst [.ref (L+5)]]
section

theorem Qnr{ob:O}(c:cf 24 [.str [98]] (h++[.tup (nums 2 0 0 0 0)])=some (.ref (h.length+1),h++[.tup (nums 2 0 0 0 0),ob]))(mk:Zo T cf 10 [.str Qbi,.ref h.length,.ref (h.length+6)] (h++oth h.length ob)=some (.ref (h++oth h.length ob).length,h1)):
  ex T cf (d+30) (.set 8 (.make 10 [.c (.str Qbi),.tup [.c (.int 2 0),.c (.int 0 0),.c (.int 0 0),.c (.int 0 0),.c (.int 0 0)],.lst [.tup [.c (.str QU),.op .Mult (.lst [.tup [.c (.str Q7),.call 24 [.c (.str [98])]]]) (.c (.int 2 0)),.c (.bl false)]]])) [some .scr,o1,o2,o3,o4,o5,o6,o7,o8] h=some (.next,[some .scr,o1,o2,o3,o4,o5,o6,o7,some (.ref (h++oth h.length ob).length)],h1):=by
 have hh:h++[O.tup (nums 2 0 0 0 0),ob]++[O.tup [.str Q7,.ref (h.length+1)]]++[O.lst [.ref (h.length+2)]]++[O.lst [.ref (h.length+2),.ref (h.length+2)]]++[O.tup [.str QU,.ref (h.length+4),.bl false]]++[O.lst [.ref (h.length+5)]]=h++oth h.length ob:=by simp [oth]
 have rp:QjR (h.length+3) (.int 2 0) (h++[O.tup (nums 2 0 0 0 0),ob]++[O.tup [.str Q7,.ref (h.length+1)]]++[O.lst [.ref (h.length+2)]])=some (.ref (h.length+4),h++[O.tup (nums 2 0 0 0 0),ob]++[O.tup [.str Q7,.ref (h.length+1)]]++[O.lst [.ref (h.length+2)]]++[O.lst [.ref (h.length+2),.ref (h.length+2)]]):=by
  have g:(h++[O.tup (nums 2 0 0 0 0),ob]++[O.tup [.str Q7,.ref (h.length+1)]]++[O.lst [.ref (h.length+2)]])[h.length+3]?=some (.lst [.ref (h.length+2)]):=by simp
  simp [QjR,g]
 rw [<-hh]at mk
 have l1:(h++[O.tup (nums 2 0 0 0 0),ob]).length=h.length+2:=by simp
 have l2:(h++[O.tup (nums 2 0 0 0 0),ob]++[O.tup [.str Q7,.ref (h.length+1)]]).length=h.length+3:=by simp
 have l4:(h++[O.tup (nums 2 0 0 0 0),ob]++[O.tup [.str Q7,.ref (h.length+1)]]++[O.lst [.ref (h.length+2)]]++[O.lst [.ref (h.length+2),.ref (h.length+2)]]).length=h.length+5:=by simp
 have l5:(h++[O.tup (nums 2 0 0 0 0),ob]++[O.tup [.str Q7,.ref (h.length+1)]]++[O.lst [.ref (h.length+2)]]++[O.lst [.ref (h.length+2),.ref (h.length+2)]]++[O.tup [.str QU,.ref (h.length+4),.bl false]]).length=h.length+6:=by simp
 rw [<-hh];have nm:[U.int 2 0,.int 0 0,.int 0 0,.int 0 0,.int 0 0]=nums 2 0 0 0 0:=rfl;simp only [ZI,QbO,J0,Zu,y_c,QlC,Q1,evs,QV,nm,c,l1,l2,opU,rp,l4,l5,mk];rfl
theorem Qnq(c:cf 2 [.ref p] h=some (.str Qhk,h1)):
  ex T cf (d+30) (.ite (.cmp .NotEq (.call 2 [.var 8]) (.c (.str Qhk))) [.ret (.c (.bl false))] []) [some .scr,o1,o2,o3,o4,o5,o6,o7,some (.ref p)] h=some (.next,[some .scr,o1,o2,o3,o4,o5,o6,o7,some (.ref p)],h1):=by
 simp only [Y5,Q2,Zv,Q1,y_c,QF,evs,QV,List.getElem?_cons_zero,List.getElem?_cons_succ,c,nes,Option.map_some,Qi,Bool.false_eq_true,if_false,Yo]
theorem Qnp{t:Nat}{ob:O}(c:cf 24 [.str [107]] h=some (.ref h.length,h++[ob]))(ht:h[t]?=some (.lst us))(l:us.length<1000000):
  ex T cf (d+30) (.expr (.bm .append (.var 4) [.tup [.c (.str QU),.lst [.tup [.c (.str Q7),.call 24 [.c (.str [107])]]],.c (.bl false)]])) [some .scr,o1,o2,o3,some (.ref t),o5,o6,o7,o8] h=some (.next,[some .scr,o1,o2,o3,some (.ref t),o5,o6,o7,o8],(h++[ob]++[O.tup [.str Q7,.ref h.length]]++[O.lst [.ref (h.length+1)]]++[O.tup [.str QU,.ref (h.length+2),.bl false]]).set t (O.lst (us++[U.ref (h.length+3)]))):=by
 have l1:(h++[ob]).length=h.length+1:=by simp
 have l2:(h++[ob]++[O.tup [.str Q7,.ref h.length]]).length=h.length+2:=by simp
 have l3:(h++[ob]++[O.tup [.str Q7,.ref h.length]]++[O.lst [.ref (h.length+1)]]).length=h.length+3:=by simp
 have ht':=Qx (r:=[O.tup [.str QU,.ref (h.length+2),.bl false]]) (Qx (r:=[O.lst [.ref (h.length+1)]]) (Qx (r:=[O.tup [.str Q7,.ref h.length]]) (Qx (r:=[ob]) ht)));simp only [ZO,QbQ,QF,J0,Zu,y_c,Q1,evs,QV,List.getElem?_cons_zero,List.getElem?_cons_succ,Zd,ht,bL,if_true,c,l1,l2,l3,bmU,ht',Jp l]
end
noncomputable def Qhd(h:Hs):Gt:=fun p=>match h[p]? with
 | some (.ins c fs)=>some (.ins c fs)
 | _=>none
theorem Qgp{fs:List (Nat×U)}(e:h[p]?=some (.ins c fs)):Qhd h p=some (.ins c fs):=by simp only [Qhd,e]
theorem Qgo(e:Qhd h p=some o):h[p]?=some o/\∃c fs,o=.ins c fs:=by
 unfold Qhd at e;split at e
 ·rename_i c fs q;cases e;exact⟨q,c,fs,rfl⟩
 ·cases e
theorem Qju:b47=[.set 1 (.ix (.lst [.c (.str Z9),.c (.str Qbi)]) (.op .Mod (.call 32 [.var 0,.c (.int 0 0)]) (.c (.int 2 0)))),.set 2 (.call 34 [.call 32 [.var 0,.c (.int 1 0)]]),.set 3 (.call 39 [.sl (.var 0) (some (.c (.int 2 0))) (some (.c (.int 62 0))),.cmp .Eq (.var 1) (.c (.str Z9))]),.set 4 (.call 44 [.var 3]),.set 5 (.make 10 [.var 1,.var 2,.var 4]),
  .ite (.or (.cmp .NotEq (.fld (.var 5) 2) (.var 1)) (.or (.cmp .NotEq (.fld (.var 5) 6) (.var 2)) (.cmp .NotEq (.bi .len [.fld (.var 5) 7]) (.bi .len [.var 4])))) [.ret (.c (.bl false))] [],.set 6 (.call 45 [.var 1,.var 2,.var 3]),.set 7 (.call 2 [.var 5]),.ite (.or (.not (.isi (.var 7) .str)) (.or (.cmp .NotEq (.var 7) (.var 6)) (.not (.call 46 [.var 3])))) [.ret (.c (.bl false))] [],
  .set 8 (.make 10 [.c (.str Qbi),.tup [.c (.int 2 0),.c (.int 0 0),.c (.int 0 0),.c (.int 0 0),.c (.int 0 0)],.lst [.tup [.c (.str QU),.op .Mult (.lst [.tup [.c (.str Q7),.call 24 [.c (.str [98])]]]) (.c (.int 2 0)),.c (.bl false)]]]),.ite (.cmp .NotEq (.call 2 [.var 8]) (.c (.str Qhk))) [.ret (.c (.bl false))] [],
  .expr (.bm .append (.var 4) [.tup [.c (.str QU),.lst [.tup [.c (.str Q7),.call 24 [.c (.str [107])]]],.c (.bl false)]]),.ret (.cmp .Eq (.call 2 [.var 5]) (.var 6))]:=by
 unfold b47 Z9 Qbi QU Q7 Qhk;rfl
theorem QeV{ns:List Int}:(ZV (sc ns) (some 2) (some 62)).length<=60/\∀u,u∈ZV (sc ns) (some 2) (some 62)->∃x,u=.int x 0:=by
 have e:ZV (sc ns) (some 2) (some 62)=((sc ns).drop (min 2 (sc ns).length)).take (min 62 (sc ns).length-min 2 (sc ns).length):=rfl;rw [e];refine⟨?_,fun u m=>?_⟩
 ·rw [List.length_take];lia
 ·have:=List.mem_of_mem_drop (List.mem_of_mem_take m);obtain⟨x,_,rfl⟩:=List.mem_map.mp this;exact⟨x,rfl⟩
theorem Qli(ns:List Int):∃hs',Qa (tb (sc ns)) 27 47 [.scr] []=some (.bl true,hs'):=by
 rw [Qe fnL[47] rfl rfl];show ∃hs',fin (exs (tb (sc ns)) (Qa (tb (sc ns)) 26) 100 b47 [some .scr,none,none,none,none,none,none,none,none] [])=_;rw [Qju];have hT:(tb (sc ns)).scr=sc ns:=rfl
 obtain⟨x0,c0⟩:∃x,∀hs,Qa (tb (sc ns)) 26 32 [.scr,.int 0 0] hs=some (.int x 0,hs):=by
  obtain⟨x,c⟩:=QeZ (ns:=ns) (n:=25) (k:=0);exact⟨x,c⟩
 obtain⟨w,lw,s1⟩:=l_1 (T:=tb (sc ns)) (cf:=Qa (tb (sc ns)) 26) (d:=79) (hs:=[]) (o1:=none) (o2:=none) (o3:=none) (o4:=none) (o5:=none) (o6:=none) (o7:=none) (o8:=none) c0;rw [Qp s1];generalize ([]:Hs)++[.lst [.str Z9,.str Qbi]]=h1;obtain⟨x1,c1⟩:=QeZ (ns:=ns) (n:=25) (k:=1);have c1:=c1 h1;obtain⟨h2,c,n0,n1,n2,n3,n4,k2,lc,hc,oc,e2⟩:=QaB (s:=sc ns) (n:=25) (x:=x1) (hs:=h1)
 have s2:ex (tb (sc ns)) (Qa (tb (sc ns)) 26) 98 (.set 2 (.call 34 [.call 32 [.var 0,.c (.int 1 0)]])) [some .scr,some (.str w),none,none,none,none,none,none,none] h1=some (.next,[some .scr,some (.str w),some (.ref c),none,none,none,none,none,none],h2):=by
  change Qa (tb (sc ns)) 26 32 [.scr,.int 1 0] h1=_ at c1
  change Qa (tb (sc ns)) 26 34 [.int x1 0] h1=_ at e2
  generalize Qa (tb (sc ns)) 26=cf at c1 e2 ⊢;generalize tb (sc ns)=T;simp only [ZI,Q1,evs,QF,y_c,QV,List.getElem?_cons_zero,c1,e2];rfl
 rw [Qp s2];have k3:Kp h2 (h2++[.lst (ZV (sc ns) (some 2) (some 62))]):=Kp.app _ _;obtain⟨h4,r,ui,ts,k4,hr,pi,nt,ct,e4⟩:=QgR (s:=sc ns) (n:=23) (h:=h2++[.lst (ZV (sc ns) (some 2) (some 62))]) (p:=h2.length) (fl:=decide (w=Z9)) at0 QeV.1 QeV.2
 have s3:ex (tb (sc ns)) (Qa (tb (sc ns)) 26) 97 (.set 3 (.call 39 [.sl (.var 0) (some (.c (.int 2 0))) (some (.c (.int 62 0))),.cmp .Eq (.var 1) (.c (.str Z9))])) [some .scr,some (.str w),some (.ref c),none,none,none,none,none,none] h2=some (.next,[some .scr,some (.str w),some (.ref c),some (.ref r),none,none,none,none,none],h4):=by
  change Qa (tb (sc ns)) 26 39 [.ref h2.length,.bl (decide (w=Z9))] _=_ at e4
  generalize Qa (tb (sc ns)) 26=cf at e4 ⊢;generalize tb (sc ns)=T at hT ⊢;simp only [ZI,Q1,evs,QlB,evO,Zv,QF,y_c,QV,List.getElem?_cons_zero,List.getElem?_cons_succ,slU,hT,eqs,Option.map_some,e4];rfl
 rw [Qp s3]
 obtain⟨h5,ut,k5,ht,pt,e5⟩:=Qji (s:=sc ns) (d:=4) (n:=10) (g:=Hg h4) (fun _ _ z=>z) hr pi (by lia)
 have gN:Ge (Nv (Hg h4) h4.length h5) (Hg h5):=fun p o e=>by
  unfold Nv at e;split at e
  ·exact k5 _ _ e
  ·exact e
 have pt5:=Qb (fun _ _ z=>PI.mono gN z) pt
 have s4:ex (tb (sc ns)) (Qa (tb (sc ns)) 26) 96 (.set 4 (.call 44 [.var 3])) [some .scr,some (.str w),some (.ref c),some (.ref r),none,none,none,none,none] h4=some (.next,[some .scr,some (.str w),some (.ref c),some (.ref r),some (.ref h4.length),none,none,none,none],h5):=by
  change Qa (tb (sc ns)) 26 44 [.ref r] h4=_ at e5
  generalize Qa (tb (sc ns)) 26=cf at e5 ⊢;generalize tb (sc ns)=T;simp only [ZI,Q1,evs,QF,QV,List.getElem?_cons_zero,List.getElem?_cons_succ,e5];rfl
 rw [Qp s4]
 obtain⟨h6,l,up,k6,hP,hl,pp,e6⟩:=Qjl (s:=sc ns) (g:=Hg h5) (G:=Qhd h5) (d:=4) (n:=4) (c:=c) (w:=w) (fun _ _ z=>z) (fun p c fs e=>Qgp e) ht pt5 (by lia)
 have s5:ex (tb (sc ns)) (Qa (tb (sc ns)) 26) 95 (.set 5 (.make 10 [.var 1,.var 2,.var 4])) [some .scr,some (.str w),some (.ref c),some (.ref r),some (.ref h4.length),none,none,none,none] h5=some (.next,[some .scr,some (.str w),some (.ref c),some (.ref r),some (.ref h4.length),some (.ref h5.length),none,none,none],h6):=by
  change Zo (tb (sc ns)) (Qa (tb (sc ns)) 26) 10 [.str w,.ref c,.ref h4.length] h5=_ at e6
  generalize Qa (tb (sc ns)) 26=cf at e6 ⊢;generalize tb (sc ns)=T at e6 ⊢;simp only [ZI,QbO,evs,QF,QV,List.getElem?_cons_zero,List.getElem?_cons_succ,e6];rfl
 rw [Qp s5];have lt5:h4.length<h5.length:=(List.getElem?_eq_some_iff.mp ht).1
 have gP:∀h',(∀p o,h6[p]?=some o->p≠h4.length->h'[p]?=some o)->Ge (Nv (Qhd h5) h5.length h6) (Hg h'):=fun h' z p o e=>by
  unfold Nv at e;split at e
  ·obtain⟨q,cc,fs,rfl⟩:=Qgo e;refine z p _ (k6 _ _ q) fun y=>?_;rw [y,ht]at q;cases q
  ·exact z p o e (by lia)
 have hc6:h6[c]?=some (.tup (nums n0 n1 n2 n3 n4)):=k6 _ _ (k5 _ _ (k4 _ _ (k3 _ _ hc)));have g6:=gP h6 (fun p o e _=>e);have ul1:=QJ pp;have ul2:=QJ pt
 have s6:=l_6 (T:=tb (sc ns)) (cf:=Qa (tb (sc ns)) 26) (d:=64) (ρ3:=some (.ref r)) (o6:=none) (o7:=none) (o8:=none) hP hc6 (g6 _ _ hl) (k6 _ _ ht) (by rw [ul1,ul2])
 rw [Qp s6];have k46:=k5.trans k6
 obtain⟨h7,k7,e7⟩:=Qlj (s:=sc ns) (d:=4) (n:=14) (k46 _ _ hr) (Qb (fun _ _ z=>LI.mono k46 z) pi) (by lia)
 have e7':=QgN (s:=sc ns) (n:=24) (w:=w) (l:=r) hc6 oc e7 nt (by lia) lw
 obtain⟨h8,k8,e8⟩:=QaC (s:=sc ns) (d:=4) (n:=0) (k7 _ _ hP) (k7 _ _ hc6) oc (k7 _ _ (g6 _ _ hl)) (Qb (fun _ _ z=>PI.mono k7 (PI.mono g6 z)) pp) (by lia) lw
 have s7:ex (tb (sc ns)) (Qa (tb (sc ns)) 26) 93 (.set 6 (.call 45 [.var 1,.var 2,.var 3])) [some .scr,some (.str w),some (.ref c),some (.ref r),some (.ref h4.length),some (.ref h5.length),none,none,none] h6=some (.next,[some .scr,some (.str w),some (.ref c),some (.ref r),some (.ref h4.length),some (.ref h5.length),some (.str (shT w (txt n0 n1 n2 n3 n4) ts)),none,none],h7):=by
  change Qa (tb (sc ns)) 26 45 [.str w,.ref c,.ref r] h6=_ at e7'
  generalize Qa (tb (sc ns)) 26=cf at e7' ⊢;generalize tb (sc ns)=T;simp only [ZI,Q1,evs,QF,QV,List.getElem?_cons_zero,List.getElem?_cons_succ,e7'];rfl
 rw [Qp s7]
 have s8:ex (tb (sc ns)) (Qa (tb (sc ns)) 26) 92 (.set 7 (.call 2 [.var 5])) [some .scr,some (.str w),some (.ref c),some (.ref r),some (.ref h4.length),some (.ref h5.length),some (.str (shT w (txt n0 n1 n2 n3 n4) ts)),none,none] h7=some (.next,[some .scr,some (.str w),some (.ref c),some (.ref r),some (.ref h4.length),some (.ref h5.length),some (.str (shT w (txt n0 n1 n2 n3 n4) ts)),some (.str (shT w (txt n0 n1 n2 n3 n4) ts)),none],h8):=by
  change Qa (tb (sc ns)) 26 2 [.ref h5.length] h7=_ at e8
  generalize Qa (tb (sc ns)) 26=cf at e8 ⊢;generalize tb (sc ns)=T;simp only [ZI,Q1,evs,QF,QV,List.getElem?_cons_zero,List.getElem?_cons_succ,e8];rfl
 rw [Qp s8];have k68:=k7.trans k8;have k48:=k46.trans k68
 obtain⟨h9,k9,e9⟩:=QgP (s:=sc ns) (d:=4) (n:=8) (k48 _ _ hr) (Qb (fun _ _ z=>LI.mono k48 z) pi) (by lia)
 rw [Qp (l_9 (T:=tb (sc ns)) (cf:=Qa (tb (sc ns)) 26) (d:=61) e9)]
 obtain⟨ob,so,ec⟩:=Jo (s:=sc ns) (n:=22) (m:=[98]) (hs:=h9++[.tup (nums 2 0 0 0 0)]) (.bare (by decide))
 have ec':Qa (tb (sc ns)) 26 24 [.str [98]] (h9++[.tup (nums 2 0 0 0 0)])=some (.ref (h9.length+1),h9++[.tup (nums 2 0 0 0 0),ob]):=by
  simpa using ec
 have kO:Kp h9 (h9++oth h9.length ob):=Kp.app _ _;have pO:PySem.Paired (PI (sc ns) (Hg (h9++oth h9.length ob)) 1) [.ref (h9.length+5)] [rT [[98],[98]] false]:=.cons ⟨_,rfl,.inl ⟨h9.length+4,[.ref (h9.length+2),.ref (h9.length+2)],_,_,at5,at4,.cons (.inl ⟨_,_,_,rfl,at2,at1,so⟩) (.cons (.inl ⟨_,_,_,rfl,at2,at1,so⟩) .nil),rfl⟩⟩ .nil
 obtain⟨hA,lA,uA,kA,hPA,hlA,pA,eA⟩:=Qjl (s:=sc ns) (g:=Hg (h9++oth h9.length ob)) (G:=Hg (h9++oth h9.length ob)) (d:=1) (n:=10) (c:=h9.length) (w:=Qbi) (fun _ _ z=>z) (fun p c fs e=>e) at6 pO (by decide)
 rw [Qp (Qnr (T:=tb (sc ns)) (cf:=Qa (tb (sc ns)) 26) (d:=60) ec' eA)]
 have gA:Ge (Nv (Hg (h9++oth h9.length ob)) (h9++oth h9.length ob).length hA) (Hg hA):=fun p o e=>by
  unfold Nv at e;split at e
  ·exact kA _ _ e
  ·exact e
 obtain⟨hB,kB,eB⟩:=QaC (s:=sc ns) (d:=1) (n:=6) hPA (kA _ _ at0) Qiw (gA _ _ hlA) (Qb (fun _ _ z=>PI.mono gA z) pA) (by decide) (by decide)
 have lit:shT Qbi (txt 2 0 0 0 0) [rT [[98],[98]] false]=Qhk:=by decide
 rw [lit]at eB;rw [Qp (Qnq (T:=tb (sc ns)) (cf:=Qa (tb (sc ns)) 26) (d:=59) eB)]
 obtain⟨ob2,so2,ed⟩:=Jo (s:=sc ns) (n:=22) (m:=[107]) (hs:=hB) (.bare (by decide))
 have k6B:=((k68.trans k9).trans kO).trans (kA.trans kB);have htB:=k6B _ _ (k6 _ _ ht);have cu:=QQ (ts:=ts)
 rw [Qp (Qnp (T:=tb (sc ns)) (cf:=Qa (tb (sc ns)) 26) (d:=58) ed htB (by rw [ul2];lia))]
 have kC:Kp hB (hB++[ob2]++[O.tup [.str Q7,.ref hB.length]]++[O.lst [.ref (hB.length+1)]]++[O.tup [.str QU,.ref (hB.length+2),.bl false]]):=((Kp.app _ _).trans ((Kp.app _ _).trans ((Kp.app _ _).trans (Kp.app _ _))));have kD:=k6B.trans kC
 have z:∀p o,h6[p]?=some o->p≠h4.length->((hB++[ob2]++[O.tup [.str Q7,.ref hB.length]]++[O.lst [.ref (hB.length+1)]]++[O.tup [.str QU,.ref (hB.length+2),.bl false]]).set h4.length (O.lst (ut++[U.ref (hB.length+3)])))[p]?=some o:=fun p o e n=>by
  rw [List.getElem?_set_ne (Ne.symm n)];exact kD _ _ e
 generalize (hB++[ob2]++[O.tup [.str Q7,.ref hB.length]]++[O.lst [.ref (hB.length+1)]]++[O.tup [.str QU,.ref (hB.length+2),.bl false]]).set h4.length (O.lst (ut++[U.ref (hB.length+3)]))=hZ at z;have gZ:=gP hZ z
 have lc4:c≠h4.length:=by
  have:=(List.getElem?_eq_some_iff.mp hc).1;have:=k3.len;have:=k4.len;simp at this;lia
 obtain⟨hF,kF,eF⟩:=QaC (s:=sc ns) (d:=4) (n:=0) (z _ _ hP (by lia)) (z _ _ hc6 lc4) oc (gZ _ _ hl) (Qb (fun _ _ y=>PI.mono gZ y) pp) (by lia) lw
 refine⟨hF,?_⟩
 change Qa (tb (sc ns)) 26 2 [.ref h5.length] hZ=_ at eF
 generalize Qa (tb (sc ns)) 26=cf at eF ⊢;generalize tb (sc ns)=T;simp only [QC,Yn,Zv,Q1,evs,QF,QV,List.getElem?_cons_zero,List.getElem?_cons_succ,eF,eqs,Option.map_some,decide_true,fin]
theorem QeE:∀ns:List Int,PySem.Paired (fun(u:U) (i:Int)=>∃r m,u=.int r m/\∃q:Int,i=r+m*q) (sc ns) ns
 | []=>.nil
 | i::r=>.cons ⟨i,0,rfl,0,by simp⟩ (QeE r)
theorem comp(ns:List Int)(hl:ns.length<=63):∃s hs',PySem.Paired (fun(u:U) (i:Int)=>∃r m,u=.int r m/\∃q:Int,i=r+m*q) s ns/\Qa (tb s) 27 47 [.scr] []=some (.bl true,hs'):=by
 obtain⟨hs',e⟩:=Qli ns;exact⟨sc ns,hs',QeE ns,e⟩
noncomputable def fL:List Addr:=[52,59,66,73,78,85,92,97,104,149,177,231,285,318,346,379,405,438,464,518,551,579,612,640,672,679,686,693,700,707,721,733,740,747,752,759,766,773,780,787,794,801,806,813,820,827,834,841]
noncomputable def cL:List Addr:=[131,194,248,302,363,422,481,535,596,657,724]
noncomputable def kL:List Addr:=[47,105,106,107,660,661,662,663,664,665]
noncomputable def adr(a:Addr):Adr:=⟨fun i=>fL.getD i 0,fun i=>cL.getD i 0,fun i=>kL.getD i 0,a⟩
theorem Qjo(s:List U):Qbf (tb s) glo Qlm:=Qc6 (by repeat (first|exact .nil|refine .cons (by kernel_rfl) ?_))
section
variable (w:World)(s:List U)(a:Addr)
theorem Qnw:AllI (FnA (K w.params) (adr a)) 0 (tb s).fns:=by repeat (first|exact .nil|refine .cons ⟨by kernel_rfl,by kernel_rfl,.inl fun v=>by kernel_rfl⟩ ?_)
theorem QmD:Qhg (fun k c=>coB (K w.params) (adr a) ((adr a).k k) c) 0 (tb s).cons=true:=by kernel_rfl
theorem Qnt:AllI (fun k _=>Qly (K w.params) w ((adr a).k k)) 0 (tb s).cons:=by repeat (first|exact .nil|refine .cons (by kernel_rfl) ?_)
theorem QmM:Qka (K w.params) (tb s) (adr a) glo Qlm=true:=by kernel_rfl
end
theorem all_at{l:W.OpenLaw}(w:World){mg:Str->Option Value}{fa:Addr}{h:Heap}(X:(K w.params).In h)(G:h.Ns mainGlobals mg)(hfa:mg "law"=some (.ref fa)):
  ∃ fd : FuncData, (∀ (s : Shared) (v : Value), BindsTo s fd ⟨[v], []⟩ [("_law_script", v)]) /\ ∀ base : Heap, (K w.params).In base -> base.Ns mainGlobals mg -> FnOk l.prog w (K w.params) mg base CX0 (0 + 2 * 27) fa fd ["_law_script"] (Qdx (K w.params)) := by
 have tp:∀(s:List U) (a:Addr),Top (tb s) (adr a) (K w.params) mg glo Qlm:=fun s a=>Qhs X G (Qnw w s a) (QmD w s a) (QmM w s a) .nil .nil;have tab:∀(s:List U) (a:Addr),JY l.prog w (tb s) (adr a) (K w.params):=fun s a=>Qhv (QmD w s a) (Qnt w s a)
 cases hfa.symm.trans ((tp [] 0).gfn "law" 47 (by kernel_rfl))
 have hX:∀(base:Heap) (s:List U) (a:Addr),XOk l.prog w (K w.params) mg base (tb s) (adr a) 0:=fun base s a=>Qnn (tp s a) rfl
 exact⟨QbE (K w.params) ((adr 0).f 47),fun s v=>.of_eq (by kernel_rfl),fun base _ _=>QiJ (tb:=tb) (adr:=adr) (L:=47) (F:=⟨"law","law",QjL,["_law_script"],N47,1,9,true,b47⟩) (fun _=>rfl) (fun _=>rfl) rfl rfl (fun _=>rfl) (fun _=>rfl) tp tab Qjo (hX base) (QcN (F:=⟨"law","law",QjL,["_law_script"],N47,1,9,true,b47⟩) (by kernel_rfl) (by kernel_rfl)).1 comp⟩
theorem walk{l:W.OpenLaw}{q:Program}{loose:List Str}{XP:(Str->Option Value)->Heap->Prop}{YP:World->Heap->Prop}{d:DefRec}{K:Params->W.Frag}(hn:l.most=some 63)(hdf:d.params.defaults=[])
  (hY:∀(w:World) (h:Heap),YP w h->(K w.params).In h)
  (F:∀(w:World) (mg:Str->Option Value) (fa:Addr) (h:Heap),(K w.params).In h->h.Ns mainGlobals mg->mg d.name=some (.ref fa) ->
   ∃ fd : FuncData, (∀ (s : Shared) (u : Value), BindsTo s fd ⟨[u], []⟩ [("_law_script", u)]) /\ ∀ base : Heap, (K w.params).In base -> base.Ns mainGlobals mg -> FnOk l.prog w (K w.params) mg base CX0 (0 + 2 * 27) fa fd ["_law_script"] (Qdx (K w.params))) :
  W.WalkO q loose XP YP l.row.toRowW d [] (fun f vs=>PySem.call f vs):=
 L2.walk_of (n:=63) (k:=(0+2*27)) (x:="_law_script") (CX:=fun _=>CX0) (sp:=fun w=>Qdx (K w.params)) hn (by decide) hdf ⟨rfl,by decide,by decide⟩ hY F (fun _ _ a ns hl hO hS=>⟨a,ns,rfl,hS,hO,hl,fun _=>rfl⟩) fun _ _ _ _ _ z=>z
end K08
open PySem PySem.W PyProof.Rows
set_option maxRecDepth 100000 in
set_option maxHeartbeats 0 in
theorem PySem.Challenge.cw_stitchroom_k08_patterns_shown_holds : PySem.Challenge.rw_stitchroom_k08_patterns_shown.Holds := by
 w_on;refine W.holds_law (by kernel_rfl) fun said=>?_
 refine holds_open (q:=K08.hq) (loose:=K08.hlo) (Xt:=K08.hXt) (XP:=XL K08.hq []) (Yf:=K08.hYf) (Ya:=K08.hYa) (YP:=Hook.says (kHook K08.K K08.KA K08.hKA)) (N:=12258) K08.hleft (Hook.of (kHook K08.K K08.KA K08.hKA)) (Hook.keeps (kHook K08.K K08.KA K08.hKA)) (fun s e=>xl_of s (Bool.and_eq_true_iff.mp e).1) XL.keeps (by rfl) (by rfl) (by rfl) (fun s e=>recFacts_of (Bool.and_eq_true_iff.mp e).2) (by rfl) (by first|assumption|decide +kernel) (by decide +kernel) ⟨rfl,rfl,rfl,rfl,rfl,by decide +kernel⟩ ?hw ?hc
 (case hw=>w_witness2)
 refine K08.walk (l:=PySem.Challenge.rw_stitchroom_k08_patterns_shown) rfl rfl (fun w h Y=>W.kIn_of Y) ?F
 case F =>
  intro w mg fa h KX G hmg;exact K08.all_at w KX G hmg
