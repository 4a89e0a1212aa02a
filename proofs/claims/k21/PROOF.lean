import PyProof.Rows.All
import Wide.All
import OpenK.AllK
import Wide.FinOn
import PyProof.EqAt
import PyProof.EqKinds
import PyProof.TupleCall
import KE.KTryMore
import PyProof.ExcArgsOwn
import PyProof.ExcBaseAll.ValueError
import PyProof.ExcAttrAll.ValueError
import PyProof.InstStoreFacts
import PySem.Challenge.RW_stitchroom_k21_one_row
set_option Elab.async false
set_option linter.all false
set_option maxRecDepth 100000
set_option maxHeartbeats 4000000
set_option bootstrap.genMatcherCode false
set_option compiler.extract_closed false
set_option genSizeOf false
theorem Znn{α:Type}{P:Prop}{x:α}(h:(none:Option α)=some x):P:=nomatch h
namespace L2
open PySem PySem.Spec PyProof.Rows
section
noncomputable abbrev Key:=Sum Int Str
noncomputable def Qaa:Key->Value->Bool
 | .inl k,v=>Value.isInt k v
 | .inr x,v=>Value.isStrOf x v
noncomputable def QnK(w:World):Key->Int
 | .inl k=>hashInt k
 | .inr x=>hashStr w x
theorem QB:∀{k:Key} {v:Value},Qaa k v=true->(∃i t,k=Sum.inl i/\v=Value.int i t)\/(∃x t,k=Sum.inr x/\v=Value.str x t)
 | .inl i,v,h=>by
  obtain⟨t,e⟩:=Value.isInt_shape (k:=i) (v:=v) h;exact .inl ⟨i,t,rfl,e⟩
 | .inr x,v,h=>by
  obtain⟨t,e⟩:=Value.isStrOf_shape (x:=x) (v:=v) h;exact .inr ⟨x,t,rfl,e⟩
theorem J1(i:Int)(t:Tok):Qaa (.inl i) (.int i t)=true:=by simp [Qaa,Value.isInt]
theorem J0(x:Str)(t:Tok):Qaa (.inr x) (.str x t)=true:=by simp [Qaa,Value.isStrOf]
theorem QjK(a b:Int):decide ((Sum.inl a:Key)=Sum.inl b)=(a==b):=by
 by_cases e:a=b
 ·subst e;simp
 ·have h:¬(Sum.inl a:Key)=Sum.inl b:=fun q=>e (Sum.inl.inj q);rw [decide_eq_false h];exact(beq_eq_false_iff_ne.mpr e).symm
theorem QjH(a b:Str):decide ((Sum.inr a:Key)=Sum.inr b)=decide (a=b):=by
 by_cases e:a=b
 ·subst e;simp
 ·have h:¬(Sum.inr a:Key)=Sum.inr b:=fun q=>e (Sum.inr.inj q);rw [decide_eq_false h,decide_eq_false e]
theorem QjJ(a:Int)(b:Str):decide ((Sum.inl a:Key)=Sum.inr b)=false:=decide_eq_false (fun q=>nomatch q)
theorem QjI(a:Str)(b:Int):decide ((Sum.inr a:Key)=Sum.inl b)=false:=decide_eq_false (fun q=>nomatch q)
noncomputable def Qv(prog:Program)(w:World):PySem.KeyKind prog w Key where
 is:=Qaa
 hash:=QnK w
 inj:=fun v a b ha hb=>by
  rcases QB ha with⟨i,t,rfl,rfl⟩|⟨x,t,rfl,rfl⟩
  ·rcases QB hb with⟨j,u,rfl,e⟩|⟨y,u,rfl,e⟩
   ·injection e with e1 _;rw [e1]
   ·exact nomatch e
  ·rcases QB hb with⟨j,u,rfl,e⟩|⟨y,u,rfl,e⟩
   ·exact nomatch e
   ·injection e with e1 _;rw [e1]
 byValue:=fun k v h=>by
  rcases QB h with⟨i,t,rfl,rfl⟩|⟨x,t,rfl,rfl⟩<;>rfl
 pyHash:=fun hv h=>by
  rcases QB hv with⟨i,t,rfl,rfl⟩|⟨x,t,rfl,rfl⟩
  ·exact wpAny_pyHash_int h
  ·exact wpAny_pyHash_str h
 eqBool:=fun hu hv h=>by
  rcases QB hu with⟨i,t,rfl,rfl⟩|⟨x,t,rfl,rfl⟩
  ·rcases QB hv with⟨j,u,rfl,rfl⟩|⟨y,u,rfl,rfl⟩
   ·rw [QjK]at h;exact wpAny_eqBool_int h
   ·rw [QjJ]at h;exact SeqAt.EqAt.int_str i t y u _ _ _ _ h
  ·rcases QB hv with⟨j,u,rfl,rfl⟩|⟨y,u,rfl,rfl⟩
   ·rw [QjI]at h;exact SeqAt.EqAt.str_int x t j u _ _ _ _ h
   ·rw [QjH]at h;exact wpAny_eqBool_str h
 «strs»:=fun k x t v h=>by
  rcases QB h with⟨i,u,rfl,e⟩|⟨y,u,rfl,e⟩
  ·exact nomatch e
  ·injection e with e1 _;subst e1;cases v<;>rfl
theorem QaP(prog:Program)(w:World)(i:Int)(t:Tok):(Qv prog w).is (.inl i) (.int i t)=true:=J1 i t
theorem QaO(prog:Program)(w:World)(x:Str)(t:Tok):(Qv prog w).is (.inr x) (.str x t)=true:=J0 x t
end
section
variable {a b:Addr}{h h':Heap}{P:Program}{w:World}
inductive V where
 | non|bl (b:Bool)|int (i:Int)|str (x:Str)|byt (b:Array UInt8)|flt (b:UInt64)|ref (a:Addr)|ty (n:String)
 deriving DecidableEq
def RelV:V->Value->Prop
 | .non,u=>u=Value.none
 | .bl b,u=>u=Value.bool b
 | .int i,u=>∃t,u=Value.int i t
 | .str x,u=>∃t,u=Value.str x t
 | .byt b,u=>∃t,u=Value.bytes b t
 | .flt b,u=>∃t,u=Value.float b t
 | .ref a,u=>u=Value.ref a
 | .ty n,u=>u=Value.type n
abbrev Vals:List V->List Value->Prop:=Paired RelV
theorem Vals.length{xs:List V}{us:List Value}(r:Vals xs us):xs.length=us.length:=Paired.length r
theorem Vals.get:∀{xs:List V} {us:List Value} {i:Nat} {x:V},Vals xs us->xs[i]?=some x->∃u,us[i]?=some u/\RelV x u
 | _,_,_,_,.nil,e=>by simp at e
 | _,_,0,_,.cons r _,e=>by simp at e;subst e;exact⟨_,rfl,r⟩
 | _,_,i+1,x,.cons _ t,e=>by
  obtain⟨u,h1,h2⟩:=Vals.get (i:=i) (x:=x) t (by simpa using e)
  exact⟨u,by simpa using h1,h2⟩
theorem Vals.append:∀{xs ys:List V} {us ws:List Value},Vals xs us->Vals ys ws->Vals (xs++ys) (us++ws)
 | _,_,_,_,.nil,s=>s
 | _,_,_,_,.cons r t,s=>.cons r (Vals.append t s)
theorem Vals.take:∀{xs:List V} {us:List Value} (n:Nat),Vals xs us->Vals (xs.take n) (us.take n)
 | _,_,0,_=>.nil
 | _,_,_+1,.nil=>.nil
 | _,_,n+1,.cons r t=>.cons r (Vals.take n t)
theorem Vals.drop:∀{xs:List V} {us:List Value} (n:Nat),Vals xs us->Vals (xs.drop n) (us.drop n)
 | _,_,0,r=>r
 | _,_,_+1,.nil=>.nil
 | _,_,n+1,.cons _ t=>Vals.drop n t
def RelO:Option V->Option Value->Prop
 | some v,some u=>RelV v u
 | none,none=>True
 | _,_=>False
def KV{κ:Type}:List (κ×V)->List (κ×Value)->Prop:=Paired fun(p:κ×V) (q:κ×Value)=>p.1=q.1/\RelV p.2 q.2
noncomputable def kV:Key->V
 | .inl i=>.int i
 | .inr x=>.str x
inductive HO where
 /-- a list -/
 | lst (xs:List V)
 /-- a tuple (never changes) -/
 | tup (xs:List V)
 /-- a dict whose keys are ints and texts;one whose keys are tuples of ints and texts (the empty one is both) -/
 | dK (kvs:List (Key×V))|dT (kvs:List (List Key×V))
 /-- a set of ints: its members,its size -/
 | set (S:Int->Bool) (n:Nat)
 /-- an instance of the class at C,its dict at dx,its attributes -/
 | ins (C dx:Addr) (fs:List (Str×V))
 /-- the dict of the instance at x -/
 | own (x:Addr)
 /-- the dict of an exception -/
 | xd (fs:List (Str×V))
 /-- a bound method,f of x -/
 | met (f x:Addr)
 /-- a range object lo,lo+1,.. below hi -/
 | rng (lo hi:Int)
 /-- a thing that is known to the object (the script;a dict while a loop walks it): read,never written while it is so -/
 | frz (o:Obj) (u:HO)
 /-- a code object's table -/
 | tbl (ps:Array Value)
 /-- any other thing,by what is true of its one object (a def of one's own: SetO a S n:=HO.ext fun h=>..) -/
 | ext (φ:Heap->Prop)
noncomputable abbrev Hp:=Addr->Option HO
noncomputable def upd(H:Hp)(a:Addr)(o:HO):Hp:=fun b=>if b=a then some o else H b
theorem Qi{H:Hp}{o:HO}:upd H a o a=some o:=by unfold upd;rw [if_pos rfl]
theorem Qe{H:Hp}{o:HO}(h:b≠a):upd H a o b=H b:=by unfold upd;rw [if_neg h]
theorem QlX{H:Hp}{o u:HO}(h:H a=some o)(h':H b=some u)(d:o≠u):a≠b:=by
 intro e;subst e;rw [h]at h';exact d (Option.some.inj h')
theorem Q2{H:Hp}{o:HO}(h:H a=some o)(h':H b=none):a≠b:=by
 intro e;subst e;rw [h]at h';cases h'
section
variable (P:Program)(w:World)
def ObjOk(H:Hp)(h:Heap)(a:Addr):HO->Prop
 | .lst xs => xs.length <= sizeLine /\ ∃ (its : List Value) (n : Nat), Vals xs its /\ h.get? a = some { cls := .type "list", data := .seq its.toArray n }
 | .tup xs=>xs.length<=sizeLine/\∃its:List Value,Vals xs its/\IsTup h a its.toArray
 | .dK kvs=>kvs.length<=sizeLine/\(a==sysModules)=false/\∃vs,KV kvs vs/\h.DictOf (Qv P w) a vs
 | .dT kvs=>kvs.length<=sizeLine/\(a==sysModules)=false/\∃xs:List (List Key×Addr×Value),
   Paired (fun(p:List Key×V) (q:List Key×Addr×Value)=>p.1=q.1/\H q.2.1=some (.tup (p.1.map kV))/\RelV p.2 q.2.2) kvs xs /\
   ∃o es ep,h.get? a=some o/\o.ExactDict/\o.data=.dict es ep/\es.toList=xs.map (entryOfKey (tupleKind (Qv P w)))/\(xs.map (·.1)).Nodup
 | .set S n=>h.SetOf (intKind P w) a S n
 | .ins C dx fs=>H dx=some (.own a)/\fs.length<=1000/\dx≠a/\h.get? a=some (W.instObj C dx) /\
   ∃mA,h.Ns1 dx mA/\(∀f,RelO (fs.lookup f) (mA f))/\PySem.Within mA (fs.map (·.1))
 | .own _=>∃o,h.get? a=some o
 | .xd fs=>∃mA,h.Ns1 a mA/\∀f,RelO (fs.lookup f) (mA f)
 | .rng lo hi=>∃t u v,h.get? a=some { cls:=.type "range",data:=.fields #[.int lo t,.int hi u,.int 1 v] }
 | .frz o u=>h.get? a=some o/\ObjOk H h a u
 | .tbl ps=>h.get? a=some { cls:=.none,data:=.fields ps }
 | .met f x=>h.get? a=some (W.methodObj (.ref f) (.ref x))
 | .ext φ=>φ h/\(∃o,h.get? a=some o)/\∀h1 h2:Heap,φ h1->(∀o,h1.get? a=some o->h2.get? a=some o)->φ h2
def HOk(H:Hp)(h:Heap):Prop:=∀a o,H a=some o->ObjOk P w H h a o
end
section
variable {H H':Hp}{o:HO}
theorem ObjOk.lt(x:ObjOk P w H h a o):a<h.objs.size:=by
 cases o with
 | lst xs=>obtain⟨_,_,_,_,e⟩:=x;exact Heap.lt_size e
 | tup xs=>obtain⟨_,_,_,p⟩:=x;exact p.lt
 | dK kvs=>obtain⟨_,_,_,_,o,_,_,e,_⟩:=x;exact Heap.lt_size e
 | dT kvs=>obtain⟨_,_,_,_,o,_,_,e,_⟩:=x;exact Heap.lt_size e
 | set S n=>obtain⟨o,_,_,_,e,_⟩:=x;exact Heap.lt_size e
 | ins C dx fs=>obtain⟨_,_,_,e,_⟩:=x;exact Heap.lt_size e
 | own y=>obtain⟨_,e⟩:=x;exact Heap.lt_size e
 | xd fs=>obtain⟨_,⟨_,_,_,e,_⟩,_⟩:=x;exact Heap.lt_size e
 | rng lo hi=>obtain⟨_,_,_,e⟩:=x;exact Heap.lt_size e
 | frz ob u=>obtain⟨e,_⟩:=x;exact Heap.lt_size e
 | tbl ps=>exact Heap.lt_size (show h.get? a=some _ from x)
 | met f y=>exact Heap.lt_size (show h.get? a=some _ from x)
 | ext φ=>obtain⟨_,⟨_,e⟩,_⟩:=x;exact Heap.lt_size e
theorem Paired.mapP{α β:Type}{F G:α->β->Prop}:∀{l₁:List α} {l₂:List β},Paired F l₁ l₂->(∀a b,F a b->G a b)->Paired G l₁ l₂
 | _,_,.nil,_=>.nil
 | _,_,.cons r t,f=>.cons (f _ _ r) (Paired.mapP t f)
theorem ObjOk.stay(x:ObjOk P w H h a o)(k:∀b u,(b=a\/H b=some (.own a))->h.get? b=some u->h'.get? b=some u)
  (ho:∀b,H b=some (.own a)->H' b=some (.own a)) (ht:∀b xs,H b=some (.tup xs)->H' b=some (.tup xs)):ObjOk P w H' h' a o:=by
 induction o with
 | lst xs=>obtain⟨z,its,n,r,e⟩:=x;exact⟨z,its,n,r,k _ _ (.inl rfl) e⟩
 | tup xs=>obtain⟨z,its,r,ob,e,c⟩:=x;exact⟨z,its,r,ob,k _ _ (.inl rfl) e,c⟩
 | dK kvs=>obtain⟨z,y,vs,r,ob,es,ep,e,c⟩:=x;exact⟨z,y,vs,r,ob,es,ep,k _ _ (.inl rfl) e,c⟩
 | dT kvs =>
  obtain⟨z,y,xs,r,ob,es,ep,e,c⟩:=x;exact⟨z,y,xs,Paired.mapP r fun p q z=>⟨z.1,ht _ _ z.2.1,z.2.2⟩,ob,es,ep,k _ _ (.inl rfl) e,c⟩
 | set S n=>obtain⟨ob,es,ep,t,e,c⟩:=x;exact⟨ob,es,ep,t,k _ _ (.inl rfl) e,c⟩
 | ins C dx fs =>
  obtain⟨d,z,ne,e,mA,⟨od,es,ep,e2,c⟩,r⟩:=x;exact⟨ho _ d,z,ne,k _ _ (.inl rfl) e,mA,⟨od,es,ep,k _ _ (.inr d) e2,c⟩,r⟩
 | own y=>obtain⟨ob,e⟩:=x;exact⟨ob,k _ _ (.inl rfl) e⟩
 | xd fs=>obtain⟨mA,⟨od,es,ep,e,c⟩,r⟩:=x;exact⟨mA,⟨od,es,ep,k _ _ (.inl rfl) e,c⟩,r⟩
 | rng lo hi=>obtain⟨t,u,v,e⟩:=x;exact⟨t,u,v,k _ _ (.inl rfl) e⟩
 | frz ob u ih=>obtain⟨e,q⟩:=x;exact⟨k _ _ (.inl rfl) e,ih q⟩
 | tbl ps =>
  have e:h.get? a=some { cls:=.none,data:=.fields ps }:=x;show h'.get? a=some { cls:=.none,data:=.fields ps };exact k a _ (.inl rfl) e
 | met f y =>
  have e:h.get? a=some (W.methodObj (.ref f) (.ref y)):=x;show h'.get? a=some (W.methodObj (.ref f) (.ref y));exact k a _ (.inl rfl) e
 | ext φ=>obtain⟨p,⟨o,e⟩,st⟩:=x;exact⟨st _ _ p fun o q=>k _ _ (.inl rfl) q,⟨o,k _ _ (.inl rfl) e⟩,st⟩
theorem HOk.lt(x:HOk P w H h)(e:H a=some o):a<h.objs.size:=(x a o e).lt
theorem HOk.fresh(x:HOk P w H h)(e:h.objs.size<=a):H a=none:=by
 cases q:H a with
 | none=>rfl
 | some u=>exact absurd (Nat.lt_of_lt_of_le (x.lt q) e) (Nat.lt_irrefl _)
theorem HOk.kept(x:HOk P w H h)(k:∀b u,h.get? b=some u->h'.get? b=some u):HOk P w H h':=fun a o e =>
 (x a o e).stay (fun b u _ q=>k b u q) (fun _ q=>q) fun _ _ q=>q
theorem HOk.laid(x:HOk P w H h)(k:∀b u,h.get? b=some u->h'.get? b=some u)(hp:h.objs.size<=a)(new:ObjOk P w (upd H a o) h' a o):HOk P w (upd H a o) h':=fun b u e=>by
 have hn:=x.fresh hp;by_cases hb:b=a
 ·subst hb;rw [Qi]at e;cases e;exact new
 ·rw [Qe hb]at e
  exact(x b u e).stay (fun c v _ q=>k c v q) (fun c q=>by rw [Qe (Q2 q hn)];exact q) fun c xs q=>by rw [Qe (Q2 q hn)];exact q
end
def Rd(H:Hp)(a:Addr)(u:HO):Prop:=H a=some u\/∃o,H a=some (.frz o u)
theorem Rd.ok{H:Hp}{u:HO}(r:Rd H a u)(x:HOk P w H h):ObjOk P w H h a u:=by
 rcases r with r|⟨o,r⟩
 ·exact x a u r
 ·obtain⟨_,q⟩:=x a _ r;exact q
def Mut:Option HO->Prop
 | some (.lst _)=>True
 | some (.dK _)=>True
 | some (.dT _)=>True
 | some (.set _ _)=>True
 | some (.ins _ _ _)=>True
 | some (.ext _)=>True
 | _=>False
section
variable {H:Hp}{x e:Addr}{o':HO}
theorem HOk.write(ok:HOk P w H h)(mu:Mut (H x))(he:e=x\/H e=some (.own x))(k:∀b u,b≠e->h.get? b=some u->h'.get? b=some u)(heo:∃u,h'.get? e=some u)
  (new:ObjOk P w (upd H x o') h' x o'):HOk P w (upd H x o') h':=fun b u q=>by
 have nown:∀c y,H c=some (.own y)->c≠x:=fun c y r z=>by subst z;rw [r]at mu;exact mu
 have ntup:∀c xs,H c=some (.tup xs)->c≠x:=fun c xs r z=>by subst z;rw [r]at mu;exact mu
 by_cases hb:b=x
 ·subst hb;rw [Qi]at q;cases q;exact new
 ·rw [Qe hb]at q;by_cases hbe:b=e
  ·have q':H b=some (.own x):=by
    rcases he with z|z
    ·exact absurd (hbe.trans z) hb
    ·rw [hbe];exact z
   rw [q]at q';cases q';obtain⟨v,hv⟩:=heo
   exact⟨v,by rw [hbe];exact hv⟩
  ·refine(ok b u q).stay (fun c v hc r=>k c v ?_ r) (fun c r=>by rw [Qe (nown c b r)];exact r) fun c xs r=>by rw [Qe (ntup c xs r)];exact r
   rcases hc with rfl|hc
   ·exact hbe
   ·rintro rfl
    rcases he with z|z
    ·exact nown c b hc z
    ·rw [hc]at z;cases z;exact hb rfl
end
structure Un(fs ex:List Addr)(H H':Hp)(h h':Heap):Prop where
 keep:∀b o,h.get? b=some o->H b=none->b∉fs->b∉ex->h'.get? b=some o
 slot:∀b o,h.get? b=some o->H b=none->b∈fs->b∉ex->∃sl,h'.get? b=some { o with slots:=sl }
 free:∀b o,h.get? b=some o->H b=none->b∉ex->H' b=none
 there:∀b o,h.get? b=some o->b∉ex->∃o',h'.get? b=some o'
 tups:∀b xs,H b=some (.tup xs)->H' b=some (.tup xs)
 frzs:∀b o u,H b=some (.frz o u)->H' b=some (.frz o u)
 tbls:∀b ps,H b=some (.tbl ps)->∃more,H' b=some (.tbl (ps++more))
section
variable {fs ex:List Addr}{H H1:Hp}{h1:Heap}{x e:Addr}{o:HO}
theorem Un.any(u:Un fs ex H H1 h h1){ob:Obj}(q:h.get? b=some ob)(n:H b=none)(hx:b∉ex):∃sl,h1.get? b=some { ob with slots:=sl }:=by
 by_cases hb:b∈fs
 ·exact u.slot b ob q n hb hx
 ·exact⟨ob.slots,u.keep b ob q n hb hx⟩
theorem Un.kept(k:∀b u,h.get? b=some u->h'.get? b=some u):Un fs ex H H h h' :=
 ⟨fun b ob q _ _ _=>k b ob q,fun b ob q _ _ _=>⟨ob.slots,k b ob q⟩,fun _ _ _ n _=>n,fun b ob q _=>⟨ob,k b ob q⟩,fun _ _ q=>q,fun _ _ _ q=>q,fun _ ps q=>⟨#[],by rw [q];simp⟩⟩
theorem Un.refl:Un fs ex H H h h:=Un.kept fun _ _ q=>q
theorem Un.laid(k:∀b u,h.get? b=some u->h'.get? b=some u)(hp:h.objs.size<=a)(hn:H a=none):Un fs ex H (upd H a o) h h' where
 keep:=fun b u q _ _ _=>k b u q
 slot:=fun b u q _ _ _=>⟨u.slots,k b u q⟩
 free:=fun b u q n _=>by rw [Qe (Nat.ne_of_lt (Nat.lt_of_lt_of_le (Heap.lt_size q) hp))];exact n
 there:=fun b u q _=>⟨u,k b u q⟩
 tups:=fun b xs q=>by rw [Qe (Q2 q hn)];exact q
 frzs:=fun b u xs q=>by rw [Qe (Q2 q hn)];exact q
 tbls:=fun b ps q=>⟨#[],by rw [Qe (Q2 q hn),q];simp⟩
theorem Un.write(mu:Mut (H x))(he:e=x\/H e=some (.own x))(k:∀b u,b≠e->h.get? b=some u->h'.get? b=some u)(heo:∃u,h'.get? e=some u):Un fs ex H (upd H x o) h h':=by
 have hx:∀b,H b=none->b≠x:=fun b n z=>by subst z;rw [n]at mu;exact mu
 have hb:∀b,H b=none->b≠e:=fun b n z=>by
  subst z
  rcases he with r|r
  ·exact hx b n r
  ·rw [n]at r;cases r
 have hm:∀b u,H b=some u->¬Mut (some u)->b≠x:=fun b u q nm z=>by subst z;rw [q]at mu;exact nm mu
 refine⟨fun b u q n _ _=>k b u (hb b n) q,fun b u q n _ _=>⟨u.slots,k b u (hb b n) q⟩,fun b u q n _=>by rw [Qe (hx b n)];exact n,fun b u q _=>?_,
  fun b xs q=>by rw [Qe (hm b _ q fun z=>z)];exact q,fun b u xs q=>by rw [Qe (hm b _ q fun z=>z)];exact q,fun b ps q=>⟨#[],by rw [Qe (hm b _ q fun z=>z),q];simp⟩⟩
 by_cases hbe:b=e
 ·subst hbe;exact heo
 ·exact⟨u,k b u hbe q⟩
end
noncomputable def trk(h:Heap)(H:Hp):List Addr:=(List.range h.objs.size).filter fun a=>(H a).isSome
noncomputable def QeM(h:Heap)(H:Hp):Heap:=W.hideAll h (trk h H)
theorem Qdq(h:Heap)(H:Hp):(QeM h H).objs.size=h.objs.size:=W.hideAll_size _ _
theorem QeL{H:Hp}{o:Obj}(e:h.get? b=some o)(n:H b=none):(QeM h H).get? b=some o :=
 W.hideAll_get _ e fun hm=>by
  have q:(H b).isSome=true:=(List.mem_filter.mp hm).2;rw [n]at q;simp at q
theorem QgX{H:Hp}{o:Obj}(e:(QeM h H).get? b=some o):h.get? b=some o/\H b=none:=by
 have e':h.get? b=some o:=W.of_hideAll (trk h H) e;refine⟨e',?_⟩
 cases q:H b with
 | none=>rfl
 | some x =>
  have hm:b∈trk h H:=List.mem_filter.mpr ⟨List.mem_range.mpr (Heap.lt_size e'),by simp [q]⟩
  have z:(QeM h H).get? b=none:=W.hideAll_none (trk h H) hm;rw [z]at e;cases e
end
section
variable {A:Around}{ch:List Addr}{i t':Nat}{x:Str}
structure Mod(K:W.Frag)(mg:Str->Option Value)(base:Heap):Prop where
 kin:K.In base
 glob:base.Ns mainGlobals mg
 blt : ∃ mb, base.Ns builtinsNs mb /\ ∀ x : Str, x ≠ "__name__" -> mb x = bootBuiltins x
 nolimit:base.NoLimit
structure Cx where
 prog:Program
 w:World
 K:W.Frag
 mg:Str->Option Value
 base:Heap
 A:Around
 N:List Str
 s₀:Shared
 H₀:Hp
 env:Env
 outer:List Env
 stack:List Env
 ex:List Addr
 fn:Str->Bool
 calm:Bool
 pn:List (Addr×Obj)
 xe:Value->Shared->Prop
noncomputable def frs(l:List Env):List Addr:=l.filterMap (·.frame)
noncomputable abbrev Cx.fs(X:Cx):List Addr:=frs X.outer
def Vis(sc:Scope)(x:Str):Prop:=sc.names.lookup x=some .local\/sc.names.lookup x=some .cell\/sc.names.lookup x=some .free
def Loc(sc:Scope)(x:Str):Prop:=sc.names.lookup x=some .local\/sc.names.lookup x=some .cell
noncomputable def Qpd(env:Env)(h:Heap)(m:Str->Option Value)(x:Str)(u:Value):Prop :=
 (env.kindOf x=some .local/\m x=some u)\/((env.kindOf x=some .cell\/env.kindOf x=some .free)/\∃c,env.cells.lookup x=some c/\h.IsCell c (some u))
structure Cx.Ok(X:Cx):Prop where
 mod:Mod X.K X.mg X.base
 kind:X.env.scope.kind=.function
 glob:X.env.globals=mainGlobals
 blt:X.env.builtins=builtinsNs
 above:X.s₀.heap.objs.size<=X.env.locals
 inj:∀x y c,X.env.cells.lookup x=some c->X.env.cells.lookup y=some c->x=y
 has:∀x,(X.env.kindOf x=some .cell\/X.env.kindOf x=some .free)->∃c,X.env.cells.lookup x=some c
 cab:∀x c,X.fn x=true->X.env.cells.lookup x=some c->X.s₀.heap.objs.size<=c
 hd:X.calm=true->X.A.handled=none
 frames:X.A.frames=some X.stack
 stk:X.stack=X.outer\/(X.stack=X.env::X.outer/\X.env.frame=some X.env.locals)
 exf:∀b∈X.ex,b≠X.env.locals/\∀x c,X.env.cells.lookup x=some c->c≠b
 bs:∀b o,X.base.get? b=some o->X.s₀.heap.get? b=some o/\X.H₀ b=none
 bsz:X.base.objs.size<=X.s₀.heap.objs.size
 noex:∀b o,X.base.get? b=some o->b∉X.ex
 exfs:∀b∈X.ex,b∉X.fs
 funs:X.s₀.heap.FunFrames X.base X.outer
 frf:∀b∈X.fs,X.H₀ b=none
structure Inv(X:Cx)(pins:List (Addr×Obj))(Y:List (Option V))(H:Hp)(s:Shared):Prop where
 ok:X.Ok
 os:s.os=X.s₀.os
 bare:AllBare s.gens
 base:Un X.fs X.ex X.H₀ H X.s₀.heap s.heap
 loc:∃m,s.heap.Ns X.env.locals m/\∀(i:Nat) (x:Str) (v:V),X.N[i]?=some x->Y[i]?=some (some v)->Vis X.env.scope x->∃u,RelV v u/\Qpd X.env s.heap m x u
 cell:∀x c,X.env.cells.lookup x=some c->∃v,s.heap.IsCell c v
 free:H X.env.locals=none
 freeC:∀x c,X.env.cells.lookup x=some c->H c=none
 pin:∀p∈X.pn++pins,s.heap.get? p.1=some p.2/\H p.1=none/\p.1≠X.env.locals/\p.1∉X.fs/\∀v,p.2.data≠.cell v
 hok:HOk X.prog X.w H s.heap
 len:Y.length=X.N.length
section
variable {X:Cx}{pins:List (Addr×Obj)}{Y:List (Option V)}{H H':Hp}{s:Shared}{h':Heap}
theorem Cx.Ok.nofr(ok:X.Ok){b:Addr}{o:Obj}(e:X.base.get? b=some o):b∉X.fs:=fun hb=>by
 have:=(ok.funs.mem hb).1;rw [e]at this;cases this
theorem Inv.bs(I:Inv X pins Y H s):∀b o,X.base.get? b=some o->s.heap.get? b=some o/\H b=none:=fun b o e =>
 ⟨I.base.keep b o (I.ok.bs b o e).1 (I.ok.bs b o e).2 (I.ok.nofr e) (I.ok.noex b o e),I.base.free b o (I.ok.bs b o e).1 (I.ok.bs b o e).2 (I.ok.noex b o e)⟩
theorem Inv.bk(I:Inv X pins Y H s):∀b o,X.base.get? b=some o->s.heap.get? b=some o:=fun b o e=>(I.bs b o e).1
theorem Inv.mod(I:Inv X pins Y H s):Mod X.K X.mg X.base:=I.ok.mod
theorem Inv.kIn(I:Inv X pins Y H s):X.K.In s.heap:=I.ok.mod.kin.keeps I.bk
theorem Inv.lt(I:Inv X pins Y H s):X.env.locals<s.heap.objs.size:=let ⟨_,hn,_⟩:=I.loc;hn.lt
theorem Inv.sz(I:Inv X pins Y H s):X.s₀.heap.objs.size<=s.heap.objs.size:=Nat.le_trans I.ok.above (Nat.le_of_lt I.lt)
theorem Inv.nofs(I:Inv X pins Y H s){a:Addr}(h:s.heap.objs.size<=a):a∉X.fs:=fun hb=>by
 obtain⟨_,o,ho,_⟩:=I.ok.funs.mem hb;exact absurd (Nat.lt_of_lt_of_le (Heap.lt_size ho) (Nat.le_trans I.sz h)) (Nat.lt_irrefl _)
theorem Inv.cne(I:Inv X pins Y H s):∀x c,X.env.cells.lookup x=some c->c≠X.env.locals:=fun x c e z=>by
 obtain⟨v,o,ho,hd⟩:=I.cell x c e;obtain⟨m,⟨o',es,ep,ho',hd',_⟩,_⟩:=I.loc;rw [z,ho']at ho;cases ho;rw [hd']at hd;cases hd
theorem Inv.funs(I:Inv X pins Y H s):s.heap.FunFrames X.base X.outer:=by
 have all:∀(l:List Env),(∀b∈frs l,b∈X.fs)->X.s₀.heap.FunFrames X.base l->s.heap.FunFrames X.base l:=by
  intro l
  induction l with
  | nil=>intro _ _;trivial
  | cons env r ih =>
   intro hs hl;obtain⟨hk,⟨L,o,hf,hn,ho,hd⟩,hr⟩:=hl
   have hL:L∈X.fs:=hs L (by unfold frs;rw [List.filterMap_cons,hf];exact List.mem_cons_self)
   obtain⟨sl,e⟩:=I.base.slot L o ho (I.ok.frf L hL) hL fun z=>I.ok.exfs L z hL
   exact⟨hk,⟨L,_,hf,hn,e,hd⟩,ih (fun b hb=>hs b (by unfold frs;rw [List.filterMap_cons,hf];exact List.mem_cons_of_mem _ hb)) hr⟩
 exact all X.outer (fun _ hb=>hb) I.ok.funs
theorem Inv.stack(I:Inv X pins Y H s):s.heap.FunFrames X.base X.stack:=by
 rcases I.ok.stk with e|⟨e,hf⟩
 ·rw [e];exact I.funs
 ·rw [e];obtain⟨m,hn,_⟩:=I.loc
  refine .cons (by rw [I.ok.kind];decide) hf hn ?_ I.funs
  exact Heap.get?_none_of_le (Nat.le_trans I.ok.bsz I.ok.above)
theorem Inv.stkSub(I:Inv X pins Y H s):∀b∈frs X.stack,b∈X.env.locals::X.fs:=fun b hb=>by
 rcases I.ok.stk with e|⟨e,hf⟩
 ·rw [e]at hb;exact List.mem_cons_of_mem _ hb
 ·rw [e]at hb;unfold frs at hb;rw [List.filterMap_cons,hf]at hb;exact hb
theorem Inv.stkFree(I:Inv X pins Y H s):∀b∈frs X.stack,H b=none:=fun b hb=>by
 rcases List.mem_cons.mp (I.stkSub b hb)with e|hb
 ·rw [e];exact I.free
 ·obtain⟨_,o,ho,_⟩:=I.ok.funs.mem hb;exact I.base.free b o ho (I.ok.frf b hb) fun z=>I.ok.exfs b z hb
theorem Inv.step{g':Array GenState}{d':Drawn}(I:Inv X pins Y H s)
  (hch:∀b∈ch,(b∈X.ex\/X.s₀.heap.objs.size<=b)/\b≠X.env.locals/\(∀x c,X.env.cells.lookup x=some c->c≠b)/\∀p∈X.pn++pins,p.1≠b)
  (keep:∀b o,b≠X.env.locals->b∉X.fs->b∉ch->s.heap.get? b=some o->H b=none->h'.get? b=some o)
  (slot:∀b o,b≠X.env.locals->b∈X.fs->b∉ch->s.heap.get? b=some o->H b=none->∃sl,h'.get? b=some { o with slots:=sl }) (free:∀b o,b∉ch->s.heap.get? b=some o->H b=none->H' b=none)
  (there:∀b o,b∉ch->s.heap.get? b=some o->∃o',h'.get? b=some o')
  (tups:∀b xs,H b=some (.tup xs)->H' b=some (.tup xs)) (frzs:∀b o u,H b=some (.frz o u)->H' b=some (.frz o u)) (tbls:∀b ps,H b=some (.tbl ps)->∃more,H' b=some (.tbl (ps++more)))
  (ns:∀m,s.heap.Ns X.env.locals m->h'.Ns X.env.locals m) (hok:HOk X.prog X.w H' h') (hg:AllBare g'):
  Inv X pins Y H' { s with heap:=h',gens:=g',drawn:=d',toks:=t' }:=by
 have neL:∀b o,X.s₀.heap.get? b=some o->b≠X.env.locals:=fun b o e=>Nat.ne_of_lt (Nat.lt_of_lt_of_le (Heap.lt_size e) I.ok.above)
 have neC:∀b o,X.s₀.heap.get? b=some o->b∉X.ex->b∉ch:=fun b o e hx hb=>by
  rcases (hch b hb).1 with z|z
  ·exact hx z
  ·exact absurd (Nat.lt_of_lt_of_le (Heap.lt_size e) z) (Nat.lt_irrefl _)
 have cellK:∀x c,X.env.cells.lookup x=some c->∀v,s.heap.IsCell c v->h'.IsCell c v:=fun x c e v ⟨o,ho,hd⟩=>by
  have nch:c∉ch:=fun z=>(hch c z).2.2.1 x c e rfl;by_cases hc:c∈X.fs
  ·obtain⟨sl,q⟩:=slot c o (I.cne x c e) hc nch ho (I.freeC x c e);exact⟨_,q,hd⟩
  ·exact⟨o,keep c o (I.cne x c e) hc nch ho (I.freeC x c e),hd⟩
 refine⟨I.ok,I.os,hg,⟨fun b o e n hb hx=>?_,fun b o e n hb hx=>?_,fun b o e n hx=>?_,fun b o e hx=>?_,fun b xs e=>tups b xs (I.base.tups b xs e),fun b o xs e=>frzs b o xs (I.base.frzs b o xs e),fun b ps e=>?_⟩,?_,fun x c e=>?_,?_,fun x c e=>?_,fun p hp=>?_,hok,I.len⟩
 ·exact keep b o (neL b o e) hb (neC b o e hx) (I.base.keep b o e n hb hx) (I.base.free b o e n hx)
 ·obtain⟨sl,e1⟩:=I.base.slot b o e n hb hx;obtain⟨sl',e2⟩:=slot b _ (neL b o e) hb (neC b o e hx) e1 (I.base.free b o e n hx);exact⟨sl',e2⟩
 ·obtain⟨o',e1⟩:=I.base.there b o e hx;exact free b o' (neC b o e hx) e1 (I.base.free b o e n hx)
 ·obtain⟨o',e1⟩:=I.base.there b o e hx;exact there b o' (neC b o e hx) e1
 ·obtain⟨m1,e1⟩:=I.base.tbls b ps e;obtain⟨m2,e2⟩:=tbls b _ e1
  exact⟨m1++m2,by rw [e2,Array.append_assoc]⟩
 ·obtain⟨m,hn,hl⟩:=I.loc;refine⟨m,ns m hn,fun i x v e1 e2 e3=>?_⟩;obtain⟨u,r,l⟩:=hl i x v e1 e2 e3;refine⟨u,r,?_⟩
  rcases l with l|⟨k,c,e,z⟩
  ·exact .inl l
  ·exact .inr ⟨k,c,e,cellK x c e _ z⟩
 ·obtain⟨v,z⟩:=I.cell x c e;exact⟨v,cellK x c e v z⟩
 ·obtain⟨m,⟨o,_,_,ho,_⟩,_⟩:=I.loc;exact free _ o (fun z=>(hch _ z).2.1 rfl) ho I.free
 ·obtain⟨v,o,ho,hd⟩:=I.cell x c e;exact free c o (fun z=>(hch c z).2.2.1 x c e rfl) ho (I.freeC x c e)
 ·obtain⟨e,n,ne,nf,d⟩:=I.pin p hp;have nch:p.1∉ch:=fun z=>(hch p.1 z).2.2.2 p hp rfl;exact⟨keep p.1 p.2 ne nf nch e n,free p.1 p.2 nch e n,ne,nf,d⟩
theorem Inv.un(I:Inv X pins Y H s)(u:Un X.fs [] H H' s.heap h')(hok:HOk X.prog X.w H' h'):Inv X pins Y H' { s with heap:=h',toks:=t' }:=by
 obtain⟨m,⟨o,es,ep,ho,r⟩,_⟩:=id I.loc
 obtain⟨sl,hL⟩:=u.any ho I.free (by simp)
 exact I.step (g':=s.gens) (d':=s.drawn) (ch:=[]) (fun _ z=>nomatch z) (fun b o _ hb _ e n=>u.keep b o e n hb (by simp)) (fun b o _ hb _ e n=>u.slot b o e n hb (by simp)) (fun b o _ e n=>u.free b o e n (by simp)) (fun b o _ e=>u.there b o e (by simp)) u.tups u.frzs u.tbls (fun m' hm=>by
  obtain⟨o',es',ep',ho',r'⟩:=hm;rw [ho]at ho';cases ho'
  exact⟨_,es',ep',hL,r'⟩) hok I.bare
theorem Inv.call{g':Array GenState}{d':Drawn}(I:Inv X pins Y H s)(u:Un (frs X.stack) ch H H' s.heap h')(hok:HOk X.prog X.w H' h')(hg:AllBare g')
  (hch:∀b∈ch,(b∈X.ex\/X.s₀.heap.objs.size<=b)/\b≠X.env.locals/\(∀x c,X.env.cells.lookup x=some c->c≠b)/\∀p∈X.pn++pins,p.1≠b):
  Inv X pins Y H' { s with heap:=h',gens:=g',drawn:=d',toks:=t' }:=by
 obtain⟨m,⟨o,es,ep,ho,r⟩,_⟩:=id I.loc;obtain⟨sl,hL⟩:=u.any ho I.free fun z=>(hch _ z).2.1 rfl
 exact I.step (ch:=ch) hch (fun b o hL hb hc e n=>u.keep b o e n (fun z=>(List.mem_cons.mp (I.stkSub b z)).elim hL hb) hc) (fun b o _ _ hc e n=>u.any e n hc) (fun b o hc e n=>u.free b o e n hc) (fun b o hc e=>u.there b o e hc) u.tups u.frzs u.tbls (fun m' hm=>by
  obtain⟨o',es',ep',ho',r'⟩:=hm;rw [ho]at ho';cases ho'
  exact⟨_,es',ep',hL,r'⟩) hok hg
theorem Inv.turned{it:Addr}(I:Inv X pins Y H s)(k:∀b o,b≠it->s.heap.get? b=some o->h'.get? b=some o)(hn:H it=none)(hL:it≠X.env.locals)
  (h1:it∈X.ex\/X.s₀.heap.objs.size<=it) (h2:∀x c,X.env.cells.lookup x=some c->c≠it) (h3:∀p∈X.pn++pins,p.1≠it):Inv X pins Y H { s with heap:=h',toks:=t' }:=by
 have nit:∀b u,H b=some u->b≠it:=fun b u e z=>by rw [z,hn]at e;cases e
 refine I.step (g':=s.gens) (d':=s.drawn) (ch:=[it]) (fun b hb=>?_) (fun b o _ _ hc e _=>k b o (fun z=>hc (by simp [z])) e) (fun b o _ _ hc e _=>⟨o.slots,k b o (fun z=>hc (by simp [z])) e⟩) (fun _ _ _ _ n=>n)
  (fun b o hc e=>⟨o,k b o (fun z=>hc (by simp [z])) e⟩) (fun _ _ e=>e) (fun _ _ _ e=>e) (fun b ps e=>⟨#[],by rw [e];simp⟩) (fun m hm=>?_) (fun b u e=>?_) I.bare
 ·have e:b=it:=by simpa using hb
  subst e;exact⟨h1,hL,h2,h3⟩
 ·obtain⟨o,es,ep,ho,r⟩:=hm;exact⟨o,es,ep,k _ o (Ne.symm hL) ho,r⟩
 ·refine(I.hok b u e).stay (fun c v hc q=>k c v ?_ q) (fun _ q=>q) fun _ _ q=>q
  rcases hc with z|z
  ·rw [z];exact nit b u e
  ·exact nit c _ z
theorem Inv.tok(I:Inv X pins Y H s)(t:Nat):Inv X pins Y H { s with toks:=t }:=I.un (h':=s.heap) (t':=t) Un.refl I.hok
theorem Inv.kept(I:Inv X pins Y H s)(k:∀b u,s.heap.get? b=some u->h'.get? b=some u):Inv X pins Y H { s with heap:=h',toks:=t' }:=I.un (Un.kept k) (I.hok.kept k)
theorem Inv.laid{a:Addr}{o:HO}(I:Inv X pins Y H s)(k:∀b u,s.heap.get? b=some u->h'.get? b=some u)(hp:s.heap.objs.size<=a)(new:ObjOk X.prog X.w (upd H a o) h' a o):
  Inv X pins Y (upd H a o) { s with heap:=h',toks:=t' }:=I.un (Un.laid k hp (I.hok.fresh hp)) (I.hok.laid k hp new)
theorem Inv.write{x e:Addr}{o:HO}(I:Inv X pins Y H s)(mu:Mut (H x))(he:e=x\/H e=some (.own x))(k:∀b u,b≠e->s.heap.get? b=some u->h'.get? b=some u)(heo:∃u,h'.get? e=some u)
  (new:ObjOk X.prog X.w (upd H x o) h' x o):Inv X pins Y (upd H x o) { s with heap:=h',toks:=t' }:=I.un (Un.write mu he k heo) (I.hok.write mu he k heo new)
theorem Inv.pins_of{pins':List (Addr×Obj)}(I:Inv X pins Y H s)(h:∀p∈pins',s.heap.get? p.1=some p.2/\H p.1=none/\p.1≠X.env.locals/\p.1∉X.fs/\∀v,p.2.data≠.cell v):Inv X pins' Y H s :=
 ⟨I.ok,I.os,I.bare,I.base,I.loc,I.cell,I.free,I.freeC,fun p hp=>(List.mem_append.mp hp).elim (fun z=>I.pin p (List.mem_append_left _ z)) (h p),I.hok,I.len⟩
theorem Qbo{N:List Str}(hN:N.Nodup){j:Nat}(a:N[i]?=some x)(b:N[j]?=some x):i=j:=by
 obtain⟨h1,e1⟩:=List.getElem?_eq_some_iff.mp a;obtain⟨h2,e2⟩:=List.getElem?_eq_some_iff.mp b;exact(List.getElem_inj hN).mp (e1.trans e2.symm)
theorem QcH{M:Model}{E:Value->Shared->Prop}{v:V}{u:Value}{Q:Unit->Shared->Prop}(I:Inv X pins Y H s)(hN:X.N.Nodup)(hi:X.N[i]?=some x)(hx:Loc X.env.scope x)(r:RelV v u)
  (h:∀s',Inv X pins (Y.set i (some v)) H s'->(∃a,Heap.SameBut a s.heap s'.heap/\(a=X.env.locals\/X.env.cells.lookup x=some a))->Q () s') (hf:X.fn x=true\/X.env.scope.names.lookup x=some .local:=by first|exact .inl rfl|exact .inr rfl|assumption):wpAny M A (storeName X.env x u) Q E s:=by
 obtain⟨m,hn,hl⟩:=id I.loc
 have hcls:(X.env.scope.kind==.class||(X.env.scope.kind==.module&&X.env.locals != X.env.globals))=false:=by rw [I.ok.kind];rfl
 have hiY:i < Y.length:=by rw [I.len];exact(List.getElem?_eq_some_iff.mp hi).1
 have cne:=I.cne
 have tracked:∀{a:Addr} {h':Heap},(∃o,s.heap.get? a=some o/\H a=none)->Heap.SameBut a s.heap h'->HOk X.prog X.w H h':=fun {a h'} ha hs b ob e=>by
  obtain⟨_,_,hfree⟩:=ha;refine(I.hok b ob e).stay (fun c w' hc q=>(hs.2 c ?_).trans q) (fun _ q=>q) fun _ _ q=>q;rintro rfl
  rcases hc with rfl|hc
  ·rw [hfree]at e;cases e
  ·rw [hfree]at hc;cases hc
 rcases hx with hk|hk
 ·refine wpAny_storeName_local hk hn (fun h' hn' hs=>?_) hcls;obtain⟨oL,_,_,hoL,_⟩:=id hn
  refine h _ ⟨I.ok,I.os,I.bare,⟨fun b o e n hb hx=>?_,fun b o e n hb hx=>?_,I.base.free,fun b o e hx=>?_,I.base.tups,I.base.frzs,I.base.tbls⟩,⟨_,hn',fun j y v' e1 e2 e3=>?_⟩,fun y c e=>?_,I.free,I.freeC,fun p hp=>?_,tracked ⟨oL,hoL,I.free⟩ hs,by simpa using I.len⟩ ⟨_,hs,.inl rfl⟩
  ·exact(hs.2 b (Nat.ne_of_lt (Nat.lt_of_lt_of_le (Heap.lt_size e) I.ok.above))).trans (I.base.keep b o e n hb hx)
  ·obtain⟨sl,e1⟩:=I.base.slot b o e n hb hx;exact⟨sl,(hs.2 b (Nat.ne_of_lt (Nat.lt_of_lt_of_le (Heap.lt_size e) I.ok.above))).trans e1⟩
  ·obtain⟨o',e1⟩:=I.base.there b o e hx;exact⟨o',(hs.2 b (Nat.ne_of_lt (Nat.lt_of_lt_of_le (Heap.lt_size e) I.ok.above))).trans e1⟩
  ·by_cases hj:j=i
   ·subst hj;rw [hi]at e1;cases e1;rw [List.getElem?_set_self hiY]at e2;cases e2
    exact⟨u,r,.inl ⟨hk,by simp⟩⟩
   ·rw [List.getElem?_set_ne (Ne.symm hj)]at e2;obtain⟨u',r',q⟩:=hl j y v' e1 e2 e3;refine⟨u',r',?_⟩
    rcases q with⟨k,e⟩|⟨k,c,e,z⟩
    ·refine .inl ⟨k,?_⟩;have:y≠x:=fun e=>hj (Qbo hN e1 (e▸hi));simp [this,e]
    ·exact .inr ⟨k,c,e,z.sameBut hs (cne y c e)⟩
  ·obtain⟨w',z⟩:=I.cell y c e;exact⟨w',z.sameBut hs (cne y c e)⟩
  ·obtain⟨e,n,ne,nf,d⟩:=I.pin p hp;exact⟨(hs.2 p.1 ne).trans e,n,ne,nf,d⟩
 ·have hfn:X.fn x=true:=by
   rcases hf with z|z
   ·exact z
   ·rw [z]at hk;cases hk
  obtain⟨c,hc⟩:=I.ok.has x (.inl hk);obtain⟨w',z⟩:=I.cell x c hc;refine wpAny_storeName_cell I.ok.kind hk hc z (fun h' hc' hs=>?_);obtain⟨oc,hoc,hocd⟩:=id z
  refine h { s with heap:=h' } ⟨I.ok,I.os,I.bare,⟨fun b o e n hb hx=>?_,fun b o e n hb hx=>?_,I.base.free,fun b o e hx=>?_,I.base.tups,I.base.frzs,I.base.tbls⟩,⟨m,hn.sameBut hs (Ne.symm (cne x c hc)),fun j y v' e1 e2 e3=>?_⟩,fun y c' e=>?_,I.free,I.freeC,fun p hp=>?_,tracked ⟨oc,hoc,I.freeC x c hc⟩ hs,by simpa using I.len⟩ ⟨c,hs,.inr hc⟩
  ·exact(hs.2 b (Nat.ne_of_lt (Nat.lt_of_lt_of_le (Heap.lt_size e) (I.ok.cab x c hfn hc)))).trans (I.base.keep b o e n hb hx)
  ·obtain⟨sl,e1⟩:=I.base.slot b o e n hb hx;exact⟨sl,(hs.2 b (Nat.ne_of_lt (Nat.lt_of_lt_of_le (Heap.lt_size e) (I.ok.cab x c hfn hc)))).trans e1⟩
  ·obtain⟨o',e1⟩:=I.base.there b o e hx;exact⟨o',(hs.2 b (Nat.ne_of_lt (Nat.lt_of_lt_of_le (Heap.lt_size e) (I.ok.cab x c hfn hc)))).trans e1⟩
  ·by_cases hj:j=i
   ·subst hj;rw [hi]at e1;cases e1;rw [List.getElem?_set_self hiY]at e2;cases e2;exact⟨u,r,.inr ⟨.inl hk,c,hc,hc'⟩⟩
   ·rw [List.getElem?_set_ne (Ne.symm hj)]at e2;obtain⟨u',r',q⟩:=hl j y v' e1 e2 e3;refine⟨u',r',?_⟩
    rcases q with q|⟨k,c',e,z'⟩
    ·exact .inl q
    ·refine .inr ⟨k,c',e,z'.sameBut hs ?_⟩;rintro rfl;exact hj (Qbo hN e1 (I.ok.inj _ _ _ e hc▸hi))
  ·by_cases hcc:c'=c
   ·subst hcc;exact⟨_,hc'⟩
   ·obtain⟨w2,z2⟩:=I.cell y c' e;exact⟨w2,z2.sameBut hs hcc⟩
  ·obtain⟨e,n,ne,nf,d⟩:=I.pin p hp;refine⟨(hs.2 p.1 ?_).trans e,n,ne,nf,d⟩;intro q;rw [q,hoc]at e;have q':oc=p.2:=Option.some.inj e
   exact d w' (by rw [<-q'];exact hocd)
theorem Jj{M:Model}{E:Value->Shared->Prop}{v:V}{u:Value}{Q:Unit->Shared->Prop}(I:Inv X pins Y H s)(hN:X.N.Nodup)(hi:X.N[i]?=some x)(hx:Loc X.env.scope x)(r:RelV v u)
  (h:∀s',Inv X pins (Y.set i (some v)) H s'->Q () s') (hf:X.fn x=true\/X.env.scope.names.lookup x=some .local:=by first|exact .inl rfl|exact .inr rfl|assumption):wpAny M A (storeName X.env x u) Q E s :=
 QcH I hN hi hx r (fun s' I' _=>h s' I') hf
theorem Inv.call'{s':Shared}(I:Inv X pins Y H s)(ho:s'.os=s.os)(u:Un (frs X.stack) ch H H' s.heap s'.heap)(hok:HOk X.prog X.w H' s'.heap)(hg:AllBare s'.gens)
  (hch:∀b∈ch,(b∈X.ex\/X.s₀.heap.objs.size<=b)/\b≠X.env.locals/\(∀x c,X.env.cells.lookup x=some c->c≠b)/\∀p∈X.pn++pins,p.1≠b):Inv X pins Y H' s':=by
 obtain⟨h',g',d',t',o'⟩:=s';have e:o'=s.os:=ho;subst e;exact I.call (g':=g') (t':=t') (d':=d') u hok hg hch
end
noncomputable abbrev XK:=Value->Option Addr->Hp->Prop
noncomputable abbrev St:=List (Option V)
noncomputable abbrev VK:=V->Hp->Prop
noncomputable abbrev TE:=St->Hp->VK->Prop
noncomputable abbrev TT:=St->Hp->(Bool->Hp->Prop)->Prop
noncomputable abbrev TA:=St->Hp->(List V->Hp->Prop)->Prop
structure Ends where
 nx:St->Hp->Prop
 rt:VK
 bk:St->Hp->Prop:=fun _ _=>False
 ct:St->Hp->Prop:=fun _ _=>False
noncomputable abbrev TS:=Ends->St->Hp->Prop
def EP(X:Cx)(pins:List (Addr×Obj))(Y:St)(Q:VK)(u:Value)(s':Shared):Prop:=∃v H',Inv X pins Y H' s'/\RelV v u/\Q v H'
def TP(X:Cx)(pins:List (Addr×Obj))(Y:St)(Q:Bool->Hp->Prop)(b:Bool)(s':Shared):Prop:=∃H',Inv X pins Y H' s'/\Q b H'
def AP(X:Cx)(pins:List (Addr×Obj))(Y:St)(Q:List V->Hp->Prop)(us:List Value)(s':Shared):Prop:=∃vs H',Inv X pins Y H' s'/\Vals vs us/\Q vs H'
noncomputable def SP(X:Cx)(pins:List (Addr×Obj))(D:Ends)(f:Flow)(s':Shared):Prop :=
 match f with
 | .next=>∃Y' H',Inv X pins Y' H' s'/\D.nx Y' H'
 | .brk=>∃Y' H',Inv X pins Y' H' s'/\D.bk Y' H'
 | .cont=>∃Y' H',Inv X pins Y' H' s'/\D.ct Y' H'
 | .ret u=>∃v Y' H',Inv X pins Y' H' s'/\RelV v u/\D.rt v H'
noncomputable def PE(X:Cx)(e:Expr)(t:TE):Prop :=
 ∀(pins:List (Addr×Obj)) (s:Shared) (Y:St) (H:Hp) (Q:VK),Inv X pins Y H s->t Y H Q->wpAny (model X.prog X.w) X.A (eval e X.env) (EP X pins Y Q) X.xe s
noncomputable def PT(X:Cx)(e:Expr)(t:TT):Prop :=
 ∀(pins:List (Addr×Obj)) (s:Shared) (Y:St) (H:Hp) (Q:Bool->Hp->Prop),Inv X pins Y H s->t Y H Q->wpAny (model X.prog X.w) X.A (isTrue e X.env (eval e X.env)) (TP X pins Y Q) X.xe s
noncomputable def PW(X:Cx)(e:Expr)(t:TT):Prop :=
 ∀(whole:Sem Value) (pins:List (Addr×Obj)) (s:Shared) (Y:St) (H:Hp) (Q:Bool->Hp->Prop),Inv X pins Y H s->t Y H Q->wpAny (model X.prog X.w) X.A (isTrue e X.env whole) (TP X pins Y Q) X.xe s
theorem PW.pt{X:Cx}{e:Expr}{t:TT}(h:PW X e t):PT X e t:=h _
noncomputable def PA(X:Cx)(es:List Expr)(t:TA):Prop :=
 ∀(pos:Pos) (pins:List (Addr×Obj)) (s:Shared) (Y:St) (H:Hp) (Q:List V->Hp->Prop),Inv X pins Y H s->t Y H Q->wpAny (model X.prog X.w) X.A (spliced (backTo pos (starEach es X.env))) (AP X pins Y Q) X.xe s
noncomputable def PS(X:Cx)(st:Stmt)(t:TS):Prop :=
 ∀(pins:List (Addr×Obj)) (s:Shared) (Y:St) (H:Hp) (D:Ends),Inv X pins Y H s->t D Y H->wpAny (model X.prog X.w) X.A (exec st X.env) (SP X pins D) X.xe s
noncomputable def PSs(X:Cx)(st:List Stmt)(t:TS):Prop :=
 ∀(pins:List (Addr×Obj)) (s:Shared) (Y:St) (H:Hp) (D:Ends),Inv X pins Y H s->t D Y H->wpAny (model X.prog X.w) X.A (execs st X.env) (SP X pins D) X.xe s
theorem thn{α:Type}{t:Sem α}{Q Q':α->Shared->Prop}{M:Model}{E:Value->Shared->Prop}{s:Shared}(h:wpAny M A t Q E s)(hQ:∀a s,Q a s->Q' a s):wpAny M A t Q' E s:=wpAny_mono h hQ fun _ _ x=>x
end
section
variable {pos:Pos}{x:Str}{u:Value}
section
variable {X:Cx}
def Qn7(i:Nat):TE:=fun Y H Q=>∃v,Y[i]?=some (some v)/\Q v H
def tC(v:V):TE:=fun _ H Q=>Q v H
theorem Qja{i:Nat}(hN:X.N[i]?=some x)(hv:Vis X.env.scope x)(hd:(x==("__debug__":Str))=false:=by decide) (hcd:(x==("__classdict__":Str))=false:=by decide):PE X (.Name x pos) (Qn7 i):=by
 intro pins s Y H Q I h;obtain⟨v,e,h⟩:=h;obtain⟨m,hn,hl⟩:=I.loc;obtain⟨u,r,l⟩:=hl i x v hN e hv;have fin:EP X pins Y Q u s:=⟨v,H,I,r,h⟩
 rcases l with⟨hk,hm⟩|⟨hk,c,hc,hcell⟩
 ·exact wpAny_Name (wpAny_loadName_local I.ok.kind hk hn hm fin) hd
 ·rcases hk with hk|hk
  ·exact wpAny_Name (wpAny_loadName_cell I.ok.kind hk hc hcell fin) hd
  ·exact wpAny_Name (wpAny_loadName_free I.ok.kind hk hc hcell fin hcd) hd
theorem Qjf{i j pos}:PE X (.Constant (.int i) j pos) (tC (.int i)):=fun _ _ _ H _ I h=>wpAny_Constant_int ⟨.int i,H,I.tok _,⟨_,rfl⟩,h⟩
theorem QlN{b j pos}:PE X (.Constant (.bool b) j pos) (tC (.bl b)):=fun _ _ _ H _ I h=>Constant_bool ⟨.bl b,H,I,rfl,h⟩
theorem Qjd{j pos}:PE X (.Constant .none j pos) (tC .non):=fun _ _ _ H _ I h=>Constant_none ⟨.non,H,I,rfl,h⟩
theorem Qjc{x j pos}:PE X (.Constant (.str x) j pos) (tC (.str x)):=fun _ _ _ H _ I h=>Calls.Constant_str ⟨.str x,H,I.tok _,⟨_,rfl⟩,h⟩
def Gl(X:Cx)(x:Str):Prop:=X.env.kindOf x=some .globalImplicit
theorem ZX{E:Value->Shared->Prop}{pins:List (Addr×Obj)}{s:Shared}{Y:St}{H:Hp}{Q:Value->Shared->Prop}(I:Inv X pins Y H s)(hg:Gl X x)(hm:X.mg x=some u)(h:Q u s)
  (hd:(x==("__debug__":Str))=false:=by decide):wpAny (model X.prog X.w) X.A (eval (.Name x pos) X.env) Q E s :=
 Calls.Name_function_global I.ok.kind hg (Calls.loadGlobal_global (by rw [I.ok.glob];exact I.mod.glob.keeps I.bk) hm h) hd
theorem ZB{E:Value->Shared->Prop}{pins:List (Addr×Obj)}{s:Shared}{Y:St}{H:Hp}{Q:Value->Shared->Prop}(I:Inv X pins Y H s)(hg:Gl X x)(hm:X.mg x=none)(hv:bootBuiltins x=some u)(h:Q u s)
  (hn:x≠"__name__":=by decide) (hd:(x==("__debug__":Str))=false:=by decide):wpAny (model X.prog X.w) X.A (eval (.Name x pos) X.env) Q E s:=by
 obtain⟨mb,h1,h2⟩:=I.mod.blt
 exact Calls.Name_function_global I.ok.kind hg (Calls.loadGlobal_builtin (by rw [I.ok.glob];exact I.mod.glob.keeps I.bk) hm (by rw [I.ok.blt];exact h1.keeps I.bk) ((h2 x hn).trans hv) h) hd
theorem QaJ{v:V}(hg:Gl X x)(hm:X.mg x=some u)(r:RelV v u)(hd:(x==("__debug__":Str))=false:=by decide):PE X (.Name x pos) (tC v):=
 fun _ _ _ H _ I h=>ZX I hg hm ⟨v,H,I,r,h⟩ hd
theorem QgO{v:V}(hg:Gl X x)(hm:X.mg x=none)(hv:bootBuiltins x=some u)(r:RelV v u)(hn:x≠"__name__":=by decide) (hd:(x==("__debug__":Str))=false:=by decide):PE X (.Name x pos) (tC v):=
 fun _ _ _ H _ I h=>ZB I hg hm hv ⟨v,H,I,r,h⟩ hn hd
variable {a b:Expr}{ta tb:TE}
variable {tA tB':TT}{rest:List Expr}
def Qok(t u:TT):TT:=fun Y H Q=>t Y H fun c H1=>if c=true then u Y H1 Q else Q false H1
def tOr(t u:TT):TT:=fun Y H Q=>t Y H fun c H1=>if c=true then Q true H1 else u Y H1 Q
def Qod(t:TT):TT:=fun Y H Q=>t Y H fun c H1=>Q (!c) H1
theorem Qgy(ha:PT X a tA):PW X (.BoolOp .And [a] pos) tA:=by
 intro wh pins s Y H Q I h;refine isTrue_and (thn (ha pins s Y H Q I h) fun c s1 e=>?_)
 cases c with
 | true=>exact isTrue_and_nil e
 | false=>exact e
theorem QiV(ha:PT X a tA):PW X (.BoolOp .Or [a] pos) tA:=by
 intro wh pins s Y H Q I h;refine isTrue_or (thn (ha pins s Y H Q I h) fun c s1 e=>?_)
 cases c with
 | false=>exact isTrue_or_nil e
 | true=>exact e
theorem QiW(ha:PT X a tA)(hb:PW X (.BoolOp .And (b::rest) pos) tB'):PW X (.BoolOp .And (a::b::rest) pos) (Qok tA tB'):=by
 intro wh pins s Y H Q I h;refine isTrue_and (thn (ha pins s Y H _ I h) fun c s1 ⟨H1,I1,q1⟩=>?_)
 cases c with
 | true=>exact hb wh pins s1 Y H1 Q I1 q1
 | false=>exact⟨H1,I1,q1⟩
theorem QlE(ha:PT X a tA)(hb:PW X (.BoolOp .Or (b::rest) pos) tB'):PW X (.BoolOp .Or (a::b::rest) pos) (tOr tA tB'):=by
 intro wh pins s Y H Q I h;refine isTrue_or (thn (ha pins s Y H _ I h) fun c s1 ⟨H1,I1,q1⟩=>?_)
 cases c with
 | true=>exact⟨H1,I1,q1⟩
 | false=>exact hb wh pins s1 Y H1 Q I1 q1
theorem Qi0(ha:PT X a tA):PT X (.UnaryOp .Not a pos) (Qod tA):=by
 intro pins s Y H Q I h;exact isTrue_not (ha pins s Y H (fun c H1=>Q (!c) H1) I h)
def Qln(ta tb:TE):TE:=fun Y H Q=>ta Y H fun x H1=>∃c,x=.bl c/\if c=true then tb Y H1 Q else Q (.bl false) H1
def Qoc(ta tb:TE):TE:=fun Y H Q=>ta Y H fun x H1=>∃c,x=.bl c/\if c=true then Q (.bl true) H1 else tb Y H1 Q
theorem Qfy{op}{t:TE}(h:PE X a t):PE X (.BoolOp op [a] pos) t:=fun pins s Y H Q I hw=>BoolOp_one (h pins s Y H Q I hw)
theorem Qji(ha:PE X a ta)(hb:PE X (.BoolOp .And (b::rest) pos) tb):PE X (.BoolOp .And (a::b::rest) pos) (Qln ta tb):=by
 intro pins s Y H Q I h;refine BoolOp_and (thn (ha pins s Y H _ I h) fun v s1 ⟨x,H1,I1,r1,q1⟩=>?_);obtain⟨c,rfl,q1⟩:=q1;cases r1;refine wpAny_truthy_bool ?_
 cases c with
 | true=>exact hb pins s1 Y H1 Q I1 q1
 | false=>exact⟨.bl false,H1,I1,rfl,q1⟩
theorem QlJ(ha:PE X a ta)(hb:PE X (.BoolOp .Or (b::rest) pos) tb):PE X (.BoolOp .Or (a::b::rest) pos) (Qoc ta tb):=by
 intro pins s Y H Q I h;refine BoolOp_or (thn (ha pins s Y H _ I h) fun v s1 ⟨x,H1,I1,r1,q1⟩=>?_);obtain⟨c,rfl,q1⟩:=q1;cases r1;refine wpAny_truthy_bool ?_
 cases c with
 | false=>exact hb pins s1 Y H1 Q I1 q1
 | true=>exact⟨.bl true,H1,I1,rfl,q1⟩
def tIf(t:TT)(ta tb:TE):TE:=fun Y H Q=>t Y H fun c H1=>if c=true then ta Y H1 Q else tb Y H1 Q
theorem Qev{c:Expr}(hc:PT X c tA)(ha:PE X a ta)(hb:PE X b tb):PE X (.IfExp c a b pos) (tIf tA ta tb):=by
 intro pins s Y H Q I h;refine wpAny_IfExp (thn (hc pins s Y H _ I h) fun d s1 ⟨H1,I1,q1⟩=>?_)
 cases d with
 | true=>exact ha pins s1 Y H1 Q I1 q1
 | false=>exact hb pins s1 Y H1 Q I1 q1
end
end
section
variable {X:Cx}{e tg:Expr}{H:Hp}{pins:List (Addr×Obj)}{i:Nat}{pos:Pos}{P:Program}{s:Shared}{Y:St}{x:Str}{te:TE}{u:Value}{w:World}
noncomputable def SqL(K:W.Frag)(H:Hp)(a:Addr)(xs:List V):Prop :=
 Rd H a (.lst xs) \/
  ∃ (o : Obj) (its : Array Value) (n : Nat), K.lookup a = some o /\ o.cls = .type "list" /\ o.dict = none /\ o.data = .seq its n /\ its.size <= sizeLine /\ Vals xs its.toList
noncomputable def SqT(K:W.Frag)(H:Hp)(a:Addr)(xs:List V):Prop :=
 Rd H a (.tup xs) \/
  ∃ (o : Obj) (its : Array Value) (n : Nat), K.lookup a = some o /\ o.cls = .type "tuple" /\ o.data = .seq its n /\ its.size <= sizeLine /\ Vals xs its.toList
noncomputable def Qpa:Value->Option V
 | .none=>some .non
 | .bool b=>some (.bl b)
 | .int i _=>some (.int i)
 | .str x _=>some (.str x)
 | .bytes b _=>some (.byt b)
 | .float b _=>some (.flt b)
 | .ref a=>some (.ref a)
 | .type n=>some (.ty n)
 | _=>none
theorem RelV.abs{x:V}(r:RelV x u):Qpa u=some x:=by
 cases x with
 | non=>cases r;rfl
 | bl _=>cases r;rfl
 | int _=>obtain⟨t,rfl⟩:=r;rfl
 | str _=>obtain⟨t,rfl⟩:=r;rfl
 | byt _=>obtain⟨t,rfl⟩:=r;rfl
 | flt _=>obtain⟨t,rfl⟩:=r;rfl
 | ref _=>cases r;rfl
 | ty _=>cases r;rfl
theorem RelV.inj{x y:V}(r:RelV x u)(q:RelV y u):x=y:=Option.some.inj (r.abs.symm.trans q.abs)
theorem Vals.inj:∀{xs ys:List V} {us:List Value},Vals xs us->Vals ys us->xs=ys
 | _,_,_,.nil,.nil=>rfl
 | _,_,_,.cons r t,.cons r' t'=>by rw [r.inj r',Vals.inj t t']
section
variable {a:Addr}{xs ys:List V}
theorem SqL.of{K:W.Frag}(h:H a=some (.lst xs)):SqL K H a xs:=.inl (.inl h)
theorem SqT.of{K:W.Frag}(h:H a=some (.tup xs)):SqT K H a xs:=.inl (.inl h)
theorem Inv.list(I:Inv X pins Y H s)(h:SqL X.K H a xs):∃its:List Value,Vals xs its/\PlainL s.heap a its.toArray/\xs.length<=sizeLine:=by
 rcases h with h|⟨o,its,n,hk,hc,hd,hs,hz,r⟩
 ·obtain⟨z,its,n,r,e⟩:=h.ok I.hok;exact⟨its,r,⟨_,n,e,rfl,rfl,rfl⟩,z⟩
 ·refine⟨its.toList,r,⟨o,n,I.kIn a o hk,hc,hd,by simpa using hs⟩,?_⟩
  have e:=r.length;simp only [Array.length_toList]at e;omega
theorem Inv.tuple(I:Inv X pins Y H s)(h:SqT X.K H a xs):∃its:List Value,Vals xs its/\IsTup s.heap a its.toArray/\xs.length<=sizeLine:=by
 rcases h with h|⟨o,its,n,hk,hc,hs,hz,r⟩
 ·obtain⟨z,its,r,p⟩:=h.ok I.hok;exact⟨its,r,p,z⟩
 ·refine⟨its.toList,r,⟨o,I.kIn a o hk,hc,n,by simpa using hs⟩,?_⟩
  have e:=r.length;simp only [Array.length_toList]at e;omega
theorem Inv.list_inj(I:Inv X pins Y H s)(h:SqL X.K H a xs)(h':SqL X.K H a ys):xs=ys:=by
 obtain⟨its,r,⟨o,n,e,_,_,d⟩,_⟩:=I.list h;obtain⟨its',r',⟨o',n',e',_,_,d'⟩,_⟩:=I.list h';rw [e]at e';cases e';rw [d]at d';injection d' with d1 _
 have:its=its':=by simpa using congrArg Array.toList d1
 subst this;exact r.inj r'
theorem Inv.tuple_inj(I:Inv X pins Y H s)(h:SqT X.K H a xs)(h':SqT X.K H a ys):xs=ys:=by
 obtain⟨its,r,⟨o,e,_,n,d⟩,_⟩:=I.tuple h;obtain⟨its',r',⟨o',e',_,n',d'⟩,_⟩:=I.tuple h';rw [e]at e';cases e';rw [d]at d';injection d' with d1 _
 have:its=its':=by simpa using congrArg Array.toList d1
 subst this;exact r.inj r'
end
noncomputable abbrev Cx.wish(X:Cx)(E:Value->Shared->Prop):Cx:={ X with xe:=E }
noncomputable abbrev Cx.nox(X:Cx):Cx:=X.wish fun _ _=>False
theorem Cx.Ok.wish(ok:X.Ok)(E:Value->Shared->Prop):(X.wish E).Ok :=
 ⟨ok.mod,ok.kind,ok.glob,ok.blt,ok.above,ok.inj,ok.has,ok.cab,ok.hd,ok.frames,ok.stk,ok.exf,ok.bs,ok.bsz,ok.noex,ok.exfs,ok.funs,ok.frf⟩
theorem Cx.Ok.unwish{E:Value->Shared->Prop}(ok:(X.wish E).Ok):X.Ok :=
 ⟨ok.mod,ok.kind,ok.glob,ok.blt,ok.above,ok.inj,ok.has,ok.cab,ok.hd,ok.frames,ok.stk,ok.exf,ok.bs,ok.bsz,ok.noex,ok.exfs,ok.funs,ok.frf⟩
section
variable {E:Value->Shared->Prop}
theorem Inv.wish(I:Inv X pins Y H s)(E:Value->Shared->Prop):Inv (X.wish E) pins Y H s:=⟨I.ok.wish E,I.os,I.bare,I.base,I.loc,I.cell,I.free,I.freeC,I.pin,I.hok,I.len⟩
theorem Inv.unwish(I:Inv (X.wish E) pins Y H s):Inv X pins Y H s:=⟨I.ok.unwish,I.os,I.bare,I.base,I.loc,I.cell,I.free,I.freeC,I.pin,I.hok,I.len⟩
theorem SP.unwish{D:Ends}{f:Flow}{s':Shared}(h:SP (X.wish E) pins D f s'):SP X pins D f s':=by
 cases f with
 | next=>obtain⟨Y',H',I,q⟩:=h;exact⟨Y',H',I.unwish,q⟩
 | brk=>obtain⟨Y',H',I,q⟩:=h;exact⟨Y',H',I.unwish,q⟩
 | cont=>obtain⟨Y',H',I,q⟩:=h;exact⟨Y',H',I.unwish,q⟩
 | ret u=>obtain⟨v,Y',H',I,r,q⟩:=h;exact⟨v,Y',H',I.unwish,r,q⟩
theorem PSs.nox{st:List Stmt}{t:TS}(h:PSs X.nox st t):PSs X st t:=fun pins s Y H D I hw =>
 wpAny_mono (h pins s Y H D (I.wish _) hw) (fun _ _ q=>q.unwish) fun _ _ z=>False.elim z
end
section
variable {st:Stmt}{rest:List Stmt}{t u:TS}
def Qf7:TS:=fun D Y H=>D.nx Y H
def Qn9(t u:TS):TS:=fun D Y H=>t { D with nx:=u D } Y H
theorem QgA:PSs X [] Qf7:=fun _ _ Y H _ I h=>wpAny_execs_nil ⟨Y,H,I,h⟩
theorem Qep(h1:PS X st t)(h2:PSs X rest u):PSs X (st::rest) (Qn9 t u):=by
 intro pins s Y H D I h;refine wpAny_execs_cons (thn (h1 pins s Y H { D with nx:=u D } I h) fun f s1 q=>?_)
 cases f with
 | next =>
  obtain⟨Y',H',I',q⟩:=q;exact h2 pins s1 Y' H' D I' q
 | ret v=>exact q
 | brk=>exact q
 | cont=>exact q
def Qir:TS:=fun D Y H=>D.bk Y H
def Qlm:TS:=fun D Y H=>D.ct Y H
theorem QgC:PS X (.Pass pos) Qf7:=fun _ _ Y H _ I h=>wpAny_Pass ⟨Y,H,I,h⟩
theorem Qes:PS X (.Break pos) Qir:=fun _ _ Y H _ I h=>wpAny_Break ⟨Y,H,I,h⟩
theorem QaG:PS X (.Continue pos) Qlm:=fun _ _ Y H _ I h=>wpAny_Continue ⟨Y,H,I,h⟩
theorem Inv.quiet(I:Inv X pins Y H s):interactive X.env=false:=by simp [interactive,I.ok.kind]
theorem Qi3{x j pos pos'}:PS X (.Expr (.Constant (.str x) j pos) pos') Qf7:=fun _ s Y H _ I h=>wpAny_Expr (Calls.Constant_str (show SP X _ _ .next { s with toks:=s.toks+1 }from⟨Y,H,I.tok _,h⟩)) I.quiet
def Qll(te:TE):TS:=fun D Y H=>te Y H fun _ H1=>D.nx Y H1
theorem QgD(he:PE X e te)(hs:swapsWith e none pos.line X.env=pure false:=by rfl):PS X (.Expr e pos) (Qll te):=by
 intro pins s Y H D I h;exact wpAny_Expr_any (thn (he pins s Y H _ I h) fun v s1 ⟨x,H1,I1,r1,q1⟩=>⟨Y,H1,I1,q1⟩) I.quiet hs
def Qob(te:TE):TS:=fun D Y H=>te Y H D.rt
theorem Qi1(he:PE X e te):PS X (.Return (some e) pos) (Qob te):=by
 intro pins s Y H D I h;exact wpAny_Return_some (thn (he pins s Y H _ I h) fun v s1 ⟨x,H1,I1,r1,q1⟩=>⟨x,Y,H1,I1,r1,q1⟩)
def Qlj:TS:=fun D _ H=>D.rt .non H
theorem QgB:PS X (.Return none pos) Qlj:=fun _ _ Y H _ I h=>wpAny_Return_none ⟨.non,Y,H,I,rfl,h⟩
def Qof(c:TT)(t u:TS):TS:=fun D Y H=>c Y H fun b H1=>if b=true then t D Y H1 else u D Y H1
theorem QlF{c:Expr}{a b:List Stmt}{tc:TT}(hc:PT X c tc)(ha:PSs X a t)(hb:PSs X b u):PS X (.If c a b pos) (Qof tc t u):=by
 intro pins s Y H D I h;refine wpAny_If (thn (hc pins s Y H _ I h) fun d s1 ⟨H1,I1,q1⟩=>?_)
 cases d with
 | true=>exact ha pins s1 Y H1 D I1 q1
 | false=>exact hb pins s1 Y H1 D I1 q1
end
noncomputable abbrev TG:=V->St->Hp->(St->Hp->Prop)->Prop
noncomputable abbrev TGs:=List V->St->Hp->(St->Hp->Prop)->Prop
noncomputable def PG(X:Cx)(target:Expr)(t:TG):Prop :=
 ∀(pins:List (Addr×Obj)) (s:Shared) (Y:St) (H:Hp) (v:V) (u:Value) (Q:St->Hp->Prop),Inv X pins Y H s->RelV v u->t v Y H Q ->
  wpAny (model X.prog X.w) X.A (assign target X.env u) (fun _ s'=>∃Y' H',Inv X pins Y' H' s'/\Q Y' H') X.xe s
noncomputable def PGs(X:Cx)(ts:List Expr)(t:TGs):Prop :=
 ∀(pins:List (Addr×Obj)) (s:Shared) (Y:St) (H:Hp) (vs:List V) (us:List Value) (Q:St->Hp->Prop),Inv X pins Y H s->Vals vs us->t vs Y H Q ->
  wpAny (model X.prog X.w) X.A (assignInOrder ((assignEach ts X.env).map (·.2)) us) (fun _ s'=>∃Y' H',Inv X pins Y' H' s'/\Q Y' H') X.xe s
noncomputable abbrev QmN:=V->V->V->Hp->(Hp->Prop)->Prop
noncomputable def QnX(X:Cx)(t:QmN):Prop :=
 ∀(pins:List (Addr×Obj)) (s:Shared) (Y:St) (H:Hp) (o i v:V) (ov iv u:Value) (Q:Hp->Prop),Inv X pins Y H s->RelV o ov->RelV i iv->RelV v u->t o i v H Q ->
  wpAny (model X.prog X.w) X.A (setItem ov iv u) (fun _ s'=>∃H',Inv X pins Y H' s'/\Q H') X.xe s
noncomputable abbrev TIp:=V->V->Hp->VK->Prop
noncomputable def PIp(X:Cx)(op:Operator)(t:TIp):Prop :=
 ∀(pins:List (Addr×Obj)) (s:Shared) (Y:St) (H:Hp) (x y:V) (v u:Value) (Q:VK),Inv X pins Y H s->RelV x v->RelV y u->t x y H Q ->
  wpAny (model X.prog X.w) X.A (inplaceOp op v u) (EP X pins Y Q) X.xe s
section

def Qad(i:Nat):TG:=fun v Y H Q=>Q (Y.set i (some v)) H
theorem Jr(hN:X.N.Nodup)(hi:X.N[i]?=some x)(hx:Loc X.env.scope x)(hf:X.fn x=true\/X.env.scope.names.lookup x=some .local:=by first|exact .inl rfl|exact .inr rfl|assumption):PG X (.Name x pos) (Qad i):=by
 intro pins s Y H v u Q I r h;exact wpAny_assign_Name (Jj I hN hi hx r (fun s' I'=>⟨_,H,I',h⟩) hf)
def Qmj:TGs:=fun vs Y H Q=>vs=[]/\Q Y H
def QeR(t:TG)(u:TGs):TGs:=fun vs Y H Q=>∃v r,vs=v::r/\t v Y H fun Y' H'=>u r Y' H' Q
theorem QaI:PGs X [] Qmj:=by
 intro pins s Y H vs us Q I r h;obtain⟨e,h⟩:=h;subst e;cases r;exact assignInOrder_nil ⟨Y,H,I,h⟩
theorem ZI{es:List Expr}{t:TG}{u:TGs}(h1:PG X e t)(h2:PGs X es u)
  (hs:(assignEach (e::es) X.env).map (·.2)=assign e X.env::(assignEach es X.env).map (·.2):=by rfl):PGs X (e::es) (QeR t u):=by
 intro pins s Y H vs us Q I r h;obtain⟨v,vr,e1,h⟩:=h;subst e1
 cases r with
 | cons r rr =>
  rw [hs];refine assignInOrder_cons (thn (h1 pins s Y H _ _ _ I r h) fun _ s1 ⟨σ1,H1,I1,q1⟩=>?_);exact h2 pins s1 σ1 H1 _ _ Q I1 rr q1
def QnO(K:W.Frag)(n:Nat)(t:TGs):TG:=fun v Y H Q=>∃a xs,v=.ref a/\SqT K H a xs/\xs.length=n/\t xs Y H Q
theorem Qc3{es:List Expr}{k:Nat}{t:TGs}{n:Nat}(hc:X.calm=true)(h:PGs X es t)
  (hn:(assignEach es X.env).length=n:=by rfl) (hst:(assignEach es X.env).findIdx? (·.1)=none:=by rfl):PG X (.Tuple es k pos) (QnO X.K n t):=by
 intro pins s Y H v u Q I r hw;obtain⟨a,xs,e1,hq,hl,hw⟩:=hw;subst e1;cases r;obtain⟨its,rv,ht,hz⟩:=I.tuple hq
 refine assign_Tuple_tuple (I.ok.hd hc) ht (by simp [hn,<-hl,rv.length]) hst fun h' hx=>?_
 have I1:Inv X pins Y H { s with heap:=h' }:=I.kept (t':=s.toks) fun b o e=>hx b o (Nat.ne_of_lt (Heap.lt_size e)) e
 exact h pins _ Y H xs _ Q I1 (by simpa using rv) hw
def QoH(to ti:TE)(t:QmN):TG:=fun v Y H Q=>to Y H fun o H1=>ti Y H1 fun i H2=>t o i v H2 fun H3=>Q Y H3
theorem Qi9{o i:Expr}{to ti:TE}{t:QmN}(ho:PE X o to)(hi:PE X i ti)(hs:QnX X t)
  (ha:∀v,assign (.Subscript o i pos) X.env v=(do
   let ov <-holding [v] (eval o X.env);let iv <-holding [v,ov] (eval i X.env)
   standAt pos
   holding [v,ov,iv] (setItem ov iv v)
   release [v,ov,iv] []):=by intro _;rfl):PG X (.Subscript o i pos) (QoH to ti t):=by
 intro pins s Y H v u Q I r h;rw [ha];refine wpAny_bind (wpAny_holding (thn (ho pins s Y H _ I h) fun ov s1 ⟨x,H1,I1,r1,q1⟩=>?_));refine wpAny_bind (wpAny_holding (thn (hi pins s1 Y H1 _ I1 q1) fun iv s2 ⟨y,H2,I2,r2,q2⟩=>?_));refine wpAny_bind (wpAny_standAt (wpAny_bind (wpAny_holding (thn (hs pins s2 Y H2 x y v ov iv u _ I2 r1 r2 r q2) fun _ s3 ⟨H3,I3,q3⟩=>?_))));exact wpAny_release ⟨Y,H3,I3,q3⟩
def QmU(te:TE)(g:TG):TS:=fun D Y H=>te Y H fun x H1=>g x Y H1 D.nx
theorem Qfu{g:TG}(he:PE X e te)(hg:PG X tg g)(hs:swapsWithSole [tg] e pos.line X.env=pure false:=by rfl)(hw:swappedStores [tg] e X.env=pure none:=by rfl)
  (h1:(assignEach [tg] X.env).map (·.2)=[assign tg X.env]:=by rfl):PS X (.Assign [tg] e pos) (QmU te g):=by
 intro pins s Y H D I h;refine wpAny_Assign_stores (thn (he pins s Y H _ I h) fun v s1 ⟨x,H1,I1,r1,q1⟩=>?_) hs hw;rw [h1];exact thn (hg pins s1 Y H1 x v _ I1 r1 q1) fun _ s2 q=>q
theorem Qfs{pos':Pos}(hN:X.N.Nodup)(hi:X.N[i]?=some x)(hx:Loc X.env.scope x)(he:PE X e te)(hs:swapsWith e (some (.Name x pos')) pos.line X.env=pure false:=by rfl)(hf:X.fn x=true\/X.env.scope.names.lookup x=some .local:=by first|exact .inl rfl|exact .inr rfl|assumption):
  PS X (.Assign [.Name x pos'] e pos) (QmU te (Qad i)):=by
 intro pins s Y H D I h;refine wpAny_Assign_Name (thn (he pins s Y H _ I h) fun v s1 ⟨y,H1,I1,r1,q1⟩=>?_) hs;exact Jj I1 hN hi hx r1 (fun s2 I2=>⟨_,H1,I2,q1⟩) hf
def Qoj(i:Nat)(te:TE)(ti:TIp):TS:=fun D Y H=>∃x,Y[i]?=some (some x)/\te Y H fun y H1=>ti x y H1 fun z H2=>D.nx (Y.set i (some z)) H2
theorem Qi4{op:Operator}{ti:TIp}{pos':Pos}(hN:X.N.Nodup)(hi:X.N[i]?=some x)(hx:Loc X.env.scope x)(he:PE X e te)(ho:PIp X op ti)(hf:X.fn x=true\/X.env.scope.names.lookup x=some .local:=by first|exact .inl rfl|exact .inr rfl|assumption):
  PS X (.AugAssign (.Name x pos') op e pos) (Qoj i te ti):=by
 intro pins s Y H D I h;obtain⟨v,e1,h⟩:=h;obtain⟨m,hn,hl⟩:=I.loc
 have vis:Vis X.env.scope x:=by rcases hx with k|k;exact .inl k;exact .inr (.inl k)
 obtain⟨u,r,l⟩:=hl i x v hi e1 vis;refine wpAny_AugAssign_Name ?_
 have go:wpAny (model X.prog X.w) X.A (eval e X.env) (fun w s₂=>wpAny (model X.prog X.w) X.A (inplaceOp op u w) (fun r s₃=>wpAny (model X.prog X.w) X.A (storeName X.env x r) (fun _=>SP X pins D .next) X.xe s₃) X.xe s₂) X.xe s:=by
  refine thn (he pins s Y H _ I h) fun w s1 ⟨y,H1,I1,r1,q1⟩=>?_;refine thn (ho pins s1 Y H1 v y u w _ I1 r r1 q1) fun z s2 ⟨zv,H2,I2,r2,q2⟩=>?_;exact Jj I2 hN hi hx r2 (fun s3 I3=>⟨_,H2,I3,q2⟩) hf
 rcases l with⟨hk,hm⟩|⟨hk,c,hc,hcell⟩
 ·exact wpAny_loadName_local I.ok.kind hk hn hm go
 ·rcases hk with hk|hk
  ·exact wpAny_loadName_cell I.ok.kind hk hc hcell go
  ·rcases hx with k|k
   ·have:X.env.scope.names.lookup x=some .free:=hk;rw [k]at this;cases this
   ·have:X.env.scope.names.lookup x=some .free:=hk;rw [k]at this;cases this
end
section

def Qfk(c:TT)(tb:TS):TS:=fun D Y H=>∃W:Nat->St->Hp->Prop,(∃m,W m Y H)/\∀m Y H,W m Y H ->
 c Y H fun b H1=>if b=true then ∃N:St->Hp->Prop,(∀Y' H',N Y' H'->∃m',m'<m/\W m' Y' H')/\tb { D with nx:=N,ct:=N,bk:=D.nx } Y H1 else D.nx Y H1
theorem Qeq{c:Expr}{body:List Stmt}{tc:TT}{tb:TS}(hp:PassesOwn (model X.prog X.w) X.A X.env X.xe)(hc:PT X c tc)(hb:PSs X body tb):PS X (.While c body [] pos) (Qfk tc tb):=by
 intro pins s Y H D I h;obtain⟨W,⟨m0,w0⟩,turn⟩:=h;refine wpAny_While (codeAny_whileLoop (fun n s'=>∃Y' H',Inv X pins Y' H' s'/\W n Y' H') ?_ m0 ⟨Y,H,I,w0⟩);rintro n s1 ⟨σ1,H1,I1,w1⟩;refine wpAny_passesOwn hp (thn (hc pins s1 σ1 H1 _ I1 (turn n σ1 H1 w1)) fun b s2 ⟨H2,I2,q2⟩=>?_)
 cases b with
 | true =>
  obtain⟨N,hN,q2⟩:=q2;rw [if_pos rfl];refine wpAny_passesOwn hp (thn (hb pins s2 σ1 H2 _ I2 q2) fun f s3 q3=>?_)
  cases f with
  | next =>
   obtain⟨σ3,H3,I3,n3⟩:=q3;obtain⟨m',hm,w3⟩:=hN σ3 H3 n3;exact⟨m',hm,σ3,H3,I3,w3⟩
  | cont =>
   obtain⟨σ3,H3,I3,n3⟩:=q3;obtain⟨m',hm,w3⟩:=hN σ3 H3 n3;exact⟨m',hm,σ3,H3,I3,w3⟩
  | brk=>exact q3
  | ret v=>exact q3
 | false =>
  rw [if_neg Bool.false_ne_true];exact wpAny_execs_nil ⟨σ1,H2,I2,q2⟩
end
structure It where
 go:Nat->Hp->Prop
 yld:Nat->Hp->V->Hp->Prop
 stop:Nat->Hp->Prop
noncomputable def Qa1(X:Cx)(pins:List (Addr×Obj))(H:Hp)(b:Addr):Prop :=
 H b=none/\b≠X.env.locals/\b∉X.fs/\(b∈X.ex\/X.s₀.heap.objs.size<=b)/\(∀x c,X.env.cells.lookup x=some c->c≠b)/\∀p∈X.pn++pins,p.1≠b
theorem Inv.fpOk{H':Hp}{b:Addr}(I:Inv X pins Y H s)(hb:s.heap.objs.size<=b)(hn:H' b=none):Qa1 X pins H' b:=by
 refine⟨hn,Nat.ne_of_gt (Nat.lt_of_lt_of_le I.lt hb),I.nofs hb,.inr (Nat.le_trans I.sz hb),fun x c e z=>?_,fun p hp z=>?_⟩
 ·obtain⟨v,q⟩:=I.cell x c e
  exact absurd (Nat.lt_of_lt_of_le q.lt (by rw [z];exact hb)) (Nat.lt_irrefl _)
 ·exact absurd (Nat.lt_of_lt_of_le (Heap.lt_size (I.pin p hp).1) (by rw [z];exact hb)) (Nat.lt_irrefl _)
structure Turn(P:Program)(w:World)(K:W.Frag)(tg:Expr)(J:It)(fp:List Addr)(it:Addr)(tn:Nat->Heap->Prop):Prop where
 mem:it∈fp
 obj:∀i h,tn i h->∀b∈fp,∃o,h.get? b=some o/\∀v,o.data≠.cell v
 keep:∀i h h',tn i h->(∀b∈fp,∀o,h.get? b=some o->h'.get? b=some o)->tn i h'
 item:∀(X:Cx),X.prog=P->X.w=w->X.K=K->X.calm=true->∀(i:Nat) (pins:List (Addr×Obj)) (s:Shared) (Y:St) (H:Hp) (E:Value->Shared->Prop),Inv X pins Y H s->(∀b∈fp,Qa1 X pins H b)->tn i s.heap->J.go i H ->
  wpAny (model P w) X.A (pyNext (.ref it)) (fun r s1=>∃u,r=some u /\
   wpAny (model P w) X.A (letOwnedTupleGo tg (.ref it) u) (fun _ s2=>∃x H',Inv X pins Y H' s2/\RelV x u/\J.yld i H x H'/\tn (i+1) s2.heap/\∀b∈fp,H' b=none) E s1) E s
 done:∀(X:Cx),X.prog=P->X.w=w->X.K=K->X.calm=true->∀(i:Nat) (pins:List (Addr×Obj)) (s:Shared) (Y:St) (H:Hp) (E:Value->Shared->Prop),Inv X pins Y H s->(∀b∈fp,Qa1 X pins H b)->tn i s.heap->J.stop i H ->
  wpAny (model P w) X.A (pyNext (.ref it)) (fun r s1=>r=none/\Inv X pins Y H s1) E s
 self:∀(A:Around) (i:Nat) (s:Shared) (Q:Value->Shared->Prop) (E:Value->Shared->Prop),tn i s.heap->Q (.ref it) s->wpAny (model P w) A (pyIter (.ref it)) Q E s
noncomputable abbrev TI:=St->Hp->(It->Hp->Prop)->Prop
noncomputable def PIE(X:Cx)(pins:List (Addr×Obj))(Y:St)(tg:Expr)(R:It->Hp->Prop)(itv:Value)(s2:Shared):Prop :=
 ∃(it:Addr) (fp:List Addr) (tn:Nat->Heap->Prop) (J:It) (H':Hp),itv=.ref it/\Inv X pins Y H' s2/\Turn X.prog X.w X.K tg J fp it tn/\tn 0 s2.heap/\(∀b∈fp,Qa1 X pins H' b)/\R J H'
noncomputable def PI(X:Cx)(tg iter:Expr)(wi:TI):Prop :=
 ∀(pins:List (Addr×Obj)) (s:Shared) (Y:St) (H:Hp) (R:It->Hp->Prop),Inv X pins Y H s->wi Y H R ->
  wpAny (model X.prog X.w) X.A (eval iter X.env) (fun v s1=>wpAny (model X.prog X.w) X.A (pyIter v) (PIE X pins Y tg R) X.xe s1) X.xe s
theorem QeN{M:Model}{A:Around}{E:Value->Shared->Prop}{it:Addr}{o:Obj}{n:String}{vs:Array Value}{Q:Unit->Shared->Prop}(ho:s.heap.get? it=some o)(hc:o.cls=.type n)(hd:o.data=.fields vs)
  (hn:["enumerate","zip","dict_itemiterator","dict_reverseitemiterator","odict_iterator","itertools.zip_longest","itertools.pairwise"].contains n=false) (hQ:Q () s):wpAny M A (letOwnedTupleGo tg (.ref it) u) Q E s:=by
 unfold letOwnedTupleGo
 cases tg<;>first
  | exact wpAny_pure hQ
  | (cases u<;>first
    | exact wpAny_pure hQ
    | (refine wpAny_bind (wpAny_load ho ?_)
       rw [hc,hd];show wpAny M A (if(["enumerate","zip","dict_itemiterator","dict_reverseitemiterator","odict_iterator","itertools.zip_longest","itertools.pairwise"].contains n&&vs[0]?==some (rawInt _))=true then _ else _) Q E s
       rw [if_neg (by intro h;rw [hn,Bool.false_and]at h;cases h)]
       exact wpAny_pure hQ))
noncomputable def Itl(K:W.Frag)(a:Addr):It :=
 ⟨fun i H=>∃xs x,SqL K H a xs/\xs[i]?=some x,fun i H x H'=>H'=H/\∀xs,SqL K H a xs->xs[i]?=some x,fun i H=>∃xs,SqL K H a xs/\xs.length<=i⟩
noncomputable def Itt(K:W.Frag)(a:Addr):It :=
 ⟨fun i H=>∃xs x,SqT K H a xs/\xs[i]?=some x,fun i H x H'=>H'=H/\∀xs,SqT K H a xs->xs[i]?=some x,fun i H=>∃xs,SqT K H a xs/\xs.length<=i⟩
noncomputable def Itr(lo:Int)(n:Nat):It:=⟨fun i _=>i<n,fun i H x H'=>H'=H/\x=.int (lo+i),fun i _=>n<=i⟩
theorem Qcw{K:W.Frag}(a it:Addr):Turn P w K tg (Itl K a) [it] it (fun i h=>h.IsListIter it a i) where
 mem:=by simp
 obj:=fun i h st b hb=>by
  have e:b=it:=by simpa using hb
  subst e;obtain⟨o,e,c,d⟩:=st
  exact⟨o,e,fun v z=>by rw [d]at z;cases z⟩
 keep:=fun i h h' st k=>st.at fun o e=>k it (by simp) o e
 item:=by
  intro X hP hw hK hc i pins s Y H E I hf st hg;subst hP hw hK;obtain⟨xs,x,hq,hx⟩:=hg;obtain⟨its,rv,p,hz⟩:=I.list hq;obtain⟨u,hu,ru⟩:=rv.get hx
  obtain⟨f0,f1,f2,f3,f4,f5⟩:=hf it (by simp)
  refine wpAny_pyNext_list_item st p.isList (x:=u) (by simpa using hu) fun h' st' sb=>?_
  have I1:Inv X pins Y H { s with heap:=h' }:=I.turned (t':=s.toks) (fun b o hb e=>(sb.2 b hb).trans e) f0 f1 f3 f4 f5;obtain⟨o,e,c,d⟩:=id st'
  exact⟨u,rfl,QeN (s:={ s with heap:=h' }) e c d (by decide) ⟨x,H,I1,ru,⟨rfl,fun ys hy=>by rw [I.list_inj hy hq];exact hx⟩,st',fun b hb=>(hf b hb).1⟩⟩
 done:=by
  intro X hP hw hK hc i pins s Y H E I hf st hg;subst hP hw hK;obtain⟨xs,hq,hx⟩:=hg;obtain⟨its,rv,p,hz⟩:=I.list hq
  obtain⟨f0,f1,f2,f3,f4,f5⟩:=hf it (by simp)
  have hl:=rv.length
  exact wpAny_pyNext_list_end (I.ok.hd hc) st p.isList (by simp;omega) fun h' eb=>⟨rfl,I.turned (t':=s.toks) (fun b o hb e=>eb b o hb e) f0 f1 f3 f4 f5⟩
 self:=fun _ _ _ _ _ st h=>wpAny_pyIter_listiter st h
theorem QbK{K:W.Frag}(a it:Addr):Turn P w K tg (Itt K a) [it] it (fun i h=>h.IsTupleIter it a i) where
 mem:=by simp
 obj:=fun i h st b hb=>by
  have e:b=it:=by simpa using hb
  subst e;obtain⟨o,e,c,d⟩:=st
  exact⟨o,e,fun v z=>by rw [d]at z;cases z⟩
 keep:=fun i h h' st k=>st.at fun o e=>k it (by simp) o e
 item:=by
  intro X hP hw hK hc i pins s Y H E I hf st hg;subst hP hw hK;obtain⟨xs,x,hq,hx⟩:=hg;obtain⟨its,rv,p,hz⟩:=I.tuple hq;obtain⟨u,hu,ru⟩:=rv.get hx
  obtain⟨f0,f1,f2,f3,f4,f5⟩:=hf it (by simp)
  refine wpAny_pyNext_tuple_item st (show s.heap.IsTuple a its.toArray from p) (x:=u) (by simpa using hu) fun h' st' sb=>?_
  have I1:Inv X pins Y H { s with heap:=h' }:=I.turned (t':=s.toks) (fun b o hb e=>(sb.2 b hb).trans e) f0 f1 f3 f4 f5;obtain⟨o,e,c,d⟩:=id st'
  exact⟨u,rfl,QeN (s:={ s with heap:=h' }) e c d (by decide) ⟨x,H,I1,ru,⟨rfl,fun ys hy=>by rw [I.tuple_inj hy hq];exact hx⟩,st',fun b hb=>(hf b hb).1⟩⟩
 done:=by
  intro X hP hw hK hc i pins s Y H E I hf st hg;subst hP hw hK;obtain⟨xs,hq,hx⟩:=hg;obtain⟨its,rv,p,hz⟩:=I.tuple hq
  obtain⟨f0,f1,f2,f3,f4,f5⟩:=hf it (by simp)
  have hl:=rv.length
  exact wpAny_pyNext_tuple_end (I.ok.hd hc) st (show s.heap.IsTuple a its.toArray from p) (by simp;omega) fun h' eb=>⟨rfl,I.turned (t':=s.toks) (fun b o hb e=>eb b o hb e) f0 f1 f3 f4 f5⟩
 self:=fun _ _ _ _ _ st h=>wpAny_pyIter_tupleiter st h
theorem QbL{K:PySem.W.Frag}(it:Addr)(lo:Int)(n:Nat):Turn P w K tg (Itr lo n) [it] it (fun i h=>IsRangeIter h it (lo+(i:Nat)*1) ((n:Int) - (i:Nat)) 1) where
 mem:=by simp
 obj:=fun i h st b hb=>by
  have e:b=it:=by simpa using hb
  subst e
  exact⟨_,st,fun v z=>by
   have z':Data.fields _=Data.cell v:=z
   cases z'⟩
 keep:=fun i h h' st k=>k it (by simp) _ st
 item:=by
  intro X hP hw hK hc i pins s Y H E I hf st hg;subst hP hw hK
  obtain⟨f0,f1,f2,f3,f4,f5⟩:=hf it (by simp)
  have W:=Walks.range (prog:=X.prog) (w:=X.w) (I.ok.hd hc) it lo 1 n;refine W.item i s _ _ hg st fun v h' tk hv st' kk=>?_;obtain⟨t,rfl⟩:=hv
  have I1:Inv X pins Y H { s with heap:=h',toks:=tk }:=I.turned (fun b o hb e=>kk b o (by simpa using hb) e) f0 f1 f3 f4 f5
  refine⟨_,rfl,QeN (s:={ s with heap:=h',toks:=tk }) (n:="range_iterator") st' rfl rfl (by decide) ⟨.int (lo+i),H,I1,⟨t,?_⟩,⟨rfl,rfl⟩,st',fun b hb=>(hf b hb).1⟩⟩
  rw [Int.mul_one]
 done:=by
  intro X hP hw hK hc i pins s Y H E I hf st hg;subst hP hw hK
  obtain⟨f0,f1,f2,f3,f4,f5⟩:=hf it (by simp)
  exact wpAny_pyNext_range_end (I.ok.hd hc) st (by have:n<=i:=hg;omega) fun h' eb=>⟨rfl,I.turned (t':=s.toks) (fun b o hb e=>eb b o hb e) f0 f1 f3 f4 f5⟩
 self:=fun _ _ _ _ _ st h=>wpAny_pyIter_rangeiter st h
end
section
variable {H:Hp}{pins:List (Addr×Obj)}{fp:List Addr}{pos:Pos}{s:Shared}{Y:St}
section
variable {X:Cx}{tg:Expr}
def Qmc(K:W.Frag)(tl:TE):TI:=fun Y H R=>tl Y H fun x H1=>∃a,x=.ref a/\(∃xs,SqL K H1 a xs)/\R (Itl K a) H1
def QoD(K:W.Frag)(tl:TE):TI:=fun Y H R=>tl Y H fun x H1=>∃a,x=.ref a/\(∃xs,SqT K H1 a xs)/\R (Itt K a) H1
theorem QgI{l:Expr}{tl:TE}(hl:PE X l tl):PI X tg l (Qmc X.K tl):=by
 intro pins s Y H R I h;refine thn (hl pins s Y H _ I h) fun v s1 ⟨x,H1,I1,r1,q1⟩=>?_;obtain⟨a,e,⟨xs,hq⟩,q⟩:=q1;subst e;cases r1;obtain⟨its,rv,p,hz⟩:=I1.list hq;refine wpAny_pyIter_list p.isList ?_;refine⟨s1.heap.objs.size,[s1.heap.objs.size],_,_,H1,rfl,I1.kept (t':=s1.toks) fun b o e=>Heap.get?_push_of_some _ e,Qcw a _,⟨_,Heap.get?_push_size _ rfl,rfl,rfl⟩,fun b hb=>?_,q⟩
 have e:b=s1.heap.objs.size:=by simpa using hb
 subst e;exact I1.fpOk (Nat.le_refl _) (I1.hok.fresh (Nat.le_refl _))
theorem Qi5{l:Expr}{tl:TE}(hl:PE X l tl):PI X tg l (QoD X.K tl):=by
 intro pins s Y H R I h;refine thn (hl pins s Y H _ I h) fun v s1 ⟨x,H1,I1,r1,q1⟩=>?_;obtain⟨a,e,⟨xs,hq⟩,q⟩:=q1;subst e;cases r1;obtain⟨its,rv,p,hz⟩:=I1.tuple hq;refine wpAny_pyIter_tuple (show s1.heap.IsTuple a its.toArray from p) ?_;refine⟨s1.heap.objs.size,[s1.heap.objs.size],_,_,H1,rfl,I1.kept (t':=s1.toks) fun b o e=>Heap.get?_push_of_some _ e,QbK a _,⟨_,Heap.get?_push_size _ rfl,rfl,rfl⟩,fun b hb=>?_,q⟩
 have e:b=s1.heap.objs.size:=by simpa using hb
 subst e;exact I1.fpOk (Nat.le_refl _) (I1.hok.fresh (Nat.le_refl _))
theorem Qbh{R:It->Hp->Prop}{E:Value->Shared->Prop}{lo hi:Int}{t u v:Tok}{tk:Nat}(I:Inv X pins Y H s)(h1:-(2 ^ 62)<=lo)(h2:lo<2 ^ 62)(h3:-(2 ^ 62)<=hi)(h4:hi<2 ^ 62)
  (q:R (Itr lo (hi-lo).toNat) H):wpAny (model X.prog X.w) X.A (pyIter (.ref s.heap.objs.size)) (PIE X pins Y tg R) E { s with heap:=s.heap.push { cls:=.type "range",data:=.fields #[.int lo t,.int hi u,.int 1 v] },toks:=tk }:=by
 refine wpAny_pyIter_range (IsRange.new ..) (small_one h1 h2 h3 h4) ?_;have I1:Inv X pins Y H { s with heap:=s.heap.push { cls:=.type "range",data:=.fields #[.int lo t,.int hi u,.int 1 v] },toks:=tk }:=I.kept fun b o e=>Heap.get?_push_of_some _ e
 refine⟨(s.heap.push { cls:=.type "range",data:=.fields #[.int lo t,.int hi u,.int 1 v] }).objs.size,[(s.heap.push { cls:=.type "range",data:=.fields #[.int lo t,.int hi u,.int 1 v] }).objs.size],_,_,H,rfl,
  I1.kept (t':=tk) fun b o e=>Heap.get?_push_of_some _ e,QbL _ lo (hi-lo).toNat,?_,fun b hb=>?_,q⟩
 ·have e1:lo+((0:Nat):Int)*1=lo:=by simp
  have e2:(((hi-lo).toNat:Nat):Int) - ((0:Nat):Int)=Builtin.Range.rangeSize lo hi 1:=by rw [rangeSize_one];split<;>omega
  show IsRangeIter _ _ (lo+((0:Nat):Int)*1) ((((hi-lo).toNat:Nat):Int) - ((0:Nat):Int)) 1;rw [e1,e2];exact Heap.get?_push_size _ rfl
 ·have e:b=(s.heap.push { cls:=.type "range",data:=.fields #[.int lo t,.int hi u,.int 1 v] }).objs.size:=by simpa using hb
  subst e;exact I1.fpOk (Nat.le_refl _) (I1.hok.fresh (Nat.le_refl _))
def Qmb(ta:TA):TI:=fun Y H R=>ta Y H fun vs H1=>∃j:Int,vs=[.int j]/\-(2 ^ 62)<=j/\j<2 ^ 62/\R (Itr 0 j.toNat) H1
def Qma(ta:TA):TI:=fun Y H R=>ta Y H fun vs H1=>∃i j:Int,vs=[.int i,.int j]/\(-(2 ^ 62)<=i/\i<2 ^ 62/\-(2 ^ 62)<=j/\j<2 ^ 62)/\R (Itr i (j-i).toNat) H1
theorem Qc0{a:Expr}{ta:TA}{p:Pos}(hg:Gl X "range") (hm:X.mg "range"=none) (ha:PA X [a] ta) (hs:starEach [a] X.env=[(false,eval a X.env)]:=by rfl):PI X tg (.Call (.Name "range" p) [a] [] pos) (Qmb ta):=by
 intro pins s Y H R I h;refine Call_ (ZB I hg hm boot_range (PyProof.Rows.callWith_type1 (thn (ha pos pins s Y H _ I h) fun us s1 ⟨vs,H1,I1,r1,q1⟩=>?_) hs rfl));obtain⟨j,e,q1,q2,q⟩:=q1;subst e
 cases r1 with
 | cons r rr =>
  cases rr;obtain⟨t,rfl⟩:=r
  exact call_range_1 (Qbh I1 (by omega) (by omega) q1 q2 (by simpa using q))
theorem QcZ{a b:Expr}{ta:TA}{p:Pos}(hg:Gl X "range") (hm:X.mg "range"=none) (ha:PA X [a,b] ta) (hs:starEach [a,b] X.env=[(false,eval a X.env),(false,eval b X.env)]:=by rfl) (hs2:starEach [b] X.env=[(false,eval b X.env)]:=by rfl):
  PI X tg (.Call (.Name "range" p) [a,b] [] pos) (Qma ta):=by
 intro pins s Y H R I h
 refine Call_ (ZB I hg hm boot_range (PyProof.Rows.callWith_type1 (thn (ha pos pins s Y H _ I h) fun us s1 ⟨vs,H1,I1,r1,q1⟩=>?_) (by rw [hs,hs2]) (by rw [hs2];rfl)))
 obtain⟨i,j,e,⟨q1,q2,q3,q4⟩,q⟩:=q1;subst e
 cases r1 with
 | cons r rr =>
  cases rr with
  | cons r' rr =>
   cases rr;obtain⟨t,rfl⟩:=r;obtain⟨t',rfl⟩:=r';exact call_range_2 (Qbh I1 q1 q2 q3 q4 q)
def Qog(wi:TI)(g:TG)(tb:TS):TS:=fun D Y H=>wi Y H fun J H1=>∃W:Nat->Nat->St->Hp->Prop,(∃m,W 0 m Y H1)/\∀i m Y H,W i m Y H ->
 (J.stop i H/\D.nx Y H)\/(J.go i H/\∃N:St->Hp->Prop,(∀Y' H',N Y' H'->∃m',m'<m/\W (i+1) m' Y' H')/\∀x H',J.yld i H x H'->g x Y H' fun σ2 H2=>tb { D with nx:=N,ct:=N,bk:=D.nx } σ2 H2)
noncomputable def Yq(fp:List Addr)(h:Heap):List (Addr×Obj):=fp.filterMap fun b=>(h.get? b).map fun o=>(b,o)
theorem Zf{h:Heap}{b:Addr}{o:Obj}(hb:b∈fp)(e:h.get? b=some o):(b,o)∈Yq fp h:=List.mem_filterMap.mpr ⟨b,hb,by rw [e];rfl⟩
theorem Qc8{h:Heap}{p:Addr×Obj}(hp:p∈Yq fp h):p.1∈fp/\h.get? p.1=some p.2:=by
 obtain⟨b,hb,e⟩:=List.mem_filterMap.mp hp
 cases q:h.get? b with
 | none=>rw [q]at e;cases e
 | some o =>
  rw [q]at e;have e':(b,o)=p:=Option.some.inj e;subst e';exact⟨hb,q⟩
theorem Inv.pinned(I:Inv X pins Y H s)(hf:∀b∈fp,Qa1 X pins H b)(ho:∀b∈fp,∃o,s.heap.get? b=some o/\∀v,o.data≠.cell v):Inv X (pins++Yq fp s.heap) Y H s :=
 I.pins_of fun p hp=>(List.mem_append.mp hp).elim (fun z=>I.pin p (List.mem_append_right _ z)) fun z=>by
  obtain⟨hb,e⟩:=Qc8 z;obtain⟨f0,f1,f2,_⟩:=hf p.1 hb;obtain⟨o,e',d⟩:=ho p.1 hb;rw [e]at e';cases e';exact⟨e,f0,f1,f2,d⟩
theorem Inv.unpinned{pl:List (Addr×Obj)}(I:Inv X (pins++pl) Y H s):Inv X pins Y H s:=I.pins_of fun p hp=>I.pin p (List.mem_append_right _ (List.mem_append_left _ hp))
theorem Qft{iter:Expr}{body:List Stmt}{wi:TI}{g:TG}{tb:TS}(hp:PassesOwn (model X.prog X.w) X.A X.env X.xe)(hc:X.calm=true)(hi:PI X tg iter wi)(hg:PG X tg g)(hb:PSs X body tb)
  (hs:∀x,foldedSetIterable iter X.env x=pure x:=by intro _;rfl):PS X (.For tg iter body [] pos) (Qog wi g tb):=by
 intro pins s Y H D I h;refine wpAny_For (thn (hi pins s Y H _ I h) fun v s1 h1=>thn h1 fun itv s2 h2=>?_) hs;obtain⟨it,fp,tn,J,H2,e,I2,T,st2,f2,W,⟨m0,w0⟩,turn⟩:=h2;subst e
 have stat:∀{H':Hp},(∀b∈fp,H' b=none)->∀b∈fp,Qa1 X pins H' b:=fun hn b hb=>⟨hn b hb,(f2 b hb).2⟩;refine codeAny_forLoop_any (fun n s'=>∃i Y' H',Inv X pins Y' H' s'/\tn i s'.heap/\(∀b∈fp,H' b=none)/\W i n Y' H') ?_ m0 ⟨0,Y,H2,I2,st2,fun b hb=>(f2 b hb).1,w0⟩;rintro n s3 ⟨i,σ3,H3,I3,st3,fr3,w3⟩
 rcases turn i n σ3 H3 w3 with⟨stop,qn⟩|⟨go,N,hN,step⟩
 ·refine wpAny_passesOwn hp (thn (T.done X rfl rfl rfl hc i pins s3 σ3 H3 X.xe I3 (stat fr3) st3 stop) fun r s4 ⟨hr,I4⟩=>?_);subst hr;exact wpAny_execs_nil ⟨σ3,H3,I4,qn⟩
 ·refine wpAny_passesOwn hp (thn (T.item X rfl rfl rfl hc i pins s3 σ3 H3 X.xe I3 (stat fr3) st3 go) fun r s4 ⟨u,hr,h4⟩=>?_);subst hr;refine wpAny_passesOwn hp (thn h4 fun _ s5 ⟨x,H5,I5,r5,y5,st5,fr5⟩=>?_);have I5':=I5.pinned (stat fr5) (T.obj _ _ st5);refine wpAny_passesOwn hp (thn (hg _ s5 σ3 H5 x u _ I5' r5 (step x H5 y5)) fun _ s6 ⟨σ6,H6,I6,q6⟩=>?_);refine wpAny_passesOwn hp (thn (hb _ s6 σ6 H6 _ I6 q6) fun f s7 q7=>?_)
  have again:∀{σ7:St} {H7:Hp},Inv X (pins++Yq fp s5.heap) σ7 H7 s7->N σ7 H7->∃m,m<n/\∃i Y' H',Inv X pins Y' H' s7/\tn i s7.heap/\(∀b∈fp,H' b=none)/\W i m Y' H':=fun {σ7 H7} I7 n7=>by
   obtain⟨m',hm,w7⟩:=hN σ7 H7 n7;refine⟨m',hm,i+1,σ7,H7,I7.unpinned,T.keep _ _ _ st5 fun b hb o e=>(I7.pin (b,o) (List.mem_append_right _ (List.mem_append_right _ (Zf hb e)))).1,fun b hb=>?_,w7⟩;obtain⟨o,e,d⟩:=T.obj _ _ st5 b hb;exact(I7.pin (b,o) (List.mem_append_right _ (List.mem_append_right _ (Zf hb e)))).2.1
  cases f with
  | next=>obtain⟨σ7,H7,I7,n7⟩:=q7;exact again I7 n7
  | cont=>obtain⟨σ7,H7,I7,n7⟩:=q7;exact again I7 n7
  | brk=>obtain⟨σ7,H7,I7,q7⟩:=q7;exact⟨σ7,H7,I7.unpinned,q7⟩
  | ret v=>obtain⟨x7,σ7,H7,I7,r7,q7⟩:=q7;exact⟨x7,σ7,H7,I7.unpinned,r7,q7⟩
end
end
section
variable {f:Value->Value->Sem Value}
noncomputable abbrev R2:=V->V->Hp->VK->Prop
noncomputable def OpR(X:Cx)(f:Value->Value->Sem Value)(r:R2):Prop :=
 ∀(pins:List (Addr×Obj)) (s:Shared) (Y:St) (H:Hp) (x y:V) (v u:Value) (Q:VK),Inv X pins Y H s->RelV x v->RelV y u->r x y H Q ->
  wpAny (model X.prog X.w) X.A (f v u) (EP X pins Y Q) X.xe s
noncomputable def UnR(X:Cx)(f:Value->Sem Value)(r:V->Hp->VK->Prop):Prop :=
 ∀(pins:List (Addr×Obj)) (s:Shared) (Y:St) (H:Hp) (x:V) (v:Value) (Q:VK),Inv X pins Y H s->RelV x v->r x H Q ->
  wpAny (model X.prog X.w) X.A (f v) (EP X pins Y Q) X.xe s
noncomputable def CallR(X:Cx)(f:Value)(r:List V->Hp->VK->Prop):Prop :=
 ∀(pins:List (Addr×Obj)) (s:Shared) (Y:St) (H:Hp) (xs:List V) (us:List Value) (Q:VK),Inv X pins Y H s->Vals xs us->r xs H Q ->
  wpAny (model X.prog X.w) X.A (call f us) (EP X pins Y Q) X.xe s
noncomputable def Qpb(X:Cx)(r:V->Hp->(Bool->Hp->Prop)->Prop):Prop :=
 ∀(pins:List (Addr×Obj)) (s:Shared) (Y:St) (H:Hp) (x:V) (v:Value) (Q:Bool->Hp->Prop),Inv X pins Y H s->RelV x v->r x H Q ->
  wpAny (model X.prog X.w) X.A (truthy v) (TP X pins Y Q) X.xe s
def tOp(r:R2)(ta tb:TE):TE:=fun Y H Q=>ta Y H fun x H1=>tb Y H1 fun y H2=>r x y H2 Q
def tUn(r:V->Hp->VK->Prop)(ta:TE):TE:=fun Y H Q=>ta Y H fun x H1=>r x H1 Q
def rI(C:Int->Int->Prop)(g:Int->Int->V):R2:=fun x y H Q=>∃i j,x=.int i/\y=.int j/\C i j/\Q (g i j) H
def rI0(g:Int->Int->V):R2:=fun x y H Q=>∃i j,x=.int i/\y=.int j/\Q (g i j) H
def rU(g:Int->V):V->Hp->VK->Prop:=fun x H Q=>∃i,x=.int i/\Q (g i) H
section
variable {X:Cx}{a b:Expr}{ta tb:TE}{pos:Pos}
theorem QmJ(ha:PE X a ta)(hb:PE X b tb){pins:List (Addr×Obj)}{s:Shared}{Y:St}{H:Hp}{R:V->V->Hp->Prop}(I:Inv X pins Y H s)
  (h:ta Y H fun x H1=>tb Y H1 fun y H2=>R x y H2) {Q:Value->Shared->Prop}
  (hf:∀v u s2 x y H2,Inv X pins Y H2 s2->RelV x v->RelV y u->R x y H2->wpAny (model X.prog X.w) X.A (f v u) Q X.xe s2):
  wpAny (model X.prog X.w) X.A (eval a X.env) (fun v s₁=>wpAny (model X.prog X.w) X.A (eval b X.env) (fun u s₂=>wpAny (model X.prog X.w) X.A (f v u) Q X.xe s₂) X.xe s₁) X.xe s:=by
 refine thn (ha pins s Y H _ I h) fun v s1 ⟨x,H1,I1,r1,q1⟩=>?_;refine thn (hb pins s1 Y H1 _ I1 q1) fun u s2 ⟨y,H2,I2,r2,q2⟩=>?_;exact hf v u s2 x y H2 I2 r1 r2 q2
theorem QlK{op:Operator}{r:R2}(ho:OpR X (binaryOp op) r)(ha:PE X a ta)(hb:PE X b tb):PE X (.BinOp a op b pos) (tOp r ta tb):=by
 intro pins s Y H Q I h;exact wpAny_BinOp (QmJ ha hb I h fun v u s2 x y H2 I2 rx ry q=>ho pins s2 Y H2 x y v u Q I2 rx ry q)
theorem QlI{op:UnaryOp}{r:V->Hp->VK->Prop}(ho:UnR X (unaryOp op) r)(ha:PE X a ta):PE X (.UnaryOp op a pos) (tUn r ta):=by
 intro pins s Y H Q I h;exact UnaryOp_ (thn (ha pins s Y H _ I h) fun v s1 ⟨x,H1,I1,r1,q1⟩=>ho pins s1 Y H1 x v Q I1 r1 q1)
theorem opI{C:Int->Int->Prop}{g:Int->Int->Int}
  (rule:∀(i j:Int) (t u:Tok) (s:Shared) (Q:Value->Shared->Prop) (E:Value->Shared->Prop),C i j->Q (.int (g i j) s.toks) { s with toks:=s.toks+1 }->wpAny (model X.prog X.w) X.A (f (.int i t) (.int j u)) Q E s):
  OpR X f (rI C fun i j=>.int (g i j)):=by
 intro pins s Y H x y v u Q I rx ry h;obtain⟨i,j,rfl,rfl,hc,q⟩:=h;obtain⟨t,rfl⟩:=rx;obtain⟨t',rfl⟩:=ry;exact rule i j t t' s _ _ hc ⟨.int (g i j),H,I.tok _,⟨_,rfl⟩,q⟩
theorem QkO{g:Int->Int->Int}
  (rule:∀(i j:Int) (t u:Tok) (s:Shared) (Q:Value->Shared->Prop) (E:Value->Shared->Prop),Q (.int (g i j) s.toks) { s with toks:=s.toks+1 }->wpAny (model X.prog X.w) X.A (f (.int i t) (.int j u)) Q E s):
  OpR X f (rI0 fun i j=>.int (g i j)):=by
 intro pins s Y H x y v u Q I rx ry h;obtain⟨i,j,rfl,rfl,q⟩:=h;obtain⟨t,rfl⟩:=rx;obtain⟨t',rfl⟩:=ry;exact rule i j t t' s _ _ ⟨.int (g i j),H,I.tok _,⟨_,rfl⟩,q⟩
theorem QkP{g:Int->Int->Bool}
  (rule:∀(i j:Int) (t u:Tok) (s:Shared) (Q:Value->Shared->Prop) (E:Value->Shared->Prop),Q (.bool (g i j)) s->wpAny (model X.prog X.w) X.A (f (.int i t) (.int j u)) Q E s):
  OpR X f (rI0 fun i j=>.bl (g i j)):=by
 intro pins s Y H x y v u Q I rx ry h;obtain⟨i,j,rfl,rfl,q⟩:=h;obtain⟨t,rfl⟩:=rx;obtain⟨t',rfl⟩:=ry;exact rule i j t t' s _ _ ⟨.bl (g i j),H,I,rfl,q⟩
def CMul(i j:Int):Prop:=(-(2 ^ 64) < i/\i<2 ^ 64)\/(-(2 ^ 64) < j/\j<2 ^ 64)
theorem CMul.ok{i j:Int}(h:CMul i j):IntMulOk i j:=by
 rcases h with⟨h1,h2⟩|⟨h1,h2⟩
 ·exact .of_left (intBits_le_64 h1 h2)
 ·exact .of_right (intBits_le_64 h1 h2)
theorem Qjs:OpR X (binaryOp .Add) (rI0 fun i j=>.int (i+j)):=QkO fun _ _ _ _ _ _ _ q=>add_int q
theorem Qjj:OpR X (binaryOp .Sub) (rI0 fun i j=>.int (i-j)):=QkO fun _ _ _ _ _ _ _ q=>sub_int q
theorem Qjm:OpR X (binaryOp .Mod) (rI (fun _ j=>0<j) fun i j=>.int (i % j)):=opI fun i j _ _ _ _ _ hc q=>by
 have h1:(0:Int) < j:=hc
 exact mod_int' (by omega) (by rw [Int.fmod_eq_emod_of_nonneg i (by omega)];exact q)
theorem Qhk:OpR X (inplaceOp .Add) (rI0 fun i j=>.int (i+j)):=QkO fun _ _ _ _ _ _ _ q=>iadd_int q
theorem Qhj:OpR X (inplaceOp .Sub) (rI0 fun i j=>.int (i-j)):=QkO fun _ _ _ _ _ _ _ q=>isub_int q
theorem unI{f:Value->Sem Value}{g:Int->Int}
  (rule:∀(i:Int) (t:Tok) (s:Shared) (Q:Value->Shared->Prop) (E:Value->Shared->Prop),Q (.int (g i) s.toks) { s with toks:=s.toks+1 }->wpAny (model X.prog X.w) X.A (f (.int i t)) Q E s):
  UnR X f (rU fun i=>.int (g i)):=by
 intro pins s Y H x v Q I rx h;obtain⟨i,rfl,q⟩:=h;obtain⟨t,rfl⟩:=rx;exact rule i t s _ _ ⟨.int (g i),H,I.tok _,⟨_,rfl⟩,q⟩
theorem Qie:UnR X (unaryOp .USub) (rU fun i=>.int (-i)):=unI fun _ _ _ _ _ q=>neg_int q
end
noncomputable def Qls:V->V->Bool
 | .non,.non=>true|.non,.int _=>true|.int _,.non=>true|.non,.bl _=>true|.bl _,.non=>true|.non,.str _=>true|.str _,.non=>true
 | .int _,.int _=>true|.bl _,.bl _=>true|.str _,.str _=>true|.byt _,.byt _=>true
 | .int _,.str _=>true|.str _,.int _=>true|.bl _,.str _=>true|.str _,.bl _=>true
 | _,_=>false
def rEq:R2:=fun x y H Q=>Qls x y=true/\Q (.bl (decide (x=y))) H
def rNe:R2:=fun x y H Q=>Qls x y=true/\Q (.bl (!decide (x=y))) H
theorem QdC{i j:Int}:decide (V.int i=V.int j)=(i==j):=by
 rw [Bool.eq_iff_iff];simp
theorem QfN{i j:Bool}:decide (V.bl i=V.bl j)=(i==j):=by
 rw [Bool.eq_iff_iff];simp
theorem QdB{i j:Str}:decide (V.str i=V.str j)=(i==j):=by
 rw [Bool.eq_iff_iff];simp
theorem QdD{i j:Array UInt8}:decide (V.byt i=V.byt j)=(i.toList==j.toList):=by
 rw [Bool.eq_iff_iff];cases i;cases j;simp
section
variable {X:Cx}{a b c:Expr}{ta tb:TE}{pos:Pos}
theorem Qu{pins:List (Addr×Obj)}{Y:St}{H:Hp}{s:Shared}{Q:VK}{k k':Bool}(I:Inv X pins Y H s)(q:Q (.bl k) H)(e:k=k'):EP X pins Y Q (.bool k') s:=by
 subst e;exact⟨.bl k,H,I,rfl,q⟩
theorem QlT:OpR X (compareOp .Eq) rEq:=by
 intro pins s Y H x y v u Q I rx ry h;obtain⟨hs,q⟩:=h
 cases x with
 | non =>
  cases rx
  cases y with
  | non=>cases ry;exact PySem.EqNone.eq_none_none (Qu I q (by simp))
  | bl j=>cases ry;exact PySem.EqNone.eq_none_bool (Qu I q (by simp))
  | int j=>obtain⟨t',rfl⟩:=ry;exact PySem.EqNone.eq_none_int (Qu I q (by simp))
  | str j=>obtain⟨t',rfl⟩:=ry;exact PySem.EqNone.eq_none_str (Qu I q (by simp))
  | _=>exact absurd (show false=true from hs) Bool.false_ne_true
 | bl i =>
  cases rx
  cases y with
  | non=>cases ry;exact PySem.EqNone.eq_bool_none (Qu I q (by simp))
  | bl j=>cases ry;exact eq_bool (Qu I q QfN)
  | str j=>obtain⟨t',rfl⟩:=ry;exact PySem.EqMixed.eq_bool_str (Qu I q (by simp))
  | _=>exact absurd (show false=true from hs) Bool.false_ne_true
 | int i =>
  obtain⟨t,rfl⟩:=rx
  cases y with
  | non=>cases ry;exact PySem.EqNone.eq_int_none (Qu I q (by simp))
  | int j=>obtain⟨t',rfl⟩:=ry;exact eq_int (Qu I q QdC)
  | str j=>obtain⟨t',rfl⟩:=ry;exact PySem.EqMixed.eq_int_str (Qu I q (by simp))
  | _=>exact absurd (show false=true from hs) Bool.false_ne_true
 | str i =>
  obtain⟨t,rfl⟩:=rx
  cases y with
  | non=>cases ry;exact PySem.EqNone.eq_str_none (Qu I q (by simp))
  | bl j=>cases ry;exact PySem.EqMixed.eq_str_bool (Qu I q (by simp))
  | int j=>obtain⟨t',rfl⟩:=ry;exact PySem.EqMixed.eq_str_int (Qu I q (by simp))
  | str j=>obtain⟨t',rfl⟩:=ry;exact eq_str (Qu I q QdB)
  | _=>exact absurd (show false=true from hs) Bool.false_ne_true
 | byt i =>
  obtain⟨t,rfl⟩:=rx
  cases y with
  | byt j=>obtain⟨t',rfl⟩:=ry;exact W.eq_bytes (Qu I q QdD)
  | _=>exact absurd (show false=true from hs) Bool.false_ne_true
 | _=>cases y<;>exact absurd (show false=true from hs) Bool.false_ne_true
theorem QlO:OpR X (compareOp .NotEq) rNe:=by
 intro pins s Y H x y v u Q I rx ry h;obtain⟨hs,q⟩:=h
 cases x with
 | non =>
  cases rx
  cases y with
  | non=>cases ry;exact PySem.EqNone.ne_none_none (Qu I q (by simp))
  | bl j=>cases ry;exact PySem.EqNone.ne_none_bool (Qu I q (by simp))
  | int j=>obtain⟨t',rfl⟩:=ry;exact PySem.EqNone.ne_none_int (Qu I q (by simp))
  | str j=>obtain⟨t',rfl⟩:=ry;exact PySem.EqNone.ne_none_str (Qu I q (by simp))
  | _=>exact absurd (show false=true from hs) Bool.false_ne_true
 | bl i =>
  cases rx
  cases y with
  | non=>cases ry;exact PySem.EqNone.ne_bool_none (Qu I q (by simp))
  | bl j=>cases ry;exact ne_bool (Qu I q (congrArg not QfN))
  | str j=>obtain⟨t',rfl⟩:=ry;exact PySem.EqMixed.ne_bool_str (Qu I q (by simp))
  | _=>exact absurd (show false=true from hs) Bool.false_ne_true
 | int i =>
  obtain⟨t,rfl⟩:=rx
  cases y with
  | non=>cases ry;exact PySem.EqNone.ne_int_none (Qu I q (by simp))
  | int j=>obtain⟨t',rfl⟩:=ry;exact ne_int (Qu I q (congrArg not QdC))
  | str j=>obtain⟨t',rfl⟩:=ry;exact PySem.EqMixed.ne_int_str (Qu I q (by simp))
  | _=>exact absurd (show false=true from hs) Bool.false_ne_true
 | str i =>
  obtain⟨t,rfl⟩:=rx
  cases y with
  | non=>cases ry;exact PySem.EqNone.ne_str_none (Qu I q (by simp))
  | bl j=>cases ry;exact PySem.EqMixed.ne_str_bool (Qu I q (by simp))
  | int j=>obtain⟨t',rfl⟩:=ry;exact PySem.EqMixed.ne_str_int (Qu I q (by simp))
  | str j=>obtain⟨t',rfl⟩:=ry;exact ne_str (Qu I q (congrArg not QdB))
  | _=>exact absurd (show false=true from hs) Bool.false_ne_true
 | byt i =>
  obtain⟨t,rfl⟩:=rx
  cases y with
  | byt j=>obtain⟨t',rfl⟩:=ry;exact W.ne_bytes (Qu I q (congrArg not QdD))
  | _=>exact absurd (show false=true from hs) Bool.false_ne_true
 | _=>cases y<;>exact absurd (show false=true from hs) Bool.false_ne_true
theorem QlP:OpR X (compareOp .Lt) (rI0 fun i j=>.bl (decide (i<j))):=QkP fun _ _ _ _ _ _ _ q=>lt_int q
theorem QlQ:OpR X (compareOp .LtE) (rI0 fun i j=>.bl (decide (i<=j))):=QkP fun _ _ _ _ _ _ _ q=>le_int q
theorem QlR:OpR X (compareOp .Gt) (rI0 fun i j=>.bl (decide (j<i))):=QkP fun _ _ _ _ _ _ _ q=>gt_int q
theorem QlS:OpR X (compareOp .GtE) (rI0 fun i j=>.bl (decide (j<=i))):=QkP fun _ _ _ _ _ _ _ q=>ge_int q
theorem Qjn:OpR X (compareOp .Is) (fun x y H Q=>y=.non/\Q (.bl (decide (x=.non))) H):=by
 intro pins s Y H x y v u Q I rx ry h;obtain⟨rfl,q⟩:=h;cases ry;refine is_none_gen (Qu I q ?_)
 cases x<;>first
  | (cases rx;rfl)
  | (obtain⟨t,rfl⟩:=rx;rfl)
theorem QgQ:OpR X (compareOp .IsNot) (fun x y H Q=>y=.non/\Q (.bl (!decide (x=.non))) H):=by
 intro pins s Y H x y v u Q I rx ry h;obtain⟨rfl,q⟩:=h;cases ry;refine isnot_none_gen (Qu I q ?_)
 cases x<;>first
  | (cases rx;rfl)
  | (obtain⟨t,rfl⟩:=rx;rfl)
theorem OpR.or{r r':R2}(h:OpR X f r)(h':OpR X f r'):OpR X f (fun x y H Q=>r x y H Q\/r' x y H Q):=by
 intro pins s Y H x y v u Q I rx ry q
 rcases q with q|q
 ·exact h pins s Y H x y v u Q I rx ry q
 ·exact h' pins s Y H x y v u Q I rx ry q
theorem QgM{op:CmpOp}{r:R2}(ho:OpR X (compareOp op) r)(ha:PE X a ta)(hb:PE X b tb)(hm:behindInMarks op b=false):PE X (.Compare a [op] [b] pos) (tOp r ta tb):=by
 intro pins s Y H Q I h;exact wpAny_Compare1 (QmJ ha hb I h fun v u s2 x y H2 I2 rx ry q=>ho pins s2 Y H2 x y v u Q I2 rx ry q) hm
def Qli(t:TE):TT:=fun Y H Q=>t Y H fun x H'=>∃k,x=.bl k/\Q k H'
theorem Qgz{op:CmpOp}{r:R2}(ho:OpR X (compareOp op) r)(ha:PE X a ta)(hb:PE X b tb)(hm:behindInMarks op b=false):PT X (.Compare a [op] [b] pos) (Qli (tOp r ta tb)):=by
 intro pins s Y H Q I h
 refine wpAny_isTrue_Compare1 (thn (ha pins s Y H _ I h) fun v s1 ⟨x,H1,I1,r1,q1⟩=>thn (hb pins s1 Y H1 _ I1 q1) fun u s2 ⟨y,H2,I2,r2,q2⟩=>
  thn (ho pins s2 Y H2 x y v u _ I2 r1 r2 q2) fun c s3 ⟨z,H3,I3,r3,k,e,q3⟩=>?_) hm
 subst e;cases r3;exact wpAny_truthy_bool ⟨H3,I3,q3⟩
noncomputable def QkB(K:W.Frag)(x:V)(H:Hp)(k:Bool):Prop :=
 match x with
 | .non=>k=false
 | .bl b=>k=b
 | .int i=>k=(i != 0)
 | .str y=>y.length<=sizeLine/\k=((y.length:Int) != 0)
 | .byt y=>y.size<=sizeLine/\k=((y.size:Int) != 0)
 | .ref p=>(∃xs,SqL K H p xs/\k=!xs.isEmpty)\/(∃xs,SqT K H p xs/\k=!xs.isEmpty)\/∃kvs,H p=some (.dK kvs)/\k=!kvs.isEmpty
 | _=>False
theorem Qb5{κ:Type}{kvs:List (κ×V)}{vs:List (κ×Value)}(r:KV kvs vs):(!vs.isEmpty)=!kvs.isEmpty:=by
 cases r<;>rfl
theorem YY{xs:List V}{its:List Value}(r:Vals xs its):(!its.toArray.isEmpty)=!xs.isEmpty:=by
 cases r<;>simp
theorem YX:(sizeLine:Nat) < 2 ^ 63:=by rw [sizeLine_eq];decide
theorem Qfj:Qpb X (fun x H Q=>∃k,QkB X.K x H k/\Q k H):=by
 intro pins s Y H x v Q I rx h;obtain⟨k,e,q⟩:=h;have hl:=YX;have hs:sizeLine=16777216:=sizeLine_eq
 cases x with
 | non =>
  cases rx;have e':k=false:=e;subst e';exact truthy_none ⟨H,I,q⟩
 | bl b =>
  cases rx;have e':k=b:=e;subst e';exact wpAny_truthy_bool ⟨H,I,q⟩
 | int i =>
  obtain⟨t,rfl⟩:=rx;have e':k=(i != 0):=e;subst e';exact PySem.P.truthy_int ⟨H,I,q⟩
 | str y =>
  obtain⟨t,rfl⟩:=rx;obtain⟨hy,e'⟩:y.length<=sizeLine/\k=((y.length:Int) != 0):=e;subst e'
  exact PySem.P.truthy_str (by omega) ⟨H,I.tok _,q⟩
 | byt y =>
  obtain⟨t,rfl⟩:=rx;obtain⟨hy,e'⟩:y.size<=sizeLine/\k=((y.size:Int) != 0):=e;subst e'
  exact W.truthy_bytes (by omega) ⟨H,I.tok _,q⟩
 | ref p =>
  cases rx;have e':(∃xs,SqL X.K H p xs/\k=!xs.isEmpty)\/(∃xs,SqT X.K H p xs/\k=!xs.isEmpty)\/∃kvs,H p=some (.dK kvs)/\k=!kvs.isEmpty:=e
  rcases e' with⟨xs,hx,e'⟩|⟨xs,hx,e'⟩|⟨kvs,hx,e'⟩
  ·subst e';obtain⟨its,r,pl,hz⟩:=I.list hx;have hlen:=r.length
   exact wpAny_truthy_list pl.isList (by simp only [List.size_toArray];omega) ⟨H,I.tok _,by rw [YY r];exact q⟩
  ·subst e';obtain⟨its,r,pl,hz⟩:=I.tuple hx;have hlen:=r.length
   exact truthy_tuple pl (by simp only [List.size_toArray];omega) ⟨H,I.tok _,by rw [YY r];exact q⟩
  ·subst e';obtain⟨hz,hS,vs,r,m⟩:kvs.length<=sizeLine/\(p==sysModules)=false/\∃vs,KV kvs vs/\s.heap.DictOf (Qv X.prog X.w) p vs:=I.hok p _ hx;have hlen:kvs.length=vs.length:=Paired.length r
   exact wpAny_truthy_dict hS m (by omega) ⟨H,I.tok _,by rw [Qb5 r];exact q⟩
 | _=>exact(show False from e).elim
theorem Qeo(ha:PE X a ta)(he:∀whole,isTrue a X.env whole=(do let v <-whole;standAt a.pos;holding [v] (truthy v))):
  PT X a (fun Y H Q=>ta Y H fun x H'=>∃k,QkB X.K x H' k/\Q k H'):=by
 intro pins s Y H Q I h;exact isTrue_plain (thn (ha pins s Y H _ I h) fun v s1 ⟨x,H1,I1,r1,q1⟩=>Qfj pins s1 Y H1 x v Q I1 r1 q1) (he _)
theorem Qaw{x:V}{us:List Value}(r:Vals [x] us):∃u,us=[u]/\RelV x u:=by
 cases r with
 | cons r1 r2=>cases r2;exact⟨_,rfl,r1⟩
theorem Qcr{x y:V}{us:List Value}(r:Vals [x,y] us):∃u w',us=[u,w']/\RelV x u/\RelV y w':=by
 cases r with
 | cons r1 r2 =>
  cases r2 with
  | cons r3 r4=>cases r4;exact⟨_,_,rfl,r1,r3⟩
end
end
section
variable {C dx:Addr}{A:Around}{X:Cx}{h:Heap}{H:Hp}{s:Shared}{f:Str}{mA:Str->Option Value}{v:V}{u:Value}{Q:Value->Shared->Prop}{w:World}
structure ObjM(h:Heap)(x dx C:Addr)(mA:Str->Option Value):Prop where
 obj:h.get? x=some (W.instObj C dx)
 ns:h.Ns1 dx mA
 ne:dx≠x
theorem Qdi(n:h.Ns1 dx mA):∃od,h.get? dx=some od/\∀name,W.lookIn name od=some (mA name):=by
 obtain⟨o,es,ep,ho,hd,hk,_,hm⟩:=n;refine⟨o,ho,fun name=>?_⟩;have e:=hm name;unfold nsFind findBy at e;rw [<-Array.find?_toList]at e;unfold W.lookIn;rw [hd];dsimp only;split
 ·rename_i y q;rw [q]at e;exact congrArg some e
 ·rename_i q;rw [q]at e
  have a:es.toList.any (·.refKey)=false:=by
   rw [List.any_eq_false];intro y hy;obtain⟨z,t,hkey⟩:=hk y (Array.mem_toList_iff.mp hy);simp [DictEntry.refKey,hkey]
  have a':¬es.toList.any (·.refKey)=true:=by rw [a];exact Bool.false_ne_true
  rw [if_neg a'];exact congrArg some e
theorem ObjM.look{x:Addr}(I:ObjM h x dx C mA):∃od,W.InstAt h x (W.instObj C dx) C (some od)/\∀name,W.lookIn name od=some (mA name):=
 let ⟨od,ho,hl⟩:=Qdi I.ns
 ⟨od,⟨I.obj,rfl,rfl,ho⟩,hl⟩
section
variable {prog:Program}{E:Value->Shared->Prop}{K:W.Frag}{x f:Addr}{name:Str}{v:Value}
theorem Qhm{expr:Bool}(X:K.In s.heap)(I:ObjM s.heap x dx C mA)(hg:W.plainGet K C name=true)(hh:W.hasDictIn K C=true)
  (ha:W.findIn K (.ref C) name=some none) (hv:mA name=some v) (hv':W.handedIn v=true) (h:Q v { s with toks:=s.toks+1 }):
  wpAny (model prog w) A (getAttr (.ref x) name expr) Q E s:=by
 obtain⟨od,J,hl⟩:=I.look
 exact W.get_value X J (W.plainGet_of hg).1 (W.findObj_own hh ha rfl (by rw [hl,hv])) hv' h
theorem QeO{pl:Sem Bool}{Q:Value×List Value->Shared->Prop}(X:K.In s.heap)(I:ObjM s.heap x dx C mA)(hg:W.plainGet K C name=true)
  (hf:W.findIn K (.ref C) name=some (some (.ref f))) (ht:W.isFn K (.ref f)=true) (hv:mA name=none) (h:Q (.ref f,[.ref x]) s):
  wpAny (model prog w) A (getMethod (.ref x) name pl) Q E s:=by
 obtain⟨od,J,hl⟩:=I.look
 exact W.method_fn X J (W.plainGet_of hg).1 (W.plainGet_of hg).2 hf (beq_iff_eq.mp ht) (by show(W.lookIn name od).map (·.isSome)=some false;rw [hl,hv];rfl) h
theorem Qgk{ns:List Str}{Q:Unit->Shared->Prop}(X:K.In s.heap)(I:ObjM s.heap x dx C mA)
  (hs:W.findIn K (.ref C) "__setattr__"=some (some (.builtin "object.__setattr__"))) (hp:W.plainOver K C=true) (ht:W.takerIn K C name=some none) (hh:W.hasDictIn K C=true)
  (hw:PySem.Within mA ns) (hsz:ns.length<=sizeLine)
  (h:∀h',ObjM h' x dx C (fun y=>if y=name then some v else mA y)->Heap.SameBut dx s.heap h'->Q () { s with heap:=h',toks:=s.toks+2 }):
  wpAny (model prog w) A (setAttr (.ref x) name v) Q E s:=by
 obtain⟨od,J,hl⟩:=I.look;refine W.set_plain X J hs (W.osa_open (s:={ s with toks:=s.toks+1 }) (r:=none) X J hp ht fun b=>?_);obtain⟨cd,hc,hd'⟩:=W.any_some hh;have hx:s.heap.get? x=some ⟨.ref C,some dx,.plain,#[]⟩:=I.obj;refine wpAny_bind (wpAny_pure (wpAny_bind (wpAny_bind (wpAny_loadPart hx (wpAny_bind (W.Looks.here (s:={ s with toks:=s.toks+1 }) (W.looks_clsIn X hc) ?_))))));rw [hd'];refine wpAny_pure (a:=some dx) (wpAny_bind (wpAny_pure (wpAny_bind ?_)));refine wpAny_nsSet1 (s:={ s with toks:=s.toks+1 }) I.ns fun h' hn2 hs2=>?_;obtain⟨oD,esD,epD,hoD,hdD,hcD⟩:=hn2.count (PySem.Within.cons name v hw)
 refine wpAny_bind (wpAny_lookBehind hoD (by rw [hdD];exact pastItsLine_dict (Nat.le_trans hcD (by rw [List.length_cons];omega))) ?_)
 exact wpAny_pure (h _ ⟨(hs2.2 _ (Ne.symm I.ne)).trans I.obj,hn2,I.ne⟩ hs2)
theorem QeF{R:Result->Shared->Prop}{vs:List Value}{kw:List (Str×Value)}(X:K.In s.heap)(hm:W.makesIn K C=true)
  (hi:W.findIn K (.ref C) "__init__"=some (some (.ref f))) (hf:W.typeIn K (.ref f)=some (.type "function"))
  (h:codeAny (model prog w) (A.under (.builtin "type.__call__" ⟨.ref C::vs,kw⟩)) (.call (.ref f) ⟨.ref (s.heap.objs.size+1)::vs,kw⟩) (W.InitBack (s.heap.objs.size+1) R)
   { s with heap:=(s.heap.push W.emptyDict).push (W.instObj C s.heap.objs.size) }):
  codeAny (model prog w) A (.call (.ref C) ⟨vs,kw⟩) R s:=by
 obtain⟨hh,g,d,t,os⟩:=s;exact W.make_core (W.makes_of X hm) (W.looks_findIn X hi) (fun self=>W.bind_fn X self hf) (.inl rfl) h
theorem Qdf{R:Result->Shared->Prop}(X:K.In s.heap)(hm:W.makesIn K C=true)
  (hi:W.findIn K (.ref C) "__init__"=some (some (.builtin "object.__init__")))
  (hb:∀self,W.Looks (model prog w) s.heap (bindSpecial (.builtin "object.__init__") self) (.builtin "object.__init__",[self]))
  (h:codeAny (model prog w) (A.under (.builtin "type.__call__" ⟨[.ref C],[]⟩)) (.call (.builtin "object.__init__") ⟨[.ref (s.heap.objs.size+1)],[]⟩) (W.InitBack (s.heap.objs.size+1) R)
   { s with heap:=(s.heap.push W.emptyDict).push (W.instObj C s.heap.objs.size) }):
  codeAny (model prog w) A (.call (.ref C) ⟨[],[]⟩) R s:=by
 obtain⟨hh,g,d,t,os⟩:=s;exact W.make_core (W.makes_of X hm) (W.looks_findIn X hi) hb (.inr ⟨rfl,rfl⟩) h
end
noncomputable def Jo(f:Str)(v:V):List (Str×V)->List (Str×V)
 | []=>[(f,v)]
 | (g,x)::r=>if g=f then(g,v)::r else(g,x)::Jo f v r
theorem Yt(f g:Str)(v:V):∀fs:List (Str×V),(Jo f v fs).lookup g=if g=f then some v else fs.lookup g
 | []=>by
  show List.lookup g [(f,v)]=_;by_cases h:g=f
  ·have hb:(g==f)=true:=beq_iff_eq.mpr h;simp only [List.lookup,hb,if_pos h]
  ·have hb:(g==f)=false:=beq_eq_false_iff_ne.mpr h;simp only [List.lookup,hb,if_neg h]
 | (k,x)::r=>by
  have ih:=Yt f g v r;rw [show Jo f v ((k,x)::r)=(if k=f then(k,v)::r else(k,x)::Jo f v r)from rfl];by_cases hk:k=f
  ·rw [if_pos hk];by_cases h:g=k
   ·have hb:(g==k)=true:=beq_iff_eq.mpr h;simp only [List.lookup,hb,if_pos (h.trans hk)]
   ·have hb:(g==k)=false:=beq_eq_false_iff_ne.mpr h;simp only [List.lookup,hb,if_neg (fun e:g=f=>h (e.trans hk.symm))]
  ·rw [if_neg hk];by_cases h:g=k
   ·have hb:(g==k)=true:=beq_iff_eq.mpr h;simp only [List.lookup,hb,if_neg (fun e:g=f=>hk (h.symm.trans e))]
   ·have hb:(g==k)=false:=beq_eq_false_iff_ne.mpr h;simp only [List.lookup,hb];exact ih
theorem Yw(f:Str)(v:V):∀fs:List (Str×V),f∈(Jo f v fs).map (·.1)/\∀g,g∈fs.map (·.1)->g∈(Jo f v fs).map (·.1)
 | []=>⟨by simp [Jo],fun g h=>by simp at h⟩
 | (k,x)::r=>by
  obtain⟨i1,i2⟩:=Yw f v r;rw [show Jo f v ((k,x)::r)=(if k=f then(k,v)::r else(k,x)::Jo f v r)from rfl];by_cases hk:k=f
  ·rw [if_pos hk];subst hk
   exact⟨by simp,fun g h=>by simpa using h⟩
  ·rw [if_neg hk];refine⟨?_,fun g h=>?_⟩
   ·rw [List.map_cons];exact List.mem_cons_of_mem _ i1
   ·rw [List.map_cons]at h ⊢
    rcases List.mem_cons.mp h with e|e
    ·exact List.mem_cons.mpr (.inl e)
    ·exact List.mem_cons_of_mem _ (i2 g e)
theorem Yu(f:Str)(v:V):∀fs:List (Str×V),(Jo f v fs).length<=fs.length+1
 | []=>by simp [Jo]
 | (k,x)::r=>by
  have ih:=Yu f v r;rw [show Jo f v ((k,x)::r)=(if k=f then(k,v)::r else(k,x)::Jo f v r)from rfl];by_cases hk:k=f
  ·rw [if_pos hk,List.length_cons,List.length_cons];omega
  ·rw [if_neg hk,List.length_cons,List.length_cons];omega
theorem RelO.some_of{o:Option Value}(r:RelO (some v) o):∃u,o=some u/\RelV v u:=by
 cases o with
 | none=>exact(show False from r).elim
 | some u=>exact⟨u,rfl,r⟩
theorem RelO.none_of{o:Option Value}(r:RelO none o):o=none:=by
 cases o with
 | none=>rfl
 | some u=>exact(show False from r).elim
theorem Qdr(r:RelV v u):W.handedIn u=true:=by
 cases v with
 | non=>cases(show u=Value.none from r);rfl
 | bl b=>cases(show u=Value.bool b from r);rfl
 | int i=>obtain⟨t,e⟩:=(show ∃t,u=Value.int i t from r);cases e;rfl
 | str x=>obtain⟨t,e⟩:=(show ∃t,u=Value.str x t from r);cases e;rfl
 | byt b=>obtain⟨t,e⟩:=(show ∃t,u=Value.bytes b t from r);cases e;rfl
 | flt b=>obtain⟨t,e⟩:=(show ∃t,u=Value.float b t from r);cases e;rfl
 | ref a=>cases(show u=Value.ref a from r);rfl
 | ty n=>cases(show u=Value.type n from r);rfl
section
variable {P:Program}{a:Addr}{fs:List (Str×V)}
theorem Jw(hok:HOk P w H h)(e:H a=some (.ins C dx fs)):∃mA,ObjM h a dx C mA/\(∀f,RelO (fs.lookup f) (mA f))/\PySem.Within mA (fs.map (·.1))/\fs.length<=1000/\H dx=some (.own a):=by
 obtain⟨d,z,ne,ob,mA,n,r,q⟩:=(show ObjOk P w H h a (.ins C dx fs)from hok a _ e);exact⟨mA,⟨ob,n,ne⟩,r,q,z,d⟩
end
structure Cls(K:W.Frag)(C:Addr):Prop where
 pg:W.plainGet K C Str.empty=true
 hd:W.hasDictIn K C=true
 po:W.plainOver K C=true
 sa:W.findIn K (.ref C) "__setattr__"=some (some (.builtin "object.__setattr__"))
theorem Cls.get{K:W.Frag}(c:Cls K C)(f:Str):W.plainGet K C f=true:=c.pg
def NoAttr(K:W.Frag)(C:Addr)(f:Str):Prop:=W.findIn K (.ref C) f=some none
theorem NoAttr.taker{K:W.Frag}(n:NoAttr K C f):W.takerIn K C f=some none:=by
 unfold W.takerIn;rw [show W.findIn K (.ref C) f=some none from n];rfl
structure Meth(K:W.Frag)(C:Addr)(m:Str)(f:Addr):Prop where
 at_:W.findIn K (.ref C) m=some (some (.ref f))
 fn:W.isFn K (.ref f)=true
 kp:W.keepIn K (.ref f)=true
section
variable {pins:List (Addr×Obj)}{Y:St}{a:Addr}{fs:List (Str×V)}{E:Value->Shared->Prop}
theorem Qb7{b:Bool}(I:Inv X pins Y H s)(e:H a=some (.ins C dx fs))(c:Cls X.K C)(n:NoAttr X.K C f)(l:fs.lookup f=some v)
  (h:∀u s',Inv X pins Y H s'->RelV v u->Q u s'):wpAny (model X.prog X.w) A (getAttr (.ref a) f b) Q E s:=by
 obtain⟨mA,O,r,_,_,_⟩:=Jw I.hok e
 obtain⟨u,hu,ru⟩:=RelO.some_of (v:=v) (o:=mA f) (by rw [<-l];exact r f)
 exact Qhm I.kIn O (c.get f) c.hd n hu (Qdr ru) (h u _ (I.tok _) ru)
theorem Qb6{m:Str}{g:Addr}{pl:Sem Bool}{Q:Value×List Value->Shared->Prop}(I:Inv X pins Y H s)(e:H a=some (.ins C dx fs))(c:Cls X.K C)(k:Meth X.K C m g)(l:fs.lookup m=none)
  (h:Q (.ref g,[.ref a]) s):wpAny (model X.prog X.w) A (getMethod (.ref a) m pl) Q E s:=by
 obtain⟨mA,O,r,_,_,_⟩:=Jw I.hok e
 have hn:mA m=none:=RelO.none_of (by rw [<-l];exact r m)
 exact QeO I.kIn O (c.get m) k.at_ k.fn hn h
theorem QbR{y:V}{Q:Unit->Shared->Prop}(I:Inv X pins Y H s)(e:H a=some (.ins C dx fs))(c:Cls X.K C)(n:NoAttr X.K C f)(hl:fs.length<1000)(ry:RelV y u)
  (h:∀s',Inv X pins Y (upd H a (.ins C dx (Jo f y fs))) s'->Q () s'):wpAny (model X.prog X.w) A (setAttr (.ref a) f u) Q E s:=by
 obtain⟨mA,O,r,wi,_,ho⟩:=Jw I.hok e
 have hz:(fs.map (·.1)).length<=sizeLine:=by rw [List.length_map,sizeLine_eq];omega
 refine Qgk I.kIn O c.sa c.po n.taker c.hd wi hz fun h' O' sb=>h _ ?_;have hd:∃o,h'.get? dx=some o:=let ⟨o,_,_,e',_⟩:=O'.ns;⟨o,e'⟩
 refine I.write (x:=a) (e:=dx) (by rw [e];exact True.intro) (.inr ho) (fun b q hb z=>(sb.2 b hb).trans z) hd ?_
 refine⟨by rw [Qe O.ne];exact ho,?_,O.ne,O'.obj,_,O'.ns,fun g=>?_,fun g hg=>?_⟩
 ·have:=Yu f y fs;omega
 ·show RelO ((Jo f y fs).lookup g) (if g=f then some u else mA g);rw [Yt];by_cases q:g=f
  ·rw [if_pos q,if_pos q];exact ry
  ·rw [if_neg q,if_neg q];exact r g
 ·by_cases q:g=f
  ·rw [q];exact(Yw f y fs).1
  ·refine(Yw f y fs).2 g (wi g fun z=>hg ?_);show(if g=f then some u else mA g)=none;rw [if_neg q];exact z
theorem Inv.made(I:Inv X pins Y H s):Inv X pins Y (upd (upd H s.heap.objs.size (.own (s.heap.objs.size+1))) (s.heap.objs.size+1) (.ins C s.heap.objs.size []))
  { s with heap:=(s.heap.push W.emptyDict).push (W.instObj C s.heap.objs.size) }:=by
 have e1:(s.heap.push W.emptyDict).get? s.heap.objs.size=some W.emptyDict:=Heap.get?_push_size s.heap rfl
 have e2:((s.heap.push W.emptyDict).push (W.instObj C s.heap.objs.size)).get? (s.heap.objs.size+1)=some (W.instObj C s.heap.objs.size):=by
  have:=Heap.get?_push_size (s.heap.push W.emptyDict) (o:=W.instObj C s.heap.objs.size) rfl;rwa [Heap.size_push]at this
 have e3:(s.heap.push W.emptyDict).Ns s.heap.objs.size (fun _=>none):=⟨W.emptyDict,#[],_,e1,rfl,(fun e he=>absurd he (by simp)),fun _=>rfl⟩
 have I1:=I.laid (a:=s.heap.objs.size) (o:=.own (s.heap.objs.size+1)) (h':=s.heap.push W.emptyDict) (t':=s.toks) (fun b u q=>Heap.get?_push_of_some _ q) (Nat.le_refl _) ⟨_,e1⟩;refine I1.laid (a:=s.heap.objs.size+1) (o:=.ins C s.heap.objs.size []) (t':=s.toks) (fun b u q=>Heap.get?_push_of_some _ q) (Nat.le_of_eq (Heap.size_push _ _)) ?_;have ne:s.heap.objs.size≠s.heap.objs.size+1:=Nat.ne_of_lt (Nat.lt_succ_self _)
 refine⟨by rw [Qe ne,Qi],Nat.zero_le _,ne,e2,fun _=>none,(Heap.Ns1.of_empty e3).at fun o q=>Heap.get?_push_of_some _ q,fun _=>True.intro,fun y hy=>absurd rfl hy⟩
theorem QhM{prog:Program}{env:Env}{e:Expr}{f:Str}{pos:Pos}{s:Shared}(hb:attributeBase e f env (eval e env)=eval e env)
  (h:wpAny (model prog w) A (eval e env) (fun o s₁=>wpAny (model prog w) A (getAttr o f true) Q E s₁) E s):wpAny (model prog w) A (eval (.Attribute e f pos) env) Q E s :=
 Attribute_any_ h (by rw [arm_eval_Attribute,hb])
end
def Qoh(K:W.Frag)(ta:TE)(f:Str):TE:=fun Y H Q=>ta Y H fun x H1=>∃a C dx fs v,x=.ref a/\H1 a=some (.ins C dx fs)/\Cls K C/\NoAttr K C f/\fs.lookup f=some v/\Q v H1
def Qop(K:W.Frag)(ta tv:TE)(f:Str):TS:=fun D Y H=>tv Y H fun y H1=>ta Y H1 fun x H2=>∃a C dx fs,x=.ref a/\H2 a=some (.ins C dx fs)/\Cls K C/\NoAttr K C f/\fs.length<1000 /\
 D.nx Y (upd H2 a (.ins C dx (Jo f y fs)))
section
variable {o e value:Expr}{pos pos':Pos}{ta tv:TE}
theorem Qjg(he:PE X e ta)(hb:attributeBase e f X.env (eval e X.env)=eval e X.env):PE X (.Attribute e f pos) (Qoh X.K ta f):=by
 intro pins s Y H Q I h;refine QhM hb (thn (he pins s Y H _ I h) fun u s1 ⟨x,H1,I1,rx,a,C,dx,fs,v,ex,ea,c,n,l,q⟩=>?_);subst ex;obtain rfl:u=Value.ref a:=rx;exact Qb7 I1 ea c n l fun u' s2 I2 ru=>⟨v,H1,I2,ru,q⟩
theorem Qi2(ha:PE X o ta)(hv:PE X value tv)(hs:swapsWith value (some (.Attribute o f pos')) pos.line X.env=pure false):PS X (.Assign [.Attribute o f pos'] value pos) (Qop X.K ta tv f):=by
 intro pins s Y H D I h;refine plainObj_wpAny_Assign_Attribute (thn (hv pins s Y H _ I h) fun u s1 ⟨y,H1,I1,ry,q⟩=>thn (ha pins s1 Y H1 _ I1 q) fun ov s2 ⟨x,H2,I2,rx,a,C,dx,fs,ex,ea,c,n,l,q2⟩=>?_) hs;subst ex;obtain rfl:ov=Value.ref a:=rx;exact QbR I2 ea c n l ry fun s3 I3=>⟨Y,_,I3,q2⟩
end
section
variable {pins:List (Addr×Obj)}{Y:St}{E:Value->Shared->Prop}{c:Value}{b:Bool}
inductive TyOf(K:W.Frag)(H:Hp):V->Value->Prop where
 | non:TyOf K H .non (.type "NoneType")
 | bl (x:Bool):TyOf K H (.bl x) (.type "bool")
 | int (i:Int):TyOf K H (.int i) (.type "int")
 | str (x:Str):TyOf K H (.str x) (.type "str")
 | flt (x:UInt64):TyOf K H (.flt x) (.type "float")
 | lst {a:Addr} {xs:List V} (e:H a=some (.lst xs)):TyOf K H (.ref a) (.type "list")
 | frz {a:Addr} {o:Obj} {xs:List V} (e:H a=some (.frz o (.lst xs))):TyOf K H (.ref a) (.type "list")
 | tup {a:Addr} {xs:List V} (e:H a=some (.tup xs)):TyOf K H (.ref a) (.type "tuple")
 | dK {a:Addr} {kvs:List (Key×V)} (e:H a=some (.dK kvs)):TyOf K H (.ref a) (.type "dict")
 | dT {a:Addr} {kvs:List (List Key×V)} (e:H a=some (.dT kvs)):TyOf K H (.ref a) (.type "dict")
 | ins {a C dx:Addr} {fs:List (Str×V)} (e:H a=some (.ins C dx fs)) (cl:Cls K C) (ha:W.findIn K (.ref C) "__class__"=some (some (.builtin "object.__class__")))
   (hn:W.specialIn K (.builtin "object.__class__") "__get__"=some (some (.builtin "getset_descriptor.__get__"))) (htk:W.takesIn K (.builtin "object.__class__")=some true)
   (hm:W.mroIn K C (.type "object")=some true):TyOf K H (.ref a) (.ref C)
theorem Qdn{x:V}{t:Value}(I:Inv X pins Y H s)(rx:RelV x u)(ty:TyOf X.K H x t)(e:W.kitOne X.K t c=some b)(h:∀tk,Q (.bool b) { s with toks:=tk }):
  wpAny (model X.prog X.w) A (call (.builtin "isinstance") [u,c]) Q E s:=by
 cases ty with
 | non=>cases(show u=Value.none from rx);exact W.kia_one W.kitx_none I.kIn True.intro e (fun z=>nomatch z) h
 | bl y=>cases(show u=Value.bool y from rx);exact W.kia_one W.kitx_bool I.kIn True.intro e (fun z=>nomatch z) h
 | int i=>obtain⟨t,q⟩:=(show ∃t,u=Value.int i t from rx);cases q;exact W.kia_one W.kitx_int I.kIn True.intro e (fun z=>nomatch z) h
 | str y=>obtain⟨t,q⟩:=(show ∃t,u=Value.str y t from rx);cases q;exact W.kia_one W.kitx_str I.kIn True.intro e (fun z=>nomatch z) h
 | flt y=>obtain⟨t,q⟩:=(show ∃t,u=Value.float y t from rx);cases q;exact W.kia_one W.kitx_float I.kIn True.intro e (fun z=>nomatch z) h
 | @lst a xs ea =>
  cases(show u=Value.ref a from rx);obtain⟨_,_,n,_,h1⟩:=(show ObjOk X.prog X.w H s.heap a (.lst xs)from I.hok a _ ea);exact W.kia_one W.kitx_list I.kIn ⟨_,h1,rfl⟩ e (fun z=>nomatch z) h
 | @frz a ob xs ea =>
  cases(show u=Value.ref a from rx);obtain⟨_,_,_,n,_,h1⟩:=(show ObjOk X.prog X.w H s.heap a (.frz ob (.lst xs))from I.hok a _ ea);exact W.kia_one W.kitx_list I.kIn ⟨_,h1,rfl⟩ e (fun z=>nomatch z) h
 | @tup a xs ea =>
  cases(show u=Value.ref a from rx);obtain⟨_,_,_,p⟩:=(show ObjOk X.prog X.w H s.heap a (.tup xs)from I.hok a _ ea);obtain⟨o,h1,h2,_⟩:=p;exact W.kia_one W.kitx_tuple I.kIn ⟨o,h1,h2⟩ e (fun z=>nomatch z) h
 | @dK a kvs ea =>
  cases(show u=Value.ref a from rx);obtain⟨_,_,vs,_,p⟩:=(show ObjOk X.prog X.w H s.heap a (.dK kvs)from I.hok a _ ea);obtain⟨o,es,ep,h1,h2,_⟩:=p;exact W.kia_one W.kitx_dict I.kIn ⟨o,h1,h2.1⟩ e (fun z=>nomatch z) h
 | @dT a kvs ea =>
  cases(show u=Value.ref a from rx);obtain⟨_,_,xs,_,o,es,ep,h1,h2,_⟩:=(show ObjOk X.prog X.w H s.heap a (.dT kvs)from I.hok a _ ea);exact W.kia_one W.kitx_dict I.kIn ⟨o,h1,h2.1⟩ e (fun z=>nomatch z) h
 | @ins a C dx fs ea cl ha hn htk hm =>
  cases(show u=Value.ref a from rx);obtain⟨mA,O,_⟩:=Jw I.hok ea;obtain⟨od,J,_⟩:=O.look;exact W.kia_one (W.kitx_own (cl.get _) cl.hd ha hn htk hm) I.kIn J e (fun z=>nomatch z) h
end
end
section
variable {C f:Addr}{A:Around}{X:Cx}{e:Expr}{fd:FuncData}{base:Heap}{H:Hp}{pins:List (Addr×Obj)}{es:List Expr}{ps:List Str}{vs:List V}{us:List Value}{pos:Pos}{P:Program}{s:Shared}{Y:St}{x:Str}{mg:Str->Option Value}{t:TA}{Q:VK}{w:World}
structure Room(k:Nat)(A:Around):Prop where
 hd:A.handled=none
 dp:A.depth+3*k+5<recursionLimit
 un:A.units+16*k+200<cLine
theorem Room.mono{j k:Nat}(r:Room k A)(h:j<=k):Room j A:=⟨r.hd,by have:=r.dp;omega,by have:=r.un;omega⟩
theorem Room.deeper{k:Nat}(r:Room (k+1) A)(env:Env):Room k (A.deeper env):=
 ⟨r.hd,by have:=r.dp;show A.depth+1+3*k+5<_;omega,by have:=r.un;show A.units+3+16*k+200<_;omega⟩
theorem Qb1{kw:List (Str×Value)}:(A.under (.builtin "type.__call__" ⟨.ref C::us,kw⟩)).depth=A.depth+1:=by
 first|rfl|simp [Around.under,Code.weight,Code.isCreation,Code.isGuard,Code.isCaller,Code.frames,Code.isFrame,guardIds]
theorem Qb0{kw:List (Str×Value)}:(A.under (.builtin "type.__call__" ⟨.ref C::us,kw⟩)).units=A.units+1:=by
 first|rfl|simp [Around.under,Code.cUnits,Code.frames,Code.isFrame]
theorem Room.make{k:Nat}(r:Room (k+1) A)(C:Addr)(us:List Value)(kw:List (Str×Value)):Room k (A.under (.builtin "type.__call__" ⟨.ref C::us,kw⟩)):=
 ⟨r.hd,by have:=r.dp;rw [Qb1];omega,by have:=r.un;rw [Qb0];omega⟩
theorem Room.depth{k:Nat}(r:Room k A):A.depth<recursionLimit:=by have:=r.dp;omega
theorem Room.units{k:Nat}(r:Room k A):A.units+64<cLine:=by have:=r.un;omega
def QkH:TA:=fun _ H Q=>Q [] H
def Qf9(ta:TE)(tr:TA):TA:=fun Y H Q=>ta Y H fun x H1=>tr Y H1 fun xs H2=>Q (x::xs) H2
section
variable {te:TE}
theorem JW:PA X [] QkH:=fun _ _ _ _ H Q I h=>Calls.spliced_nil ⟨[],H,I,.nil,h⟩
theorem Zr(ha:PE X e te)(hr:PA X es t)(hs:starEach (e::es) X.env=(false,eval e X.env)::starEach es X.env:=by rfl):PA X (e::es) (Qf9 te t):=by
 intro pos pins s Y H Q I h;rw [hs];show wpAny _ _ (spliced ((false,eval e X.env)::backTo pos (starEach es X.env))) _ _ s;refine Calls.spliced_cons (thn (ha pins s Y H _ I h) fun u s1 ⟨x,H1,I1,r1,q1⟩=>?_);exact thn (hr pos pins s1 Y H1 _ I1 q1) fun us s2 ⟨xs,H2,I2,r2,q2⟩=>⟨x::xs,H2,I2,.cons r1 r2,q2⟩
def Qn8(t:TA):TE:=fun Y H Q=>t Y H fun xs H1=>xs.length<=sizeLine/\∀p,H1 p=none->Q (.ref p) (upd H1 p (.tup xs))
def Qoe(t:TA):TE:=fun Y H Q=>t Y H fun xs H1=>xs.length<=sizeLine/\∀p,H1 p=none->Q (.ref p) (upd H1 p (.lst xs))
theorem Qjb{x1}(h:PA X es t):PE X (.Tuple es x1 pos) (Qn8 t):=by
 intro pins s Y H Q I hq
 refine wpAny_Tuple_spliced (thn (h pos pins s Y H _ I hq) fun us s1 ⟨xs,H1,I1,r,z,q⟩=>⟨by rw [<-r.length];exact z,?_⟩)
 have hf:H1 s1.heap.objs.size=none:=I1.hok.fresh (Nat.le_refl _);refine⟨.ref s1.heap.objs.size,upd H1 s1.heap.objs.size (.tup xs),I1.laid (t':=s1.toks) (fun b u e=>Heap.get?_push_of_some _ e) (Nat.le_refl _) ?_,rfl,q _ hf⟩;exact⟨z,us,r,⟨_,Heap.get?_push_size _ rfl,rfl,_,rfl⟩⟩
theorem Qje(h:PA X es t):PE X (.List es pos) (Qoe t):=by
 intro pins s Y H Q I hq
 refine wpAny_List_spliced (thn (h pos pins s Y H _ I hq) fun us s1 ⟨xs,H1,I1,r,z,q⟩=>⟨by rw [<-r.length];exact z,?_⟩)
 have hf:H1 s1.heap.objs.size=none:=I1.hok.fresh (Nat.le_refl _);refine⟨.ref s1.heap.objs.size,upd H1 s1.heap.objs.size (.lst xs),I1.laid (t':=s1.toks) (fun b u e=>Heap.get?_push_of_some _ e) (Nat.le_refl _) ?_,rfl,q _ hf⟩;exact⟨z,us,0,r,Heap.get?_push_size _ rfl⟩
end
noncomputable abbrev Sp:=List V->Hp->VK->XK->Prop
noncomputable abbrev CXT:=List Env->Hp->Shared->XK->Value->Shared->Prop
structure Env0(P:Program)(w:World)(K:W.Frag)(mg:Str->Option Value)(base:Heap)(A:Around)(outer:List Env)(s:Shared)(H:Hp):Prop where
 frames:A.frames=some outer
 mod:Mod K mg base
 bs:∀b o,base.get? b=some o->s.heap.get? b=some o/\H b=none
 bsz:base.objs.size<=s.heap.objs.size
 funs:s.heap.FunFrames base outer
 frf:∀b∈frs outer,H b=none
 hok:HOk P w H s.heap
 bare:AllBare s.gens
noncomputable def CE(outer:List Env)(P:Program)(w:World)(H:Hp)(s:Shared)(Q:VK)(u:Value)(s':Shared):Prop :=
 ∃v H',s'.os=s.os/\AllBare s'.gens/\Un (frs outer) [] H H' s.heap s'.heap/\HOk P w H' s'.heap/\RelV v u/\Q v H'
noncomputable def CR(CX:CXT)(outer:List Env)(P:Program)(w:World)(H:Hp)(s:Shared)(Q:VK)(E:XK)(r:Result)(s':Shared):Prop :=
 match r with
 | .ok (.ret u)=>CE outer P w H s Q u s'
 | .ok _=>False
 | .error e=>CX outer H s E e s'
structure FnOk(P:Program)(w:World)(K:W.Frag)(mg:Str->Option Value)(base:Heap)(CX:CXT)(k:Nat)(f:Addr)(fd:FuncData)(ps:List Str)(sp:Sp):Prop where
 len:∀vs H Q E,sp vs H Q E->vs.length=ps.length
 run:∀(A:Around) (outer:List Env) (s:Shared) (H:Hp) (args:Args) (us:List Value) (vs:List V) (Q:VK) (E:XK),Room k A->Env0 P w K mg base A outer s H->BindsTo s fd args (ps.zip us)->Vals vs us->sp vs H Q E ->
  codeAny (model P w) A (.call (.ref f) args) (CR CX outer P w H s Q E) s
theorem FnOk.mono{K:W.Frag}{CX:CXT}{j k:Nat}{sp:Sp}(F:FnOk P w K mg base CX j f fd ps sp)(h:j<=k):
  FnOk P w K mg base CX k f fd ps sp:=⟨F.len,fun A outer s H args us vs Q E hr=>F.run A outer s H args us vs Q E (hr.mono h)⟩
theorem Env0.make{K:W.Frag}{outer:List Env}(e:Env0 P w K mg base A outer s H)(C:Addr)(us:List Value)(kw:List (Str×Value)):
  Env0 P w K mg base (A.under (.builtin "type.__call__" ⟨.ref C::us,kw⟩)) outer s H:=⟨by first|exact e.frames|(simpa [Around.under,Code.envs,Code.isFrame,pushEnvs]using e.frames),e.mod,e.bs,e.bsz,e.funs,e.frf,e.hok,e.bare⟩
section
variable {s':Shared}
theorem Inv.env0(I:Inv X pins Y H s):Env0 X.prog X.w X.K X.mg X.base X.A X.stack s H :=
 ⟨I.ok.frames,I.ok.mod,I.bs,Nat.le_trans I.ok.bsz I.sz,I.stack,I.stkFree,I.hok,I.bare⟩
theorem Inv.after{u:Value}(I:Inv X pins Y H s)(h:CE X.stack X.prog X.w H s Q u s'):EP X pins Y Q u s':=by
 obtain⟨v,H',os,bare,un,hok,r,q⟩:=h;obtain⟨hh,g,d,t,os'⟩:=s';obtain rfl:os'=s.os:=os
 exact⟨v,H',I.call (h':=hh) (g':=g) (d':=d) (t':=t) (ch:=[]) un hok bare (fun b z=>absurd z (by simp)),r,q⟩
end
def Qga(sp:Sp)(dvs:List V)(E:XK)(t:TA):TE:=fun Y H Q=>t Y H fun vs H1=>sp (vs++dvs) H1 Q E
def Qip(C:Addr)(sp:Sp)(dvs:List V)(E:XK)(t:TA):TE:=fun Y H Q=>t Y H fun vs H1=>∀x dx,H1 x=none->H1 dx=none->dx≠x ->
 sp (.ref x::(vs++dvs)) (upd (upd H1 dx (.own x)) x (.ins C dx [])) (fun v H2=>v=.non/\Q (.ref x) H2) E
noncomputable def Binds(K:W.Frag)(fd:FuncData)(ps:List Str)(ds:List Value):Prop :=
 ∀(s:Shared) (us:List Value),K.In s.heap->(us++ds).length=ps.length->BindsTo s fd ⟨us,[]⟩ (ps.zip (us++ds))
theorem Binds.all{K:W.Frag}(h:∀us:List Value,us.length=ps.length->bindArgs fd ⟨us,[]⟩=pure (ps.zip us)):Binds K fd ps []:=fun s us _ hl=>by
 rw [List.append_nil]at hl ⊢;exact .of_eq (h us hl)
def YD(CX:CXT)(X:Cx)(E:XK):Prop:=∀(pins:List (Addr×Obj)) (Y:St) (H:Hp) (s:Shared) (e:Value) (s':Shared),Inv X pins Y H s->CX X.stack H s E e s'->X.xe e s'
section
variable {CX:CXT}{k:Nat}{sp:Sp}{dvs:List V}{ds:List Value}{E:XK}{p:Pos}
theorem QcQ(F:FnOk X.prog X.w X.K X.mg X.base CX k f fd ps sp)(hr:Room k X.A)(hb:Binds X.K fd ps ds)(hd:Vals dvs ds)(hx:YD CX X E)
  (I:Inv X pins Y H s) (r:Vals vs us) (h:sp (vs++dvs) H Q E):wpAny (model X.prog X.w) X.A (call (.ref f) us) (EP X pins Y Q) X.xe s:=by
 have r2:Vals (vs++dvs) (us++ds):=r.append hd
 have hl:(us++ds).length=ps.length:=by rw [<-r2.length];exact F.len _ _ _ _ h
 refine wpAny_call (codeAny_mono (F.run X.A X.stack s H ⟨us,[]⟩ (us++ds) (vs++dvs) Q E hr I.env0 (hb s us I.kIn hl) r2 h) fun r s' hq=>?_)
 cases r with
 | error e=>exact hx pins Y H s e s' I hq
 | ok fl =>
  cases fl with
  | ret u=>exact I.after hq
  | next=>exact False.elim hq
  | brk=>exact False.elim hq
  | cont=>exact False.elim hq
theorem QgN(F:FnOk X.prog X.w X.K X.mg X.base CX k f fd ps sp)(hr:Room k X.A)(hg:Gl X x)(hm:X.mg x=some (.ref f))(hk:W.keepIn X.K (.ref f)=true)(hb:Binds X.K fd ps ds)(hd:Vals dvs ds)(hx:YD CX X E)
  (ha:PA X (e::es) t) (hdb:(x==("__debug__":Str))=false:=by decide) (he:starEach (e::es) X.env=(false,eval e X.env)::starEach es X.env:=by rfl) (hpl:(backTo pos (starEach es X.env)).any (·.1)=false:=by rfl):
  PE X (.Call (.Name x p) (e::es) [] pos) (Qga sp dvs E t):=by
 intro pins s Y H Q I h;refine wpAny_Call_Name_kw (ZX I hg hm ?_ hdb);refine W.callWith_K (h₀:=X.base) I.ok.mod.kin hk (thn (ha pos pins s Y H _ I h) fun us s1 ⟨vs,H1,I1,r,q⟩=>⟨I1.kIn,?_⟩) he hpl;exact QcQ F hr hb hd hx I1 r q
theorem Qex(F:FnOk X.prog X.w X.K X.mg X.base CX k f fd ps sp)(hr:Room k X.A)(hg:Gl X x)(hm:X.mg x=some (.ref f))(hk:W.keepIn X.K (.ref f)=true)(hb:Binds X.K fd ps ds)(hd:Vals dvs ds)(hx:YD CX X E)
  (hdb:(x==("__debug__":Str))=false:=by decide):PE X (.Call (.Name x p) [] [] pos) (Qga sp dvs E QkH):=by
 intro pins s Y H Q I h;refine wpAny_Call_Name_kw (ZX I hg hm ?_ hdb);exact W.callWith_K0 I.kIn hk (QcQ (us:=[]) F hr hb hd hx I .nil h)
structure Mk(K:W.Frag)(C f:Addr):Prop where
 makes:W.makesIn K C=true
 init:W.findIn K (.ref C) "__init__"=some (some (.ref f))
 fn:W.isFn K (.ref f)=true
 kp:W.keepIn K (.ref C)=true
theorem Qbf(M:Mk X.K C f)(F:FnOk X.prog X.w X.K X.mg X.base CX k f fd ps sp)(hr:Room (k+1) X.A)(hb:Binds X.K fd ps ds)(hd:Vals dvs ds)
  (hx:YD CX X E) (I:Inv X pins Y H s) (r:Vals vs us)
  (h:∀x dx,H x=none->H dx=none->dx≠x->sp (.ref x::(vs++dvs)) (upd (upd H dx (.own x)) x (.ins C dx [])) (fun v H2=>v=.non/\Q (.ref x) H2) E):
  wpAny (model X.prog X.w) X.A (call (.ref C) us) (EP X pins Y Q) X.xe s:=by
 have hq:=h (s.heap.objs.size+1) s.heap.objs.size (I.hok.fresh (Nat.le_succ _)) (I.hok.fresh (Nat.le_refl _)) (Nat.ne_of_lt (Nat.lt_succ_self _));have I2:=Inv.made (C:=C) I;have r2:Vals (V.ref (s.heap.objs.size+1)::(vs++dvs)) (Value.ref (s.heap.objs.size+1)::(us++ds)):=.cons rfl (r.append hd)
 have hl:(Value.ref (s.heap.objs.size+1)::us++ds).length=ps.length:=by
  have e:=r2.length;rw [F.len _ _ _ _ hq]at e;exact e.symm
 refine wpAny_call (QeF (f:=f) I.kIn M.makes M.init (beq_iff_eq.mp M.fn) (codeAny_mono (F.run _ X.stack _ _ ⟨Value.ref (s.heap.objs.size+1)::us,[]⟩ (Value.ref (s.heap.objs.size+1)::(us++ds)) _ _ E (hr.make C us [])
  (I2.env0.make C us []) (hb _ (Value.ref (s.heap.objs.size+1)::us) I2.kIn hl) r2 hq) fun r s' hq'=>?_))
 cases r with
 | error e=>exact hx pins Y _ _ e s' I2 hq'
 | ok fl =>
  cases fl with
  | ret u =>
   obtain⟨v,H',I3,rv,ev,q3⟩:=I2.after hq';subst ev;exact⟨rv,⟨V.ref (s.heap.objs.size+1),H',I3,rfl,q3⟩⟩
  | next=>exact False.elim hq'
  | brk=>exact False.elim hq'
  | cont=>exact False.elim hq'
theorem QgK(M:Mk X.K C f)(F:FnOk X.prog X.w X.K X.mg X.base CX k f fd ps sp)(hr:Room (k+1) X.A)(hg:Gl X x)(hm:X.mg x=some (.ref C))(hb:Binds X.K fd ps ds)(hd:Vals dvs ds)(hx:YD CX X E)
  (ha:PA X (e::es) t) (hdb:(x==("__debug__":Str))=false:=by decide) (he:starEach (e::es) X.env=(false,eval e X.env)::starEach es X.env:=by rfl) (hpl:(backTo pos (starEach es X.env)).any (·.1)=false:=by rfl):
  PE X (.Call (.Name x p) (e::es) [] pos) (Qip C sp dvs E t):=by
 intro pins s Y H Q I h;refine wpAny_Call_Name_kw (ZX I hg hm ?_ hdb);refine W.callWith_K (h₀:=X.base) I.ok.mod.kin M.kp (thn (ha pos pins s Y H _ I h) fun us s1 ⟨vs,H1,I1,r,q⟩=>⟨I1.kIn,?_⟩) he hpl;exact Qbf M F hr hb hd hx I1 r q
theorem Qeu(M:Mk X.K C f)(F:FnOk X.prog X.w X.K X.mg X.base CX k f fd ps sp)(hr:Room (k+1) X.A)(hg:Gl X x)(hm:X.mg x=some (.ref C))(hb:Binds X.K fd ps ds)(hd:Vals dvs ds)(hx:YD CX X E)
  (hdb:(x==("__debug__":Str))=false:=by decide):PE X (.Call (.Name x p) [] [] pos) (Qip C sp dvs E QkH):=by
 intro pins s Y H Q I h;refine wpAny_Call_Name_kw (ZX I hg hm ?_ hdb);exact W.callWith_K0 I.kIn M.kp (Qbf (us:=[]) M F hr hb hd hx I .nil h)
end
structure FnScope(N P:List Str)(sc:Scope):Prop where
 kind:sc.kind=.function
 co:sc.isCoroutine=false
 gen:sc.isGenerator=false
 nd:N.Nodup
 pre:N.take P.length=P
 par:∀x∈P,sc.names.lookup x=some .local\/sc.names.lookup x=some .cell
 nofree:∀y∈sc.names,y.2≠.free
theorem Qan{kindOf:Str->Option NameKind}{x:Str}:∀{binds:List (Str×Value)} {m:Str->Option Value},(∀v,(x,v)∉binds)->bindL kindOf binds m x=m x
 | [],_,_=>rfl
 | (n,v)::r,m,h=>by
  unfold bindL;rw [Qan fun w hw=>h w (List.mem_cons_of_mem _ hw)];split
  ·have:x≠n:=by rintro rfl;exact h v List.mem_cons_self
   simp [this]
  ·rfl
theorem Qap{kindOf:Str->Option NameKind}{x:Str}:∀{binds:List (Str×Value)} {m:Str->Option Value},(∀v,(x,v)∉binds)->bindC kindOf binds m x=m x
 | [],_,_=>rfl
 | (n,v)::r,m,h=>by
  unfold bindC;rw [Qap fun w hw=>h w (List.mem_cons_of_mem _ hw)];split
  ·rfl
  ·have:x≠n:=by rintro rfl;exact h v List.mem_cons_self
   simp [this]
theorem Qao{kindOf:Str->Option NameKind}{x:Str}{v:Value}:∀{P:List Str} {vs:List Value} {i:Nat} {m:Str->Option Value},P.Nodup->P[i]?=some x->vs[i]?=some v->kindOf x=some .local ->
  bindL kindOf (P.zip vs) m x=some v
 | [],_,_,_,_,h,_,_=>by simp at h
 | _::_,[],_,_,_,_,h,_=>by simp at h
 | p::P,w::vs,0,m,nd,h1,h2,hk=>by
  simp at h1 h2;subst h1;subst h2;show bindL kindOf ((p,w)::P.zip vs) m p=_;unfold bindL;rw [Qan fun v hv=>(List.nodup_cons.mp nd).1 (List.of_mem_zip hv).1,if_pos hk];simp
 | p::P,w::vs,i+1,m,nd,h1,h2,hk=>by
  show bindL kindOf ((p,w)::P.zip vs) m x=_;unfold bindL
  exact Qao (i:=i) (List.nodup_cons.mp nd).2 (by simpa using h1) (by simpa using h2) hk
theorem Qaq{kindOf:Str->Option NameKind}{x:Str}{v:Value}:∀{P:List Str} {vs:List Value} {i:Nat} {m:Str->Option Value},P.Nodup->P[i]?=some x->vs[i]?=some v->kindOf x≠some .local ->
  bindC kindOf (P.zip vs) m x=some v
 | [],_,_,_,_,h,_,_=>by simp at h
 | _::_,[],_,_,_,_,h,_=>by simp at h
 | p::P,w::vs,0,m,nd,h1,h2,hk=>by
  simp at h1 h2;subst h1;subst h2;show bindC kindOf ((p,w)::P.zip vs) m p=_;unfold bindC;rw [Qap fun v hv=>(List.nodup_cons.mp nd).1 (List.of_mem_zip hv).1,if_neg hk];simp
 | p::P,w::vs,i+1,m,nd,h1,h2,hk=>by
  show bindC kindOf ((p,w)::P.zip vs) m x=_;unfold bindC
  exact Qaq (i:=i) (List.nodup_cons.mp nd).2 (by simpa using h1) (by simpa using h2) hk
noncomputable def start(N:List Str)(vs:List V):St:=vs.map some++List.replicate (N.length-vs.length) none
noncomputable def QfO(CX:CXT)(P:Program)(w:World)(K:W.Frag)(mg:Str->Option Value)(base:Heap)(N:List Str)(qual:Str)(scope:Scope)(f:Addr)(cd:Value)(A:Around)(outer:List Env)(s:Shared)(H:Hp)(E:XK):Cx where
 prog:=P
 w:=w
 K:=K
 mg:=mg
 base:=base
 A:=A.deeper (envOfC qual scope s.heap.objs.size f cd)
 N:=N
 s₀:=s
 H₀:=H
 env:=envOfC qual scope s.heap.objs.size f cd
 outer:=outer
 stack:=envOfC qual scope s.heap.objs.size f cd::outer
 ex:=[]
 calm:=true
 fn:=fun _=>true
 pn:=[]
 xe:=fun e s'=>wpAny (model P w) (A.deeper (envOfC qual scope s.heap.objs.size f cd)) (leaving (envOfC qual scope s.heap.objs.size f cd) e) (fun _ s''=>CX outer H s E e s'') (fun e' s''=>CX outer H s E e' s'') s'
theorem QbE{sc:Scope}{n:Nat}(h:sc.names.lookup x=some .cell):∃c,(cellsFrom n sc.names []).lookup x=some c:=by
 have q:=W.cellsFrom_some sc.names n [] (.inl h);exact Option.isSome_iff_exists.mp q
theorem Qdo{CX:CXT}{K:W.Frag}{N:List Str}{qual:Str}{scope:Scope}{cd:Value}{outer:List Env}{s1:Shared}{E:XK}
  (S:FnScope N ps scope) (hd:A.handled=none) (e0:Env0 P w K mg base A outer s H) (hl:vs.length=ps.length) (r:Vals vs us)
  (x:InCallC s s.heap.objs.size (bindL (envOfC qual scope s.heap.objs.size f cd).kindOf (ps.zip us) fun _=>none) (cellsFrom (s.heap.objs.size+1) scope.names []) (bindC (envOfC qual scope s.heap.objs.size f cd).kindOf (ps.zip us) fun _=>none) s1):
  Inv (QfO CX P w K mg base N qual scope f cd A outer s H E) [] (start N vs) H s1:=by
 have hpl:ps.length<=N.length:=by have:=congrArg List.length S.pre;rw [List.length_take]at this;omega
 obtain⟨h1,tk,rfl,hk⟩:=x.done
 have noA:∀b:Addr,b∉(QfO CX P w K mg base N qual scope f cd A outer s H E).ex:=fun b z=>absurd (show b∈([]:List Addr)from z) (by simp)
 refine⟨⟨e0.mod,S.kind,rfl,rfl,Nat.le_refl _,fun y z c h1 h2=>?_,fun y hy=>?_,fun y c _ h=>?_,fun _=>hd,Around.frames_deeper e0.frames,.inr ⟨rfl,rfl⟩,fun b z=>absurd z (noA b),e0.bs,e0.bsz,fun b _ _=>noA b,fun b z=>absurd z (noA b),e0.funs,e0.frf⟩,
  rfl,e0.bare,Un.kept hk,⟨_,x.toInCall.ns,fun i y v h1 h2 h3=>?_⟩,fun y c h=>⟨_,x.cell y c h⟩,e0.hok.fresh (Nat.le_refl _),fun y c h=>?_,fun p hp=>absurd (show p∈([]:List (Addr×Obj))from hp) (by simp),e0.hok.kept hk,?_⟩
 ·exact name_of_addr x.apart (PySem.mem_of_lookup h1) (PySem.mem_of_lookup h2)
 ·have hy:scope.names.lookup y=some .cell\/scope.names.lookup y=some .free:=hy
  rcases hy with hy|hy
  ·exact QbE hy
  ·exact absurd rfl (S.nofree _ (PySem.mem_of_lookup hy))
 ·exact Nat.le_of_lt (x.above y c (PySem.mem_of_lookup h))
 ·have hi:i<vs.length:=by
   unfold start at h2;by_cases hi:i<vs.length
   ·exact hi
   ·rw [List.getElem?_append_right (by simpa using hi)]at h2
    rw [List.getElem?_replicate]at h2;split at h2<;>cases h2
  have ha:vs[i]?=some v:=by
   unfold start at h2
   rw [List.getElem?_append_left (by simpa using hi),List.getElem?_map]at h2
   cases e:vs[i]? with
   | none=>rw [e]at h2;cases h2
   | some a=>rw [e]at h2;cases h2;rfl
  obtain⟨u,hu,rv⟩:=r.get ha
  have hp:ps[i]?=some y:=by
   rw [<-S.pre,List.getElem?_take_of_lt (by omega)];exact h1
  have ndP:ps.Nodup:=by rw [<-S.pre];exact S.nd.sublist (List.take_sublist _ _)
  refine⟨u,rv,?_⟩
  rcases S.par y (List.mem_of_getElem? hp)with k|k
  ·exact .inl ⟨k,Qao ndP hp hu k⟩
  ·obtain⟨c,e⟩:=QbE (n:=s.heap.objs.size+1) k;refine .inr ⟨.inl k,c,e,?_⟩;have q:=x.cell y c e
   rw [Qaq ndP hp hu (by show scope.names.lookup y≠_;rw [k];decide)]at q
   exact q
 ·exact e0.hok.fresh (Nat.le_of_lt (x.above y c (PySem.mem_of_lookup h)))
 ·unfold start;show _=N.length;rw [List.length_append,List.length_map,List.length_replicate];omega
theorem Qmk{CX:CXT}{K:W.Frag}{k:Nat}{name qual:Str}{params:Arguments}{body:List Stmt}{scope:Scope}{dV kV doc pm cdv ct oc:Value}{an od:Option Addr}
  {osl:Array (Option Value)} {N:List Str} {sp:Sp} (lk:K.lookup f=some ⟨oc,od,.func (W.fnOf name qual params body scope dV kV doc pm an cdv ct),osl⟩) (hcd:W.codeIn K cdv qual=true) (S:FnScope N ps scope)
  (len:∀vs H Q E,sp vs H Q E->vs.length=ps.length)
  (hbody:∀(A:Around) (outer:List Env) (s:Shared) (H:Hp) (vs:List V) (Q:VK) (E:XK),Room k (A.deeper (envOfC qual scope s.heap.objs.size f cdv))->sp vs H Q E ->
   ∃t,PSs (QfO CX P w K mg base N qual scope f cdv A outer s H E) body t/\t { nx:=fun _ H'=>Q .non H',rt:=Q } (start N vs) H):
  FnOk P w K mg base CX (k+1) f (W.fnOf name qual params body scope dV kV doc pm an cdv ct) ps sp:=by
 refine⟨len,fun A outer s H args us vs Q E hr e0 hb r hsp=>?_⟩;have hl:=len _ _ _ _ hsp;have KX:K.In s.heap:=e0.mod.kin.keeps fun b o e=>(e0.bs b o e).1;have lim:s.heap.NoLimit:=e0.mod.nolimit.keeps fun b o e=>(e0.bs b o e).1
 have hkind:∀y∈ps.zip us,scope.names.lookup y.1=some .local\/(scope.names.lookup y.1=some .cell/\((cellsFrom (s.heap.objs.size+1) scope.names []).lookup y.1).isSome=true):=fun⟨n,v⟩ hy=>by
  rcases S.par n (List.of_mem_zip hy).1 with q|q
  ·exact .inl q
  ·exact .inr ⟨q,W.cellsFrom_some _ _ _ (.inl q)⟩
 refine codeAny_call_function hr.depth (KX _ _ lk) rfl S.co S.gen rfl (W.codeRec_of KX hcd) (hb _ _ _ _ ?_);refine wpAny_newFunctionEnv_cells S.kind hkind fun env he s1 x=>?_;subst he;refine⟨lim.keeps x.toInCall.keep,codeAny_func ?_⟩;obtain⟨t,ht,hq⟩:=hbody A outer s H vs Q E (hr.deeper _) hsp;have I:Inv (QfO CX P w K mg base N qual scope f cdv A outer s H E) [] (start N vs) H s1:=Qdo S hr.hd e0 hl r x;refine wpAny_mono (ht [] s1 (start N vs) H _ I hq) (fun fl s' hs=>?_) fun e s' hs=>hs
 have fin:∀{Y':St} {H':Hp} {v:V} {u:Value},Inv (QfO CX P w K mg base N qual scope f cdv A outer s H E) [] Y' H' s'->RelV v u->Q v H'->CE outer P w H s Q u s' :=
  fun {Y' H' v u} J rv q=>⟨v,H',J.os,J.bare,J.base,J.hok,rv,q⟩
 cases fl with
 | ret u =>
  obtain⟨v,Y',H',J,rv,q⟩:=hs;exact fin J rv q
 | next =>
  obtain⟨Y',H',J,q⟩:=hs;exact fin (v:=V.non) (u:=Value.none) J rfl q
 | brk =>
  obtain⟨_,_,_,q⟩:=hs;exact False.elim q
 | cont =>
  obtain⟨_,_,_,q⟩:=hs;exact False.elim q
end
section
section
variable {X:Cx}{x:Str}{p pos:Pos}{e:Expr}{es:List Expr}{t:TA}{id T:String}{r:List V->Hp->VK->Prop}
def tCB(r:List V->Hp->VK->Prop)(t:TA):TE:=fun Y H Q=>t Y H fun vs H1=>r vs H1 Q
theorem Yc(hc:CallR X (.builtin id) r)(hg:Gl X x)(hm:X.mg x=none)(hv:bootBuiltins x=some (.builtin id))(ha:PA X (e::es) t)(hn:x≠"__name__":=by decide) (hdb:(x==("__debug__":Str))=false:=by decide)
  (he:starEach (e::es) X.env=(false,eval e X.env)::starEach es X.env:=by rfl) (hpl:(backTo pos (starEach es X.env)).any (·.1)=false:=by rfl):PE X (.Call (.Name x p) (e::es) [] pos) (tCB r t):=by
 intro pins s Y H Q I h;refine wpAny_Call_Name_kw (ZB I hg hm hv ?_ hn hdb);exact PyProof.Rows.callWith_builtin1 (thn (ha pos pins s Y H _ I h) fun us s1 ⟨vs,H1,I1,r1,q1⟩=>hc pins s1 Y H1 vs us Q I1 r1 q1) he hpl
theorem Yr(hc:CallR X (.type T) r)(hg:Gl X x)(hm:X.mg x=none)(hv:bootBuiltins x=some (.type T))(ha:PA X (e::es) t)(hn:x≠"__name__":=by decide) (hdb:(x==("__debug__":Str))=false:=by decide)
  (he:starEach (e::es) X.env=(false,eval e X.env)::starEach es X.env:=by rfl) (hpl:(backTo pos (starEach es X.env)).any (·.1)=false:=by rfl):PE X (.Call (.Name x p) (e::es) [] pos) (tCB r t):=by
 intro pins s Y H Q I h;refine wpAny_Call_Name_kw (ZB I hg hm hv ?_ hn hdb);exact PyProof.Rows.callWith_type1 (thn (ha pos pins s Y H _ I h) fun us s1 ⟨vs,H1,I1,r1,q1⟩=>hc pins s1 Y H1 vs us Q I1 r1 q1) he hpl
end
end
end L2
namespace HT
open PySem PyProof.Rows
section
open PySem.SeqAt
open PySem.AutoSeq1 (wpAny_loadPart')
open PySem.MeetsSeq PySem.MeetsSeq2 PySem.MeetsSeq3
end
section
noncomputable def sIx(n d:Nat):Option Int->Nat
 | none=>d
 | some v=>if v<0 then(v+(n:Int)).toNat else min v.toNat n
end
end HT
namespace L2
open PySem PySem.Spec PyProof.Rows
section
noncomputable abbrev TO:=St->Hp->(Option Int->Hp->Prop)->Prop
noncomputable def PO(X:Cx)(e:Option Expr)(t:TO):Prop :=
 ∀(pins:List (Addr×Obj)) (s:Shared) (Y:St) (H:Hp) (Q:Option Int->Hp->Prop),Inv X pins Y H s->t Y H Q ->
  wpAny (model X.prog X.w) X.A (evalPart e X.env) (fun u s'=>∃o H',Inv X pins Y H' s'/\IsPart u o/\Q o H') X.xe s
def Qf6:TO:=fun _ H Q=>Q none H
def Qlk(t:TE):TO:=fun Y H Q=>t Y H fun x H1=>∃i,x=.int i/\Q (some i) H1
section
variable {X:Cx}{e:Expr}{te:TE}{lo hi:Option Expr}{tl th:TO}{pos p2:Pos}
theorem QgF:PO X none Qf6:=by
 intro pins s Y H Q I h;rw [evalPart_none];exact wpAny_pure ⟨none,H,I,.none,h⟩
theorem QgE(h:PE X e te):PO X (some e) (Qlk te):=by
 intro pins s Y H Q I hw;rw [evalPart_some];refine thn (h pins s Y H _ I hw) fun u s1 ⟨x,H1,I1,r1,q1⟩=>?_;obtain⟨i,rfl,q⟩:=q1;obtain⟨t,rfl⟩:=r1;exact⟨some i,H1,I1,.int i t,q⟩
noncomputable def SlR(X:Cx)(r:V->Option Int->Option Int->Hp->VK->Prop):Prop :=
 ∀(pins:List (Addr×Obj)) (s:Shared) (Y:St) (H:Hp) (x:V) (v vl vu:Value) (lo hi:Option Int) (sl:Addr) (Q:VK),Inv X pins Y H s->RelV x v->s.heap.IsSliceOf sl vl vu .none->IsPart vl lo->IsPart vu hi->r x lo hi H Q ->
  ∃ T id, typeLookup (.type T) "__getitem__" = pure (some (.builtin id)) /\ s.TypeIs v T /\ wpAny (model X.prog X.w) X.A (getItem v (.ref sl)) (EP X pins Y Q) X.xe s
def tSl(r:V->Option Int->Option Int->Hp->VK->Prop)(te:TE)(tl th:TO):TE:=fun Y H Q=>te Y H fun x H1=>tl Y H1 fun l H2=>th Y H2 fun u H3=>r x l u H3 Q
theorem Qet{r:V->Option Int->Option Int->Hp->VK->Prop}(hr:SlR X r)(he:PE X e te)(hl:PO X lo tl)(hu:PO X hi th):PE X (.Subscript e (.Slice lo hi none p2) pos) (tSl r te tl th):=by
 intro pins s Y H Q I h;refine Subscript_ (thn (he pins s Y H _ I h) fun v s1 ⟨x,H1,I1,r1,q1⟩=>?_);refine wpAny_Slice (thn (hl pins s1 Y H1 _ I1 q1) fun vl s2 ⟨l,H2,I2,pl,q2⟩=>thn (hu pins s2 Y H2 _ I2 q2) fun vu s3 ⟨u,H3,I3,pu,q3⟩=>?_);rw [evalPart_none];refine wpAny_pure ?_;have I4:Inv X pins Y H3 { s3 with heap:=s3.heap.push { cls:=.type "slice",data:=.fields #[vl,vu,.none] } }:=I3.kept (t':=s3.toks) fun b ob q=>Heap.get?_push_of_some _ q;obtain⟨T,id,hT,ht,hg⟩:=hr pins { s3 with heap:=s3.heap.push { cls:=.type "slice",data:=.fields #[vl,vu,.none] } } Y H3 x v vl vu l u s3.heap.objs.size Q I4 r1 (Heap.IsSliceOf.new ..) pl pu q3;show wpAny (model X.prog X.w) X.A (subscriptTail e (.Slice lo hi none p2) v (.ref s3.heap.objs.size)) (EP X pins Y Q) X.xe { s3 with heap:=s3.heap.push { cls:=.type "slice",data:=.fields #[vl,vu,.none] } }
 exact tail_any (ops:=[.ref s3.heap.objs.size,v]) ht hT hg (by with_unfolding_all rfl)
noncomputable def Qh0(xs:List V)(lo hi:Option Int):List V:=(xs.drop (HT.sIx xs.length 0 lo)).take (HT.sIx xs.length xs.length hi-HT.sIx xs.length 0 lo)
theorem QaW(xs:List V)(lo hi:Option Int):(Qh0 xs lo hi).length<=xs.length:=by
 unfold Qh0;rw [List.length_take,List.length_drop];omega
end
end
section
noncomputable def ixN(n:Nat)(i:Int):Option Nat:=if 0<=i then(if i<n then some i.toNat else none)else if -(n:Int)<=i then some (i+n).toNat else none
noncomputable def atI{α:Type}(xs:List α)(i:Int):Option α:=(ixN xs.length i).bind fun j=>xs[j]?
theorem Qhh{n:Nat}{i:Int}{j:Nat}(h:ixN n i=some j):seqIndex? i n=some j/\j<n/\-(n:Int)<=i/\i<n:=by
 unfold ixN at h;by_cases h0:0<=i
 ·rw [if_pos h0]at h;by_cases h1:i<n
  ·rw [if_pos h1]at h;have e:i.toNat=j:=Option.some.inj h
   exact⟨by rw [seqIndex_of h0 h1,e],by omega,by omega,h1⟩
  ·rw [if_neg h1]at h;cases h
 ·rw [if_neg h0]at h;by_cases h1:-(n:Int)<=i
  ·rw [if_pos h1]at h;have e:(i+n).toNat=j:=Option.some.inj h
   exact⟨by rw [seqIndex_neg (by omega) h1,e],by omega,h1,by omega⟩
  ·rw [if_neg h1]at h;cases h
theorem QaY{α:Type}{xs:List α}{i:Int}{v:α}(h:atI xs i=some v):∃j,seqIndex? i xs.length=some j/\xs[j]?=some v/\j<xs.length/\-(xs.length:Int)<=i/\i<xs.length:=by
 unfold atI at h
 cases e:ixN xs.length i with
 | none=>rw [e]at h;cases h
 | some j =>
  rw [e]at h;obtain⟨h1,h2,h3,h4⟩:=Qhh e;exact⟨j,h1,h,h2,h3,h4⟩
def QdT(b:Expr):Prop:=∀o i,subscripted b false o i=operate [o,i] (getItem o i)
noncomputable def IxR(X:Cx)(r:R2):Prop :=
 ∀(value slice:Expr) (pins:List (Addr×Obj)) (s:Shared) (Y:St) (H:Hp) (x y:V) (v u:Value) (Q:VK),Inv X pins Y H s->RelV x v->RelV y u->r x y H Q ->
  subscripted slice false v u=operate [v,u] (getItem v u)->wpAny (model X.prog X.w) X.A (subscriptTail value slice v u) (EP X pins Y Q) X.xe s
noncomputable def MtR(X:Cx)(id:String)(r:V->List V->Hp->VK->Prop):Prop :=
 ∀(pins:List (Addr×Obj)) (s:Shared) (Y:St) (H:Hp) (x:V) (xs:List V) (v:Value) (us:List Value) (Q:VK),Inv X pins Y H s->RelV x v->Vals xs us->r x xs H Q ->
  wpAny (model X.prog X.w) X.A (call (.builtin id) (v::us)) (EP X pins Y Q) X.xe s
section
variable {X:Cx}{a b:Expr}{ta tb:TE}{pos:Pos}
theorem IxR.or{r r':R2}(h:IxR X r)(h':IxR X r'):IxR X (fun x y H Q=>r x y H Q\/r' x y H Q):=by
 intro value slice pins s Y H x y v u Q I rx ry q hs
 rcases q with q|q
 ·exact h value slice pins s Y H x y v u Q I rx ry q hs
 ·exact h' value slice pins s Y H x y v u Q I rx ry q hs
theorem QlL{r:R2}(hr:IxR X r)(ha:PE X a ta)(hb:PE X b tb)(hs:QdT b):PE X (.Subscript a b pos) (tOp r ta tb):=by
 intro pins s Y H Q I h;exact Subscript_ (QmJ ha hb I h fun v u s2 x y H2 I2 rx ry q=>hr a b pins s2 Y H2 x y v u Q I2 rx ry q (hs _ _))
def QnA(K:W.Frag):R2:=fun x y H Q=>∃p xs i v,x=.ref p/\y=.int i/\SqL K H p xs/\atI xs i=some v/\Q v H
def Qny(K:W.Frag):R2:=fun x y H Q=>∃p xs i v,x=.ref p/\y=.int i/\SqT K H p xs/\atI xs i=some v/\Q v H
def Qnz:R2:=fun x y H Q=>∃z i c,x=.str z/\y=.int i/\z.length<=sizeLine/\atI z.cps.toList i=some c/\Q (.str ⟨#[c]⟩) H
theorem ix_list:IxR X (QnA X.K):=by
 intro value slice pins s Y H x y v u Q I rx ry h hs;obtain⟨p,xs,i,z,rfl,rfl,hq,he,q⟩:=h;cases rx;obtain⟨t,rfl⟩:=ry;obtain⟨its,r,pl,hz⟩:=I.list hq;obtain⟨j,h1,h2,h3,h4,h5⟩:=QaY he;obtain⟨w,ew,rw'⟩:=r.get h2;have hl:=r.length;have hn:=YX;have fin:EP X pins Y Q w s:=⟨z,H,I,rw',q⟩;by_cases h0:0<=i
 ·have hj:i.toNat=j:=by
   rw [seqIndex_of h0 h5]at h1;exact Option.some.inj h1
  exact item_listR pl.isList h0 (by omega) (by rw [hj];simpa using ew) fin hs
 ·have hj:(i+(its.toArray.size:Int)).toNat=j:=by
   rw [seqIndex_neg (by omega) h4]at h1
   rw [List.size_toArray,<-hl];exact Option.some.inj h1
  exact subscriptTail_builtinR (x:=w) pl.isList.typeIs slot_list_getitem.lookup
   (wpAny_getItem_list_neg (Q:=fun r s'=>r=w/\EP X pins Y Q r s') pl.isList (by omega) (by rw [List.size_toArray]<;>omega) (by omega) (by rw [hj];simpa using ew) ⟨rfl,fin⟩) hs
theorem ix_tup:IxR X (Qny X.K):=by
 intro value slice pins s Y H x y v u Q I rx ry h hs;obtain⟨p,xs,i,z,rfl,rfl,hq,he,q⟩:=h;cases rx;obtain⟨t,rfl⟩:=ry;obtain⟨its,r,pl,hz⟩:=I.tuple hq;obtain⟨j,h1,h2,h3,h4,h5⟩:=QaY he;obtain⟨w,ew,rw'⟩:=r.get h2;have hl:=r.length;have hn:=YX;have fin:EP X pins Y Q w s:=⟨z,H,I,rw',q⟩
 exact subscriptTail_builtinR (x:=w) pl.typeIs slot_tuple_getitem.lookup
  (getItem_tuple (j:=j) (Q:=fun r s'=>r=w/\EP X pins Y Q r s') pl (by omega) (by omega) (by rw [List.size_toArray,<-hl];exact h1) (by simpa using ew) ⟨rfl,fin⟩) hs
theorem QjQ:IxR X Qnz:=by
 intro value slice pins s Y H x y v u Q I rx ry h hs;obtain⟨z,i,c,rfl,rfl,hz,he,q⟩:=h;obtain⟨t,rfl⟩:=rx;obtain⟨t',rfl⟩:=ry;obtain⟨j,h1,h2,h3,h4,h5⟩:=QaY he
 have hl:z.cps.toList.length=z.length:=by simp [Str.length]
 rw [hl]at h1 h4 h5;have hn:=YX
 exact tail_any (typeIs_str s z t) slot_str_getitem.lookup (getItem_str (c:=c) (by
  have e1:decide (i < -(2 ^ 63:Int))=false:=decide_eq_false (by omega)
  have e2:decide (i≥2 ^ 63)=false:=decide_eq_false (by omega)
  rw [e1,e2,Bool.or_false]) (by rw [h1];simpa using h2) ⟨.str ⟨#[c]⟩,H,I.tok _,⟨_,rfl⟩,q⟩) hs
def rIx(K:W.Frag):R2:=fun x y H Q=>QnA K x y H Q\/Qny K x y H Q\/Qnz x y H Q
theorem ix_seq:IxR X (rIx X.K):=ix_list.or (ix_tup.or QjQ)
theorem JR(lo hi:Option Int)(n:Nat):(sliceBounds lo hi none n).1=((HT.sIx n 0 lo:Nat):Int)/\(sliceBounds lo hi none n).2.1=((HT.sIx n n hi:Nat):Int)/\(sliceBounds lo hi none n).2.2=1:=by
 refine⟨?_,?_,rfl⟩
 ·cases lo with
  | none=>simp [sliceBounds,HT.sIx]
  | some i =>
   simp only [sliceBounds,HT.sIx,Option.getD_none,show(1:Int) > 0 by decide,if_true]
   by_cases h:i<0
   ·simp only [h,if_true]<;>omega
   ·simp only [h,if_false]<;>omega
 ·cases hi with
  | none=>simp [sliceBounds,HT.sIx]
  | some i =>
   simp only [sliceBounds,HT.sIx,Option.getD_none,show(1:Int) > 0 by decide,if_true]
   by_cases h:i<0
   ·simp only [h,if_true]<;>omega
   ·simp only [h,if_false]<;>omega
theorem Jl(its:List Value)(lo hi:Option Int):slicePick its.toArray lo hi none=((its.drop (HT.sIx its.length 0 lo)).take (HT.sIx its.length its.length hi-HT.sIx its.length 0 lo)).toArray:=by
 obtain⟨h1,h2,h3⟩:=JR lo hi its.toArray.size;unfold slicePick;rw [h1,h2,h3];simp only [sliceRange_one,pick_run,List.size_toArray]<;>rfl
def Qnw(K:W.Frag):V->Option Int->Option Int->Hp->VK->Prop:=fun x lo hi H Q=>∃a xs,x=.ref a/\SqL K H a xs/\∀p,H p=none->Q (.ref p) (upd H p (.lst (Qh0 xs lo hi)))
theorem Qgj:SlR X (Qnw X.K):=by
 intro pins s Y H x v vl vu lo hi sl Q I rx hs pl pu h;obtain⟨a,xs,rfl,hx,q⟩:=h;cases rx;obtain⟨its,r,ht,hz⟩:=I.list hx;have hlen:=r.length;refine⟨"list",_,slot_list_getitem.lookup,ht.isList.typeIs,?_⟩
 refine wpAny_getItem_list_slice ht.isList hs pl pu .none (by simp) ?_ (by rw [List.size_toArray]<;>omega)
 rw [Jl,<-hlen];refine⟨.ref s.heap.objs.size,_,I.laid (t':=s.toks) (o:=.lst (Qh0 xs lo hi)) (fun b ob q=>Heap.get?_push_of_some _ q) (Nat.le_refl _) ?_,rfl,q _ (I.hok.fresh (Nat.le_refl _))⟩;exact⟨Nat.le_trans (QaW xs lo hi) hz,_,0,(r.drop (HT.sIx xs.length 0 lo)).take (HT.sIx xs.length xs.length hi-HT.sIx xs.length 0 lo),Heap.get?_push_size _ rfl⟩
theorem Qam : CallR X (.builtin "len") (fun xs H Q => ∃ p ys, xs = [.ref p] /\ (SqL X.K H p ys \/ SqT X.K H p ys) /\ Q (.int ys.length) H) := by
 intro pins s Y H xs us Q I r h;obtain⟨p,ys,rfl,hq,q⟩:=h;obtain⟨u,rfl,rx⟩:=Qaw r;cases rx;have hn:=YX
 rcases hq with hq|hq
 ·obtain⟨its,r',pl,hz⟩:=I.list hq;have hlen:=r'.length
  exact Calls.call_len_list pl.isList (by simp only [List.size_toArray]<;>omega) ⟨.int ys.length,H,I.tok _,⟨s.toks+1,by rw [List.size_toArray,hlen]⟩,q⟩
 ·obtain⟨its,r',pl,hz⟩:=I.tuple hq;have hlen:=r'.length
  exact len_tuple pl (by simp only [List.size_toArray]<;>omega) ⟨.int ys.length,H,I.tok _,⟨s.toks+1,by rw [List.size_toArray,hlen]⟩,q⟩
theorem Qal : CallR X (.builtin "len") (fun xs H Q => ∃ z, xs = [.str z] /\ z.length <= sizeLine /\ Q (.int z.length) H) := by
 intro pins s Y H xs us Q I r h;obtain⟨z,rfl,hz,q⟩:=h;obtain⟨u,rfl,t,rfl⟩:=Qaw r;have hn:=YX
 exact len_str (by omega) ⟨.int z.length,H,I.tok _,⟨_,rfl⟩,q⟩
theorem CallR.or{f:Value}{r r':List V->Hp->VK->Prop}(h:CallR X f r)(h':CallR X f r'):CallR X f (fun xs H Q=>r xs H Q\/r' xs H Q):=by
 intro pins s Y H xs us Q I rs q
 rcases q with q|q
 ·exact h pins s Y H xs us Q I rs q
 ·exact h' pins s Y H xs us Q I rs q
theorem Qak : CallR X (.type "list") (fun xs H Q => ∃ p ys, xs = [.ref p] /\ (SqL X.K H p ys \/ SqT X.K H p ys) /\ ∀ l, H l = none -> Q (.ref l) (upd H l (.lst ys))) := by
 intro pins s Y H xs us Q I r h;obtain⟨p,ys,rfl,hq,q⟩:=h;obtain⟨u,rfl,rx⟩:=Qaw r;cases rx
 have fin:∀(its:List Value),Vals ys its->ys.length<=sizeLine->∀(h':Heap) (c':Nat),(∀b o',s.heap.get? b=some o'->h'.get? b=some o') ->
   h'.get? s.heap.objs.size=some { cls:=.type "list",dict:=none,data:=.seq its.toArray c',slots:=#[] }->EP X pins Y Q (.ref s.heap.objs.size) { s with heap:=h' }:=fun its r' hz h' c' kp e =>
  ⟨.ref s.heap.objs.size,_,I.laid (t':=s.toks) kp (Nat.le_refl _) (show ObjOk X.prog X.w _ h' _ (.lst ys)from⟨hz,its,c',r',e⟩),rfl,q _ (I.hok.fresh (Nat.le_refl _))⟩
 rcases hq with hq|hq
 ·obtain⟨its,r',pl,hz⟩:=I.list hq;have hlen:=r'.length;obtain⟨o,ho,hc,n,hd⟩:=pl.isList
  exact call_list_seq p (.inl rfl) ho hc hd (fun h' c' kp e=>fin its r' hz h' c' kp e) (by simp only [List.size_toArray]<;>omega)
 ·obtain⟨its,r',pl,hz⟩:=I.tuple hq;have hlen:=r'.length;obtain⟨o,ho,hc,n,hd⟩:=pl
  exact call_list_seq p (.inr rfl) ho hc hd (fun h' c' kp e=>fin its r' hz h' c' kp e) (by simp only [List.size_toArray]<;>omega)
theorem JC : CallR X (.type "tuple") (fun xs H Q => ∃ p ys, xs = [.ref p] /\ ((SqL X.K H p ys /\ ∀ l, H l = none -> Q (.ref l) (upd H l (.tup ys))) \/ (SqT X.K H p ys /\ Q (.ref p) H))) := by
 intro pins s Y H xs us Q I r h;obtain⟨p,ys,rfl,h⟩:=h;obtain⟨u,rfl,rx⟩:=Qaw r;cases rx
 rcases h with⟨hq,q⟩|⟨hq,q⟩
 ·obtain⟨its,r',pl,hz⟩:=I.list hq;have hlen:=r'.length
  refine call_tuple_list pl.isList (fun h' kp=>?_) (by simp only [List.size_toArray]<;>omega)
  have I1:Inv X pins Y H { s with heap:=h' }:=I.kept (t':=s.toks) kp
  have I2:Inv X pins Y (upd H h'.objs.size (.tup ys)) { s with heap:=h'.push { cls:=.type "tuple",data:=.seq its.toArray } }:=
   I1.laid (t':=s.toks) (fun b o e=>Heap.get?_push_of_some _ e) (Nat.le_refl _) (show ObjOk X.prog X.w _ _ _ (.tup ys)from⟨hz,its,r',IsTup.new _ _⟩)
  exact⟨.ref h'.objs.size,_,I2,rfl,q _ (I1.hok.fresh (Nat.le_refl _))⟩
 ·obtain⟨its,r',pl,hz⟩:=I.tuple hq;exact call_tuple_same pl ⟨.ref p,H,I,rfl,q⟩
def tyV(K:W.Frag)(T:String)(x:V)(H:Hp):Prop:=match x with
 | .str _=>T="str"
 | .int _=>T="int"
 | .ref p => (T = "list" /\ ∃ xs, SqL K H p xs) \/ (T = "tuple" /\ ∃ o, K.lookup p = some o /\ o.cls = .type "tuple" /\ o.dict = none) \/
   (T = "dict" /\ ((∃ kvs, H p = some (.dK kvs)) \/ ∃ kvs, H p = some (.dT kvs))) \/ (T = "set" /\ ∃ S n, H p = some (.set S n))
 | _=>False
theorem Qfi{pins:List (Addr×Obj)}{Y:St}{H:Hp}{s:Shared}{T:String}{x:V}{v:Value}(I:Inv X pins Y H s)(r:RelV x v)(ty:tyV X.K T x H):
  s.TypeIs v T/\∀a,v=.ref a->∃ob,s.heap.get? a=some ob/\ob.dict=none:=by
 cases x with
 | str z =>
  obtain⟨t,rfl⟩:=r;cases(show T="str" from ty);exact⟨typeIs_str s z t,fun _ e=>nomatch e⟩
 | int i =>
  obtain⟨t,rfl⟩:=r;cases(show T="int" from ty);exact⟨typeIs_int s i t,fun _ e=>nomatch e⟩
 | ref p =>
  cases r
  rcases ty with⟨rfl,xs,hq⟩|⟨rfl,o,hk,hc,hd⟩|⟨rfl,hk⟩|⟨rfl,S,n,hk⟩
  ·obtain⟨its,_,pl,_⟩:=I.list hq;refine⟨pl.isList.typeIs,fun a e=>?_⟩;cases e;obtain⟨o,n,e,c,hd,_⟩:=pl;exact⟨o,e,hd⟩
  ·refine⟨⟨o,I.kIn p o hk,hc⟩,fun a e=>?_⟩;cases e;exact⟨o,I.kIn _ o hk,hd⟩
  ·have z:∃o,s.heap.get? p=some o/\o.ExactDict:=by
    rcases hk with⟨kvs,hk⟩|⟨kvs,hk⟩
    ·obtain⟨_,_,_,_,o,_,_,e,ex,_⟩:=I.hok p _ hk;exact⟨o,e,ex⟩
    ·obtain⟨_,_,_,_,o,_,_,e,ex,_⟩:=I.hok p _ hk;exact⟨o,e,ex⟩
   obtain⟨o,e,ex⟩:=z;refine⟨⟨o,e,ex.1⟩,fun a e2=>?_⟩;cases e2;exact⟨o,e,ex.2.1⟩
  ·obtain⟨o,_,_,_,e,ex,_⟩:=I.hok p _ hk;refine⟨⟨o,e,ex.1⟩,fun a e2=>?_⟩;cases e2;exact⟨o,e,ex.2.1⟩
 | _=>exact False.elim ty
def Qoi(K:W.Frag)(T:String)(r:V->List V->Hp->VK->Prop)(to:TE):TE:=fun Y H Q=>to Y H fun x H1=>tyV K T x H1/\r x [] H1 Q
def tBM(K:W.Frag)(T:String)(r:V->List V->Hp->VK->Prop)(to:TE)(t:TA):TE:=fun Y H Q=>to Y H fun x H1=>tyV K T x H1/\t Y H1 fun xs H2=>r x xs H2 Q
variable {o e:Expr}{es:List Expr}{to:TE}{t:TA}{name:Str}{apos cpos:Pos}{T id:String}{r:V->List V->Hp->VK->Prop}
theorem Qjh(pa:PlainAttrs T)(slot:Slot T name id)(hty:typeOf (.builtin id)=pure (.type "method_descriptor")) (hm:MtR X id r) (ho:PE X o to)
  (hbase:attributeBase o name X.env (eval o X.env)=eval o X.env:=by rfl) (hline:(apos.endLine==cpos.line)=true:=by rfl):PE X (.Call (.Attribute o name apos) [] [] cpos) (Qoi X.K T r to):=by
 intro pins s Y H Q I h;refine wpAny_Call_method0_late hbase hline (thn (ho pins s Y H _ I h) fun v s1 ⟨x,H1,I1,r1,ty,q1⟩=>?_);obtain⟨h1,h2⟩:=Qfi I1 r1 ty;exact⟨T,id,pa,slot,hty,h1,h2,Calls.callWith_builtin rfl (PySem.evalArgs_none (hm pins s1 Y H1 x [] v [] Q I1 r1 .nil q1))⟩
theorem QlM(pa:PlainAttrs T)(slot:Slot T name id)(hty:typeOf (.builtin id)=pure (.type "method_descriptor")) (hm:MtR X id r) (ho:PE X o to) (ha:PA X (e::es) t)
  (hbase:attributeBase o name X.env (eval o X.env)=eval o X.env:=by rfl)
  (hfew:((backTo cpos (starEach (e::es) X.env)).all (fun x=>!x.1)&&(backToKw cpos (keywordEach [] X.env)).all (fun x=>x.1.isSome)
   && decide ((e::es).length+([]:List Keyword).length+(if([]:List Keyword).isEmpty then 0 else 1) < 30))=true:=by rfl)
  (hline:(apos.endLine==cpos.line)=true:=by rfl) (hs:starEach (e::es) X.env=(false,eval e X.env)::starEach es X.env:=by rfl) (hplain:(backTo cpos (starEach es X.env)).any (·.1)=false:=by rfl):
  PE X (.Call (.Attribute o name apos) (e::es) [] cpos) (tBM X.K T r to t):=by
 intro pins s Y H Q I h;refine wpAny_Call_method_late hbase hfew hline rfl (thn (ho pins s Y H _ I h) fun v s1 ⟨x,H1,I1,r1,ty,q1⟩=>?_);obtain⟨h1,h2⟩:=Qfi I1 r1 ty;refine⟨T,id,pa,slot,hty,h1,h2,?_⟩;have hA:=ha cpos pins s1 Y H1 _ I1 q1;rw [hs]at hA ⊢
 refine Calls.callWith_builtin (by show(false||(backTo cpos (starEach es X.env)).any (·.1))=false;rw [hplain]<;>rfl) (Calls.evalArgs_plain ?_)
 exact thn hA fun us s2 ⟨vs,H2,I2,r2,q2⟩=>hm pins s2 Y H2 x vs v us Q I2 r1 r2 q2
end
end
section
variable {X:Cx}{xs:List V}
noncomputable def MtM(X:Cx)(id:String)(r:V->List V->Hp->VK->Prop):Prop :=
 ∀(pins:List (Addr×Obj)) (s:Shared) (Y:St) (H:Hp) (x:V) (xs:List V) (v:Value) (us:List Value) (Q:VK),Inv X pins Y H s->RelV x v->Vals xs us->r x xs H Q ->
  wpAny (model X.prog X.w) X.A (call (.builtin id) (v::us)) (EP X pins Y Q) X.xe s
theorem Vals.one:∀{x:V} {us:List Value},Vals [x] us->∃u,us=[u]/\RelV x u
 | _,_,.cons r .nil=>⟨_,rfl,r⟩
theorem Vals.two:∀{x y:V} {us:List Value},Vals [x,y] us->∃u v,us=[u,v]/\RelV x u/\RelV y v
 | _,_,_,.cons r (.cons q .nil)=>⟨_,_,rfl,r,q⟩
theorem Vals.zero:∀{us:List Value},Vals [] us->us=[]
 | _,.nil=>rfl
theorem Vals.dropLast{us:List Value}(h:Vals xs us):Vals xs.dropLast us.dropLast:=by
 induction h with
 | nil=>exact .nil
 | cons r t ih =>
  cases t with
  | nil=>exact .nil
  | cons q t'=>exact .cons r ih
theorem Vals.reverse{us:List Value}(h:Vals xs us):Vals xs.reverse us.reverse:=by
 induction h with
 | nil=>exact .nil
 | cons r t ih=>rw [List.reverse_cons,List.reverse_cons];exact Vals.append ih (.cons r .nil)
theorem Qb9{α:Type}(l:List α):l.eraseIdx (l.length-1)=l.dropLast:=by
 induction l with
 | nil=>rfl
 | cons a r ih =>
  cases r with
  | nil=>rfl
  | cons b r =>
   have e:(a::b::r).length-1=((b::r).length-1)+1:=by
    have h1:(a::b::r).length=r.length+2:=rfl;have h2:(b::r).length=r.length+1:=rfl;omega
   rw [e,List.eraseIdx_cons_succ,ih]
   all_goals rfl
section
variable {pins:List (Addr×Obj)}{Y:St}{H:Hp}{s:Shared}{l:Addr}{ys:List V}
theorem Inv.lset{its its':List Value}{n:Nat}{f:Array Value->Array Value}{t':Nat}(I:Inv X pins Y H s)(hH:H l=some (.lst xs))
  (e:s.heap.get? l=some { cls:=.type "list",data:=.seq its.toArray n }) (hf:f its.toArray=its'.toArray) (hv:Vals ys its') (hz:ys.length<=sizeLine):
  Inv X pins Y (upd H l (.lst ys)) { s with heap:=s.heap.update l (Obj.mapSeq f),toks:=t' }:=by
 have q:=PySem.IsL.update e f;rw [hf]at q
 refine I.write (x:=l) (e:=l) (by rw [hH];exact trivial) (.inl rfl) (fun b' u hb hu=>(Heap.get?_update_other s.heap (Obj.mapSeq f) (Ne.symm hb)).trans hu) ⟨_,q⟩ ?_
 exact⟨hz,its',_,hv,q⟩
theorem Inv.lnew{its:List Value}{t':Nat}(I:Inv X pins Y H s)(hv:Vals ys its)(hz:ys.length<=sizeLine):
  Inv X pins Y (upd H s.heap.objs.size (.lst ys)) { s with heap:=s.heap.push { cls:=.type "list",data:=.seq its.toArray },toks:=t' }:=
 I.laid (fun _ _ q=>Heap.get?_push_of_some _ q) (Nat.le_refl _) ⟨hz,its,0,hv,Heap.get?_push_size _ rfl⟩
theorem Inv.fresh(I:Inv X pins Y H s):H s.heap.objs.size=none:=I.hok.fresh (Nat.le_refl _)
theorem Inv.lstM (I : Inv X pins Y H s) (hH : H l = some (.lst xs)) : xs.length <= sizeLine /\ ∃ (its : List Value) (n : Nat), Vals xs its /\ xs.length = its.length /\ s.heap.get? l = some { cls := .type "list", data := .seq its.toArray n } := by
 obtain⟨z,its,n,r,e⟩:=I.hok l _ hH;exact⟨z,its,n,r,r.length,e⟩
end
section

def Qgw:V->List V->Hp->VK->Prop:=fun x vs H Q=>∃l xs y,x=.ref l/\vs=[y]/\H l=some (.lst xs)/\xs.length<sizeLine/\Q .non (upd H l (.lst (xs++[y])))
theorem JY:MtM X "list.append" Qgw:=by
 intro pins s Y H x vs v us Q I rx rv h;obtain⟨l,xs,y,rfl,rfl,hH,hz,q⟩:=h;cases rx;obtain⟨u,rfl,ru⟩:=rv.one;obtain⟨z,its,n,r,hl,e⟩:=I.lstM hH
 refine call_meets F.slot_list_append ⟨_,e,rfl⟩ F.entry_list_append (F.args_list_append_2 _ _) (PySem.list_append l its.toArray n u (by rw [List.size_toArray];omega)) ⟨e,?_⟩
 refine⟨.non,_,I.lset (its':=its++[u]) hH e (by simp) (r.append (.cons ru .nil)) ?_,rfl,q⟩
 rw [List.length_append,List.length_singleton];omega
def Qor:V->List V->Hp->VK->Prop:=fun x vs H Q=>∃l xs y,x=.ref l/\vs=[]/\H l=some (.lst xs)/\xs[xs.length-1]?=some y/\Q y (upd H l (.lst xs.dropLast))
theorem QjA:MtM X "list.pop" Qor:=by
 intro pins s Y H x vs v us Q I rx rv h;obtain⟨l,xs,y,rfl,rfl,hH,hy,q⟩:=h;cases rx;have hus:=rv.zero;subst hus;obtain⟨z,its,n,r,hl,e⟩:=I.lstM hH;obtain⟨u,hu,ru⟩:=r.get hy
 have hy':its.toArray[its.toArray.size-1]?=some u:=by
  show its.toArray[its.length-1]?=some u;rw [<-Array.getElem?_toList,<-hl];exact hu
 refine call_meets F.slot_list_pop ⟨_,e,rfl⟩ F.entry_list_pop (F.args_list_pop_1 _) (MeetsSeq.list_pop_last l its.toArray n u hy' (by rw [List.size_toArray];omega)) ⟨e,?_⟩
 refine⟨y,_,I.lset (its':=its.dropLast) hH e ?_ r.dropLast ?_,ru,q⟩
 ·show its.toArray.eraseIdxIfInBounds (its.toArray.size-1)=its.dropLast.toArray;rw [List.size_toArray,List.eraseIdxIfInBounds_toArray,Qb9]
 ·rw [List.length_dropLast];omega
def Qos:R2:=fun x y H Q=>∃l b xs zs,x=.ref l/\y=.ref b/\H l=some (.lst xs)/\H b=some (.lst zs)/\xs.length+zs.length<=sizeLine/\∀p,H p=none->Q (.ref p) (upd H p (.lst (xs++zs)))
theorem Qjr:OpR X (binaryOp .Add) Qos:=by
 intro pins s Y H x y v u Q I rx ry h;obtain⟨l,b,xs,zs,rfl,rfl,hH,hB,hz,q⟩:=h;cases rx;cases ry;obtain⟨z,its,n,r,hl,e⟩:=I.lstM hH;obtain⟨z2,its2,n2,r2,hl2,e2⟩:=I.lstM hB
 refine PySem.P.add_list e e2 ?_ (by rw [List.size_toArray,List.size_toArray];omega)
 have ea:its.toArray++its2.toArray=(its++its2).toArray:=by simp
 rw [ea]
 exact⟨.ref _,_,I.lnew (t':=s.toks) (r.append r2) (by rw [List.length_append];omega),rfl,q _ I.fresh⟩
end
section
set_option maxRecDepth 100000 in
end
section

end
end
section
variable {a:Addr}{A:Around}{X:Cx}{H H':Hp}{pins:List (Addr×Obj)}{xs:List (List Key×Addr×Value)}{kvs:List (List Key×V)}{o:Option V}{P:Program}{s:Shared}{Y:St}{y:V}{u:Value}{Q:Value->Shared->Prop}{w:World}
section
variable {κ:Type}[DecidableEq κ]
noncomputable def ZS(kvs:List (κ×V))(k:κ):Option V:=(kvs.find? fun kv=>decide (kv.1=k)).map (·.2)
noncomputable def YJ(kvs:List (κ×V))(k:κ)(v:V):List (κ×V):=
 if(kvs.any fun kv=>decide (kv.1=k))=true then kvs.map (fun kv=>if kv.1=k then(kv.1,v)else kv)else kvs++[(k,v)]
theorem Z8{p:κ×V}{r:List (κ×V)}{k:κ}(e:p.1=k):ZS (p::r) k=some p.2:=by simp [ZS,List.find?_cons,e]
theorem Z9{p:κ×V}{r:List (κ×V)}{k:κ}(e:¬p.1=k):ZS (p::r) k=ZS r k:=by simp [ZS,List.find?_cons,e]
theorem Je(k:κ):∀kvs:List (κ×V),(kvs.any fun kv=>decide (kv.1=k))=(ZS kvs k).isSome
 | []=>rfl
 | p::r=>by
  rw [List.any_cons];by_cases e:p.1=k
  ·simp only [Z8 e,decide_eq_true e,Bool.true_or,Option.isSome_some]
  ·rw [Z9 e,decide_eq_false e,Bool.false_or];exact Je k r
theorem Zj(kvs:List (κ×V))(k:κ)(v:V):(YJ kvs k v).length<=kvs.length+1:=by
 unfold YJ;split
 ·rw [List.length_map];omega
 ·rw [List.length_append,List.length_cons,List.length_nil];omega
theorem Qen{kvs:List (κ×V)}{k:κ}(v:V)(h:ZS kvs k=none):YJ kvs k v=kvs++[(k,v)]:=by
 unfold YJ;rw [Je,h]
 exact if_neg (by decide)
theorem RelO.isSome_eq{u:Option Value}(r:RelO o u):o.isSome=u.isSome:=by
 cases o with
 | none=>cases u with
  | none=>rfl
  | some _=>exact(show False from r).elim
 | some _=>cases u with
  | none=>exact(show False from r).elim
  | some _=>rfl
theorem RelO.getD{u:Option Value}{d:V}{d':Value}(r:RelO o u)(rd:RelV d d'):RelV (o.getD d) (u.getD d'):=by
 cases o with
 | none=>cases u with
  | none=>exact rd
  | some _=>exact(show False from r).elim
 | some _=>cases u with
  | none=>exact(show False from r).elim
  | some _=>exact r
theorem KV.val{kvs:List (κ×V)}{vs:List (κ×Value)}(r:KV kvs vs)(k:κ):RelO (ZS kvs k) (valueAt vs k):=by
 unfold KV at r
 induction r with
 | nil=>exact True.intro
 | @cons p q ps qs h t ih =>
  obtain⟨h1,h2⟩:=h;by_cases e:p.1=k
  ·have e':q.1=k:=h1.symm.trans e
   have b:valueAt (q::qs) k=some q.2:=by simp [valueAt,List.find?_cons,e']
   rw [Z8 e,b];exact h2
  ·have e':¬q.1=k:=fun z=>e (h1.trans z)
   have b:valueAt (q::qs) k=valueAt qs k:=by simp [valueAt,List.find?_cons,e']
   rw [Z9 e,b];exact ih
theorem KV.any{kvs:List (κ×V)}{vs:List (κ×Value)}(r:KV kvs vs)(k:κ):(kvs.any fun kv=>decide (kv.1=k))=vs.any fun kv=>decide (kv.1=k):=by
 unfold KV at r
 induction r with
 | nil=>rfl
 | cons h t ih=>rw [List.any_cons,List.any_cons,ih,h.1]
theorem KV.repl{kvs:List (κ×V)}{vs:List (κ×Value)}(r:KV kvs vs)(k:κ)(ry:RelV y u):
  KV (kvs.map fun kv=>if kv.1=k then(kv.1,y)else kv) (vs.map fun kv=>if kv.1=k then(kv.1,u)else kv):=by
 unfold KV at r ⊢
 induction r with
 | nil=>exact .nil
 | @cons p q ps qs h t ih =>
  rw [List.map_cons,List.map_cons];refine .cons ?_ ih;obtain⟨h1,h2⟩:=h;by_cases e:p.1=k
  ·rw [if_pos e,if_pos (h1.symm.trans e)];exact⟨h1,ry⟩
  ·rw [if_neg e,if_neg (fun z=>e (h1.trans z))];exact⟨h1,h2⟩
theorem KV.put{kvs:List (κ×V)}{vs:List (κ×Value)}(r:KV kvs vs)(k:κ)(ry:RelV y u):KV (YJ kvs k y) (stored vs k u):=by
 unfold YJ stored;rw [r.any k];by_cases e:(vs.any fun kv=>decide (kv.1=k))=true
 ·rw [if_pos e,if_pos e];exact r.repl k ry
 ·rw [if_neg e,if_neg e];exact Paired.snoc r ⟨rfl,ry⟩
theorem KV.length{kvs:List (κ×V)}{vs:List (κ×Value)}(r:KV kvs vs):kvs.length=vs.length:=Paired.length r
end
theorem QaS{k:Key}(r:RelV (kV k) u):(Qv P w).is k u=true:=by
 cases k with
 | inl i=>obtain⟨t,e⟩:=(show ∃t,u=Value.int i t from r);subst e;exact QaP P w i t
 | inr x=>obtain⟨t,e⟩:=(show ∃t,u=Value.str x t from r);subst e;exact QaO P w x t
theorem Qab{P:Program}{w:World}:∀{ks:List Key} {us:List Value},Vals (ks.map kV) us->ItemsAre (Qv P w) ks us
 | [],_,r=>by rw [List.map_nil]at r;cases r;exact .nil
 | k::ks,_,r=>by
  rw [List.map_cons]at r
  cases r with
  | cons h t=>exact .cons (QaS h) (Qab t)
abbrev KT(H:Hp):List (List Key×V)->List (List Key×Addr×Value)->Prop:=Paired fun p q=>p.1=q.1/\H q.2.1=some (.tup (p.1.map kV))/\RelV p.2 q.2.2
theorem KT.val(r:KT H kvs xs)(k:List Key):RelO (ZS kvs k) ((atKey xs k).map (·.2)):=by
 induction r with
 | nil=>exact True.intro
 | @cons p q ps qs h t ih =>
  obtain⟨h1,_,h2⟩:=h;by_cases e:p.1=k
  ·have e':q.1=k:=h1.symm.trans e
   have b:atKey (q::qs) k=some q.2:=by simp [atKey,List.find?_cons,e']
   rw [Z8 e,b];exact h2
  ·have e':¬q.1=k:=fun z=>e (h1.trans z)
   have b:atKey (q::qs) k=atKey qs k:=by simp [atKey,List.find?_cons,e']
   rw [Z9 e,b];exact ih
theorem KT.repl(r:KT H kvs xs)(k:List Key)(ry:RelV y u):
  KT H (kvs.map fun kv=>if kv.1=k then(kv.1,y)else kv) (xs.map (putAt k u)):=by
 induction r with
 | nil=>exact .nil
 | @cons p q ps qs h t ih =>
  rw [List.map_cons,List.map_cons];refine .cons ?_ ih;obtain⟨h1,h2,h3⟩:=h;unfold putAt;by_cases e:p.1=k
  ·rw [if_pos e,if_pos (h1.symm.trans e)];exact⟨h1,h2,ry⟩
  ·rw [if_neg e,if_neg (fun z=>e (h1.trans z))];exact⟨h1,h2,h3⟩
theorem KT.put(r:KT H kvs xs)(k:List Key){b:Addr}(hb:H b=some (.tup (k.map kV)))(ry:RelV y u):
  KT H (YJ kvs k y) (storedH xs k b u):=by
 have e:(kvs.any fun kv=>decide (kv.1=k))=(atKey xs k).isSome:=by
  rw [Je,(r.val k).isSome_eq,Option.isSome_map]
 unfold YJ storedH;rw [e];by_cases q:(atKey xs k).isSome=true
 ·rw [if_pos q,if_pos q];exact r.repl k ry
 ·rw [if_neg q,if_neg q];exact Paired.snoc r ⟨rfl,hb,ry⟩
theorem KT.keeps(r:KT H kvs xs)(ht:∀b ys,H b=some (.tup ys)->H' b=some (.tup ys)):KT H' kvs xs :=
 Paired.mapP r fun _ _ z=>⟨z.1,ht _ _ z.2.1,z.2.2⟩
section
variable {h:Heap}
theorem QiP{u:HO}(ok:HOk P w H h)(e:Rd H a u):ObjOk P w H h a u:=e.ok ok
theorem Qdz{kvs:List (Key×V)}(ok:HOk P w H h)(e:Rd H a (.dK kvs)):kvs.length<=sizeLine/\(a==sysModules)=false/\∃vs,KV kvs vs/\h.DictOf (Qv P w) a vs :=
 show ObjOk P w H h a (.dK kvs)from QiP ok e
theorem QeX{kvs:List (Key×V)}(ok:HOk P w H h)(e:H a=some (.dK kvs)):kvs.length<=sizeLine/\(a==sysModules)=false/\∃vs,KV kvs vs/\h.DictOf (Qv P w) a vs:=Qdz ok (.inl e)
theorem JZ{ks:List Key}(ok:HOk P w H h)(e:H a=some (.tup (ks.map kV))):(tupleKind (Qv P w)).is h ks a:=by
 obtain⟨_,its,r,o,h1,h2,n,h3⟩:=(show ObjOk P w H h a (.tup (ks.map kV))from ok a _ e)
 exact⟨o,its.toArray,n,h1,h2,h3,by simpa using Qab r⟩
theorem Qdy(ok:HOk P w H h)(e:Rd H a (.dT kvs)):kvs.length<=sizeLine/\(a==sysModules)=false /\
  ∃xs,KT H kvs xs/\h.DictOfH (tupleKind (Qv P w)) a xs:=by
 obtain⟨z,y,xs,r,o,es,ep,h1,h2,h3,h4,h5⟩:=(show ObjOk P w H h a (.dT kvs)from QiP ok e);refine⟨z,y,xs,r,o,es,ep,h1,h2,h3,h4,fun x hx=>?_,h5⟩
 have all:∀{l:List (List Key×V)} {m:List (List Key×Addr×Value)},KT H l m->∀x∈m,(tupleKind (Qv P w)).is h x.1 x.2.1:=by
  intro l m q
  induction q with
  | nil=>intro x hx;exact nomatch hx
  | @cons p q ps qs hq t ih =>
   intro x hx
   rcases List.mem_cons.mp hx with e|hx
   ·subst e
    exact JZ ok (by rw [<-hq.1];exact hq.2.1)
   ·exact ih x hx
 exact all r x hx
theorem Qmr(ok:HOk P w H h)(e:H a=some (.dT kvs)):kvs.length<=sizeLine/\(a==sysModules)=false /\
  ∃xs,KT H kvs xs/\h.DictOfH (tupleKind (Qv P w)) a xs:=Qdy ok (.inl e)
end
noncomputable def DGet(H:Hp)(a:Addr)(y:V)(r:Option V):Prop :=
 (∃kvs k,Rd H a (.dK kvs)/\y=kV k/\r=ZS kvs k)\/∃kvs k b,Rd H a (.dT kvs)/\y=.ref b/\H b=some (.tup (k.map kV))/\r=ZS kvs k
noncomputable def DPut(H:Hp)(a:Addr)(y v:V)(H':Hp):Prop :=
 (∃kvs k,H a=some (.dK kvs)/\y=kV k/\kvs.length<sizeLine/\H'=upd H a (.dK (YJ kvs k v))) \/
 ∃kvs k b,H a=some (.dT kvs)/\y=.ref b/\H b=some (.tup (k.map kV))/\kvs.length<sizeLine/\H'=upd H a (.dT (YJ kvs k v))
theorem DGet.k{H:Hp}{a:Addr}{kvs:List (Key×V)}{k:Key}(e:H a=some (.dK kvs)):DGet H a (kV k) (ZS kvs k):=.inl ⟨kvs,k,.inl e,rfl,rfl⟩
theorem DPut.k{H:Hp}{a:Addr}{kvs:List (Key×V)}{k:Key}{v:V}(e:H a=some (.dK kvs))(hl:kvs.length<sizeLine):DPut H a (kV k) v (upd H a (.dK (YJ kvs k v))):=.inl ⟨kvs,k,e,rfl,hl,rfl⟩
section
variable {v:V}{r:Value}{E:Value->Shared->Prop}
theorem Inv.big(I:Inv X pins Y H s):sysModules<s.heap.objs.size:=by
 have h:mainGlobals<s.heap.objs.size:=(I.mod.glob.keeps I.bk).lt
 exact Nat.lt_trans (by decide) h
theorem QdF(hu:A.units+1<cLine)(I:Inv X pins Y H s)(g:DGet H a y (some v))(ry:RelV y u)(h:∀w' s',Inv X pins Y H s'->RelV v w'->Q w' s'):
  wpAny (model X.prog X.w) A (getItem (.ref a) u) Q E s:=by
 rcases g with⟨kvs,k,e,ey,l⟩|⟨kvs,k,b,e,ey,eb,l⟩
 ·subst ey;obtain⟨z,hd,vs,rel,dd⟩:=Qdz I.hok e
  obtain⟨w',hw,rw'⟩:=RelO.some_of (v:=v) (o:=valueAt vs k) (by rw [l];exact rel.val k)
  exact wpAny_getItem_of (QaS ry) dd.mapOf hw (h w' _ (I.tok _) rw')
 ·subst ey;cases(show u=Value.ref b from ry);obtain⟨z,hd,xs,rel,dd⟩:=Qdy I.hok e
  obtain⟨w',hw,rw'⟩:=RelO.some_of (v:=v) (o:=(atKey xs k).map (·.2)) (by rw [l];exact rel.val k)
  obtain⟨p,hp,hp2⟩:=Option.map_eq_some_iff.mp hw;refine wpAny_getItem_heap (tupleKind_room_in1 hu) (JZ I.hok eb) dd hp ?_;rw [hp2];exact h w' _ (I.tok _) rw'
theorem QoW(hu:A.units+1<cLine)(I:Inv X pins Y H s)(g:DGet H a y o)(ry:RelV y u)(h:∀s',Inv X pins Y H s'->Q (.bool o.isSome) s'):
  wpAny (model X.prog X.w) A (compareOp .In u (.ref a)) Q E s:=by
 rcases g with⟨kvs,k,e,ey,l⟩|⟨kvs,k,b,e,ey,eb,l⟩
 ·subst ey;obtain⟨z,hd,vs,rel,dd⟩:=Qdz I.hok e;refine wpAny_in_of (QaS ry) hd dd.mapOf ?_;rw [<-(rel.val k).isSome_eq,<-l];exact h _ (I.tok _)
 ·subst ey;cases(show u=Value.ref b from ry);obtain⟨z,hd,xs,rel,dd⟩:=Qdy I.hok e;refine wpAny_in_heap (tupleKind_room_in1 hu) (JZ I.hok eb) hd dd ?_;have q:=(rel.val k).isSome_eq;rw [Option.isSome_map]at q;rw [<-q,<-l];exact h _ (I.tok _)
theorem QaV{h':Heap}{t':Nat}{ob:HO}(I:Inv X pins Y H s)(mu:Mut (H a))(hs:Heap.SameBut a s.heap h')(he:∃q,h'.get? a=some q)(new:ObjOk X.prog X.w (upd H a ob) h' a ob):
  Inv X pins Y (upd H a ob) { s with heap:=h',toks:=t' }:=
 I.write (x:=a) (e:=a) mu (.inl rfl) (fun b q hb z=>(hs.2 b hb).trans z) he new
theorem QfM{h':Heap}{kvs:List (Key×V)}{vs:List (Key×Value)}(z:kvs.length<=sizeLine)(hd:(a==sysModules)=false)(rel:KV kvs vs)(dd:h'.DictOf (Qv P w) a vs):
  ObjOk P w H' h' a (.dK kvs):=⟨z,hd,vs,rel,dd⟩
theorem QdE{Q:Unit->Shared->Prop}(hu:A.units+1<cLine)(I:Inv X pins Y H s)(g:DPut H a y v H')(ry:RelV y u)(rv:RelV v r)(h:∀s',Inv X pins Y H' s'->Q () s'):
  wpAny (model X.prog X.w) A (setItem (.ref a) u r) Q E s:=by
 rcases g with⟨kvs,k,e,ey,l,eH⟩|⟨kvs,k,b,e,ey,eb,l,eH⟩
 ·subst ey eH;obtain⟨z,hd,vs,rel,dd⟩:=QeX I.hok e
  have hz:vs.length<=sizeLine:=by rw [<-rel.length];exact z
  have hl:(YJ kvs k v).length<=sizeLine:=by have:=Zj kvs k v;omega
  refine wpAny_setItem_pairs (hsz:=hz) (QaS ry) dd fun h' dd' hs=>h _ ?_;have he:∃q,h'.get? a=some q:=let ⟨q,_,_,hq,_⟩:=dd';⟨q,hq⟩
  exact QaV I (by rw [e];exact True.intro) hs he (QfM hl hd (rel.put k rv) dd')
 ·subst ey eH;cases(show u=Value.ref b from ry);obtain⟨z,hd,xs,rel,dd⟩:=Qmr I.hok e
  have hz:xs.length<=sizeLine:=by rw [<-Paired.length rel];exact z
  have hl:(YJ kvs k v).length<=sizeLine:=by have:=Zj kvs k v;omega
  refine wpAny_setItem_heap (hsz:=hz) (tupleKind_room_in1 hu) (JZ I.hok eb) dd fun h' dd' hs=>h _ ?_;obtain⟨q,es,ep,hq,h2,h3,h4,_,h5⟩:=dd'
  refine QaV I (by rw [e];exact True.intro) hs ⟨q,hq⟩ ⟨hl,hd,_,(rel.put k eb rv).keeps fun c ys ec=>?_,q,es,ep,hq,h2,h3,h4,h5⟩
  rw [Qe (QlX ec e (fun z=>nomatch z))];exact ec
end
theorem QaT(I:Inv X pins Y H s)(g:DGet H a y o):s.TypeIs (.ref a) "dict":=by
 rcases g with⟨kvs,k,e,_,_⟩|⟨kvs,k,b,e,_,_,_⟩
 ·obtain⟨_,_,vs,_,dd⟩:=Qdz I.hok e;exact dd.typeIs
 ·obtain⟨_,_,xs,_,dd⟩:=Qdy I.hok e;exact dd.typeIs
theorem QeY(h:Heap)(hb:sysModules<h.objs.size):ObjOk P w H (h.push { cls:=.type "dict",data:=.dict #[] }) h.objs.size (.dK []):=
 ⟨Nat.zero_le _,beq_eq_false_iff_ne.mpr (Ne.symm (Nat.ne_of_lt hb)),[],.nil,Heap.DictOf.new h⟩
def Qiq:TE:=fun _ H Q=>∀p,H p=none->Q (.ref p) (upd H p (.dK []))
section
variable {pos:Pos}
theorem Qew:PE X (.Dict [] [] pos) Qiq:=fun pins s Y H Q I h =>
 wpAny_Dict_empty ⟨.ref s.heap.objs.size,_,I.laid (a:=s.heap.objs.size) (o:=.dK []) (t':=s.toks) (fun _ _ q=>Heap.get?_push_of_some _ q) (Nat.le_refl _) (QeY s.heap I.big),rfl,h _ (I.hok.fresh (Nat.le_refl _))⟩
end
abbrev VV:List (V×V)->List (Value×Value)->Prop:=Paired fun p q=>RelV p.1 q.1/\RelV p.2 q.2
noncomputable def ZK(kvs more:List (Key×V)):List (Key×V):=more.foldl (fun acc kv=>YJ acc kv.1 kv.2) kvs
section
variable {d:V}{r:Value}{E:Value->Shared->Prop}
theorem Qkc(hu:A.units+1<cLine)(I:Inv X pins Y H s)(g:DGet H a y o)(ry:RelV y u)(rd:RelV d r)(h:∀w' s',Inv X pins Y H s'->RelV (o.getD d) w'->Q w' s'):
  wpAny (model X.prog X.w) A (call (.builtin "dict.get") [.ref a,u,r]) Q E s:=by
 rcases g with⟨kvs,k,e,ey,l⟩|⟨kvs,k,b,e,ey,eb,l⟩
 ·subst ey;obtain⟨z,hd,vs,rel,dd⟩:=Qdz I.hok e;refine call_meetsIn PySem.F.slot_dict_get dd.typeIs PySem.F.entry_dict_get (PySem.F.args_dict_get_3 _ _ _) (meets_dict_get_default (Qv X.prog X.w) a (QaS ry) hd r) ⟨_,dd.mapOf,h _ _ (I.tok _) ?_⟩;rw [l];exact(rel.val k).getD rd
 ·subst ey;cases(show u=Value.ref b from ry);obtain⟨z,hd,xs,rel,dd⟩:=Qdy I.hok e;refine call_meetsIn PySem.F.slot_dict_get dd.typeIs PySem.F.entry_dict_get (PySem.F.args_dict_get_3 _ _ _) (meetsH_dict_get_default (tupleKind (Qv X.prog X.w)) a b hd r) ⟨tupleKind_room_in1 hu,k,xs,JZ I.hok eb,dd,h _ _ (I.tok _) ?_⟩;rw [l];exact(rel.val k).getD rd
end
end
end L2
namespace Att
open PySem PySem.W PySem.Calls PyProof.Rows
theorem Yx{P:Params}{h:Heap}:∀(ns:List Int) (vs:List Value),WellAll P h vs (ns.map WData.int)->IntsAre vs ns:=by
 intro ns
 induction ns with
 | nil =>
  intro vs w;rw [List.map_nil]at w;cases w;exact .nil
 | cons n ns ih =>
  intro vs w;rw [List.map_cons]at w
  cases w with
  | cons a b =>
   cases a;exact .cons _ _ (ih _ b)
theorem QcN{l:OpenLaw}{n:Nat}(hn:l.most=some n){P:Params}{h:Heap}{args:List WData}{vals:List Value}
  (hpre:l.row.toRowW.claim.pre args=true) (hwl:WellAll P h vals args):
  ∃ a vs ns, vals = [Value.ref a] /\ args = [WData.list (ns.map WData.int)] /\ h.get? a = some { cls := .type "list", data := .seq vs.toArray } /\ IntsAre vs ns /\ ns.length <= n := by
 have hsh:WShape.hasAll [] args [.list .int]=true:=(pre_splitW hpre).1;have hc:l.pre.holds [] { args:=args }=true:=(pre_splitW hpre).2;obtain⟨d,r,rfl,h1,h2⟩:=hasAllW_cons hsh;obtain rfl:=hasAllW_nil h2;obtain⟨xs,rfl,h3⟩:=hasW_list h1;obtain⟨ns,rfl⟩:=items_int h3
 have hlen:ns.length<=n:=by
  unfold OpenLaw.pre at hc
  have h4:(WTm.not (.lt (.lit (.int (n:Int))) (.len (.arg 0)))).holds [] { args:=[.list (ns.map .int)] }=true:=by
   have h4:=(holds_andW hc).1;rw [hn]at h4;exact h4
  have h5:=condW_of h4 (w_not (w_lt w_lit (w_len_list (w_arg rfl))));rw [List.length_map]at h5;refine Nat.le_of_not_lt fun q=>?_
  have q':(n:Int) < ((ns.length:Nat):Int):=by omega
  first
   | (rw [decide_eq_true q']at h5;exact absurd h5 (by decide))
   | (simp at h5;omega)
 cases hwl with
 | cons w1 w2 =>
  cases w2
  cases w1 with
  | list ho hall=>exact⟨_,_,ns,rfl,rfl,ho,Yx ns _ hall,hlen⟩
theorem QcY(l:OpenLaw)(args:List WData):l.row.toRowW.claim.post args (.bool true) args=true :=
 postW_of (r:=l.row.toRowW) (X:=(true==true))
  (show WShape.has [] (.bool true) .bool=true by first|rfl|decide|simp [WShape.has,WShape.arms,WShape.armsAll])
  (show(WTm.eq .res (.lit (.bool true))).value [] { args:=args,res:=some (.bool true),after:=args }=some (.bool (true==true))from w_eq_bool (w_res rfl) w_lit) rfl
theorem attach_call{l:OpenLaw}{n:Nat}{q:Program}{loose:List Str}{XP:(Str->Option Value)->Heap->Prop}{YP:World->Heap->Prop}{d:DefRec}
  (hn:l.most=some n) (hdf:d.params.defaults=[])
  (call:∀(w:World) (s₀ s₁:Shared) (mg mb:Str->Option Value) (fa:Addr) (o:Obj) (pm cd doc:Value) (a:Addr) (vs:List Value) (ns:List Int),
   Ground q loose [] XP w s₀ mg mb s₁.heap->YP w s₁.heap ->
   s₁.heap.get? fa=some o->o.data=.func (docDef d.name d.params d.body d.scope pm cd doc)->s₁.heap.CodeRec cd d.name->mg d.name=some (.ref fa) ->
   s₁.heap.get? a=some { cls:=.type "list",data:=.seq vs.toArray }->IntsAre vs ns->ns.length<=n->s₁.gens=#[] ->
   codeAny (model l.prog w) callerA (.call (.ref fa) ⟨[.ref a],[]⟩) (fun r s'=>r=.ok (.ret (.bool true))/\OldK s₁.heap s'.heap/\s'.os=s₁.os/\AllBare s'.gens) s₁):
  WalkO q loose XP YP l.row.toRowW d [] (fun f vs=>PySem.call f vs):=by
 intro w s₀ s₁ mg mb G Yyy fa o pm cd doc dV kV ho hd hcd hD hmg hg args vals as hpre hlay hrd hwl hlo;obtain rfl:dV=.none:=Dflts.none hD hdf;obtain rfl:kV=.none:=Dflts.noKw hD;obtain⟨a,vs,ns,rfl,rfl,hobj,hints,hlen⟩:=QcN hn hpre hwl;refine enter_call (codeAny_mono (call w s₀ s₁ mg mb fa o pm cd doc a vs ns G Yyy ho (fd_plain hd) hcd hmg hobj hints hlen hg) fun r s' hq=>?_);obtain⟨rfl,h2,h3,h4⟩:=hq;exact⟨.inl ⟨.bool true,.bool true,[],rfl,fun _=>rfl,.bool true,QcY l _,fun _=>⟨List.Pairwise.nil,fun _ hm=>(nomatch hm)⟩⟩,h2,h3,h4⟩
end Att
namespace L2
open PySem PySem.Spec PyProof.Rows
section
theorem JL:∀{vs:List Value} {ns:List Int},IntsAre vs ns->Vals (ns.map V.int) vs
 | _,_,.nil=>.nil
 | _,_,.cons n t h=>.cons ⟨t,rfl⟩ (JL h)
def QkZ(H:Hp):Prop:=∀b,H b=none\/∃o xs,H b=some (.frz o (.lst xs))
theorem QeH{P:Program}{w:World}{K:W.Frag}{mg mb:Str->Option Value}{CX:CXT}{k:Nat}{fa a:Addr}{fd:FuncData}{x:Str}{sp:Sp}{s₁:Shared}{vs:List Value}{ns:List Int}
  (KX:K.In s₁.heap) (hns:s₁.heap.Ns mainGlobals mg) (hb:s₁.heap.Ns builtinsNs mb) (hbb:∀x:Str,x≠"__name__"->mb x=bootBuiltins x) (hlim:s₁.heap.NoLimit) (hg:s₁.gens=#[])
  (ha:s₁.heap.get? a=some { cls:=.type "list",data:=.seq vs.toArray }) (hi:IntsAre vs ns) (hl:ns.length<=sizeLine) (hr:Room k callerA)
  (F:∀base:Heap,K.In base->base.Ns mainGlobals mg->FnOk P w K mg base CX k fa fd [x] sp) (hbind:∀(s:Shared) (u:Value),BindsTo s fd ⟨[u],[]⟩ [(x,u)])
  (hsp:∀H:Hp,QkZ H->SqL K H a (ns.map V.int)->sp [.ref a] H (fun v _=>v=.bl true) fun _ _ _=>False)
  (hCX:∀H e s',CX [] H s₁ (fun _ _ _=>False) e s'->False):
  codeAny (model P w) callerA (.call (.ref fa) ⟨[.ref a],[]⟩) (fun r s'=>r=.ok (.ret (.bool true))/\OldK s₁.heap s'.heap/\s'.os=s₁.os/\AllBare s'.gens) s₁:=by
 have rv:=JL hi;have lenV:=hi.length
 have core:∀H:Hp,QkZ H->SqL K H a (ns.map V.int)->HOk P w H s₁.heap->(∀b,H b≠none->b=a)->(H a≠none->K.lookup a=none) ->
   codeAny (model P w) callerA (.call (.ref fa) ⟨[.ref a],[]⟩) (fun r s'=>r=.ok (.ret (.bool true))/\OldK s₁.heap s'.heap/\s'.os=s₁.os/\AllBare s'.gens) s₁:=by
  intro H hO hS hok hA hK;have base_of:∀{b:Addr} {o:Obj},s₁.heap.get? b=some o->H b=none->(QeM s₁.heap H).get? b=some o:=fun e n=>QeL e n
  have noA:∀{b:Addr} {o:Obj} {es:Array DictEntry} {ep:Nat},s₁.heap.get? b=some o->o.data=.dict es ep->H b=none:=fun {b o es ep} e d=>by
   cases q:H b with
   | none=>rfl
   | some u =>
    have e':b=a:=hA b (by rw [q];simp)
    subst e';rw [ha]at e;cases e;have d':Data.seq vs.toArray _=Data.dict es ep:=d;cases d'
  have nsK:∀{b:Addr} {m:Str->Option Value},s₁.heap.Ns b m->(QeM s₁.heap H).Ns b m:=fun {b m} ⟨o,es,ep,e,d,r⟩=>⟨o,es,ep,base_of e (noA e d),d,r⟩
  have hKb:K.In (QeM s₁.heap H):=fun b o e=>base_of (KX b o e) (by
   cases q:H b with
   | none=>rfl
   | some u =>
    have e':b=a:=hA b (by rw [q];simp)
    subst e'
    rw [hK (by rw [q];simp)]at e;cases e)
  have hM:Mod K mg (QeM s₁.heap H):=⟨hKb,nsK hns,⟨mb,nsK hb,hbb⟩,let ⟨mc,h1,h2⟩:=hlim;⟨mc,nsK h1,h2⟩⟩
  have e0:Env0 P w K mg (QeM s₁.heap H) callerA [] s₁ H:=⟨rfl,hM,fun b o e=>QgX e,Nat.le_of_eq (Qdq _ _),trivial,fun b hb=>absurd (show b∈([]:List Addr)from hb) (by simp),hok,.of_eq hg⟩
  refine codeAny_mono ((F _ hKb (nsK hns)).run callerA [] s₁ H ⟨[.ref a],[]⟩ [.ref a] [.ref a] _ _ hr e0 (hbind s₁ (.ref a)) (.cons rfl .nil) (hsp H hO hS)) fun r s' h=>?_
  cases r with
  | error e=>exact(hCX H e s' h).elim
  | ok fl =>
   cases fl with
   | next=>exact False.elim h
   | brk=>exact False.elim h
   | cont=>exact False.elim h
   | ret u =>
    obtain⟨v,H',os,bare,un,hok',r',q⟩:=h;have q':v=.bl true:=q;subst q';obtain rfl:u=Value.bool true:=r';refine⟨rfl,OldK.of_keep fun b o e=>?_,os,bare⟩
    cases q:H b with
    | none=>exact un.keep b o e q (by intro z;exact absurd (show b∈([]:List Addr)from z) (by simp)) (by simp)
    | some u =>
     rcases hO b with z|⟨ob,xs,z⟩
     ·rw [q]at z;cases z
     ·have z2:=un.frzs b ob _ z;obtain⟨e1,_⟩:=hok b _ z;obtain⟨e2,_⟩:=hok' b _ z2;rw [e]at e1;cases e1;exact e2
 cases hk:K.lookup a with
 | some o =>
  have e:=KX a o hk;rw [ha]at e;cases e
  refine core (fun _=>none) (fun _=>.inl rfl) (.inr ⟨_,vs.toArray,_,hk,rfl,rfl,rfl,by rw [List.size_toArray,lenV];exact hl,by simpa using rv⟩) (fun b u z=>by have z':(none:Option HO)=some u:=z;cases z') (fun b z=>absurd rfl z) fun z=>absurd rfl z
 | none =>
  refine core (fun b=>if b=a then some (.frz { cls:=.type "list",data:=.seq vs.toArray } (.lst (ns.map V.int)))else none) (fun b=>?_) (.inl (.inr ⟨{ cls:=.type "list",data:=.seq vs.toArray },if_pos rfl⟩)) (fun b u z=>?_) (fun b z=>?_) fun _=>hk
  ·by_cases hb:b=a
   ·exact .inr ⟨_,_,if_pos hb⟩
   ·exact .inl (if_neg hb)
  ·by_cases hb:b=a
   ·have z':=(if_pos hb).symm.trans z;cases z';subst hb
    exact⟨ha,by rw [List.length_map];exact hl,vs,_,rv,ha⟩
   ·have z':=(if_neg hb).symm.trans z;cases z'
  ·by_cases hb:b=a
   ·exact hb
   ·exact absurd (if_neg hb) z
end
section
noncomputable abbrev KOf{K:W.Frag}{h:Heap}(_:K.In h):W.Frag:=K
theorem walk_of{l:W.OpenLaw}{n k:Nat}{q:Program}{loose:List Str}{XP:(Str->Option Value)->Heap->Prop}{YP:World->Heap->Prop}{d:DefRec}{K:Params->W.Frag}{CX:World->CXT}{sp:World->Sp}{x:Str}
  (hn:l.most=some n) (hn2:n<=sizeLine) (hdf:d.params.defaults=[]) (hr:Room k callerA)
  (hY:∀(w:World) (h:Heap),YP w h->(K w.params).In h)
  (F:∀(w:World) (mg:Str->Option Value) (fa:Addr) (h:Heap),(K w.params).In h->h.Ns mainGlobals mg->mg d.name=some (.ref fa) ->
   ∃fd:FuncData,(∀(s:Shared) (u:Value),BindsTo s fd ⟨[u],[]⟩ [(x,u)]) /\
    ∀base:Heap,(K w.params).In base->base.Ns mainGlobals mg->FnOk l.prog w (K w.params) mg base (CX w) k fa fd [x] (sp w))
  (hsp:∀(w:World) (H:Hp) (a:Addr) (ns:List Int),ns.length<=n->QkZ H->SqL (K w.params) H a (ns.map V.int)->sp w [.ref a] H (fun v _=>v=.bl true) fun _ _ _=>False)
  (hCX:∀(w:World) (H:Hp) (s:Shared) (e:Value) (s':Shared),CX w [] H s (fun _ _ _=>False) e s'->False):
  W.WalkO q loose XP YP l.row.toRowW d [] (fun f vs=>PySem.call f vs):=by
 refine Att.attach_call hn hdf fun w s₀ s₁ mg mb fa o pm cd doc a vs ns G Yyy ho hd hcd hmg hobj hints hlen hg=>?_;have KX:=hY w _ Yyy;obtain⟨fd,hb,hF⟩:=F w mg fa _ KX G.T.g hmg;exact QeH KX G.T.g G.T.b G.T.builtins G.T.nolimit hg hobj hints (Nat.le_trans hlen hn2) hr hF hb (fun H hO hS=>hsp w H a ns hlen hO hS) fun H e s'=>hCX w H s₁ e s'
end
section
noncomputable def Qm(s:Stmt)(j:Nat):Stmt:=match s with
 | .ClassDef _ _ _ body _ _ _ _ _ _ _=>body.getD j (.Pass ⟨0,0,0,0⟩)
 | _=>.Pass ⟨0,0,0,0⟩
noncomputable def Jz(s:Stmt):Arguments:=match s with
 | .FunctionDef _ a _ _ _ _ _ _ _ _=>a
 | _=>{ posonlyargs:=[],args:=[],vararg:=none,kwonlyargs:=[],kw_defaults:=[],kwarg:=none,defaults:=[] }
noncomputable def Zs(s:Stmt):List Stmt:=match s with
 | .FunctionDef _ _ b _ _ _ _ _ _ _=>b
 | _=>[]
noncomputable def Qy(s:Stmt):Scope:=match s with
 | .FunctionDef _ _ _ _ _ _ sc _ _ _=>sc
 | _=>{ kind:=.function,names:=[],isGenerator:=false,isCoroutine:=false }
noncomputable abbrev CX0:CXT:=fun _ _ _ _ _ _=>False
noncomputable abbrev E0:XK:=fun _ _ _=>False
theorem Qc5{X:Cx}:YD CX0 X E0:=fun _ _ _ _ _ _ _ h=>h.elim
theorem Qme{A:Around}{k:Nat}(hr:Room k A):A.units+1<cLine:=Nat.lt_of_le_of_lt (Nat.add_le_add_left (by decide:1<=64) _) hr.units
section
variable {κ:Type}[DecidableEq κ]
end
end
end L2
namespace Iv
open PySem
noncomputable def Ql8(sep:List Nat):List (List Nat)->List Nat
 | []=>[]
 | [x]=>x
 | x::y::r=>x++sep++Ql8 sep (y::r)
noncomputable def Qfm(c:Nat):List Nat->List (List Nat)
 | []=>[[]]
 | a::r=>if a=c then []::Qfm c r else match Qfm c r with
  | []=>[[a]]
  | p::ps=>(a::p)::ps
end Iv
namespace L2
open PySem PySem.Spec PyProof.Rows Builtin Builtin.Str
section
variable {X:Cx}
def Qgv:V->List V->Hp->VK->Prop:=fun x vs H Q=>∃a k y kvs,x=.ref a/\vs=[kV k,y]/\H a=some (.dK kvs)/\kvs.length<sizeLine/\(∀z,ZS kvs k=some z->Q z H)/\(ZS kvs k=none->Q y (upd H a (.dK (kvs++[(k,y)]))))
theorem Qdd:MtR X "dict.setdefault" Qgv:=by
 intro pins s Y H x vs v us Q I rx rv h;obtain⟨a,k,y,kvs,rfl,rfl,hH,hz,q1,q2⟩:=h;cases rx;obtain⟨uk,uy,rfl,rk,ry⟩:=Qcr rv;obtain⟨z,hd,ws,rel,dd⟩:=QeX I.hok hH
 refine call_meetsIn F.slot_dict_setdefault dd.typeIs F.entry_dict_setdefault (F.args_dict_setdefault_3 _ _ _) (kt_meets_setdefault (Qv X.prog X.w) a (QaS rk) hd uy)
  ⟨ws,dd,by rw [<-rel.length];exact z,fun w' hw=>?_,fun hn h' dd' hs=>?_⟩
 ·have rr:=rel.val k;rw [hw]at rr
  cases e:ZS kvs k with
  | none=>rw [e]at rr;exact(show False from rr).elim
  | some z=>rw [e]at rr;exact⟨z,H,I.tok _,rr,q1 z e⟩
 ·have e:ZS kvs k=none:=by
   have rr:=rel.val k;rw [hn]at rr
   cases e:ZS kvs k with
   | none=>rfl
   | some z=>rw [e]at rr;exact(show False from rr).elim
  have he:∃q,h'.get? a=some q:=let ⟨q,_,_,hq,_⟩:=dd';⟨q,hq⟩;have e2:=Qen y e
  have hl:(YJ kvs k y).length<=sizeLine:=by have:=Zj kvs k y;omega
  have I2:=QaV (t':=s.toks+1) I (by rw [hH];exact True.intro) hs he (QfM hl hd (rel.put k ry) dd')
  rw [e2]at I2;exact⟨y,_,I2,ry,q2 e⟩
end
end L2
namespace L2
open PySem PySem.Spec PyProof.Rows
section
variable {X:Cx}
theorem Qbw:∀{ns:List Int} {us:List Value},Vals (ns.map V.int) us->∀(i:Nat) v,us[i]?=some v->∃t,v=.int (ns.getD i 0) t
 | [],us,r,i,v,e=>by rw [List.map_nil]at r;cases r;simp at e
 | n::ns,us,r,i,v,e=>by
  rw [List.map_cons]at r
  cases r with
  | cons h t =>
   obtain⟨k,rfl⟩:=h
   cases i with
   | zero=>simp at e;exact⟨k,e.symm⟩
   | succ i=>simpa using Qbw t i v (by simpa using e)
theorem QaH:∀(ns:List Int),preSum (fun i=>ns.getD i 0) ns.length=ns.sum:=by
 have go:∀(k:Nat) (ns:List Int),preSum (fun i=>ns.getD i 0) k=(ns.take k).sum:=by
  intro k
  induction k with
  | zero=>intro ns;simp [preSum]
  | succ k ih =>
   intro ns;rw [show preSum (fun i=>ns.getD i 0) (k+1)=preSum (fun i=>ns.getD i 0) k+ns.getD k 0 from rfl,ih,List.take_add_one,List.sum_append]
   cases e:ns[k]? with
   | none=>simp [List.getD,e]
   | some v=>simp [List.getD,e]
 intro ns;rw [go,List.take_of_length_le (Nat.le_refl _)]
theorem QdI (hc : X.calm = true) : CallR X (.builtin "sum") (fun xs H Q => ∃ (a : Addr) (ns : List Int), xs = [.ref a] /\ SqL X.K H a (ns.map V.int) /\ Q (.int ns.sum) H) := by
 intro pins s Y H xs us Q I r h;obtain⟨a,ns,rfl,hq,q⟩:=h;obtain⟨u,rfl,rx⟩:=Qaw r;cases rx;obtain⟨its,rr,pl,hz⟩:=I.list hq;have hl:=pl.isList
 have hlt:a<s.heap.objs.size:=by obtain⟨_,e,_⟩:=hl;exact Heap.lt_size e
 have hlen:=rr.length;rw [List.length_map]at hlen;refine call_sum_walkG (wpAny_pyIter_list hl ?_)
 refine⟨s.heap.objs.size,[s.heap.objs.size,a],[s.heap.objs.size],its.toArray.size,_,_,fun i=>ns.getD i 0,rfl,Walks.list (A:=X.A.in1) (I.ok.hd hc) _ a (Nat.ne_of_lt hlt) its.toArray,
  ⟨⟨_,Heap.get?_push_size _ rfl,rfl,rfl⟩,hl.push _⟩,fun b hb=>?_,fun i v hP=>Qbw rr i v (by simpa using hP),fun h' tk t' hk=>?_⟩
 ·have sz:(s.heap.push { cls:=.type "list_iterator",data:=.fields #[.ref a,.int 0 0] }).objs.size=s.heap.objs.size+1:=Heap.size_push ..
  rcases List.mem_cons.mp hb with rfl|hb
  ·show _<(s.heap.push _).objs.size;rw [Heap.size_push];exact Nat.lt_succ_self _
  ·obtain rfl:=List.mem_singleton.mp hb;show _<(s.heap.push _).objs.size;rw [Heap.size_push];exact Nat.lt_succ_of_lt hlt
 ·have e:preSum (fun i=>ns.getD i 0) its.toArray.size=ns.sum:=by
   rw [List.size_toArray,<-hlen];exact QaH ns
  rw [e];exact⟨.int _,H,I.kept (t':=tk) (LSm.kept_iter hk),⟨_,rfl⟩,q⟩
end
end L2
namespace L2
open PySem PySem.Spec PySem.W PyProof.Rows
section
variable {p:Array Nat}{m n:Nat}
noncomputable def Qfo{α:Type}(lt:Nat->Nat->Bool):KasT α->α
 | .ret a=>a
 | .ask i j k=>Qfo lt (k (lt i j))
def InR{α:Type}(n:Nat)(P:α->Prop):KasT α->Prop
 | .ret a=>P a
 | .ask i j k=>i<n/\j<n/\∀b,InR n P (k b)
theorem InR.bind{α β:Type}{n:Nat}{P:α->Prop}{R:β->Prop}{f:α->KasT β}:∀{t:KasT α},InR n P t->(∀a,P a->InR n R (f a))->InR n R (t.bind f)
 | .ret a,h,hf=>hf a h
 | .ask i j k,h,hf=>⟨h.1,h.2.1,fun b=>InR.bind (h.2.2 b) hf⟩
theorem InR.run{α:Type}{n:Nat}{P:α->Prop}{lt:Nat->Nat->Bool}:∀{t:KasT α},InR n P t->P (Qfo lt t)
 | .ret a,h=>h
 | .ask i j k,h=>show P (Qfo lt (k (lt i j)))from InR.run (t:=k (lt i j)) (h.2.2 (lt i j))
theorem InR.wp{α:Type}{n:Nat}{P:α->Prop}{lt:Nat->Nat->Bool}{cmp:Nat->Nat->(Bool->Shared->Prop)->Shared->Prop}{s:Shared}{Q:α->Shared->Prop}(hc:∀i j C,i<n->j<n->C (lt i j) s->cmp i j C s):
  ∀{t:KasT α},InR n P t->Q (Qfo lt t) s->t.kasWp cmp Q s
 | .ret a,h,q=>q
 | .ask i j k,h,q=>hc i j _ h.1 h.2.1 (InR.wp hc (t:=k (lt i j)) (h.2.2 (lt i j)) q)
def Bd(n:Nat)(p:Array Nat):Prop:=0<n/\p.Perm (List.toArray (List.range n))
theorem Bd.get(h:Bd n p)(i:Nat):p.getD i 0<n:=by
 by_cases hi:i<p.size
 ·have e:p.getD i 0=p[i]:=by simp [Array.getD,hi]
  rw [e];have:=h.2.mem_iff.mp (Array.getElem_mem hi);simpa using this
 ·have e:p.getD i 0=0:=by simp [Array.getD,hi]
  rw [e];exact h.1
theorem Bd.perm{q:Array Nat}(h:Bd n p)(e:q.Perm p):Bd n q:=⟨h.1,e.trans h.2⟩
theorem Bd.rev{i j:Nat}(h:Bd n p):Bd n (kas_rev p i j):=h.perm (mirror_perm _ _ _ _)
theorem Bd.bub{i j:Nat}(h:Bd n p):Bd n (bubble p i j):=h.perm (bubble_perm _ _ _)
theorem Qgu{n:Nat}{p:Array Nat}(h:Bd n p):∀f i,InR n (fun _=>True) (kas_asc p f i)
 | 0,_=>trivial
 | f+1,i=>⟨h.get _,h.get _,fun b=>by
  cases b
  ·exact Qgu h f (i+1)
  ·exact trivial⟩
theorem Qbi{n:Nat}:∀f (p:Array Nat) i q,Bd n p->InR n (fun r=>Bd n r.1) (kas_desc f p i q)
 | 0,p,i,q,h=>h
 | f+1,p,i,q,h=>⟨h.get _,h.get _,fun b=>by
  cases b
  ·refine⟨h.get _,h.get _,fun b=>?_⟩;cases b
   ·exact Qbi f p _ _ h
   ·exact h
  ·show InR n _ (if q>0 then _ else _);split
   ·exact Qbi f _ _ _ h.rev
   ·exact Qbi f _ _ _ h⟩
theorem QcS{k:Nat}(h:Bd n p):InR n (fun r=>Bd n r.2) (kas_tail3 k m p):=(Qgu h.rev _ _).bind fun a _=>h.rev
theorem YS{k:Nat}(h:Bd n p):InR n (fun r=>Bd n r.2) (kas_descPart k m p):=by
 refine(Qbi _ _ _ _ h).bind fun r hr=>?_;split
 ·exact QcS hr.rev
 ·exact QcS hr
theorem Qgt(h:Bd n p):InR n (fun r=>Bd n r.2) (kas_count m p):=by
 refine(Qgu h _ _).bind fun k _=>?_;split
 ·exact h
 ·split
  ·refine⟨h.get _,h.get _,fun b=>?_⟩;cases b
   ·exact YS h.rev
   ·exact h
  ·exact YS h
theorem QaF{n:Nat}{p:Array Nat}{k:Nat}(h:Bd n p):∀f l r,InR n (fun _=>True) (kas_place p k f l r)
 | 0,_,_=>trivial
 | f+1,l,r=>by
  unfold kas_place;split
  ·exact trivial
  ·refine⟨h.get _,h.get _,fun b=>?_⟩;cases b
   ·exact QaF h f _ _
   ·exact QaF h f _ _
theorem QiR{n:Nat}:∀f (p:Array Nat) k,Bd n p->InR n (Bd n) (kas_bin f p k)
 | 0,p,k,h=>h
 | f+1,p,k,h=>(QaF h _ _ _).bind fun l _=>QiR f _ _ h.bub
theorem Qfq(hn:0<n):InR n (Bd n) (kas_sort n):=by
 have h0:Bd n (List.toArray (List.range n)):=⟨hn,Array.Perm.refl _⟩;refine(Qgt h0).bind fun r hr=>?_;split
 ·exact QiR _ _ _ hr
 ·exact hr
noncomputable def QfE:List Int->List Int->Bool
 | [],[]=>false
 | [],_::_=>true
 | _::_,[]=>false
 | x::xs,y::ys=>if x=y then QfE xs ys else decide (x<y)
noncomputable def ltK(ks:List (List Int))(i j:Nat):Bool:=QfE (ks.getD i []) (ks.getD j [])
noncomputable def permK(ks:List (List Int))(n:Nat):List Nat:=if n<2 then List.range n else(Qfo (ltK ks) (kas_sort n)).toList
section
variable {prog:Program}{w:World}{A:Around}{E:Value->Shared->Prop}{s:Shared}
theorem Qkz(κ:SortKind)(z:Array Keyed):arrOf (SortSt.mk' κ z #[] 7 none)=z:=rfl
theorem QcL(vs:List Value)(h:vs.length<2):(arrOf (SortSt.mk' general' (vs.toArray.zip vs.toArray) #[] 7 none)).map (·.2)=List.toArray ((List.range vs.length).map fun i=>vs.getD i .none):=by
 rw [Qkz]
 match vs,h with
 | [],_=>simp
 | [v],_=>simp [List.range,List.range.loop]
 | _::_::_,h=>simp at h;omega
theorem QbO{l:Addr}{vs:List Value}{κ:SortKind}{ks:List (List Int)}{Q:Value->Shared->Prop}(hl:s.heap.IsList l vs.toArray)(h64:vs.length<64)
  (hk:2<=vs.length->∀h' A' (Q':SortKind->Shared->Prop),(∀b o,s.heap.get? b=some o->h'.get? b=some o)->Q' κ { s with heap:=h' }->wpAny (model prog w) A' (keyKind' vs.toArray) Q' (fun _ _=>False) { s with heap:=h' })
  (hlt:2<=vs.length->∀h' A' (Q':Bool->Shared->Prop) i j,(∀b o,s.heap.get? b=some o->h'.get? b=some o)->i<vs.length->j<vs.length->Q' (ltK ks i j) { s with heap:=h' } ->
   wpAny (model prog w) A' (keyLt' κ (vs.getD i .none) (vs.getD j .none)) Q' (fun _ _=>False) { s with heap:=h' })
  (hQ:∀h' c D,s.heap.objs.size<=D->(∀b o,s.heap.get? b=some o->h'.get? b=some o)->h'.get? D=some (seqObj "list" (List.toArray ((permK ks vs.length).map fun i=>vs.getD i .none)) c)->Q (.ref D) { s with heap:=h' }):
  wpAny (model prog w) A (call (.builtin "sorted") [.ref l]) Q E s:=by
 refine Calls.call_function_entry kind_sorted plain_sorted entry_sorted (args_sorted1 _) ?_;unfold Builtin.«sorted»;refine wpAny_bind (m:=checkCount "sorted" 1 1 _) (wpAny_pure ?_)
 refine wpAny_bind (collect_list hl ?_ (by rw [sizeLine_eq];omega))
 refine wpAny_bind (wpAny_newList ?_ (by rw [sizeLine_eq];omega))
 have hsz:((s.heap.push (seqObj "list" #[] 0)).update s.heap.objs.size (Obj.mapSeq (·++vs.toArray))).objs.size=s.heap.objs.size+1:=by
  rw [Heap.size_update,size_push']
 generalize hh1:((s.heap.push (seqObj "list" #[] 0)).update s.heap.objs.size (Obj.mapSeq (·++vs.toArray)))=h1 at hsz
 have k1:∀b o,s.heap.get? b=some o->h1.get? b=some o:=fun b o q=>by
  have hlt:b<s.heap.objs.size:=Heap.lt_size q;rw [<-hh1,Heap.get?_update_ne _ _ _ _ (Nat.ne_of_lt hlt),Heap.get?_push_ne _ _ _ (Nat.ne_of_lt hlt)];exact q
 have hoL:(h1.push (seqObj "list" vs.toArray 0)).get? h1.objs.size=some (seqObj "list" vs.toArray 0):=Heap.get?_push_size _ rfl;show wpAny _ _ _ _ _ { s with heap:=h1.push (seqObj "list" vs.toArray 0) };generalize ha:h1.objs.size=a at hoL hsz;refine wpAny_bind (wpAny_holding (wpAny_call_entry slot_list_sort ⟨_,hoL,rfl⟩ entry_list_sort ?_ (args_list_sort _)));have k2:∀b o,s.heap.get? b=some o->(h1.push (seqObj "list" vs.toArray 0)).get? b=some o:=fun b o q=>Heap.get?_push_of_some _ (k1 b o q);generalize (h1.push (seqObj "list" vs.toArray 0))=h2 at hoL k2;rw [list_sort_plain]
 have hlen:vs.toArray.size=vs.length:=by simp
 refine wpAny_bind (listItems_at (s:={ s with heap:=h2 }) hoL rfl ?_)
 refine wpAny_bind (listUpdate_at (s:={ s with heap:=h2 }) hoL rfl ?_ (by rw [hlen,sizeLine_eq];omega) (Nat.zero_le _))
 obtain⟨e1,ho1⟩:∃e1,(h2.update a (Obj.mapSeq fun _=>(#[]:Array Value))).get? a=some (seqObj "list" #[] e1):=⟨_,get?_update_seq hoL (fun _=>#[])⟩
 have hna:∀b o,s.heap.get? b=some o->b≠a:=fun b o q=>Nat.ne_of_lt (Nat.lt_of_lt_of_le (Heap.lt_size q) (by rw [hsz];exact Nat.le_succ _))
 have k3:∀b o,s.heap.get? b=some o->(h2.update a (Obj.mapSeq fun _=>(#[]:Array Value))).get? b=some o:=fun b o q=>(Heap.get?_update_other _ _ (Ne.symm (hna b o q))).trans (k2 b o q);generalize (h2.update a (Obj.mapSeq fun _=>(#[]:Array Value)))=h3 at ho1 k3;refine wpAny_bind (seqEpoch_at (s:={ s with heap:=h3 }) ho1 rfl ?_)
 refine wpAny_bind (wpAny_newTuple ?_ (by show vs.length<=_;rw [sizeLine_eq];omega))
 refine wpAny_bind (wpAny_newList ?_ (Nat.zero_le _));refine wpAny_holding ?_;show wpAny (model prog w) _ _ _ _ { s with heap:=(h3.push (seqObj "tuple" vs.toArray 0)).push (seqObj "list" #[] 0) };have ho4:((h3.push (seqObj "tuple" vs.toArray 0)).push (seqObj "list" #[] 0)).get? a=some (seqObj "list" #[] e1):=Heap.get?_push_of_some _ (Heap.get?_push_of_some _ ho1);have k4:∀b o,s.heap.get? b=some o->((h3.push (seqObj "tuple" vs.toArray 0)).push (seqObj "list" #[] 0)).get? b=some o:=fun b o q=>Heap.get?_push_of_some _ (Heap.get?_push_of_some _ (k3 b o q));generalize ((h3.push (seqObj "tuple" vs.toArray 0)).push (seqObj "list" #[] 0))=h4 at ho4 k4;dsimp only
 have fin:∀out:Array Value,out=List.toArray ((permK ks vs.length).map fun i=>vs.getD i .none)->Q (.ref a) { s with heap:=h4.update a (Obj.mapSeq fun _=>out) }:=fun out eo=>by
  obtain⟨c,hc⟩:∃c,(h4.update a (Obj.mapSeq fun _=>out)).get? a=some (seqObj "list" out c):=⟨_,get?_update_seq ho4 (fun _=>out)⟩;rw [eo]at hc ⊢
  exact hQ _ c a (by rw [hsz];exact Nat.le_succ _) (fun b o q=>(Heap.get?_update_other _ _ (Ne.symm (hna b o q))).trans (k4 b o q)) hc
 by_cases h2:vs.toArray.size<2
 ·rw [if_pos h2,if_pos h2];refine wpAny_bind (wpAny_pure ?_);rw [StateT.run_pure];refine wpAny_bind (wpAny_pure ?_);dsimp only;refine wpAny_bind (seqEpoch_at (s:={ s with heap:=h4 }) ho4 rfl ?_)
  refine wpAny_bind (listUpdate_at (s:={ s with heap:=h4 }) ho4 rfl ?_ (Nat.zero_le _) (hsz2:=by rw [Array.size_map];show(pairsOf vs).size<=_;rw [pairsOf_size,sizeLine_eq];omega))
  simp only [bne_self_eq_false,Bool.false_eq_true,if_false];refine wpAny_pure ⟨_,rfl,wpAny_pure ⟨_,rfl,fin ((arrOf (SortSt.mk' general' (vs.toArray.zip vs.toArray) #[] 7 none)).map (·.2)) ?_⟩⟩;rw [hlen]at h2;unfold permK;rw [if_pos h2];exact QcL vs h2
 ·rw [if_neg h2,if_neg h2];rw [hlen]at h2
  have h2':2<=vs.length:=by omega
  refine wpAny_bind (wpAny_mono (hk h2' h4 _ (fun κ' s'=>κ'=κ/\s'={ s with heap:=h4 }) k4 ⟨rfl,rfl⟩) (fun κ' s' hs=>?_) fun _ _ x=>x.elim);obtain⟨rfl,rfl⟩:=hs
  have R:=Qfq (n:=vs.length) (by omega)
  refine wpAny_bind (wpAny_mono (kat_run (Q:=fun st' s'=>s'={ s with heap:=h4 }/\arrOf st'=(Qfo (ltK ks) (kas_sort vs.length)).map (kas_item (vs.toArray.zip vs.toArray))/\failedOf st'=none/\(arrOf st').size=vs.length) (G:=fun p s'=>p=Qfo (ltK ks) (kas_sort vs.length)/\s'={ s with heap:=h4 })
   rfl h2' h64 (fun p' st' s' a1 a2 a3 a4=>⟨a4.2,a4.1▸a2,a3,by rw [a2,Array.size_map];exact a1⟩) (InR.wp (fun i j C hi hj c=>hlt h2' h4 _ C i j k4 hi hj c) R ⟨rfl,rfl⟩)) ?_ fun _ _ e=>e)
  rintro⟨⟨⟩,st'⟩ s' ⟨rfl,har,hf,hsize⟩;dsimp only;have hout:=kat_snds rfl har;rw [hout];refine wpAny_bind (seqEpoch_at (s:={ s with heap:=h4 }) ho4 rfl ?_)
  have hz:(List.toArray ((Qfo (ltK ks) (kas_sort vs.length)).toList.map fun i=>vs.getD i Value.none)).size<=sizeLine+1:=by
   have e:(arrOf st').size=vs.length:=hsize;have e2:((arrOf st').map (·.2)).size=vs.length:=(Array.size_map ..).trans e;rw [hout]at e2;rw [e2,sizeLine_eq];omega
  refine wpAny_bind (listUpdate_at (s:={ s with heap:=h4 }) ho4 rfl ?_ (Nat.zero_le _) hz);rw [hf];simp only [bne_self_eq_false,Bool.false_eq_true,if_false];refine wpAny_pure ⟨_,rfl,wpAny_pure ⟨_,rfl,fin _ ?_⟩⟩;unfold permK;rw [if_neg h2]
theorem permK_perm(ks:List (List Int))(n:Nat):(permK ks n).Perm (List.range n):=by
 unfold permK;split
 ·exact List.Perm.refl _
 ·exact((Qfq (n:=n) (by omega)).run (lt:=ltK ks)).2.toList
theorem JU(ks:List (List Int))(n:Nat):(permK ks n).length=n:=by rw [(permK_perm ks n).length_eq,List.length_range]
theorem Qdj{b:Bool}{Q:Bool->Shared->Prop}:∀{k l:List Int} {xs ys:List Value} {fin:Bool} {i:Nat},Vals (k.map V.int) xs->Vals (l.map V.int) ys->fin=decide (k.length<l.length)->Q (QfE k l) s->KatLex prog w A true fin Q (xs.zip ys) i s
 | [],l,xs,ys,fin,i,h1,h2,hf,q=>by
  cases h1;rw [List.zip_nil_left];refine kat_nil ?_
  cases l with
  | nil=>rw [hf];exact q
  | cons _ _=>rw [hf];simpa [QfE]using q
 | x::k,[],xs,ys,fin,i,h1,h2,hf,q=>by
  cases h2;rw [List.zip_nil_right];refine kat_nil ?_;rw [hf];simpa [QfE]using q
 | x::k,y::l,xs,ys,fin,i,h1,h2,hf,q=>by
  cases h1 with
  | cons r1 t1 =>
   cases h2 with
   | cons r2 t2 =>
    obtain⟨a1,rfl⟩:=r1;obtain⟨a2,rfl⟩:=r2;rw [List.zip_cons_cons];refine kat_cons (wpAny_eqBool_int ?_);by_cases e:x=y
    ·subst e
     rw [show(x==x)=true by simp]
     refine kat_yes (Qdj (b:=b) t1 t2 (by rw [hf];simp) ?_)
     simpa [QfE]using q
    ·rw [show(x==y)=false by simp [e]]
     have q':Q (decide (x<y)) s:=by simpa [QfE,e]using q
     refine kat_no ?_
     cases i with
     | zero=>exact oneLt_int q'
     | succ i=>exact kat_one _ _ (PyProof.Rows.lt_int q')
theorem Qcy {h : Heap} : ∀ {vs : List Value}, (∀ v ∈ vs, ∃ a o xs n, ∃ (i : Int) (t : Tok), v = Value.ref a /\ h.get? a = some o /\ o.cls = .type "tuple" /\ o.data = .seq xs n /\ xs[0]? = some (Value.int i t)) -> ∃ fs, KatTups h vs fs /\ fs.length = vs.length /\ ∀ f ∈ fs, ∃ i t, f = Value.int i t
 | [],_=>⟨[],.nil,rfl,by simp⟩
 | v::vs,H=>by
  obtain⟨fs,t,l,f⟩:=Qcy fun z hz=>H z (List.mem_cons_of_mem _ hz);obtain⟨a,o,xs,n,i,tk,rfl,h1,h2,h3,h4⟩:=H v (List.mem_cons_self ..)
  refine⟨Value.int i tk::fs,KatTups.cons h1 h2 h3 h4 t,by simp [l],fun z hz=>?_⟩
  rcases List.mem_cons.mp hz with rfl|hz
  ·exact⟨_,_,rfl⟩
  ·exact f z hz
end
def QkA(K:W.Frag)(H:Hp)(ys:List V)(ks:List (List Int)):Prop:=ys.length=ks.length/\∀(i:Nat) y k,ys[i]?=some y->ks[i]?=some k->k≠[]/\∃b,y=.ref b/\SqT K H b (k.map V.int)
noncomputable def QaB(ks:List (List Int))(ys:List V):List V:=(permK ks ys.length).map fun i=>ys.getD i .non
section
variable {X:Cx}
theorem JK{ys:List V}{its:List Value}(r:Vals ys its):∀(p:List Nat),Vals (p.map fun i=>ys.getD i .non) (p.map fun i=>its.getD i .none)
 | []=>.nil
 | i::p=>.cons (by
   show RelV (ys.getD i .non) (its.getD i .none)
   cases e:ys[i]? with
   | none =>
    have:its[i]?=none:=by
     rw [List.getElem?_eq_none_iff]at e ⊢;rw [<-r.length];exact e
    simp [List.getD,e,this,RelV]
   | some v =>
    obtain⟨u,hu,ru⟩:=r.get e
    simpa [List.getD,e,hu]using ru) (JK r p)
theorem Qce : CallR X (.builtin "sorted") (fun xs H Q => ∃ (a : Addr) (ys : List V) (ks : List (List Int)), xs = [.ref a] /\ SqL X.K H a ys /\ ys.length < 64 /\ (2 <= ys.length -> QkA X.K H ys ks) /\ ∀ p, H p = none -> Q (.ref p) (upd H p (.lst (QaB ks ys)))) := by
 intro pins s Y H xs us Q I r h;obtain⟨a,ys,ks,rfl,hq,h64,ht,q⟩:=h;obtain⟨u,rfl,rx⟩:=Qaw r;cases rx;obtain⟨its,rr,pl,hz⟩:=I.list hq;have hlen:=rr.length
 have item : 2 <= its.length -> ∀ i, i < its.length -> ∃ (b : Addr) (o : Obj) (xs : List Value) (n : Nat) (k : List Int), its.getD i .none = Value.ref b /\ s.heap.get? b = some o /\ o.cls = .type "tuple" /\ o.data = .seq xs.toArray n /\ ks.getD i [] = k /\ k ≠ [] /\ Vals (k.map V.int) xs := by
  intro h2 i hi
  obtain⟨tl,tt⟩:=ht (by omega)
  have hi':i<ys.length:=by omega
  have hk:i<ks.length:=by omega
  obtain⟨kn,b,ey,sq⟩:=tt i ys[i] ks[i] (List.getElem?_eq_getElem hi') (List.getElem?_eq_getElem hk);obtain⟨v,hv,rv⟩:=rr.get (List.getElem?_eq_getElem hi');rw [ey]at rv;cases rv;obtain⟨xs,rx,⟨o,e1,e2,n,e3⟩,_⟩:=I.tuple sq
  exact⟨b,o,xs,n,ks[i],by simp [List.getD,hv],e1,e2,e3,by simp [List.getD,hk],kn,rx⟩
 refine QbO (κ:=tuples' true) (ks:=ks) pl.isList (by omega) (fun h2 h' A' Q' kp q'=>?_) (fun h2 h' A' Q' i j kp hi hj q'=>?_) fun h' c D hD kp hh=>?_
 ·obtain⟨fs,t,l,f⟩:=Qcy (h:=h') (vs:=its) fun v hv=>by
   obtain⟨i,hi,rfl⟩:=List.getElem_of_mem hv;obtain⟨b,o,xs,n,k,e0,e1,e2,e3,e4,kn,rx⟩:=item h2 i hi
   have e0':its[i]=Value.ref b:=by simpa [List.getD,hi]using e0
   cases k with
   | nil=>exact absurd rfl kn
   | cons x k =>
    cases rx with
    | cons r1 t1 =>
     obtain⟨tk,rfl⟩:=r1
     exact⟨b,o,_,n,x,tk,e0',kp b o e1,e2,e3,by simp⟩
  refine kat_kind (T:=.type "int") t (by omega) (fun v hv=>?_) (by decide) ?_
  ·obtain⟨i,t,rfl⟩:=f v hv;exact Looks.of_pure rfl
  ·exact q'
 ·obtain⟨b,o,xs,n,k,e0,e1,e2,e3,e4,kn,rx⟩:=item h2 i hi;obtain⟨b2,o2,xs2,n2,k2,f0,f1,f2,f3,f4,kn2,rx2⟩:=item h2 j hj;rw [e0,f0];refine kat_lt (kp b o e1) e3 (kp b2 o2 f1) f3 ?_
  have q2:Q' (QfE k k2) { s with heap:=h' }:=by
   have:=q';unfold ltK at this;rw [e4,f4]at this;exact this
  have l1:=rx.length;have l2:=rx2.length;simp only [List.length_map]at l1 l2
  exact Qdj (b:=true) rx rx2 (by simp [<-l1,<-l2]) q2
 ·refine⟨.ref D,_,I.laid (t':=s.toks) (o:=.lst (QaB ks ys)) kp hD ?_,rfl,q D (I.hok.fresh hD)⟩
  refine⟨by unfold QaB;rw [List.length_map,JU];exact hz,_,c,?_,hh⟩
  unfold QaB;rw [hlen];exact JK rr _
end
end
section
theorem QW:entryFor table "dict.update.loop"=some Builtin.«dict.update.loop»:=entryFor_of_tree (by kernel_rfl)
theorem Qw:plainId "dict.update.loop"=true:=by decide +kernel
theorem YK:typeLookup (.type "list") "keys"=pure none:=am_miss_of_fast (by kernel_rfl)
section
variable {prog:Program}{w:World}{A:Around}{s:Shared}{R:Result->Shared->Prop}{E:Value->Shared->Prop}
theorem ZM{a:Addr}{o:Obj}{xs:Array Value}{k:Nat}{Q:Option Value->Shared->Prop}
  (hx:s.heap.get? a=some o) (hc:o.cls=.type "list") (hdat:o.data=.seq xs k) (hd:o.dict=none) (hA:A.handled=none)
  (h:∀h' tk,(∀b o,s.heap.get? b=some o->h'.get? b=some o)->Q none { s with heap:=h',toks:=tk }):
  wpAny (model prog w) A (getAttr? (.ref a) "keys") Q E s:=by
 obtain⟨c,dct,dat,sl⟩:=o;simp only at hc hdat hd;subst hc hdat hd;obtain⟨hp,g,d,tk,os⟩:=s;have hT:∀tk',(⟨hp,g,d,tk',os⟩:Shared).TypeIs (.ref a) "list":=fun _=>⟨_,hx,rfl⟩;have f1:=sub_AttributeError;have f3:=F.slot_list_getattribute.lookup;have f4:=F.slot_list_getattribute.bind (.ref a);have f5:=am_list_getattr_none;unfold getAttr? getAttrBy? getAttrBy
 repeat (any_goals (first|assumption|exact hT _|((with_reducible show wpAny _ _ (call (Value.builtin "list.__getattribute__") _ _) _ _ _);refine call_meets F.slot_list_getattribute (hT _) am_entry_list_getattribute (F.args_list_getattribute_2 _ _) (meets_getattribute_miss_list a xs k sl "keys" _ YK (by decide) (by size_fits)) ⟨hx,hA,fun h' tk' e hx'=>?_⟩)|wp_step))
 obtain⟨t',u',he⟩:=hx'.there;show wpAny _ _ (getattributeRaised _ _ _ _ _ _ _) _ _ _;unfold getattributeRaised
 repeat (any_goals (first|assumption|wp_step))
 exact h _ _ hx'.keeps
theorem Qb3{D:Nat->Heap->Prop}{d it l:Addr}{items:Array Value}(n1:d≠it)(n2:d≠l)(n3:it≠l)(hh:A.in1.handled=none)
  (keep:∀i h h',D i h->(∀b o,b≠it->h.get? b=some o->h'.get? b=some o)->D i h')
  (step : ∀ (i : Nat) u (s : Shared), items[i]? = some u -> D i s.heap -> ∃ t key v o n, u = .ref t /\ s.heap.get? t = some o /\ o.cls = .type "tuple" /\ o.data = .seq #[key, v] n /\
   ∀(E:Value->Shared->Prop) (Q:Unit->Shared->Prop),(∀h' tk,D (i+1) h'->Heap.SameBut d s.heap h'->Q () { s with heap:=h',toks:=tk })->wpAny (model prog w) A.in1 (dictSet d key v) Q E s):
  ∀(m i:Nat) (s:Shared),i+m=items.size->s.heap.IsListIter it l i->s.heap.IsList l items->D i s.heap ->
  (∀s',D items.size s'.heap->(∀b o,b≠d->b≠it->s.heap.get? b=some o->s'.heap.get? b=some o)->(∃h' c,s'={ s with heap:=h',toks:=c })->R (.ok (.ret .none)) s') ->
  codeAny (model prog w) A (.builtin "dict.update.loop" ⟨[.ref d,.ref it,rawInt i,.none],[]⟩) R s:=by
 intro m
 induction m with
 | zero =>
  intro i s e hi hl hd hR;refine codeAny_builtin QW ?_;rw [Around.under_plainId Qw _];show wpAny _ A.in1 (pyNext (.ref it) >>= _) _ _ s
  refine wpAny_bind (wpAny_pyNext_list_end hh hi hl (by simp;omega) fun h' hs'=>?_)
  show wpAny _ A.in1 (Builtin.Dict.addKeywords d [] >>= _) _ _ _;refine wpAny_bind (wpAny_pure (wpAny_pure (hR _ ?_ (fun b o b1 b2 e'=>?_) ⟨_,_,rfl⟩)))
  ·have:i=items.size:=by omega
   subst this;exact keep _ _ _ hd fun b o nb e=>hs' b o nb e
  ·exact hs' b o b2 e'
 | succ m ih =>
  intro i s e hi hl hd hR
  have lt:i<items.size:=by omega
  obtain⟨u,eu⟩:∃u,items[i]?=some u:=⟨items[i],by simp [lt]⟩
  refine codeAny_builtin QW ?_;rw [Around.under_plainId Qw _];show wpAny _ A.in1 (pyNext (.ref it) >>= _) _ _ s;refine wpAny_bind (wpAny_pyNext_list_item hi hl eu fun h1 hi1 hs1=>?_);have g1:∀b o,b≠it->s.heap.get? b=some o->h1.get? b=some o:=fun b o nb e=>(hs1.2 b nb).trans e;have hd1:D i h1:=keep _ _ _ hd g1;obtain⟨t,key,v,o,n,rfl,ho1,hc,hdat,st⟩:=step i u { s with heap:=h1 } eu hd1;refine wpAny_bind (wpAny_holding ?_);refine wpAny_bind (wpAny_tryCatch ?_);unfold Builtin.Dict.pairItems;refine wpAny_bind (wpAny_typeOf_ref ho1 ?_);rw [hc]
  show wpAny _ _ (do return ((<-seqItems? (.ref t)).getD #[]).toList) _ _ _
  refine wpAny_bind (wpAny_seqItems ho1 hdat (wpAny_pure ?_));show wpAny _ _ (holding [key,v] (dictSet d key v)) _ _ _;refine wpAny_holding (st _ _ fun h2 tk hd2 hs2=>?_);have g2:∀b o,b≠d->h1.get? b=some o->h2.get? b=some o:=fun b o nb e=>(hs2.2 b nb).trans e;refine wpAny_pure ⟨plainId_quiet Qw _,?_⟩
  refine ih (i+1) _ (by omega) ?_ ?_ hd2 fun s' hd' hk' hs'=>?_
  ·obtain⟨oi,hoi,rest⟩:=hi1;exact⟨oi,g2 it oi (Ne.symm n1) hoi,rest⟩
  ·obtain⟨ol,hol,rest⟩:=hl;exact⟨ol,g2 l ol (Ne.symm n2) (g1 l ol (Ne.symm n3) hol),rest⟩
  ·exact hR s' hd' (fun b o b1 b2 e'=>hk' b o b1 b2 (g2 b o b1 (g1 b o b2 e'))) (by obtain⟨h3,c3,e3⟩:=hs';exact⟨h3,c3,e3⟩)
theorem YN{D:Nat->Heap->Prop}{l:Addr}{ol:Obj}{items:Array Value}{nl:Nat}{Q:Value->Shared->Prop}(hA:A.handled=none)
  (hl:s.heap.get? l=some ol) (hc:ol.cls=.type "list") (hdat:ol.data=.seq items nl) (hdd:ol.dict=none)
  (start:∀h',(∀b o,s.heap.get? b=some o->h'.get? b=some o)->h'.get? s.heap.objs.size=some { cls:=.type "dict",data:=.dict #[] }->D 0 h')
  (keep:∀i h h' it,s.heap.objs.size<it->D i h->(∀b o,b≠it->h.get? b=some o->h'.get? b=some o)->D i h')
  (step : ∀ (i : Nat) u (s' : Shared), items[i]? = some u -> D i s'.heap -> ∃ t key v o n, u = .ref t /\ s'.heap.get? t = some o /\ o.cls = .type "tuple" /\ o.data = .seq #[key, v] n /\
   ∀(E:Value->Shared->Prop) (Q:Unit->Shared->Prop),(∀h' tk,D (i+1) h'->Heap.SameBut s.heap.objs.size s'.heap h'->Q () { s' with heap:=h',toks:=tk })->wpAny (model prog w) A.in1.in1 (dictSet s.heap.objs.size key v) Q E s')
  (h:∀h' tk,D items.size h'->(∀b o,s.heap.get? b=some o->h'.get? b=some o)->Q (.ref s.heap.objs.size) { s with heap:=h',toks:=tk }):
  wpAny (model prog w) A (call (.type "dict") [.ref l]) Q E s:=by
 have hlt:l<s.heap.objs.size:=Heap.lt_size hl;refine callType_codes (Q₁ := fun obj s₁ => obj = .ref s.heap.objs.size /\ s₁ = { s with heap := s.heap.push { cls := .type "dict", data := .dict #[] } }) F.kt_called_dict (F.kt_typeCall_dict_1 _) F.entry_dict_init (kt_code_dict_new _ ⟨rfl, rfl⟩) ?_;rintro obj s₁ ⟨rfl,rfl⟩;have hnew:(s.heap.push { cls:=.type "dict",data:=.dict #[] }).get? s.heap.objs.size=some { cls:=.type "dict",data:=.dict #[] }:=Heap.get?_push_size _ rfl;have hT:Shared.TypeIs { s with heap:=s.heap.push { cls:=.type "dict",data:=.dict #[] } } (.ref s.heap.objs.size) "dict":=⟨_,hnew,rfl⟩;refine⟨hT,F.args_dict_init_2 _ _,?_⟩;unfold Builtin.«dict.__init__»;refine wpAny_bind ?_;unfold Builtin.Dict.selfAndRest;refine wpAny_bind (wpAny_notOrdered_dict hT ?_);show wpAny _ _ (pure (s.heap.objs.size,[Value.ref l])) _ _ _;refine wpAny_pure ?_;show wpAny _ _ (Builtin.Dict.updateFrom "dict.__init__" s.heap.objs.size (.ref l) [] .none) _ _ _;unfold Builtin.Dict.updateFrom;have hl1:(s.heap.push { cls:=.type "dict",data:=.dict #[] }).get? l=some ol:=Heap.get?_push_of_some _ hl;refine wpAny_bind (wpAny_typeOf_ref hl1 ?_);rw [hc]
 rw [if_pos (by decide)]
 refine wpAny_bind (ZM (A:=A.in1.in1) hl1 hc hdat hdd hA fun h2 tk2 k2=>?_);rw [if_pos (show(none:Option Value).isNone=true from rfl)];refine wpAny_bind (wpAny_rule ?_);have hl2:h2.IsList l items:=⟨ol,k2 _ _ hl1,hc,nl,hdat⟩;refine wpAny_bind (wpAny_pyIter_list (s:=⟨h2,_,_,_,_⟩) hl2 ?_);have g3:∀b o,s.heap.get? b=some o->(h2.push { cls:=.type "list_iterator",data:=.fields #[.ref l,.int 0 0] }).get? b=some o:=fun b o e=>Heap.get?_push_of_some _ (k2 _ _ (Heap.get?_push_of_some _ e));have hd3:(h2.push { cls:=.type "list_iterator",data:=.fields #[.ref l,.int 0 0] }).get? s.heap.objs.size=some { cls:=.type "dict",data:=.dict #[] }:=Heap.get?_push_of_some _ (k2 _ _ hnew);have lt2:s.heap.objs.size<h2.objs.size:=Heap.lt_size (k2 _ _ hnew);refine wpAny_pure ⟨plainId_quiet Qw _,?_⟩
 refine Qb3 (D:=D) (items:=items) (A:=A.in1) (l:=l) (Nat.ne_of_lt lt2) (Nat.ne_of_gt hlt) (Nat.ne_of_gt (Nat.lt_trans hlt lt2)) (by simpa using hA)
  (fun i h h'=>keep i h h' _ lt2) step items.size 0 _ (by omega) ⟨_,Heap.get?_push_size _ rfl,rfl,rfl⟩ ?_ (start _ g3 hd3) fun s' hd' hk' hs'=>?_
 ·obtain⟨o4,ho4,rest⟩:=hl2;exact⟨o4,Heap.get?_push_of_some _ ho4,rest⟩
 ·obtain⟨h4,c4,rfl⟩:=hs';exact⟨rfl,h h4 c4 hd' fun b o e=>hk' b o (Nat.ne_of_lt (Heap.lt_size e)) (Nat.ne_of_lt (Nat.lt_trans (Heap.lt_size e) lt2)) (g3 b o e)⟩
end
theorem QlH{α β:Type}{R:α->β->Prop}:∀{l:List α} {m:List β} {i:Nat} {a:α},Paired R l m->l[i]?=some a->∃b,m[i]?=some b/\R a b
 | _,_,0,_,.cons r _,h=>by cases(show some _=some _ from h);exact⟨_,rfl,r⟩
 | _,_,i+1,_,.cons _ t,h=>QlH (i:=i) t h
def QiT:List V->Hp->VK->Prop:=fun xs H Q=>∃a vs kvs,xs=[.ref a]/\H a=some (.lst vs) /\
 Paired (fun(v:V) (p:Key×V)=>∃t,v=.ref t/\H t=some (.tup [kV p.1,p.2])) vs kvs/\∀d,H d=none->Q (.ref d) (upd H d (.dK (ZK [] kvs)))
theorem YU(kvs acc:List (Key×V)):(ZK acc kvs).length<=acc.length+kvs.length:=by
 unfold ZK
 induction kvs generalizing acc with
 | nil=>simp
 | cons p r ih =>
  have h1:=ih (YJ acc p.1 p.2);have h2:=Zj acc p.1 p.2;simp only [List.foldl_cons,List.length_cons];omega
theorem Qaz{kvs:List (Key×V)}{i:Nat}{p:Key×V}(h:kvs[i]?=some p):ZK [] (kvs.take (i+1))=YJ (ZK [] (kvs.take i)) p.1 p.2:=by
 unfold ZK;rw [List.take_add_one,h];simp
theorem Qcf{X:Cx}(hh:X.calm=true):CallR X (.type "dict") QiT:=by
 intro pins s Y H xs us Q I r h;obtain⟨a,vs,kvs,rfl,ha,pr,q⟩:=h;obtain⟨u,rfl,ru⟩:=Qaw r;cases ru;obtain⟨z,its,n,rv,ho⟩:=(show ObjOk X.prog X.w H s.heap a (.lst vs)from I.hok a _ ha);have hnd:H s.heap.objs.size=none:=I.hok.fresh (Nat.le_refl _);have lv:vs.length=kvs.length:=Paired.length pr;have li:vs.length=its.length:=rv.length
 refine YN (D:=fun i h'=>∃ms,KV (ZK [] (kvs.take i)) ms/\h'.DictOf (Qv X.prog X.w) s.heap.objs.size ms/\∀b o,H b≠none->s.heap.get? b=some o->h'.get? b=some o)
  (I.ok.hd hh) ho rfl rfl rfl (fun h' k hd=>?_) (fun i h1 h' it lt ⟨ms,kt,dd,k⟩ e=>?_) (fun i u s' eu ⟨ms,kt,dd,k⟩=>?_) (fun h' tk ⟨ms,kt,dd,_⟩ k=>?_)
 ·exact⟨[],.nil,⟨_,#[],0,hd,⟨rfl,rfl,rfl⟩,rfl,fun e m=>by simp at m,.nil,List.nodup_nil⟩,fun b o _ e=>k b o e⟩
 ·obtain⟨o,es,ep,d1,rest⟩:=dd;exact⟨ms,kt,⟨o,es,ep,e _ o (Nat.ne_of_lt lt) d1,rest⟩,fun b o nb e'=>e b o (Nat.ne_of_lt (Nat.lt_trans (Heap.lt_size e') lt)) (k b o nb e')⟩
 ·have eu':its[i]?=some u:=by simpa using eu
  have lt:i<its.length:=(List.getElem?_eq_some_iff.mp eu').1
  obtain⟨v,ev⟩:∃v,vs[i]?=some v:=⟨vs[i],by simp [li,lt]⟩
  obtain⟨u',eu2,rvu⟩:=rv.get ev;rw [eu']at eu2;cases eu2;obtain⟨p,ep,t,rfl,ht⟩:=QlH pr ev;cases(show u=Value.ref t from rvu);obtain⟨_,its2,r2,o,o1,o2,n2,o3⟩:=(show ObjOk X.prog X.w H s.heap t (.tup [kV p.1,p.2])from I.hok t _ ht);obtain⟨x1,x2,rfl,rx1,rx2⟩:=Qcr r2
  refine⟨t,x1,x2,o,n2,rfl,k t o (by rw [ht];exact fun z=>nomatch z) o1,o2,o3,fun E Q hQ=>?_⟩
  have hsz:ms.length<=sizeLine:=by
   rw [<-KV.length kt];have h1:=YU (kvs.take i) []
   have h2:(kvs.take i).length<=kvs.length:=by simp [List.length_take];omega
   simp only [List.length_nil]at h1;omega
  refine wpAny_dictSet_pairs (hsz:=hsz) (QaS rx1) dd fun h' dd' hs=>hQ h' _ ⟨_,?_,dd',fun b o' nb e=>(hs.2 b (fun z=>?_)).trans (k b o' nb e)⟩ hs
  ·rw [Qaz ep];exact kt.put p.1 rx2
  ·subst z;exact nb hnd
 ·have hz:its.toArray.size=kvs.length:=by simp;omega
  rw [hz,List.take_length]at kt;have hl:=YU kvs [];simp only [List.length_nil]at hl
  exact⟨.ref s.heap.objs.size,_,I.laid (a:=s.heap.objs.size) (o:=.dK (ZK [] kvs)) (t':=tk) k (Nat.le_refl _) ⟨by omega,beq_eq_false_iff_ne.mpr (Ne.symm (Nat.ne_of_lt I.big)),ms,kt,dd⟩,rfl,q _ hnd⟩
end
end L2
namespace L2
open PySem
variable {env:Env}{scope:Scope}
noncomputable def Qcd(cells:List (Str×Addr)):List (Str×NameKind)->List (Str×Addr)->List (Str×Addr)
 | [],cs=>cs
 | (n,k)::r,cs=>Qcd cells r (if(k==.free)=true then(match cells.lookup n with|some c=>(n,c)::cs|none=>cs)else cs)
theorem Y9(h:∀y∈scope.names,y.2=.free->∃c,env.cells.lookup y.1=some c):closureFor scope env=pure (Qcd env.cells scope.names []):=by
 have all:∀(l:List (Str×NameKind)) (cs:List (Str×Addr)),(∀y∈l,y.2=.free->∃c,env.cells.lookup y.1=some c) ->
   (forIn l cs fun(x:Str×NameKind) (r:List (Str×Addr))=>match x with|(name,kind)=>if(kind==NameKind.free)=true then(do let y <-cellOf env name;pure (ForInStep.yield ((name,y)::r)))else(pure (ForInStep.yield r):Sem _))=(pure (Qcd env.cells l cs):Sem _):=by
  intro l
  induction l with
  | nil=>intro cs _;simp only [List.forIn_nil];rfl
  | cons p r ih =>
   obtain⟨n,k⟩:=p;intro cs hy;rw [List.forIn_cons];by_cases hk:(k==NameKind.free)=true
   ·obtain⟨c,hc⟩:=hy (n,k) List.mem_cons_self (by simpa using hk)
    have hc:env.cells.lookup n=some c:=hc
    have e:cellOf env n=pure c:=by unfold cellOf;rw [hc]
    simp only [hk,if_true,e,pure_bind];rw [ih _ fun y m=>hy y (List.mem_cons_of_mem _ m)];simp only [Qcd,hk,if_true,hc]
   ·simp only [hk,Bool.false_eq_true,if_false,pure_bind];rw [ih _ fun y m=>hy y (List.mem_cons_of_mem _ m)];simp only [Qcd,hk,Bool.false_eq_true,if_false]
 have:=all scope.names [] h;unfold closureFor;simp only [bind_pure_comp]at this ⊢;rw [this];rfl
theorem Qaj{cells:List (Str×Addr)}{x:Str}{c:Addr}:∀{l:List (Str×NameKind)} {cs:List (Str×Addr)},(Qcd cells l cs).lookup x=some c->cs.lookup x=some c\/cells.lookup x=some c
 | [],_,h=>.inl h
 | (n,k)::r,cs,h=>by
  have h:(Qcd cells r (if(k==NameKind.free)=true then(match cells.lookup n with|some c=>(n,c)::cs|none=>cs)else cs)).lookup x=some c:=h
  rcases Qaj h with h1|h1
  ·clear h;by_cases hk:(k==NameKind.free)=true
   ·rw [if_pos hk]at h1
    cases hc:cells.lookup n with
    | none=>rw [hc]at h1;exact .inl h1
    | some c' =>
     rw [hc]at h1;have h2:List.lookup x ((n,c')::cs)=some c:=h1;clear h1;rw [List.lookup_cons]at h2
     cases hx:x==n with
     | true =>
      rw [hx]at h2;have e:=eq_of_beq hx;subst e;exact .inr (hc.trans h2)
     | false=>rw [hx]at h2;exact .inl h2
   ·rw [if_neg hk]at h1;exact .inl h1
  ·exact .inr h1
theorem JB{cells:List (Str×Addr)}{x:Str}{c:Addr}(hc:cells.lookup x=some c):∀{l:List (Str×NameKind)} {cs:List (Str×Addr)},((x,NameKind.free)∈l\/cs.lookup x=some c)->(Qcd cells l cs).lookup x=some c
 | [],_,h=>by
  rcases h with h|h
  ·cases h
  ·exact h
 | (n,k)::r,cs,h=>by
  show(Qcd cells r (if(k==NameKind.free)=true then(match cells.lookup n with|some c=>(n,c)::cs|none=>cs)else cs)).lookup x=some c
  refine JB (l:=r) hc ?_
  rcases h with h|h
  ·rcases List.mem_cons.mp h with e|h
   ·cases e;refine .inr ?_
    rw [if_pos (by decide),hc]
    simp [List.lookup_cons]
   ·exact .inl h
  ·refine .inr ?_;split
   ·split
    ·rename_i c' h';rw [List.lookup_cons];split
     ·rename_i e;have e:=eq_of_beq e;subst e;exact h'.symm.trans hc
     ·exact h
    ·exact h
   ·exact h
noncomputable def mang(x:Str):Str:=⟨x.cps.push 33⟩
noncomputable def hideN(xs N:List Str):List Str:=N.map fun y=>if xs.contains y then mang y else y
theorem ZL{xs N:List Str}:(hideN xs N).length=N.length:=by unfold hideN;rw [List.length_map]
theorem QeK{xs N:List Str}{i:Nat}{y:Str}(h:(hideN xs N)[i]?=some y):∃z,N[i]?=some z/\((z∈xs/\y=mang z)\/(z∉xs/\y=z)):=by
 unfold hideN at h;rw [List.getElem?_map,Option.map_eq_some_iff]at h;obtain⟨z,h1,h2⟩:=h;refine⟨z,h1,?_⟩;by_cases c:xs.contains z=true
 ·rw [if_pos c]at h2;exact .inl ⟨List.contains_iff_mem.mp c,h2.symm⟩
 ·rw [if_neg c]at h2;exact .inr ⟨fun m=>c (List.contains_iff_mem.mpr m),h2.symm⟩
noncomputable def relN(outer:List (Str×NameKind))(names:List (Str×NameKind)):List (Str×NameKind):=names.map fun(n,k)=>if(k==.free&&outer.lookup n==some .cell)=true then(n,.cell)else(n,k)
theorem QP(h:env.scope.kind=.function):(relabel scope env).names=relN env.scope.names scope.names:=by
 unfold relabel relN;refine List.map_congr_left fun p _=>?_;obtain⟨n,k⟩:=p;simp only [h,beq_self_eq_true,Bool.and_true];rfl
theorem Zq{outer:List (Str×NameKind)}{x:Str}:∀{l:List (Str×NameKind)},(relN outer l).lookup x=(l.lookup x).map fun k=>if(k==.free&&outer.lookup x==some .cell)=true then .cell else k
 | []=>rfl
 | (n,k)::r=>by
  have ih:=@Zq outer x r;show List.lookup x ((if(k==NameKind.free&&outer.lookup n==some .cell)=true then(n,NameKind.cell)else(n,k))::relN outer r)=_;rw [List.lookup_cons (as:=r)]
  cases hx:x==n with
  | true =>
   have e:=eq_of_beq hx;subst e;simp only [List.lookup_cons_self,Option.map_some];by_cases z:(k==NameKind.free&&outer.lookup x==some .cell)=true
   ·rw [if_pos z,if_pos z,List.lookup_cons_self]
   ·rw [if_neg z,if_neg z,List.lookup_cons_self]
  | false =>
   split
   ·simp [List.lookup_cons,hx,ih]
   ·simp [List.lookup_cons,hx,ih]
theorem Zv{κ β:Type}[BEq κ][LawfulBEq κ]{l:List (κ×β)}{k:κ}{b:β}(h:l.lookup k=some b):(k,b)∈l:=by
 induction l with
 | nil=>simp at h
 | cons p r ih =>
  obtain⟨a,c⟩:=p;rw [List.lookup_cons]at h;split at h
  ·rename_i e;have e:=eq_of_beq e;subst e;cases h;exact List.mem_cons_self
  ·exact List.mem_cons_of_mem _ (ih h)
section
variable {prog:Program}{w:World}{A:Around}{R:Result->Shared->Prop}{s:Shared}
theorem Qd4{E:Value->Shared->Prop}{tl:Option Expr}{Q:Bool->Shared->Prop}(h:match tl with|none=>Q true s|some c=>wpAny (model prog w) A (isTrue c env (eval c env)) Q E s):
  wpAny (model prog w) A (forIn tl.toList true fun c r=>if r=true then do let ok <-isTrue c env (eval c env);pure (ForInStep.yield ok)else pure (ForInStep.yield r)) Q E s:=by
 cases tl with
 | none=>exact wpAny_tests_nil h
 | some c=>exact wpAny_tests_one h
theorem QaX{elt target iter:Expr}{tl:Option Expr}{pos:Pos}{it acc:Value}(I:Nat->Shared->Prop)
  (turn:∀n s,I n s->wpAny (model prog w) A (pyNext it) (fun r s₁=>match r with
   | none=>R (.ok .next) s₁
   | some v=>wpAny (model prog w) A (letOwnedTupleGo target it v) (fun _ s₁'=>wpAny (model prog w) A (assign target env v) (fun _ s₂ =>
     wpAny (model prog w) A (forIn tl.toList true fun c r=>if r=true then do let ok <-isTrue c env (eval c env);pure (ForInStep.yield ok)else pure (ForInStep.yield r)) (fun ok s₃=>if ok=true then
      wpAny (model prog w) A (eval elt env) (fun x s₄ =>
       wpAny (model prog w) A (call (.builtin "list.append") [acc, x]) (fun _ s₅ => ∃ m, m < n /\ I m s₅) (notedBy (model prog w) A env fun e s' => R (.error e) s') s₄) (notedBy (model prog w) A env fun e s' => R (.error e) s') s₃
      else ∃m,m<n/\I m s₃) (notedBy (model prog w) A env fun e s'=>R (.error e) s') s₂)
        (notedBy (model prog w) A env fun e s'=>R (.error e) s') s₁') (notedBy (model prog w) A env fun e s'=>R (.error e) s') s₁) (notedBy (model prog w) A env fun e s'=>R (.error e) s') s)
  (n:Nat) (h:I n s):codeAny (model prog w) A (.compLoop (.ListComp elt [⟨target,iter,tl.toList,0⟩] scope pos) 0 it acc env) R s:=by
 refine codeAny_loop rfl I (fun n s hI=>?_) n h
 show wpAny _ A ((compTurn (.ListComp elt [⟨target,iter,tl.toList,0⟩] scope pos) 0 it acc env).onRaise (fun x=>do noteFrame x env;theTreesLotGoes x)) _ _ s
 refine wpAny_noted ?_;rw [compTurn_list];refine wpAny_bind (wpAny_standAt (wpAny_bind (wpAny_mono (turn n s hI) (fun r s₁ h₁=>?_) fun _ _ h'=>h')))
 cases r with
 | none=>exact wpAny_pure h₁
 | some v =>
  refine wpAny_bind (wpAny_mono h₁ (fun _ s₁' h₁'=>?_) fun _ _ h'=>h');refine wpAny_bind (wpAny_mono h₁' (fun _ s₂ h₂=>wpAny_bind (wpAny_mono h₂ (fun ok s₃ h₃=>?_) fun _ _ h'=>h')) fun _ _ h'=>h')
  cases ok with
  | true =>
   rw [if_pos rfl]at h₃;exact wpAny_bind (wpAny_bind (wpAny_mono h₃ (fun x s₄ h₄=>wpAny_bind (wpAny_mono h₄ (fun _ s₅ h₅=>wpAny_pure (wpAny_pure ⟨rfl,h₅⟩)) fun _ _ h'=>h')) fun _ _ h'=>h'))
  | false =>
   rw [if_neg Bool.false_ne_true]at h₃;exact wpAny_bind (wpAny_pure (wpAny_pure ⟨rfl,h₃⟩))
end
end L2
namespace L2
open PySem PySem.Spec PySem.W PyProof.Rows
end L2
namespace L2
open PySem PySem.Spec PySem.W PyProof.Rows PySem.Calls PySem.Builtin PySem.Builtin.ObjectAttr PySem.Builtin.Getset_descriptor
structure ErrCls(K:W.Frag)(C:Addr):Prop where
 ga:findIn K (.ref C) "__getattribute__"=some (some (.builtin "BaseException.__getattribute__"))
 gh:findIn K (.ref C) "__getattr__"=some none
 cl:findIn K (.ref C) "__class__"=some (some (.builtin "object.__class__"))
 gg:specialIn K (.builtin "object.__class__") "__get__"=some (some (.builtin "getset_descriptor.__get__"))
 tk:takesIn K (.builtin "object.__class__")=some true
 sb:subIn K (.ref C) (.type "BaseException")=some true
 so:subIn K (.ref C) (.type "object")=some true
 is:(clsIn K C).isSome=true
def QmQ(a C:Addr)(dd:Option Addr)(h:Heap):Prop:=∃o vs,h.get? a=some o/\o.cls=.ref C/\o.data=.fields vs/\o.dict=dd
noncomputable def QoO(a C:Addr)(dd:Option Addr):HO:=.ext (QmQ a C dd)
end L2
namespace L2
open PySem PySem.Spec PySem.W PyProof.Rows
section
structure Cov(B:Heap)(H:Hp)(s:Shared)(l:List Env):Prop where
 trk:∀b u,H b=some u->∃o,B.get? b=some o
 old:∀b o,s.heap.get? b=some o->b∉frs l->∃o',B.get? b=some o'
def DictAt(h:Heap)(a:Addr)(dd:Option Addr):Prop:=∃o,h.get? a=some o/\o.dict=dd
noncomputable def CXw(P:Program)(w:World):CXT:=fun outer H s E e s'=>∃a C H' B a0 dd,e=.ref a/\s'.os=s.os/\AllBare s'.gens/\Un (frs outer) [] H H' s.heap s'.heap/\HOk P w H' s'.heap /\
 Heap.FlyingW B outer a (.ref C) a0 s'.heap/\Cov B H' s outer/\H' a=none/\s.heap.get? a=none/\DictAt s'.heap a dd/\E (.ref C) dd H'
end
section
noncomputable def Qd5:List Value:=[.type "ValueError",.type "Exception",.type "BaseException",.type "object"]
end
section
variable {C:Addr}
def Qpe(a C:Addr)(dd:Option Addr)(h:Heap):Prop:=∃o vs t0,h.get? a=some o/\o.cls=.ref C/\o.data=.fields vs/\vs[0]?=some (.ref t0)/\vs[1]?=some .none/\o.dict=dd
noncomputable def QnE(a C:Addr)(dd:Option Addr):HO:=.ext (Qpe a C dd)
section
noncomputable def Qmm(K:W.Frag)(C fI:Addr):Bool:=match K.lookup C with
 | some ⟨.type "type",_,.cls cd,sl⟩=>(match cd.mro,sl.toList with
  | .ref C'::bm,[_,_,_,_,some (.builtin n),_]=>C'==C&&n=="ValueError.__new__"&&!cd.hasDel&&tailIn K Qd5 bm&&nsOkIn K cd.ns&&nsIn K cd.ns "__init__"==some (some (.ref fI))
  | _,_=>false)
 | _=>false
end
section
open Builtin Builtin.ObjectAttr
end
end
end L2
namespace L2
open PySem PySem.Spec PySem.W PyProof.Rows PySem.Calls PySem.Builtin PySem.Builtin.ObjectAttr
end L2
namespace L2
open PySem PySem.Spec PySem.W PyProof.Rows
section
variable {H:Hp}{C fI:Addr}{f:Str}{v:V}
def spI(C:Addr)(f:Str)(v:V):Sp:=fun vs H Q E=>∃e,vs=[.ref e,v]/\H e=some (QnE e C none)/\∀d od,H d=none->d≠e->Q .non (upd (upd H e (QnE e C (some d))) d (.frz od (.xd [(f,v)])))
structure Exi(K:W.Frag)(C fI:Addr):Prop where
 q:Qmm K C fI=true
 fn:isFn K (.ref fI)=true
 kp:keepIn K (.ref C)=true
end
end L2
namespace L2
open PySem
open Sem (wp)
open AutoSeq1 (wpAny_loadPart')
variable {r:Addr}{a b c:Int}{n:Nat}{t u v:Tok}
section
variable {prog:Program}{w:World}{A:Around}{E:Value->Shared->Prop}{s:Shared}
theorem JA{Q:List Value->Shared->Prop}(hh:A.handled=none)(hr:IsRange s.heap r a b c t u v)(hsmall:Builtin.Range.small a b c=true)
  (hn:Builtin.Range.rangeSize a b c=n) (hlen:n<=2 ^ 24)
  (hQ:∀(h':Heap) (tk:Nat) (acc:Array Value),(∀b o,s.heap.get? b=some o->h'.get? b=some o)->ItemsOf (fun i v=>∃t,v=.int (a+i*c) t) acc n->Q acc.toList { s with heap:=h',toks:=tk }):
  wpAny (model prog w) A (collect (.ref r)) Q E s:=by
 unfold collect;refine wpAny_bind (wpAny_runValue (codeAny_builtin F.entry_proto_collect ?_));rw [Around.under_plainId F.plain_proto_collect _];show wpAny _ A.in1 (newList [] >>= fun l=>again (.builtin "list.__iadd__" ⟨[l,.ref r],[]⟩)) _ _ s;refine wpAny_bind (wpAny_newObj_type ?_);refine wpAny_pure ⟨plainId_quiet F.plain_list_iadd _,codeAny_builtin F.entry_list_iadd ?_⟩;rw [Around.under_plainId F.plain_list_iadd _];show wpAny _ A.in1 (Builtin.List.listExtendWith (.ref s.heap.objs.size) (.ref r) (.ref s.heap.objs.size)) _ _ _;have hS:(s.heap.push { cls:=.type "list",data:=.seq ([]:List Value).toArray }).get? s.heap.objs.size=some { cls:=.type "list",data:=.seq #[] 0 }:=Heap.get?_push_size _ rfl;have hr':IsRange (s.heap.push { cls:=.type "list",data:=.seq ([]:List Value).toArray }) r a b c t u v:=Heap.get?_push_of_some _ hr
 have fin':∀(s':Shared) (acc:Array Value) (c':Nat),s'.heap.get? s.heap.objs.size=some { cls:=.type "list",dict:=none,data:=.seq acc c',slots:=#[] }->Q acc.toList s'->wpAny (model prog w) A (match Value.ref s.heap.objs.size with
   | Value.ref a=>do
    match (<-load a).data with
     | Data.seq xs _=>pure xs.toList
     | _=>unsupported "internal:collect"
   | _=>unsupported "internal:collect") Q E s':=fun s' acc c' hS' q=>by
  show wpAny _ A (load s.heap.objs.size >>= _) _ _ _;refine wpAny_bind (wpAny_load hS' ?_);exact wpAny_pure q
 refine wpAny_mono (wpAny_extend_range (A := A) (R := fun r s' => r = .ok (.ret (.ref s.heap.objs.size)) /\ ∃ acc c', s'.heap.get? s.heap.objs.size = some { cls := .type "list", dict := none, data := .seq acc c', slots := #[] } /\ Q acc.toList s')
  (s:={ s with heap:=s.heap.push { cls:=.type "list",data:=.seq ([]:List Value).toArray } }) hh hr' hsmall hn hlen _ _ 0 hS fun h' tk acc c' kp hS' hacc =>
   ⟨rfl,acc,c',hS',hQ h' tk acc (fun b o e=>kp b o (Nat.ne_of_lt (Heap.lt_size e)) (Heap.get?_push_of_some _ e)) hacc⟩) (fun fin s' h=>?_) (fun e s' h=>?_)
 ·cases fin with
  | done f =>
   obtain⟨e,acc,c',h1,h2⟩:=h;cases e;exact fin' s' acc c' h1 h2
  | again c'=>exact⟨h.1,codeAny_mono h.2 fun r s'' hr=>by obtain⟨rfl,acc,c',h1,h2⟩:=hr;exact fin' s'' acc c' h1 h2⟩
 ·exact absurd h.1 (by simp)
theorem Zx{Q₁:Value->Shared->Prop}(hh:A.handled=none)(hr:IsRange s.heap r a b c t u v)(hsmall:Builtin.Range.small a b c=true)
  (hn:Builtin.Range.rangeSize a b c=n) (hlen:n<=2 ^ 24) (hsz:n<=sizeLine)
  (h:∀(h':Heap) (tk:Nat) (acc:Array Value),(∀b o,s.heap.get? b=some o->h'.get? b=some o)->ItemsOf (fun i v=>∃t,v=.int (a+i*c) t) acc n->Q₁ (.ref h'.objs.size) { s with heap:=h'.push { cls:=.type "tuple",data:=.seq acc },toks:=tk }):
  codeAny (model prog w) A (.call (.builtin "tuple.__new__") ⟨[.type "tuple",.ref r],[]⟩) (wants Q₁ E) s:=by
 refine codeAny_of_tree ?_
 show wpAny _ A.in1 (do checkBuiltinCall "tuple.__new__" ⟨[.type "tuple",.ref r],[]⟩;again (.builtin "tuple.__new__" ⟨[.type "tuple",.ref r],[]⟩)) _ _ s
 refine wpAny_bind (wpAny_of_eq (F.newCall_tuple_1 _) (wpAny_pure ⟨plainId_quiet F.plain_tuple_new _,codeAny_builtin F.entry_tuple_new ?_⟩));rw [Around.under_plainId F.plain_tuple_new _];have hsub:=sub_tuple_self;have hinit:=init_tuple_lookup;have hmh:=madeHere_tuple;have hTI:s.TypeIs (.ref r) "range":=⟨_,hr,rfl⟩;have hh1:A.in1.handled=none:=hh
 wp_walk using wpAny_typeOf hTI,JA hh1 hr hsmall hn hlen
 intro h' tk acc kp hacc;show wpAny _ _ (Builtin.Tuple.tupleExact acc.toList.toArray >>= fun v=>ret v) _ _ _;unfold Builtin.Tuple.tupleExact
 refine wpAny_bind (wpAny_newObj_type ?_ (by show acc.toList.toArray.size<=sizeLine;simp only [Array.toArray_toList];rw [hacc.1];exact hsz))
 refine wpAny_pure ?_
 have e:acc.toList.toArray=acc:=by simp
 rw [e];exact h h' tk acc kp hacc
theorem Z6{Q:Value->Shared->Prop}(hh:A.handled=none)(hr:IsRange s.heap r a b c t u v)(hsmall:Builtin.Range.small a b c=true)
  (hn:Builtin.Range.rangeSize a b c=n) (hlen:n<=2 ^ 24) (hsz:n<=sizeLine)
  (hQ:∀(h':Heap) (tk:Nat) (acc:Array Value),(∀b o,s.heap.get? b=some o->h'.get? b=some o)->ItemsOf (fun i v=>∃t,v=.int (a+i*c) t) acc n->Q (.ref h'.objs.size) { s with heap:=h'.push { cls:=.type "tuple",data:=.seq acc },toks:=tk }):
  wpAny (model prog w) A (call (.type "tuple") [.ref r]) Q E s:=by
 refine callType_codes (Q₁ := fun obj s₁ => s₁.TypeIs obj "tuple" /\ Q obj s₁) F.called_tuple (F.typeCall_tuple_1 _) F.entry_object_init
  (Zx hh hr hsmall hn hlen hsz fun h' tk acc kp hacc=>⟨⟨_,Heap.get?_push_size _ rfl,rfl⟩,hQ h' tk acc kp hacc⟩) fun obj s₁ h₁=>?_
 exact⟨h₁.1,F.args_object_init_2 obj _,object_init_meets F.called_tuple.init.lookup F.called_tuple.made (by decide) prog w A.in1 _ s₁ ⟨h₁.1,rfl,h₁.2⟩⟩
end
end L2
namespace L2
open PySem PySem.Spec PyProof.Rows
section
variable {a b c:Int}
section
variable {X:Cx}
def Qoa(K:W.Frag)(te:TE):TE:=fun Y H Q=>te Y H fun x H1=>∃a xs,x=.ref a/\SqL K H1 a xs/\∀p,H1 p=none->Q (.ref p) (upd H1 p (.lst xs.reverse))
noncomputable def QdZ(a:Int)(n:Nat)(c:Int):List V:=(List.range n).map fun i:Nat=>V.int (a+(i:Int)*c)
theorem Qek{n:Nat}{acc:Array Value}(h:ItemsOf (fun i v=>∃t,v=Value.int (a+i*c) t) acc n):Vals (QdZ a n c) acc.toList:=by
 have all:∀(k:Nat) (l:List Value) (b:Nat),l.length=k->(∀j v,l[j]?=some v->∃t,v=Value.int (a+((b+j:Nat):Int)*c) t)->Vals ((List.range' b k).map fun i:Nat=>V.int (a+(i:Int)*c)) l:=by
  intro k
  induction k with
  | zero =>
   intro l b hl _
   cases l with
   | nil=>exact .nil
   | cons _ _=>cases hl
  | succ k ih =>
   intro l b hl hv
   cases l with
   | nil=>cases hl
   | cons x r =>
    rw [List.range'_succ,List.map_cons]
    refine .cons ?_ (ih r (b+1) (by simpa using hl) fun j v e=>?_)
    ·obtain⟨t,e⟩:=hv 0 x rfl
     exact⟨t,by simpa using e⟩
    ·obtain⟨t,e'⟩:=hv (j+1) v (by simpa using e)
     refine⟨t,?_⟩
     rw [e',show b+1+j=b+(j+1) by omega]
 unfold QdZ;rw [List.range_eq_range']
 refine all n acc.toList 0 (by simpa using h.1) fun j v e=>?_
 obtain⟨t,e'⟩:=h.2 j v (by simpa using e)
 exact⟨t,by simpa using e'⟩
theorem QaE{n:Nat}:(QdZ a n c).length=n:=by simp [QdZ]
noncomputable def Qau(a b c:Int):Nat:=if c=1 then(b-a).toNat else(a-b).toNat
theorem Qgs(h:c=1\/c=-1):Builtin.Range.rangeSize a b c=(Qau a b c:Nat):=by
 unfold Qau
 rcases h with rfl|rfl
 ·rw [rangeSize_one,if_pos rfl];split<;>omega
 ·unfold Builtin.Range.rangeSize
  rw [if_neg (show ¬((-1:Int) > 0) by decide),if_neg (show ¬((-1:Int)=1) by decide),show(-(-1:Int))=1 by decide,Int.ediv_one]
  split<;>omega
theorem Qef(ha:-(2 ^ 62)<=a)(ha':a<2 ^ 62)(hb:-(2 ^ 62)<=b)(hb':b<2 ^ 62):Builtin.Range.small a b (-1)=true:=by
 have e:Builtin.Range.rangeSize a b (-1)=if a>b then a-b else 0:=by
  unfold Builtin.Range.rangeSize
  rw [if_neg (show ¬((-1:Int) > 0) by decide),show(-(-1:Int))=1 by decide,Int.ediv_one]
  split<;>omega
 unfold Builtin.Range.small;rw [e]
 simp only [Builtin.Range.rangeFitsLong,Bool.and_eq_true,Bool.or_eq_true,decide_eq_true_eq,beq_iff_eq,show ¬((-1:Int) > 0) by decide,if_false]
 split<;>omega
noncomputable def rngA:List V->Option (Int×Int×Int)
 | [.int b]=>some (0,b,1)
 | [.int a,.int b]=>some (a,b,1)
 | [.int a,.int b,.int c]=>some (a,b,c)
 | _=>none
def Qlh(ta:TA):TE:=fun Y H Q=>ta Y H fun vs H1=>∃a b c:Int,rngA vs=some (a,b,c)/\(-(2 ^ 62)<=a/\a<2 ^ 62/\-(2 ^ 62)<=b/\b<2 ^ 62)/\(c=1\/c=-1)/\Qau a b c<=sizeLine/\Qau a b c<=2 ^ 24 /\
 ∀p,H1 p=none->Q (.ref p) (upd H1 p (.tup (QdZ a (Qau a b c) c)))
theorem Qel{pins:List (Addr×Obj)}{s:Shared}{Y:St}{H:Hp}{vs:List V}{us:List Value}{E:Value->Shared->Prop}(I:Inv X pins Y H s)(r:Vals vs us)(h:rngA vs=some (a,b,c))(hc:c=1\/c=-1):
  wpAny (model X.prog X.w) X.A (call (.type "range") us) (fun v s' => ∃ r t u w, v = .ref r /\ Inv X pins Y H s' /\ IsRange s'.heap r a b c t u w) E s := by
 have fin : ∀ {t u v : Tok} {tk : Nat}, ∃ (r : Addr) (t' u' w' : Tok), Value.ref s.heap.objs.size = .ref r /\ Inv X pins Y H { s with heap := s.heap.push { cls := .type "range", data := .fields #[.int a t, .int b u, .int c v] }, toks := tk } /\
   IsRange (s.heap.push { cls:=.type "range",data:=.fields #[.int a t,.int b u,.int c v] }) r a b c t' u' w':=fun {t u v tk}=>⟨_,_,_,_,rfl,I.kept fun b o e=>Heap.get?_push_of_some _ e,IsRange.new ..⟩
 unfold rngA at h;split at h
 ·cases h;obtain⟨x,rfl,t,rfl⟩:=r.one;exact call_range_1 fin
 ·cases h;obtain⟨x,y,rfl,⟨t,rfl⟩,u,rfl⟩:=r.two;exact call_range_2 fin
 ·cases h
  cases r with
  | cons r1 r =>
   obtain⟨x,y,rfl,⟨t,rfl⟩,u,rfl⟩:=Vals.two r;obtain⟨w,rfl⟩:=r1
   refine call_range_3 (by rcases hc with rfl|rfl<;>decide) fin (.inl (PyProof.noPylong_small ?_))
   rcases hc with rfl|rfl<;>decide
 ·cases h
theorem QgJ{a0:Expr}{args:List Expr}{ta:TA}{p q pos pos2:Pos}(hc:X.calm=true)(hg:Gl X "tuple") (hm:X.mg "tuple"=none) (hg2:Gl X "range") (hm2:X.mg "range"=none) (ha:PA X (a0::args) ta)
  (he:starEach (a0::args) X.env=(false,eval a0 X.env)::starEach args X.env) (hpl:(backTo pos2 (starEach args X.env)).any (·.1)=false):
  PE X (.Call (.Name "tuple" p) [.Call (.Name "range" q) (a0::args) [] pos2] [] pos) (Qlh ta):=by
 intro pins s Y H Q I h;refine wpAny_Call_Name_kw (ZB I hg hm PyProof.Rows.boot_tuple ?_);refine PyProof.Rows.callWith_type1 (e:=.Call (.Name "range" q) (a0::args) [] pos2) (rest:=[]) ?_ rfl rfl;show wpAny _ _ (spliced ((false,eval (.Call (.Name "range" q) (a0::args) [] pos2) X.env)::backTo pos (starEach [] X.env))) _ _ s;refine Calls.spliced_cons ?_;refine wpAny_Call_Name_kw (ZB I hg2 hm2 boot_range ?_);refine PyProof.Rows.callWith_type1 (thn (ha pos2 pins s Y H _ I h) fun us s1 ⟨vs,H1,I1,r1,q1⟩=>?_) he hpl;obtain⟨a,b,c,hv,⟨b1,b2,b3,b4⟩,h1,hz,h24,q⟩:=q1;refine thn (Qel I1 r1 hv h1) fun v s2 ⟨r,t,u,w,e,I2,hr⟩=>?_;subst e;refine Calls.spliced_nil ?_
 have hs:Builtin.Range.small a b c=true:=by
  rcases h1 with rfl|rfl
  ·exact small_one b1 b2 b3 b4
  ·exact Qef b1 b2 b3 b4
 refine Z6 (I2.ok.hd hc) hr hs (Qgs h1) h24 hz fun h' tk acc kp hacc=>?_;have I3:Inv X pins Y H1 { s2 with heap:=h',toks:=tk }:=I2.kept kp;have rv:=Qek hacc;refine⟨.ref h'.objs.size,_,I3.laid (t':=tk) (o:=.tup (QdZ a (Qau a b c) c)) (fun b o e=>Heap.get?_push_of_some _ e) (Nat.le_refl _) ?_,rfl,q _ (I3.hok.fresh (Nat.le_refl _))⟩;show ObjOk X.prog X.w _ _ _ (.tup _)
 exact⟨by rw [QaE];exact hz,acc.toList,rv,by simpa using IsTup.new h' acc⟩
end
end
section
open Sem (wp)
section
variable {prog:Program}{w:World}{A:Around}{E:Value->Shared->Prop}{s:Shared}
theorem Qdg:typeLookup (.type "list_reverseiterator") "__len__"=pure none:=by rw [typeLookup_type,builtinLookup_eq_fast];kernel_rfl
theorem QeG:typeLookup (.type "list_reverseiterator") "__length_hint__"=pure (some (.builtin "list_reverseiterator.__length_hint__")):=by rw [typeLookup_type,builtinLookup_eq_fast];kernel_rfl
theorem Qb8{R:Result->Shared->Prop}{I l:Addr}{items:Array Value}(hh:A.handled=none)(hit:s.heap.IsRevIter I l ((items.size:Int) - 1))(hl:s.heap.IsList l items)(hne:l≠I)(hn:items.size<=sizeLine)(S:Addr)(res:Value)(c₀:Nat)
  (hS:s.heap.get? S=some { cls:=.type "list",data:=.seq #[] c₀ }) (hSI:S≠I) (hSl:S≠l)
  (hR:∀h' tk acc' c',(∀b o,b≠S->b≠I->s.heap.get? b=some o->h'.get? b=some o)->h'.get? S=some { cls:=.type "list",dict:=none,data:=.seq acc' c',slots:=#[] } ->
   ItemsOf (fun i v=>items[items.size-1-i]?=some v) acc' items.size->R (.ok (.ret res)) { s with heap:=h',toks:=tk }):
  wpAny (model prog w) A.in1 (Builtin.List.listExtendWith (.ref S) (.ref I) res)
   (fun fin s'=>match fin with|.done f=>R (.ok f) s'|.again c'=>c'.quiet=true/\codeAny (model prog w) A c' R s') (fun e s'=>R (.error e) s') s:=by
 have hTy:s.TypeIs (.ref I) "list_reverseiterator":=hit.typeIs;have W:=(Walks.listRev (prog:=prog) (w:=w) (A:=A.in1) hh I l hne items).toS
 have hSf:S∉[I,l]:=fun hm=>by
  rcases List.mem_cons.mp hm with e|hm
  ·exact hSI e
  ·exact hSl (List.mem_singleton.mp hm)
 unfold Builtin.List.listExtendWith;refine wpAny_bind (wpAny_typeOf hTy ?_)
 have h1:Builtin.List.listSameRef (.ref S) (.ref I)=false:=by simp [Builtin.List.listSameRef,hSI]
 have h2:(Value.type "list_reverseiterator"==Value.type "list")=false:=by decide
 have h3:(Value.type "list_reverseiterator"==Value.type "tuple")=false:=by decide
 simp only [h1,h2,h3,Bool.or_false,Bool.false_eq_true,if_false];refine wpAny_bind (wpAny_pyIter_revIter hit ?_);refine wpAny_bind (wpAny_holding ?_);unfold Builtin.List.listLengthHint;refine wpAny_bind (wpAny_specialOf hTy Qdg ?_);show wpAny _ A.in1 (specialOf (Value.ref I) (Str.ofString "__length_hint__") >>= _) _ _ _;refine wpAny_bind (wpAny_specialOf hTy QeG ?_);generalize hid:("list_reverseiterator.__length_hint__":String)=id0
 wp_delta
 rw [show splitId id0=some ("list_reverseiterator","__length_hint__")from by subst hid;decide +kernel]
 subst hid
 refine wpAny_bind (wpAny_isInstance (T:="list_reverseiterator") (b:=true) hTy (by rw [isSubtype_type];kernel_rfl) ?_)
 refine wpAny_ite_split (fun hab=>absurd hab (by decide)) (fun _=>?_)
 refine wpAny_ite_split (fun _=>?_) (fun hab=>absurd (by decide +kernel) hab)
 refine wpAny_ite_split (fun hab=>absurd hab (by decide +kernel)) (fun _=>?_)
 refine wpAny_pure ?_
 rw [if_neg (by decide)]
 refine wpAny_pure ⟨plainId_quiet F.plain_extend_loop _,codeAny_extend_loopS W hn S hSf res items.size 0 _ #[] c₀ rfl (Nat.zero_le _) ⟨Nat.zero_le _,by simpa using hit,hl⟩ hS (ItemsOf.nil _) fun s' acc' c' hm hS' hacc=>?_⟩
 rw [Moved.eq_with hm];refine hR s'.heap s'.toks acc' c' (fun b o hb hb2 e=>hm.heap b o (fun hmem=>?_) e) hS' hacc
 rcases List.mem_cons.mp hmem with e'|hmem
 ·exact hb e'
 ·exact hb2 (List.mem_singleton.mp hmem)
theorem JD{Q:Value->Shared->Prop}{I l:Addr}{items:Array Value}(hh:A.handled=none)(hit:s.heap.IsRevIter I l ((items.size:Int) - 1))(hl:s.heap.IsList l items)(hne:l≠I)(hn:items.size<=sizeLine)
  (hQ:∀h' tk acc' c',(∀b o,b≠I->s.heap.get? b=some o->h'.get? b=some o) ->
   h'.get? s.heap.objs.size=some { cls:=.type "list",dict:=none,data:=.seq acc' c',slots:=#[] }->ItemsOf (fun i v=>items[items.size-1-i]?=some v) acc' items.size->Q (.ref s.heap.objs.size) { s with heap:=h',toks:=tk }):
  wpAny (model prog w) A (call (.type "list") [.ref I]) Q E s:=by
 refine callType_codes (Q₁ := fun obj s₁ => obj = .ref s.heap.objs.size /\ s₁ = { s with heap := s.heap.push { cls := .type "list", data := .seq #[] } }) F.called_list (F.typeCall_list_1 _) F.entry_list_init
  (code_list_new _ ⟨rfl,rfl⟩) fun obj s₁ h₁=>?_
 obtain⟨rfl,rfl⟩:=h₁;have hS:(s.heap.push { cls:=.type "list",data:=.seq #[] }).get? s.heap.objs.size=some { cls:=.type "list",data:=.seq #[] }:=Heap.get?_push_size _ rfl
 have hI:s.heap.objs.size≠I:=by
  obtain⟨o,e,_⟩:=hit;exact Ne.symm (Nat.ne_of_lt (Heap.lt_size e))
 have hL:s.heap.objs.size≠l:=by
  obtain⟨o,e,_⟩:=hl;exact Ne.symm (Nat.ne_of_lt (Heap.lt_size e))
 refine⟨⟨_,hS,rfl⟩,F.args_list_init_2 _ _,?_⟩
 show wpAny _ _ (do let old <-Builtin.List.listItems (.ref s.heap.objs.size);Builtin.List.listUpdate (.ref s.heap.objs.size) (fun _=>#[]);letGo old.toList.reverse;Builtin.List.listExtendWith (.ref s.heap.objs.size) (.ref I) .none) _ _ _
 refine wpAny_bind ?_;unfold Builtin.List.listItems;refine wpAny_bind (wpAny_seqItems hS rfl (wpAny_pure ?_));show wpAny _ _ (updateSeq s.heap.objs.size (fun _=>#[]) >>= fun _=>letGo (#[]:Array Value).toList.reverse >>= fun _=>Builtin.List.listExtendWith (.ref s.heap.objs.size) (.ref I) .none) _ _ _;refine wpAny_bind (wpAny_updateSeq hS rfl ?_);have hS₂:=Heap.get?_update_self (Obj.mapSeq (fun _=>(#[]:Array Value))) hS rfl
 have oth:∀b o,s.heap.get? b=some o->((s.heap.push { cls:=.type "list",data:=.seq #[] }).update s.heap.objs.size (Obj.mapSeq (fun _=>(#[]:Array Value)))).get? b=some o :=
  fun b o e=>(Heap.get?_update_other _ _ (Ne.symm (Nat.ne_of_lt (Heap.lt_size e)))).trans (Heap.get?_push_of_some _ e)
 refine wpAny_bind (wpAny_letGo ?_);refine Qb8 (A:=A.in1) hh (l:=l) (items:=items) ?_ ?_ hne hn _ .none _ hS₂ hI hL fun h' tk acc' c' hk hS' hacc=>?_
 ·exact hit.at fun o e=>oth _ _ e
 ·exact hl.at fun o e=>oth _ _ e
 ·exact⟨rfl,hQ h' tk acc' c' (fun b o hb e=>hk b o (Nat.ne_of_lt (Heap.lt_size e)) hb (oth b o e)) hS' hacc⟩
end
section
variable {X:Cx}
theorem Qem{xs:List V}{its:List Value}{acc:Array Value}(r:Vals xs its)(h:ItemsOf (fun i v=>its.toArray[its.toArray.size-1-i]?=some v) acc its.toArray.size):Vals xs.reverse acc.toList:=by
 have e:acc.toList=its.reverse:=by
  refine List.ext_getElem? fun i=>?_;by_cases hi:i<its.length
  ·rw [List.getElem?_reverse hi]
   have hs:acc.size=its.length:=by simpa using h.1
   have hi':i<acc.size:=by omega
   have h1:=h.2 i acc[i] (by simp [hi'])
   simp only [List.getElem?_toArray,List.size_toArray]at h1;rw [h1];simp [hi']
  ·have hs:acc.size=its.length:=by simpa using h.1
   rw [List.getElem?_eq_none (by simp;omega),List.getElem?_eq_none (by simp;omega)]
 rw [e];exact r.reverse
theorem QgL{e:Expr}{te:TE}{p q pos pos2:Pos}(hc:X.calm=true)(hg:Gl X "list") (hm:X.mg "list"=none) (hg2:Gl X "reversed") (hm2:X.mg "reversed"=none) (he:PE X e te) (hs:starEach [e] X.env=[(false,eval e X.env)]):
  PE X (.Call (.Name "list" p) [.Call (.Name "reversed" q) [e] [] pos2] [] pos) (Qoa X.K te):=by
 intro pins s Y H Q I h;refine wpAny_Call_Name_kw (ZB I hg hm PyProof.Rows.boot_list ?_);refine PyProof.Rows.callWith_type1 (e:=.Call (.Name "reversed" q) [e] [] pos2) (rest:=[]) ?_ rfl rfl;show wpAny _ _ (spliced ((false,eval (.Call (.Name "reversed" q) [e] [] pos2) X.env)::backTo pos (starEach [] X.env))) _ _ s;refine Calls.spliced_cons ?_;refine wpAny_Call_Name_kw (ZB I hg2 hm2 boot_reversed ?_);refine PyProof.Rows.callWith_type1 (e:=e) (rest:=[]) ?_ hs rfl;rw [hs];show wpAny _ _ (spliced ((false,eval e X.env)::backTo pos2 (starEach [] X.env))) _ _ s;refine Calls.spliced_cons (thn (he pins s Y H _ I h) fun u s1 ⟨x,H1,I1,rx,q1⟩=>?_);refine Calls.spliced_nil ?_;obtain⟨a,xs,ev,hq,q⟩:=q1;subst ev;cases rx;obtain⟨its,rv,pl,hz⟩:=I1.list hq;refine call_reversed_list pl.isList ?_;refine Calls.spliced_nil ?_;have I2:Inv X pins Y H1 { s1 with heap:=s1.heap.push (revObj a ((its.toArray.size:Int) - 1)) }:=I1.kept (t':=s1.toks) fun b o e=>Heap.get?_push_of_some _ e
 have st:(s1.heap.push (revObj a ((its.toArray.size:Int) - 1))).IsRevIter s1.heap.objs.size a ((its.toArray.size:Int) - 1):=⟨_,Heap.get?_push_size _ rfl,rfl,by simp [revObj]⟩
 have hl:(s1.heap.push (revObj a ((its.toArray.size:Int) - 1))).IsList a its.toArray:=pl.isList.at fun o e=>Heap.get?_push_of_some _ e
 have hne:a≠s1.heap.objs.size:=by
  obtain⟨o,e,_⟩:=pl.isList;exact Nat.ne_of_lt (Heap.lt_size e)
 refine JD (I2.ok.hd hc) st hl hne (by rw [List.size_toArray,<-rv.length];exact hz) fun h' tk acc c' kp hS hacc=>?_
 have e1:(s1.heap.push (revObj a ((its.toArray.size:Int) - 1))).objs.size=s1.heap.objs.size+1:=by simp [Heap.push]
 have hS':=hS
 refine⟨.ref _,_,I1.laid (t':=tk) (o:=.lst xs.reverse) (a:=(s1.heap.push (revObj a ((its.toArray.size:Int) - 1))).objs.size) (fun b o e=>kp b o (Nat.ne_of_lt (Heap.lt_size e)) (Heap.get?_push_of_some _ e)) (by rw [e1];exact Nat.le_succ _) ?_,rfl,q _ (I1.hok.fresh (a:=(s1.heap.push (revObj a ((its.toArray.size:Int) - 1))).objs.size) (by rw [e1];exact Nat.le_succ _))⟩
 exact⟨by rw [List.length_reverse];exact hz,acc.toList,c',Qem rv hacc,by simpa using hS⟩
end
end
section
section
variable {X:Cx}{pins:List (Addr×Obj)}{Y:St}{H:Hp}{s:Shared}{d:Addr}
theorem Inv.freeze{kv:List (Key×V)}(I:Inv X pins Y H s)(h:H d=some (.dK kv)):∃o es ep,s.heap.get? d=some o/\o.data=.dict es ep/\Inv X pins Y (upd H d (.frz o (.dK kv))) s:=by
 obtain⟨hz,hm,vs,r,o,es,ep,e,c,dt,rr⟩:=QeX I.hok h;refine⟨o,es,ep,e,dt,?_⟩
 have:=I.write (x:=d) (e:=d) (o:=.frz o (.dK kv)) (h':=s.heap) (t':=s.toks) (by rw [h];trivial) (.inl rfl) (fun b u _ q=>q) ⟨o,e⟩ ⟨e,hz,hm,vs,r,o,es,ep,e,c,dt,rr⟩
 exact this
theorem Inv.thaw{o:Obj}{kv:List (Key×V)}(I:Inv X pins Y H s)(h:H d=some (.frz o (.dK kv)))(h0:∀o' u',X.H₀ d≠some (.frz o' u')):Inv X pins Y (upd H d (.dK kv)) s:=by
 have ne:∀{b:Addr},H b=none->b≠d:=fun q z=>by rw [z,h]at q;cases q
 refine⟨I.ok,I.os,I.bare,⟨I.base.keep,I.base.slot,fun b ob q n hx=>?_,I.base.there,fun b xs q=>?_,fun b ob u q=>?_,fun b ps q=>?_⟩,I.loc,I.cell,?_,fun x c e=>?_,fun p hp=>?_,fun b u q=>?_,I.len⟩
 ·have:=I.base.free b ob q n hx;rw [Qe (ne this)];exact this
 ·have:=I.base.tups b xs q
  rw [Qe (fun z=>by rw [z,h]at this;cases this)]
  exact this
 ·have:=I.base.frzs b ob u q
  rw [Qe (fun z=>by subst z;exact h0 _ _ q)]
  exact this
 ·obtain⟨more,e⟩:=I.base.tbls b ps q;refine⟨more,?_⟩
  rw [Qe (fun z=>by rw [z,h]at e;cases e)]
  exact e
 ·rw [Qe (ne I.free)];exact I.free
 ·rw [Qe (ne (I.freeC x c e))];exact I.freeC x c e
 ·obtain⟨a1,a2,a3⟩:=I.pin p hp
  exact⟨a1,by rw [Qe (ne a2)];exact a2,a3⟩
 ·by_cases hb:b=d
  ·subst hb;rw [Qi]at q;cases q;obtain⟨_,ok⟩:=I.hok b _ h;exact ok
  ·rw [Qe hb]at q;refine(I.hok b u q).stay (fun c v _ r=>r) (fun c r=>?_) fun c xs r=>?_
   ·rw [Qe (fun z=>by rw [z,h]at r;cases r)];exact r
   ·rw [Qe (fun z=>by rw [z,h]at r;cases r)];exact r
end
noncomputable def Itk(a:Addr)(o:Obj)(kv:List (Key×V)):It :=
 ⟨fun i H=>H a=some (.frz o (.dK kv))/\i<kv.length,fun i H x H'=>H'=H/\∃p,kv[i]?=some p/\x=kV p.1,fun i H=>H a=some (.frz o (.dK kv))/\kv.length<=i⟩
theorem Qhd{P:Program}{w:World}{k:Key}{u:Value}(h:(Qv P w).is k u=true):RelV (kV k) u:=by
 rcases QB (show Qaa k u=true from h)with⟨i,t,rfl,rfl⟩|⟨x,t,rfl,rfl⟩
 ·exact⟨t,rfl⟩
 ·exact⟨t,rfl⟩
theorem QfG:∀{kv:List (Key×V)} {vs:List (Key×Value)} {i:Nat} {p:Key×V} {q:Key×Value},KV kv vs->kv[i]?=some p->vs[i]?=some q->p.1=q.1
 | _,_,i,p,q,.nil,h1,h2=>by simp at h1
 | _,_,0,p,q,.cons r t,h1,h2=>by
  simp at h1 h2;subst h1 h2;exact r.1
 | _,_,i+1,p,q,.cons r t,h1,h2=>QfG (i:=i) t (by simpa using h1) (by simpa using h2)
theorem Qcx{P:Program}{w:World}{K:W.Frag}{tg:Expr}(a it:Addr)(o:Obj)(kv:List (Key×V))(es:Array DictEntry)(ep:Nat)(hd:o.data=.dict es ep):
  Turn P w K tg (Itk a o kv) [it] it (fun i h=>h.IsKeyIter it a i kv.length ep) where
 mem:=by simp
 obj:=fun i h st b hb=>by
  have e:b=it:=by simpa using hb
  subst e;obtain⟨o,e,c,d⟩:=st
  exact⟨o,e,fun v z=>by rw [d]at z;cases z⟩
 keep:=fun i h h' st k=>by
  obtain⟨o,e,r⟩:=st
  exact⟨o,k it (by simp) o e,r⟩
 item:=by
  intro X hP hw hK hc i pins s Y H E I hf st hg;subst hP hw hK
  obtain⟨f0,f1,f2,f3,f4,f5⟩:=hf it (by simp)
  obtain⟨hg,hi⟩:=hg;obtain⟨eo,hz,hm,vs,rr,o',es',ep',e',c',dt',r'⟩:=I.hok a _ hg;rw [eo]at e';cases e';rw [hd]at dt';cases dt';have hl:=Paired.length rr
  have hi':i<vs.length:=by omega
  have D:s.heap.DictAt (Qv X.prog X.w) a vs ep:=⟨o,es,eo,c',hd,r'⟩;have st':=st;rw [hl]at st';refine wpAny_pyNext_dict_item st' D (k:=vs[i].1) (v:=vs[i].2) (List.getElem?_eq_getElem hi') fun key h' hk hit sb=>?_;have I1:Inv X pins Y H { s with heap:=h' }:=I.turned (t':=s.toks) (fun b o hb e=>(sb.2 b hb).trans e) f0 f1 f3 f4 f5;obtain⟨oi,e,c,dd⟩:=id hit
  have ek:kv[i].1=vs[i].1:=by
   exact QfG rr (List.getElem?_eq_getElem hi) (List.getElem?_eq_getElem hi')
  refine⟨key,rfl,QeN (s:={ s with heap:=h' }) e c dd (by decide) ⟨kV kv[i].1,H,I1,by rw [ek];exact Qhd hk,⟨rfl,kv[i],List.getElem?_eq_getElem hi,rfl⟩,?_,fun b hb=>(hf b hb).1⟩⟩
  rw [hl];exact hit
 done:=by
  intro X hP hw hK hc i pins s Y H E I hf st hg;subst hP hw hK
  obtain⟨f0,f1,f2,f3,f4,f5⟩:=hf it (by simp)
  obtain⟨hg,hi⟩:=hg;obtain⟨eo,hz,hm,vs,rr,o',es',ep',e',c',dt',r'⟩:=I.hok a _ hg;rw [eo]at e';cases e';rw [hd]at dt';cases dt';have hl:=Paired.length rr;have D:s.heap.DictAt (Qv X.prog X.w) a vs ep:=⟨o,es,eo,c',hd,r'⟩;have st':=st;rw [hl]at st'
  exact wpAny_pyNext_dict_end (I.ok.hd hc) st' D (List.getElem?_eq_none (by omega)) fun h' eb=>⟨rfl,I.turned (t':=s.toks) (fun b o hb e=>eb b o hb e) f0 f1 f3 f4 f5⟩
 self:=fun _ _ _ _ _ st h=>wpAny_pyIter_keyiter st h
section
variable {X:Cx}
def Qmd(te:TE):TI:=fun Y H R=>te Y H fun x H1=>∃a kv,x=.ref a/\H1 a=some (.dK kv)/\∀o,R (Itk a o kv) (upd H1 a (.frz o (.dK kv)))
theorem Qc1{tg e:Expr}{te:TE}(he:PE X e te):PI X tg e (Qmd te):=by
 intro pins s Y H R I h;refine thn (he pins s Y H _ I h) fun u s1 ⟨x,H1,I1,rx,q1⟩=>?_;obtain⟨a,kv,rfl,hk,q⟩:=q1;cases rx;obtain⟨hz,hm,vs,r,dof⟩:=QeX I1.hok hk;obtain⟨o,es,ep,eo,hd,I2⟩:=I1.freeze hk;have hl:=Paired.length r;obtain⟨ep',D⟩:=dof.dictAt
 have ee:ep'=ep:=by
  obtain⟨o',es',e',c',dt',_⟩:=id D;rw [eo]at e';cases e';rw [hd]at dt';cases dt';rfl
 subst ee;refine wpAny_pyIter_dict hm D ?_
 refine⟨s1.heap.objs.size,[s1.heap.objs.size],_,Itk a o kv,_,rfl,I2.kept (t':=s1.toks) fun b o e=>Heap.get?_push_of_some _ e,Qcx a _ o kv es ep' hd,⟨_,Heap.get?_push_size _ rfl,rfl,by rw [hl];rfl⟩,fun b hb=>?_,q o⟩
 have e:b=s1.heap.objs.size:=by simpa using hb
 subst e;exact I2.fpOk (Nat.le_refl _) (I2.hok.fresh (Nat.le_refl _))
def QbN(d:Addr)(H:Hp)(P:Hp->Prop)(H':Hp):Prop:=∃o kv,H' d=some (.frz o (.dK kv))/\P (upd H' d (.dK kv))
def Qlx(ts:TS):TS:=fun D Y H=>∃d kv,H d=some (.dK kv)/\ts ⟨fun Y'=>QbN d H (D.nx Y'),fun v=>QbN d H (D.rt v),fun Y'=>QbN d H (D.bk Y'),fun Y'=>QbN d H (D.ct Y')⟩ Y H
theorem QcT{st:Stmt}{ts:TS}(h:PS X st ts):PS X st (Qlx ts):=by
 intro pins s Y H D I q;obtain⟨d,kv,hk,q⟩:=q
 have h0:∀o' u',X.H₀ d≠some (.frz o' u'):=fun o' u' z=>by
  have:=I.base.frzs d o' u' z;rw [hk]at this;cases this
 refine thn (h pins s Y H _ I q) fun f s' hf=>?_
 cases f with
 | next=>obtain⟨Y',H',I',o,kv',e,p⟩:=hf;exact⟨Y',_,I'.thaw e h0,p⟩
 | brk=>obtain⟨Y',H',I',o,kv',e,p⟩:=hf;exact⟨Y',_,I'.thaw e h0,p⟩
 | cont=>obtain⟨Y',H',I',o,kv',e,p⟩:=hf;exact⟨Y',_,I'.thaw e h0,p⟩
 | ret u=>obtain⟨v,Y',H',I',rv,o,kv',e,p⟩:=hf;exact⟨v,Y',_,I'.thaw e h0,rv,p⟩
end
end
end L2
namespace Iv
open PySem
section
inductive U where
 | non|bl (b:Bool)|int (i:Int) (m:Nat)|str (x:List Nat)|ref (n:Nat)|con (k:Nat)|scr
 deriving DecidableEq,Inhabited
inductive O where
 | lst (xs:List U)|tup (xs:List U)|ins (C:Nat) (fs:List (Nat×U))|dic (kvs:List (U×U))|dct (kvs:List (List U×U))|fzd (kvs:List (U×U))|fzt (kvs:List (List U×U))|err (c:Nat)
 deriving DecidableEq,Inhabited
noncomputable abbrev Hs:=List O
noncomputable abbrev Rho:=List (Option U)
inductive Bi where
 | len|int|str|tuple|list|sum|any|all|max|min|abs|sorted|dict|dictS
 deriving DecidableEq,Inhabited
inductive Bm where
 | append|pop|clear|reverse|extend|setdef|get|update|join|split|find|insert|index
 deriving DecidableEq,Inhabited
inductive Ty where
 | non|bool|int|str|list|tuple|dict|cls (c:Nat)|vale
 deriving DecidableEq,Inhabited
mutual
inductive E where
 | c (u:U)|var (i:Nat)|con (k:Nat)
 | op (o:Operator) (a b:E)|neg (a:E)|cmp (o:CmpOp) (a b:E)
 | and (a b:E)|or (a b:E)|not (a:E)|ife (t a b:E)
 | tup (es:List E)|lst (es:List E)|dis (kvs:List (U×U)) (b:E)
 | ix (a b:E)|tab (k:Nat) (b:E)|sl (a:E) (lo hi:Option E)|rev (a:E)|tupR (es:List E)
 | fld (a:E) (f:Nat)
 | call (f:Nat) (es:List E)|meth (m:Nat) (o:E) (es:List E)|make (k:Nat) (es:List E)
 | bi (b:Bi) (es:List E)|isi (a:E) (t:Ty)|bm (b:Bm) (o:E) (es:List E)
 | comp (s:Src) (b:Bool) (t:Option E) (el:E)|dnew|dnewT|zap (e:E)|dsp (ks:List U) (es:List E)|thw (i:Nat) (e:E)|chain (o o':CmpOp) (a b c:E)
inductive Src where
 | seq (e:E)|rng (a:E)|rng2 (a b:E)|rngA (es:List E)|zip (a b:E)|revd (e:E)|enm (e:E)|rngR (a:E)|key (e:E)
inductive Tg where
 | name (i:Nat)|pair (i j:Nat)
end
inductive S where
 | pass|expr (e:E)|set (i:Nat) (e:E)|fld (o:E) (f:Nat) (e:E)|ret (e:E)|retN
 | ite (t:E) (a b:List S)|loop (t:Tg) (s:Src) (body:List S)|loopC (i:Nat) (e:E) (body:List S)|loopK (i:Nat) (e:E) (body:List S)|loopD (i:Nat) (e:E) (body:List S)|while (t:E) (body:List S)
 | brk|cont
 | aug (i:Nat) (o:Operator) (e:E)|bad
 | put (o i e:E)|unp (i j:Nat) (e:E)|par (i j:Nat) (a b:E)|unpN (is:List Nat) (e:E)
 | rse (c:Nat) (es:List E)|tryS (j:Option Nat) (f:Nat) (es:List E) (c:Nat) (body:List S)|cal (n:S) (f:Nat) (es:List E)
inductive Fl where
 | next|brk|cont|ret (u:U)
structure Fn where
 name:Str
 qual:Str
 st:Stmt
 ps:List Str
 N:List Str
 np:Nat
 nN:Nat
 lc:Bool
 body:List S
structure Cl where
 name:Str
 init:Option Nat
 meths:List (Nat×Nat)
 subs:List Nat
inductive Co where
 | tup (xs:List U)|lst (xs:List U)|tab (kvs:List (U×U))
 deriving Inhabited
structure Df where
 ps:List Str
 np:Nat
 last:Str
 ds:List U
structure Tbl where
 fns:List Fn
 cls:List Cl
 cons:List Co
 fns':List Str
 mns:List Str
 scr:List U
 isi:List ((Ty×Ty)×Bool)
 dfl:List (Nat×Df)
 dts:List Str:=[]
 zps:List Str:=[]
 ld:Bool:=false
 ers:List Nat:=[]
 esb:List (Nat×Nat):=[]
 pss:List Nat:=[]
 efl:List (Nat×Nat):=[]
 dks:List Str:=[]
 xf:Nat->List U->Hs->Option (Nat×Hs):=fun _ _ _=>none
noncomputable def bd{α β:Type}(o:Option (α×Hs))(f:α->Hs->Option β):Option β:=match o with
 | none=>none
 | some (a,h)=>f a h
theorem Qc{α β:Type}{o:Option (α×Hs)}{f:α->Hs->Option β}{r:β}(h:bd o f=some r):∃a h',o=some (a,h')/\f a h'=some r:=by
 unfold bd at h
 cases o with
 | none=>cases h
 | some p=>exact⟨p.1,p.2,rfl,h⟩
noncomputable def gz:Nat->Nat->Nat
 | 0,n=>n
 | m+1,n=>Nat.gcd (m+1) n
noncomputable def QE(i:Int):Bool:=decide (-(2 ^ 64) < i)&&decide (i<2 ^ 64)
noncomputable def QdO(i:Int):Bool:=decide (i.natAbs<2 ^ 4096)
noncomputable def Qlp:U->U->Option U
 | .int i m,.int j n=>some (.int (i-j) (gz m n))
 | _,_=>none
noncomputable def Qjz:U->U->Option U
 | .int i 0,.int j 0=>if QE i||QE j||(QdO i&&QdO j)then some (.int (i*j) 0)else none
 | .int i (m+1),.int j 0=>if QE j then some (.int (i*j) ((m+1)*j.natAbs))else none
 | _,_=>none
noncomputable def Qmt:U->U->Option U
 | .int i 0,.int j 0=>if 0<j&&decide (j<1606938044258990275541962092341162602522202993782792835301376)then some (.int (i / j) 0)else none
 | .int i (m+1),.int j 0=>if 0<j&&decide (j<1606938044258990275541962092341162602522202993782792835301376)&&decide ((m+1) % j.toNat=0)then some (.int (i / j) ((m+1) / j.toNat))else none
 | _,_=>none
noncomputable def QjB:U->U->Option U
 | .int i 0,.int j 0=>if 0<j then some (.int (i % j) 0)else none
 | .int i (m+1),.int j 0=>if 0<j&&decide ((m+1) % j.toNat=0)then some (.int (i % j) 0)else none
 | _,_=>none
noncomputable def QmC(a b:Nat)(x y:O)(hs:Hs):Option (U×Hs):=match x,y with
 | .lst xs,.lst ys=>if xs.length+ys.length<=1000000 then some (.ref hs.length,hs++[.lst (xs++ys)])else none
 | _,_=>none
noncomputable def QhP(u w:U)(hs:Hs):Option (U×Hs):=match u,w with
 | .int i m,.int j n=>some (.int (i+j) (gz m n),hs)
 | .ref a,.ref b=>match hs[a]?,hs[b]? with
  | some x,some y=>QmC a b x y hs
  | _,_=>none
 | _,_=>none
noncomputable def opU(o:Operator)(u w:U)(hs:Hs):Option (U×Hs):=match o with
 | .Add=>QhP u w hs
 | .Sub=>(Qlp u w).map fun r=>(r,hs)
 | .Mult=>(Qjz u w).map fun r=>(r,hs)
 | .FloorDiv=>(Qmt u w).map fun r=>(r,hs)
 | .Mod=>(QjB u w).map fun r=>(r,hs)
 | _=>none
noncomputable def eqS:U->U->Option Bool
 | .int i 0,.int j 0=>some (decide (i=j))
 | .str x,.str y=>some (decide (x=y))
 | .bl a,.bl b=>some (decide (a=b))
 | .non,.non=>some true
 | .non,.int _ _=>some false|.int _ _,.non=>some false|.non,.bl _=>some false|.bl _,.non=>some false|.non,.str _=>some false|.str _,.non=>some false
 | .int _ _,.str _=>some false|.str _,.int _ _=>some false|.bl _,.str _=>some false|.str _,.bl _=>some false
 | _,_=>none
noncomputable def ZR(T:Tbl)(u:U)(hs:Hs):Option (List U):=match u with
 | .ref n=>match hs[n]? with
  | some (.lst xs)=>some xs
  | some (.tup xs)=>some xs
  | _=>none
 | .con k=>match T.cons[k]? with
  | some (.lst xs)=>some xs
  | some (.tup xs)=>some xs
  | _=>none
 | .scr=>some T.scr
 | _=>none
noncomputable def QU(T:Tbl)(u:U)(hs:Hs):Option (List U):=match u with
 | .ref n=>match hs[n]? with
  | some (.lst xs)=>some xs
  | _=>none
 | .con k=>match T.cons[k]? with
  | some (.lst xs)=>some xs
  | _=>none
 | .scr=>some T.scr
 | _=>none
noncomputable def Qas(T:Tbl)(u:U)(hs:Hs):Option (List U):=match u with
 | .ref n=>match hs[n]? with
  | some (.tup xs)=>some xs
  | _=>none
 | .con k=>match T.cons[k]? with
  | some (.tup xs)=>some xs
  | _=>none
 | _=>none
noncomputable def QaR(T:Tbl)(u w:U)(hs:Hs):Bool:=match QU T u hs,QU T w hs with
 | some xs,some ys=>decide (xs.length≠ys.length)
 | _,_=>false
noncomputable def QbS(T:Tbl)(u w:U)(hs:Hs):Bool:=match QU T u hs,QU T w hs with
 | some xs,some ys=>decide (xs=ys)&&xs.all fun x=>match x with|.ref _=>true|_=>false
 | _,_=>false
noncomputable def eqA(T:Tbl)(u w:U)(hs:Hs):Option Bool:=match eqS u w with
 | some b=>some b
 | none=>if QaR T u w hs=true then some false else if QbS T u w hs=true then some true else none
noncomputable def Qb4(kvs:List (U×U))(k:U):Option U:=match kvs with
 | []=>none
 | (x,v)::r=>if x=k then some v else Qb4 r k
noncomputable def JF:U->Bool
 | .int _ 0=>true
 | .str _=>true
 | _=>false
noncomputable def QS{κ:Type}[DecidableEq κ](kvs:List (κ×U))(k:κ):Option U:=(kvs.find? fun p=>decide (p.1=k)).map (·.2)
noncomputable def Qd1{κ:Type}[DecidableEq κ](kvs:List (κ×U))(k:κ)(v:U):List (κ×U):=if(kvs.any fun p=>decide (p.1=k))=true then kvs.map (fun p=>if p.1=k then(p.1,v)else p)else kvs++[(k,v)]
noncomputable def Jy(o:O)(w:U)(hs:Hs):Option (Option U):=match o with
 | .dic kvs=>if JF w=true then some (QS kvs w)else none
 | .fzd kvs=>if JF w=true then some (QS kvs w)else none
 | _=>none
noncomputable def QeW(n:Nat)(o:O)(k u:U)(hs:Hs):Option Hs:=match o with
 | .dic kvs=>if JF k=true/\kvs.length<1000000 then some (hs.set n (.dic (Qd1 kvs k u)))else none
 | _=>none
noncomputable def Qde(kvs more:List (U×U)):List (U×U):=more.foldl (fun acc p=>Qd1 acc p.1 p.2) kvs
noncomputable def inD(T:Tbl)(w u:U)(hs:Hs):Option Bool:=match w with
 | .ref n=>(match hs[n]? with
  | some o=>(Jy o u hs).map Option.isSome
  | none=>none)
 | _=>none
noncomputable def ZP(T:Tbl)(o:CmpOp)(u w:U)(hs:Hs):Option Bool:=match o with
 | .Eq=>eqA T u w hs
 | .NotEq=>(eqA T u w hs).map (!·)
 | .Lt=>match u,w with|.int i 0,.int j 0=>some (decide (i<j))|_,_=>none
 | .LtE=>match u,w with|.int i 0,.int j 0=>some (decide (i<=j))|_,_=>none
 | .Gt=>match u,w with|.int i 0,.int j 0=>some (decide (j<i))|_,_=>none
 | .GtE=>match u,w with|.int i 0,.int j 0=>some (decide (j<=i))|_,_=>none
 | .In=>inD T w u hs
 | .NotIn=>none
 | .Is=>match w with|.non=>some (decide (u=.non))|_=>none
 | .IsNot=>match w with|.non=>some (!decide (u=.non))|_=>none
noncomputable def Yl(T:Tbl)(u:U)(hs:Hs):Option Bool:=match u with
 | .non=>some false
 | .bl b=>some b
 | .int i 0=>some (decide (i≠0))
 | .str x=>if x.length<=1000000 then some (!x.isEmpty)else none
 | u=>(ZR T u hs).map fun xs=>!xs.isEmpty
noncomputable def ixU(n:Nat)(i:Int):Option Nat:=if 0<=i then(if i<n then some i.toNat else none)else if -(n:Int)<=i then some (i+n).toNat else none
noncomputable def atU{α:Type}(xs:List α)(i:Int):Option α:=match ixU xs.length i with
 | some j=>xs[j]?
 | none=>none
noncomputable def Q9(T:Tbl)(u w:U)(hs:Hs):Option U:=match u,w with
 | .str x,.int i 0=>if x.length<=1000000 then(atU x i).map fun c=>.str [c]else none
 | .ref n,w=>match hs[n]?,w with
  | some (.lst xs),.int i 0=>atU xs i
  | some (.tup xs),.int i 0=>atU xs i
  | some o,w=>(Jy o w hs).bind id
  | none,_=>none
 | u,.int i 0=>match ZR T u hs with
  | some xs=>atU xs i
  | none=>none
 | _,_=>none
noncomputable def Qcc(n d:Nat):Option Int->Nat
 | none=>d
 | some v=>if v<0 then(v+(n:Int)).toNat else min v.toNat n
noncomputable def Qah{α:Type}(xs:List α)(lo hi:Option Int):List α:=(xs.drop (Qcc xs.length 0 lo)).take (Qcc xs.length xs.length hi-Qcc xs.length 0 lo)
noncomputable def slU(T:Tbl)(u:U)(lo hi:Option Int)(hs:Hs):Option (U×Hs):=match u with
 | .scr=>some (.ref hs.length,hs++[.lst (Qah T.scr lo hi)])
 | .ref n=>match hs[n]? with
  | some (.lst xs)=>some (.ref hs.length,hs++[.lst (Qah xs lo hi)])
  | _=>none
 | _=>none
noncomputable def QoS(n:Nat):List Nat:=(Nat.toDigits 10 n).map Char.toNat
noncomputable def QoT(x:List Nat):Bool:=x.all (fun c=>decide (48<=c)&&decide (c<=57))&&!x.isEmpty&&decide (x.length<=640)
noncomputable def Qmv(x:List Nat):Nat:=x.foldl (fun acc c=>acc*10+(c-48)) 0
noncomputable def YM:List U->Option (List Int)
 | []=>some []
 | .int i 0::r=>(YM r).map (i::·)
 | _=>none
noncomputable def itU(hs:Hs)(u:U):Option (List Int):=match u with
 | .ref m=>(match hs[m]? with
  | some (.tup (k::ks))=>YM (k::ks)
  | _=>none)
 | _=>none
noncomputable def Qhi(hs:Hs):List U->Option (List (List Int))
 | []=>some []
 | u::us=>(itU hs u).bind fun k=>(Qhi hs us).map fun ks=>k::ks
noncomputable def QbP(ks:List (List Int))(xs:List U):List U:=(L2.permK ks xs.length).map fun i=>xs.getD i .non
noncomputable def QhW(hs:Hs):List U->Option (List (U×U))
 | []=>some []
 | u::r=>match u with
  | .ref p=>(match hs[p]? with
   | some (.tup [k,v])=>if JF k=true then(QhW hs r).map fun l=>(k,v)::l else none
   | _=>none)
  | _=>none
noncomputable def Qb2(u:U)(hs:Hs):Option (List U):=match u with
 | .ref p=>(match hs[p]? with
  | some (.lst xs)=>some xs
  | _=>none)
 | _=>none
noncomputable def biL(T:Tbl)(b:Bi)(us:List U)(hs:Hs):Option (U×Hs):=match b,us with
 | .sum,[u]=>(QU T u hs).bind fun xs=>(YM xs).map fun ns=>(.int ns.sum 0,hs)
 | .sorted,[u]=>(QU T u hs).bind fun xs=>if xs.length<64 then(if xs.length<2 then some []else Qhi hs xs).map fun ks=>(.ref hs.length,hs++[.lst (QbP ks xs)])else none
 | .dictS,[u]=>(Qb2 u hs).bind fun xs=>(QhW hs xs).map fun kvs=>(.ref hs.length,hs++[.dic (Qde [] kvs)])
 | _,_=>none
noncomputable def biU(T:Tbl)(b:Bi)(us:List U)(hs:Hs):Option (U×Hs):=match b,us with
 | .len,[.str x]=>if x.length<=1000000 then some (.int x.length 0,hs)else none
 | .len,[u]=>match ZR T u hs with
  | some xs=>some (.int xs.length 0,hs)
  | none=>none
 | .int,[.int i m]=>some (.int i m,hs)
 | .int,[.bl b]=>some (.int (if b then 1 else 0) 0,hs)
 | .int,[.str x]=>if QoT x then some (.int (Qmv x:Nat) 0,hs)else none
 | .str,[.int i 0]=>if 0<=i&&decide (i.natAbs.log2<1920)then some (.str (QoS i.toNat),hs)else none
 | .tuple,[.ref n]=>match hs[n]? with
  | some (.lst xs)=>some (.ref hs.length,hs++[.tup xs])
  | some (.tup _)=>some (.ref n,hs)
  | _=>none
 | .list,[u]=>match ZR T u hs with
  | some xs=>some (.ref hs.length,hs++[.lst xs])
  | none=>none
 | .len,_=>none
 | .int,_=>none
 | .str,_=>none
 | .tuple,_=>none
 | .list,_=>none
 | b,us=>biL T b us hs
noncomputable def Yv(u:U)(hs:Hs):Option Ty:=match u with
 | .non=>some .non
 | .bl _=>some .bool
 | .int _ _=>some .int
 | .str _=>some .str
 | .ref n=>match hs[n]? with
  | some (.lst _)=>some .list
  | some (.tup _)=>some .tuple
  | some (.ins c _)=>some (.cls c)
  | _=>none
 | _=>none
noncomputable def Ql9(k t:Ty):Option Bool:=match k,t with
 | .cls _,_=>none
 | _,.cls _=>none
 | .bool,.int=>some true
 | k,t=>some (decide (k=t))
noncomputable def YG(T:Tbl)(t:Ty)(u:U)(hs:Hs):Option Bool:=match Yv u hs with
 | none=>none
 | some k=>match Ql9 k t with
  | some b=>some b
  | none=>T.isi.lookup (k,t)
noncomputable def bmL(b:Bm)(n:Nat)(xs:List U)(us:List U)(hs:Hs):Option (U×Hs):=match b,us with
 | .append,[u]=>if xs.length<1000000 then some (.non,hs.set n (.lst (xs++[u])))else none
 | .pop,[]=>match xs[xs.length-1]? with
  | some y=>some (y,hs.set n (.lst xs.dropLast))
  | none=>none
 | _,_=>none
noncomputable def bmS(T:Tbl)(b:Bm)(x:List Nat)(us:List U)(hs:Hs):Option (U×Hs):=match b,us with
 | _,_=>none
noncomputable def bmD(b:Bm)(n:Nat)(kvs:List (U×U))(us:List U)(hs:Hs):Option (U×Hs):=match b with
 | .setdef=>(match us with
  | [k,v]=>if JF k=true/\kvs.length<1000000 then(match Qb4 kvs k with
   | some x=>some (x,hs)
   | none=>some (v,hs.set n (.dic (kvs++[(k,v)]))))else none
  | _=>none)
 | .get=>(match us with
  | [k,v]=>if JF k=true then some ((QS kvs k).getD v,hs)else none
  | _=>none)
 | .update=>(match us with
  | [.ref m]=>(match hs[m]? with
   | some (.dic more)=>if n≠m/\kvs.length+more.length<=1000000 then some (.non,hs.set n (.dic (Qde kvs more)))else none
   | _=>none)
  | _=>none)
 | _=>none
noncomputable def bmU(T:Tbl)(b:Bm)(o:U)(us:List U)(hs:Hs):Option (U×Hs):=match o with
 | .ref n=>match hs[n]? with
  | some (.lst xs)=>bmL b n xs us hs
  | some (.dic kvs)=>bmD b n kvs us hs
  | _=>none
 | .str x=>bmS T b x us hs
 | _=>none
noncomputable def bL:Bm->Bool
 | .setdef=>false|.get=>false|.update=>false|.join=>false|.split=>false|.find=>false|.index=>false|_=>true
noncomputable def bS:Bm->Bool
 | .join=>true|.split=>true|.find=>true|.index=>true|_=>false
noncomputable def bD:Bm->Bool
 | .setdef=>true|.get=>true|.update=>true|_=>false
noncomputable def QbV(b:Bm)(u:U)(hs:Hs):Bool:=match u with
 | .ref n=>match hs[n]? with
  | some (.lst _)=>bL b
  | some (.dic _)=>bD b
  | _=>false
 | .str _=>bS b
 | _=>false
noncomputable def Zm(f:Nat)(u:U):List (Nat×U)->List (Nat×U)
 | []=>[(f,u)]
 | (g,x)::r=>if g=f then(g,u)::r else(g,x)::Zm f u r
inductive Wk where
 | seqL (u:U)|seqT (u:U)|rng (lo:Int) (n:Nat)|zipB (b c:Bool) (x y:U)|revL (u:U) (n:Nat)|rngC (lo c:Int) (n:Nat)|enmL (u:U)|strW (x:List Nat)|keyD (n:Nat)
inductive Im where
 | one (u:U)|two (u w:U)
noncomputable def sqU(T:Tbl)(b:Bool)(u:U)(hs:Hs):Option (List U):=if b then QU T u hs else Qas T u hs
noncomputable def two(xs ys:List U)(i:Nat):Option Im:=match xs[i]?,ys[i]? with
 | some x,some y=>some (.two x y)
 | _,_=>none
noncomputable def itm(T:Tbl)(k:Wk)(i:Nat)(hs:Hs):Option (Option Im):=match k with
 | .seqL u=>(QU T u hs).map fun xs=>(xs[i]?).map .one
 | .seqT u=>(Qas T u hs).map fun xs=>(xs[i]?).map .one
 | .rng lo n=>some (if i<n then some (.one (.int (lo+i) 0))else none)
 | .zipB b c x y=>match sqU T b x hs,sqU T c y hs with
  | some xs,some ys=>some (two xs ys i)
  | _,_=>none
 | .revL _ _=>none
 | .rngC _ _ _=>none
 | .enmL _=>none
 | .strW _=>none
 | .keyD n=>match hs[n]? with
  | some (.fzd kvs)=>some ((kvs[i]?).map fun p=>.one p.1)
  | _=>none
noncomputable def Qoq(a b c:Int):Nat:=if a<b then((b-a-1) / c+1).toNat else 0
noncomputable def Zg(T:Tbl)(k:Wk)(hs:Hs):Nat:=match k with
 | .seqL u=>((QU T u hs).getD []).length+1
 | .seqT u=>((Qas T u hs).getD []).length+1
 | .rng _ n=>n+1
 | .zipB b _ x _=>((sqU T b x hs).getD []).length+1
 | .revL _ _=>0
 | .rngC _ _ _=>0
 | .enmL _=>0
 | .strW _=>0
 | .keyD n=>(match hs[n]? with|some (.fzd kvs)=>kvs.length|_=>0)+1
noncomputable def tgt(t:Tg)(x:Im)(Z:Rho)(hs:Hs):Option Rho:=match t,x with
 | .name i,.one u=>some (Z.set i (some u))
 | .pair i j,.two u w=>some ((Z.set i (some u)).set j (some w))
 | .pair i j,.one (.ref n)=>match hs[n]? with
  | some (.tup [u,w])=>some ((Z.set i (some u)).set j (some w))
  | _=>none
 | _,_=>none
noncomputable abbrev Cf:=Nat->List U->Hs->Option (U×Hs)
noncomputable abbrev Ev:=E->Rho->Hs->Option (U×Hs)
noncomputable def evs(f:Ev)(Z:Rho):List E->Hs->Option (List U×Hs)
 | [],hs=>some ([],hs)
 | e::es,hs=>bd (f e Z hs) fun u h1=>bd (evs f Z es h1) fun us h2=>some (u::us,h2)
noncomputable def evO(f:Ev)(Z:Rho):Option E->Hs->Option (Option Int×Hs)
 | none,hs=>some (none,hs)
 | some e,hs=>bd (f e Z hs) fun u h1=>match u with|.int i 0=>some (some i,h1)|_=>none
noncomputable def wkS(T:Tbl)(u:U)(hs:Hs):Option Wk:=match QU T u hs with
 | some _=>some (.seqL u)
 | none=>match Qas T u hs with
  | some _=>some (.seqT u)
  | none=>none
noncomputable def wkZ(T:Tbl)(u w:U)(hs:Hs):Option Wk :=
 let b:=(QU T u hs).isSome;let c:=(QU T w hs).isSome
 if(sqU T b u hs).isSome&&(sqU T c w hs).isSome then some (.zipB b c u w)else none
noncomputable def Qcb(u:U)(hs h1:Hs):Option (Nat×List (U×U)):=match u with
 | .ref n=>(match hs[n]? with
  | some (.dic _)=>(match h1[n]? with
   | some (.dic kvs)=>some (n,kvs)
   | _=>none)
  | _=>none)
 | _=>none
noncomputable def Zi(T:Tbl)(f:Ev)(Z:Rho):Src->Hs->Option (Wk×Hs)
 | .seq e,hs=>bd (f e Z hs) fun u h1=>(wkS T u h1).map fun k=>(k,h1)
 | .rng a,hs=>bd (f a Z hs) fun u h1=>match u with|.int i 0=>if QE (i*4)then some (.rng 0 i.toNat,h1)else none|_=>none
 | .rng2 a b,hs=>bd (f a Z hs) fun u h1=>bd (f b Z h1) fun w h2=>match u,w with|.int i 0,.int j 0=>if QE (i*4)&&QE (j*4)then some (.rng i (j-i).toNat,h2)else none|_,_=>none
 | .rngA _,_=>none
 | .zip a b,hs=>bd (f a Z hs) fun u h1=>bd (f b Z h1) fun w h2=>(wkZ T u w h2).map fun k=>(k,h2)
 | .revd _,_=>none
 | .enm _,_=>none
 | .rngR _,_=>none
 | .key e,hs=>bd (f e Z hs) fun u h1=>(Qcb u hs h1).map fun p=>(.keyD p.1,h1.set p.1 (.fzd p.2))
noncomputable def QaL(T:Tbl)(f n:Nat):List U:=match T.dfl.lookup f with
 | none=>[]
 | some D=>D.ds.drop (D.ds.length-(D.np-n))
noncomputable def Q5(T:Tbl)(cf:Cf)(c:Nat)(us:List U)(hs:Hs):Option (U×Hs):=match T.cls[c]? with
 | none=>none
 | some C=>match C.init with
  | none=>if us=[]then some (.ref hs.length,hs++[.ins c []])else none
  | some f=>match cf f (.ref hs.length::(us++QaL T f (us.length+1))) (hs++[.ins c []])with
   | some (.non,h2)=>some (.ref hs.length,h2)
   | _=>none
noncomputable def Z5(T:Tbl)(m:Nat)(o:U)(hs:Hs):Option Nat:=match o with
 | .ref n=>match hs[n]? with
  | some (.ins c _)=>match T.cls[c]? with
   | some C=>C.meths.lookup m
   | none=>none
  | _=>none
 | _=>none
noncomputable def tgN(b:Bool)(n:Nat):Tg:=if b then .pair n (n+1)else .name n
noncomputable def Qey(b:Bool):Rho:=if b then [none,none]else [none]
noncomputable def Zn(T:Tbl)(f:Ev)(ft:Rho->Hs->Option (Bool×Hs))(w:Wk)(b:Bool)(el:E)(Z:Rho):Nat->Nat->List U->Hs->Option (List U×Hs)
 | 0,_,_,_=>none
 | k+1,i,acc,hs=>match itm T w i hs with
  | none=>none
  | some none=>some (acc,hs)
  | some (some x)=>match tgt (tgN b Z.length) x (Z++Qey b) hs with
   | none=>none
   | some ρ'=>if acc.length<1000000 then bd (ft ρ' hs) fun c h1=>if c=true then bd (f el ρ' h1) fun u h2=>Zn T f ft w b el Z k (i+1) (acc++[u]) h2 else Zn T f ft w b el Z k (i+1) acc h1 else none
noncomputable def Qaf(ft:E->Rho->Hs->Option (Bool×Hs))(t:Option E)(Z:Rho)(hs:Hs):Option (Bool×Hs):=match t with
 | none=>some (true,hs)
 | some e=>ft e Z hs
noncomputable def QiN(a b c:Int):Option (List U):=if QE (a*4)&&QE (b*4)&&(decide (c=1)||decide (c=-1))then
  (let n:=if c=1 then(b-a).toNat else(a-b).toNat
    if n<=1000000 then some ((List.range n).map fun i:Nat=>.int (a+(i:Int)*c) 0)else none)else none
noncomputable def Qfp:List U->Option (List U)
 | [.int b 0]=>QiN 0 b 1
 | [.int a 0,.int b 0]=>QiN a b 1
 | [.int a 0,.int b 0,.int c 0]=>QiN a b c
 | _=>none
mutual
noncomputable def ev(T:Tbl)(cf:Cf):Nat->Ev
 | 0,_,_,_=>none
 | d+1,e,Z,hs=>match e with
  | .c u=>some (u,hs)
  | .con k=>some (.con k,hs)
  | .var i=>match Z[i]? with
   | some (some u)=>some (u,hs)
   | _=>none
  | .op o a b=>bd (ev T cf d a Z hs) fun u h1=>bd (ev T cf d b Z h1) fun w h2=>opU o u w h2
  | .neg a=>bd (ev T cf d a Z hs) fun u h1=>match u with|.int i m=>some (.int (-i) m,h1)|_=>none
  | .cmp o a b=>bd (ev T cf d a Z hs) fun u h1=>bd (ev T cf d b Z h1) fun w h2=>(ZP T o u w h2).map fun c=>(.bl c,h2)
  | .and a b=>bd (ev T cf d a Z hs) fun u h1=>match u with|.bl true=>ev T cf d b Z h1|.bl false=>some (.bl false,h1)|_=>none
  | .or a b=>bd (ev T cf d a Z hs) fun u h1=>match u with|.bl true=>some (.bl true,h1)|.bl false=>ev T cf d b Z h1|_=>none
  | .not a=>bd (ev T cf d a Z hs) fun u h1=>(Yl T u h1).map fun c=>(.bl (!c),h1)
  | .ife t a b=>bd (evT T cf d t Z hs) fun c h1=>if c=true then ev T cf d a Z h1 else ev T cf d b Z h1
  | .tup es=>bd (evs (ev T cf d) Z es hs) fun us h1=>some (.ref h1.length,h1++[.tup us])
  | .lst es=>bd (evs (ev T cf d) Z es hs) fun us h1=>some (.ref h1.length,h1++[.lst us])
  | .dis _ _=>none
  | .ix a b=>bd (ev T cf d a Z hs) fun u h1=>bd (ev T cf d b Z h1) fun w h2=>(Q9 T u w h2).map fun x=>(x,h2)
  | .tab _ _=>none
  | .sl a lo hi=>bd (ev T cf d a Z hs) fun u h1=>bd (evO (ev T cf d) Z lo h1) fun l h2=>bd (evO (ev T cf d) Z hi h2) fun r h3=>slU T u l r h3
  | .rev a=>bd (ev T cf d a Z hs) fun u h1=>match QU T u h1 with|some xs=>some (.ref h1.length,h1++[.lst xs.reverse])|none=>none
  | .tupR es=>bd (evs (ev T cf d) Z es hs) fun us h1=>match Qfp us with|some xs=>some (.ref h1.length,h1++[.tup xs])|none=>none
  | .fld a f=>bd (ev T cf d a Z hs) fun u h1=>match u with
   | .ref n=>match h1[n]? with
    | some (.ins _ fs)=>(fs.lookup f).map fun x=>(x,h1)
    | _=>none
   | _=>none
  | .call f es=>bd (evs (ev T cf d) Z es hs) fun us h1=>cf f us h1
  | .meth m o es=>bd (ev T cf d o Z hs) fun u h1=>match Z5 T m u h1 with
   | some f=>bd (evs (ev T cf d) Z es h1) fun us h2=>cf f (u::(us++QaL T f (us.length+1))) h2
   | none=>none
  | .make c es=>bd (evs (ev T cf d) Z es hs) fun us h1=>Q5 T cf c us h1
  | .bi b es=>bd (evs (ev T cf d) Z es hs) fun us h1=>biU T b us h1
  | .isi a t=>bd (ev T cf d a Z hs) fun u h1=>(YG T t u h1).map fun b=>(.bl b,h1)
  | .bm b o es=>bd (ev T cf d o Z hs) fun u h1=>if QbV b u h1=true then bd (evs (ev T cf d) Z es h1) fun us h2=>bmU T b u us h2 else none
  | .comp s b t el=>bd (Zi T (ev T cf d) Z s hs) fun w h1=>bd (Zn T (ev T cf d) (Qaf (evT T cf d) t) w b el Z (Zg T w h1) 0 [] h1) fun us h2=>some (.ref h2.length,h2++[.lst us])
  | .dnew=>some (.ref hs.length,hs++[.dic []])
  | .dnewT=>none
  | .zap _=>none
  | .thw i e=>match Z[i]? with
   | some (some (.ref n))=>(match hs[n]? with
    | some (.dic _)=>(match ev T cf d e Z hs with
     | some (u,h2)=>(match h2[n]? with
      | some (.fzd kvs)=>some (u,h2.set n (.dic kvs))
      | _=>none)
     | none=>none)
    | _=>none)
   | _=>none
  | .dsp _ _=>none
  | .chain _ _ _ _ _=>none
noncomputable def evT(T:Tbl)(cf:Cf):Nat->E->Rho->Hs->Option (Bool×Hs)
 | 0,_,_,_=>none
 | d+1,e,Z,hs=>match e with
  | .not a=>bd (evT T cf d a Z hs) fun c h1=>some (!c,h1)
  | .and a b=>bd (evT T cf d a Z hs) fun c h1=>if c=true then evT T cf d b Z h1 else some (false,h1)
  | .or a b=>bd (evT T cf d a Z hs) fun c h1=>if c=true then some (true,h1)else evT T cf d b Z h1
  | e=>bd (ev T cf d e Z hs) fun u h1=>(Yl T u h1).map fun b=>(b,h1)
end
noncomputable abbrev Ex:=Rho->Hs->Option (Fl×Rho×Hs)
noncomputable def Qds(T:Tbl)(w:Wk)(t:Tg)(body:Ex):Nat->Nat->Ex
 | 0,_,_,_=>none
 | k+1,i,Z,hs=>match itm T w i hs with
  | none=>none
  | some none=>some (.next,Z,hs)
  | some (some x)=>match tgt t x Z hs with
   | none=>none
   | some ρ'=>match body ρ' hs with
    | some (.next,ρ2,h2)=>Qds T w t body k (i+1) ρ2 h2
    | some (.cont,ρ2,h2)=>Qds T w t body k (i+1) ρ2 h2
    | some (.brk,ρ2,h2)=>some (.next,ρ2,h2)
    | r=>r
noncomputable def QeT(i:Nat)(body:Ex):List U->Ex
 | [],Z,hs=>some (.next,Z,hs)
 | k::ks,Z,hs=>match body (Z.set i (some k)) hs with
  | some (.next,ρ2,h2)=>QeT i body ks ρ2 h2
  | some (.cont,ρ2,h2)=>QeT i body ks ρ2 h2
  | some (.brk,ρ2,h2)=>some (.next,ρ2,h2)
  | r=>r
noncomputable def Qay(n:Nat)(r:Option (Fl×Rho×Hs)):Option (Fl×Rho×Hs):=match r with
 | some (fl,Z,hs)=>(match hs[n]? with
  | some (.fzd kvs)=>some (fl,Z,hs.set n (.dic kvs))
  | _=>none)
 | none=>none
noncomputable def Zl(test:Rho->Hs->Option (Bool×Hs))(body:Ex):Nat->Ex
 | 0,_,_=>none
 | k+1,Z,hs=>match test Z hs with
  | none=>none
  | some (false,h1)=>some (.next,Z,h1)
  | some (true,h1)=>match body Z h1 with
   | some (.next,ρ2,h2)=>Zl test body k ρ2 h2
   | some (.cont,ρ2,h2)=>Zl test body k ρ2 h2
   | some (.brk,ρ2,h2)=>some (.next,ρ2,h2)
   | r=>r
noncomputable def QkK:List Nat->List U->Rho->Option Rho
 | [],[],Z=>some Z
 | i::is,u::us,Z=>QkK is us (Z.set i (some u))
 | _,_,_=>none
noncomputable def QkG(u:U)(hs:Hs):Option (List U):=match u with
 | .ref n=>(match hs[n]? with
  | some (.tup us)=>some us
  | _=>none)
 | _=>none
noncomputable def Qh2(o:Operator)(u w:U):Option U:=match o with
 | .Add=>(match u,w with|.int i 0,.int j 0=>some (.int (i+j) 0)|_,_=>none)
 | .Sub=>(match u,w with|.int i 0,.int j 0=>some (.int (i-j) 0)|_,_=>none)
 | _=>none
noncomputable def QkM(x k u:U)(hs:Hs):Option Hs:=match x with
 | .ref n=>(match hs[n]? with
  | some o=>QeW n o k u hs
  | none=>none)
 | _=>none
mutual
noncomputable def ex(T:Tbl)(cf:Cf):Nat->S->Ex
 | 0,_,_,_=>none
 | d+1,s,Z,hs=>match s with
  | .pass=>some (.next,Z,hs)
  | .bad=>none
  | .aug i o e=>match Z[i]? with
   | some (some u)=>bd (ev T cf d e Z hs) fun w h1=>(Qh2 o u w).map fun r=>(.next,Z.set i (some r),h1)
   | _=>none
  | .brk=>some (.brk,Z,hs)
  | .cont=>some (.cont,Z,hs)
  | .expr e=>bd (ev T cf d e Z hs) fun _ h1=>some (.next,Z,h1)
  | .set i e=>bd (ev T cf d e Z hs) fun u h1=>some (.next,Z.set i (some u),h1)
  | .fld o f e=>bd (ev T cf d e Z hs) fun u h1=>bd (ev T cf d o Z h1) fun x h2=>match x with
   | .ref n=>match h2[n]? with
    | some (.ins c fs)=>if fs.length<500 then some (.next,Z,h2.set n (.ins c (Zm f u fs)))else none
    | _=>none
   | _=>none
  | .ret e=>bd (ev T cf d e Z hs) fun u h1=>some (.ret u,Z,h1)
  | .retN=>some (.ret .non,Z,hs)
  | .ite t a b=>match evT T cf d t Z hs with
   | some (true,h1)=>exs T cf d a Z h1
   | some (false,h1)=>exs T cf d b Z h1
   | none=>none
  | .loop t s body=>bd (Zi T (ev T cf d) Z s hs) fun w h1=>Qds T w t (exs T cf d body) (Zg T w h1) 0 Z h1
  | .loopC _ _ _=>none
  | .loopD _ _ _=>none
  | .loopK i e body=>bd (ev T cf d e Z hs) fun u h1=>match Qcb u hs h1 with
   | some (n,kvs)=>Qay n (QeT i (exs T cf d body) (kvs.map (·.1)) Z (h1.set n (.fzd kvs)))
   | none=>none
  | .while t body=>Zl (evT T cf d t) (exs T cf d body) 1000000 Z hs
  | .put o i e=>bd (ev T cf d e Z hs) fun u h1=>bd (ev T cf d o Z h1) fun x h2=>bd (ev T cf d i Z h2) fun k h3=>(QkM x k u h3).map fun h4=>(.next,Z,h4)
  | .unp i j e=>bd (ev T cf d e Z hs) fun u h1=>(tgt (.pair i j) (.one u) Z h1).map fun ρ'=>(.next,ρ',h1)
  | .par _ _ _ _=>none
  | .unpN is e=>bd (ev T cf d e Z hs) fun u h1=>(QkG u h1).bind fun us=>(QkK is us Z).map fun ρ'=>(.next,ρ',h1)
  | .rse _ _=>none
  | .tryS _ _ _ _ _=>none
  | .cal _ _ _=>none
noncomputable def exs(T:Tbl)(cf:Cf):Nat->List S->Ex
 | 0,_,_,_=>none
 | d+1,ss,Z,hs=>match ss with
  | []=>some (.next,Z,hs)
  | s::r=>match ex T cf d s Z hs with
   | some (.next,ρ1,h1)=>exs T cf d r ρ1 h1
   | x=>x
end
noncomputable def dd:Nat:=100
noncomputable def fin:Option (Fl×Rho×Hs)->Option (U×Hs)
 | some (.ret u,_,h)=>some (u,h)
 | some (.next,_,h)=>some (.non,h)
 | _=>none
noncomputable def QkL(us:List U)(n:Nat):Rho:=us.map some++List.replicate (n-us.length) none
noncomputable def Qa(T:Tbl):Nat->Cf
 | 0,_,_,_=>none
 | n+1,f,us,hs=>match T.fns[f]? with
  | none=>none
  | some F=>if us.length=F.np then fin (exs T (Qa T n) dd F.body (QkL us F.nN) hs)else none
end
section
variable {m:Nat}
inductive G where
 | fn (i:Nat)|cls (i:Nat)|con (k:Nat)|txt (x:List Nat)
structure Ctx where
 T:Tbl
 N:List Str
 names:List (Str×NameKind)
 gl:List (Str×G)
 bl:List Str
 lc:Bool:=false
noncomputable def idx(x:Str):List Str->Option Nat
 | []=>none
 | y::r=>if y=x then some 0 else(idx x r).map (· + 1)
noncomputable def QeJ(C:Ctx)(x:Str):Bool:=match C.names.lookup x with
 | some .local=>true|some .cell=>true|some .free=>true|_=>false
noncomputable def YL(C:Ctx)(x:Str):Bool:=match C.names.lookup x with
 | some .local=>true|some .cell=>true|_=>false
noncomputable def YH(C:Ctx)(x:Str):Bool:=match C.names.lookup x with
 | some .globalImplicit=>true|_=>false
noncomputable def Zc:Expr->Bool
 | .Call (.Name _ _) [] [] _=>false
 | _=>true
noncomputable def ZJ:Expr->Bool
 | .Slice ..=>false
 | _=>true
noncomputable def Qif(C:Ctx)(x:Str):Option Ty:=match C.gl.lookup x with
 | some (.cls i)=>some (.cls i)
 | some _=>none
 | none=>if C.bl.contains x=false then none else if x="int" then some .int else if x="str" then some .str else if x="bool" then some .bool else if x="list" then some .list else if x="tuple" then some .tuple else if x="dict" then some .dict else if x="ValueError" then some .vale else none
noncomputable def Qkx(b:Bool)(x:Str):Option Bi:=if x="sorted" then some .sorted else if x="dict" then(if b=true then some .dictS else none)else none
noncomputable def QkW(C:Ctx)(x:Str):Option Bi:=match C.gl.lookup x with
 | some _=>none
 | none=>if C.bl.contains x=false then none else if x="len" then some .len else if x="tuple" then some .tuple else if x="list" then some .list else if x="sum" then some .sum else Qkx C.T.dts.isEmpty x
noncomputable def Qkw(x:Str):Option Bm:=if x="get" then some .get else none
noncomputable def QkV(x:Str):Option Bm:=if x="append" then some .append else if x="pop" then some .pop else if x="setdefault" then some .setdef else Qkw x
noncomputable def Qfx:E->Bool
 | .and _ _=>false
 | .or _ _=>false
 | .not _=>false
 | _=>true
noncomputable def okT:Expr->E->Bool
 | .BoolOp ..,_=>true
 | .UnaryOp .Not ..,_=>true
 | .Compare ..,_=>true
 | _,ir=>Qfx ir
noncomputable def Jn(C:Ctx)(f:Str)(args:List Expr):Option (List Expr):=if f="tuple" then(match args with
 | [.Call (.Name r _) ra [] _]=>if r="range"&&YH C r&&(C.gl.lookup r).isNone&&C.bl.contains r&&decide (ra.length<=3)&&decide (1<=ra.length)then some ra else none
 | _=>none)else none
noncomputable def Ju(C:Ctx)(f:Str)(args:List Expr):Option Expr:=if f="list" then(match args with
 | [.Call (.Name r _) [a] [] _]=>if r="reversed"&&YH C r&&(C.gl.lookup r).isNone&&C.bl.contains r then some a else none
 | _=>none)else none
noncomputable def Qkf:Expr->Option U
 | .Constant (.int i) _ _=>some (.int i 0)
 | .Constant (.str x) _ _=>some (.str x.cps.toList)
 | _=>none
noncomputable def Qmu:List (Option Expr)->List Expr->Option (List (U×U))
 | [],[]=>some []
 | some k::ks,v::vs=>(Qkf k).bind fun k'=>(Qkf v).bind fun v'=>(Qmu ks vs).bind fun r=>if r.any (fun p=>decide (p.1=k'))then none else some ((k',v')::r)
 | _,_=>none
noncomputable def Ctx.inner(C:Ctx)(xs:List Str)(scope:Scope):Ctx:={ C with N:=L2.hideN xs C.N++xs,names:=L2.relN C.names scope.names,lc:=false }
noncomputable def hdC(C:Ctx):Bool:=decide (C.bl=[("isinstance":Str)])
noncomputable def Y8(C:Ctx)(xs:List Str)(scope:Scope):Bool:=(scope.kind==.function)&&xs.all (fun x=>(scope.names.lookup x==some .local)&&(scope.names.lookup (L2.mang x)==none))&&decide (L2.hideN xs C.N++xs).Nodup&&scope.names.all (fun y=>match y.2 with
  | .local=>(xs.contains y.1||decide (y.1=".0"))&&(scope.names.lookup y.1==some .local)
  | .free=>(C.names.lookup y.1==some .cell)||(C.names.lookup y.1==some .free)
  | .cell=>false
  | _=>true)&&!(C.N.contains ".0")
noncomputable def QkR:Src->Bool
 | .zip _ _=>true
 | .enm _=>true
 | _=>false
noncomputable def Qc7:Src->Tg->Bool
 | .zip _ _,.name _=>false
 | .enm _,.name _=>false
 | .revd _,.pair _ _=>false
 | _,_=>true
noncomputable def Qlf:Expr->Option (Bool×List Str)
 | .Name x _=>some (false,[x])
 | .Tuple es _ _=>(match es with
  | [a,b]=>(match a,b with
   | .Name x _,.Name y _=>some (true,[x,y])
   | _,_=>none)
  | _=>none)
 | _=>none
noncomputable def QnL:List Expr->Option (Option Expr)
 | []=>some none
 | [t]=>some (some t)
 | _=>none
structure Gn where
 b:Bool
 xs:List Str
 iter:Expr
 tl:Option Expr
noncomputable def QeP:List Comprehension->Option Gn
 | [g]=>if g.is_async=0 then(Qlf g.target).bind fun t=>(QnL g.ifs).map fun tl=>⟨t.1,t.2,g.iter,tl⟩else none
 | _=>none
def QkY(tg:Expr)(b:Bool)(xs:List Str):Prop:=(b=false/\∃x p,tg=.Name x p/\xs=[x])\/(b=true/\∃x p y q k pt,tg=.Tuple [.Name x p,.Name y q] k pt/\xs=[x,y])
theorem Qf5{tg:Expr}{b:Bool}{xs:List Str}(h:Qlf tg=some (b,xs)):QkY tg b xs:=by
 unfold Qlf at h;split at h
 ·cases h;exact .inl ⟨rfl,_,_,rfl,rfl⟩
 ·split at h
  ·split at h
   ·cases h;exact .inr ⟨rfl,_,_,_,_,_,_,rfl,rfl⟩
   ·cases h
  ·cases h
 ·cases h
theorem YZ{gens:List Comprehension}{g:Gn}(h:QeP gens=some g):∃tg,gens=[⟨tg,g.iter,g.tl.toList,0⟩]/\QkY tg g.b g.xs:=by
 unfold QeP at h;split at h
 ·rename_i c;split at h
  ·rename_i e;simp only [Option.bind_eq_some_iff,Option.map_eq_some_iff]at h;obtain⟨⟨b,xs⟩,h1,tl,h2,rfl⟩:=h;obtain⟨tg,iter,ifs,ia⟩:=c;simp only at e h1 h2;subst e;refine⟨tg,?_,Qf5 h1⟩
   have:ifs=tl.toList:=by
    unfold QnL at h2;split at h2<;>cases h2<;>rfl
   rw [this]
  ·cases h
 ·cases h
inductive Sl where
 | cut (lo hi:Option Expr)|rev|bad
noncomputable def QhV:Expr->Option Sl
 | .Slice lo hi st _=>(match st with
  | none=>some (.cut lo hi)
  | some e=>some .bad)
 | _=>none
inductive He where
 | tab (ks:List (Option Expr)) (vs:List Expr)|nm (x:Str)|any
noncomputable def Qmf:Expr->He
 | .Name x _=>.nm x
 | _=>.any
noncomputable def Qio(C:Ctx)(x:Str):Option Nat:=none
noncomputable def QkN(C:Ctx)(i:Nat)(es:List E):Option E:=match C.T.dfl.lookup i with
 | none=>some (.call i es)
 | some _=>none
noncomputable def Qms(C:Ctx)(it:Expr):Bool:=match it with
 | .Name y _=>C.T.dks.contains y
 | _=>false
noncomputable def Qf1:E->Option Nat
 | .var i=>some i
 | _=>none
mutual
noncomputable def Qg:Nat->Ctx->Expr->Option E
 | 0,_,_=>none
 | m+1,C,e=>match e with
  | .Constant (.int i) _ _=>some (.c (.int i 0))
  | .Constant (.bool b) _ _=>some (.c (.bl b))
  | .Constant .none _ _=>some (.c .non)
  | .Constant (.str x) _ _=>some (.c (.str x.cps.toList))
  | .Name x _ => if x = "__debug__" \/ x = "__classdict__" then none else if QeJ C x then (idx x C.N).map .var else if YH C x then (match C.gl.lookup x with | some (.con k) => some (.con k) | some (.txt t) => some (.c (.str t)) | _ => none) else none
  | .BinOp a o b _=>(Qg m C a).bind fun a'=>(Qg m C b).bind fun b'=>some (.op o a' b')
  | .UnaryOp .USub a _=>(Qg m C a).bind fun a'=>some (.neg a')
  | .UnaryOp .Not a _=>(compT m C a).bind fun a'=>some (.not a')
  | .BoolOp .And (a::r) p=>compAnd m C a r p
  | .BoolOp .Or (a::r) p=>compOr m C a r p
  | .Compare a [o] [b] _=>(Qg m C a).bind fun a'=>(Qg m C b).bind fun b'=>some (.cmp o a' b')
  | .IfExp t a b _=>(compT m C t).bind fun t'=>(Qg m C a).bind fun a'=>(Qg m C b).bind fun b'=>some (.ife t' a' b')
  | .Tuple es _ _=>if es.length<=1000000 then(compA m C es).bind fun es'=>some (.tup es')else none
  | .List es _=>if es.length<=1000000 then(compA m C es).bind fun es'=>some (.lst es')else none
  | .Subscript a b _=>match QhV b with
   | some (.cut lo hi)=>(Qg m C a).bind fun a'=>(compO m C lo).bind fun l=>(compO m C hi).bind fun h=>some (.sl a' l h)
   | some .rev=>(Qg m C a).bind fun a'=>some (.rev a')
   | some .bad=>none
   | none=>(Qg m C b).bind fun b'=>match Qmf a with
    | .tab ks vs=>if decide (ks.length<=15)&&!ks.isEmpty then(Qmu ks vs).bind fun kvs=>some (.dis kvs b')else none
    | .nm x=>(match Qio C x with|some k=>some (.tab k b')|none=>(Qg m C a).bind fun a'=>some (.ix a' b'))
    | .any=>(Qg m C a).bind fun a'=>some (.ix a' b')
  | .Attribute a f _=>if Zc a then(Qg m C a).bind fun a'=>(idx f C.T.fns').bind fun k=>some (.fld a' k)else none
  | .Call (.Name f _) args [] _ => if f = "__debug__" \/ f = "__name__" \/ YH C f = false then none else match C.gl.lookup f with
   | some (.fn i)=>if hdC C=true then none else(compA m C args).bind fun es=>QkN C i es
   | some (.cls i)=>if hdC C=true then none else(compA m C args).bind fun es=>some (.make i es)
   | some (.con _)=>none
   | some (.txt _)=>none
   | none=>if C.bl.contains f=false then none else if f="isinstance" then(match args with
     | [a, .Name t _] => if YH C t /\ t ≠ "__debug__" /\ t ≠ "__name__" then (Qg m C a).bind fun a' => (Qif C t).bind fun ty => some (.isi a' ty) else none
     | _=>none)
    else if hdC C=true then none else match Jn C f args with
     | some ra=>(compA m C ra).bind fun es=>some (.tupR es)
     | none=>match Ju C f args with
      | some a=>(Qg m C a).bind fun a'=>some (.rev a')
      | none=>(QkW C f).bind fun b=>(compA m C args).bind fun es=>some (.bi b es)
  | .Call (.Attribute o x p) args [] q=>if Zc o&&(p.endLine==q.line)&&decide (args.length<29)then match idx x C.T.mns with
   | some k=>if hdC C=true then none else(Qg m C o).bind fun o'=>(compA m C args).bind fun es=>some (.meth k o' es)
   | none=>(QkV x).bind fun b=>(Qg m C o).bind fun o'=>(compA m C args).bind fun es=>some (.bm b o' es)else none
  | .ListComp elt gens scope _=>(match QeP gens with
   | some g=>if Y8 C g.xs scope&&!hdC C then if Qms C g.iter then(if g.b=true then none else(Qg m C g.iter).bind fun e'=>(Qf1 e').bind fun i=>(compTO m (C.inner g.xs scope) g.tl).bind fun t=>(Qg m (C.inner g.xs scope) elt).bind fun el=>some (.thw i (.comp (.key (.var i)) false t el)))else(compSrc m C g.iter).bind fun src=>if Qc7 src (tgN g.b 0)then(compTO m (C.inner g.xs scope) g.tl).bind fun t=>(Qg m (C.inner g.xs scope) elt).bind fun el=>some (.comp src g.b t el)else none else none
   | none=>none)
  | .Dict [] [] _=>some .dnew
  | _=>none
noncomputable def compT:Nat->Ctx->Expr->Option E
 | 0,_,_=>none
 | m+1,C,e=>match e with
  | .IfExp ..=>none
  | .NamedExpr ..=>none
  | e=>(Qg m C e).bind fun ir=>if okT e ir then some ir else none
noncomputable def compTO:Nat->Ctx->Option Expr->Option (Option E)
 | 0,_,_=>none
 | m+1,C,none=>some none
 | m+1,C,some e=>(compT m C e).bind fun e'=>some (some e')
noncomputable def compAnd:Nat->Ctx->Expr->List Expr->Pos->Option E
 | 0,_,_,_,_=>none
 | m+1,C,a,r,p=>match r with
  | []=>compT m C a
  | b::r=>(compT m C a).bind fun a'=>(compAnd m C b r p).bind fun b'=>some (.and a' b')
noncomputable def compOr:Nat->Ctx->Expr->List Expr->Pos->Option E
 | 0,_,_,_,_=>none
 | m+1,C,a,r,p=>match r with
  | []=>compT m C a
  | b::r=>(compT m C a).bind fun a'=>(compOr m C b r p).bind fun b'=>some (.or a' b')
noncomputable def compA:Nat->Ctx->List Expr->Option (List E)
 | 0,_,_=>none
 | m+1,C,es=>match es with
  | []=>some []
  | e::r=>(Qg m C e).bind fun e'=>(compA m C r).bind fun r'=>some (e'::r')
noncomputable def compO:Nat->Ctx->Option Expr->Option (Option E)
 | 0,_,_=>none
 | m+1,C,none=>some none
 | m+1,C,some e=>(Qg m C e).bind fun e'=>some (some e')
noncomputable def compSrc:Nat->Ctx->Expr->Option Src
 | 0,_,_=>none
 | m+1,C,e=>match e with
  | .Call (.Name f p) args [] q=>if YH C f then(match C.gl.lookup f with
   | some _=>(Qg m C (.Call (.Name f p) args [] q)).map .seq
   | none=>if C.bl.contains f=false then none else if f="range" then(match args with
     | [a]=>(Qg m C a).map .rng
     | [a,b]=>(Qg m C a).bind fun a'=>(Qg m C b).map fun b'=>.rng2 a' b'
     | _=>none)
    else if f="zip" then(match args with
     | [a,b]=>(Qg m C a).bind fun a'=>(Qg m C b).map fun b'=>.zip a' b'
     | _=>none)
    else(Qg m C (.Call (.Name f p) args [] q)).map .seq)else none
  | e=>(Qg m C e).map .seq
end
theorem cE4 {C : Ctx} {x w1} : Qg (m + 1) C (.Name x w1) = (if x = "__debug__" \/ x = "__classdict__" then none else if QeJ C x then (idx x C.N).map .var else if YH C x then (match C.gl.lookup x with | some (.con k) => some (.con k) | some (.txt t) => some (.c (.str t)) | _ => none) else none) := rfl
theorem cE5{C:Ctx}{a o b w1}:Qg (m+1) C (.BinOp a o b w1)=((Qg m C a).bind fun a'=>(Qg m C b).bind fun b'=>some (.op o a' b')):=rfl
theorem cE6{C:Ctx}{a w1}:Qg (m+1) C (.UnaryOp .USub a w1)=((Qg m C a).bind fun a'=>some (.neg a')):=rfl
theorem cE7{C:Ctx}{a w1}:Qg (m+1) C (.UnaryOp .Not a w1)=((compT m C a).bind fun a'=>some (.not a')):=rfl
theorem Qo8{C:Ctx}{a o b w1}:Qg (m+1) C (.Compare a [o] [b] w1)=((Qg m C a).bind fun a'=>(Qg m C b).bind fun b'=>some (.cmp o a' b')):=rfl
theorem Qo7{C:Ctx}{t a b w1}:Qg (m+1) C (.IfExp t a b w1)=((compT m C t).bind fun t'=>(Qg m C a).bind fun a'=>(Qg m C b).bind fun b'=>some (.ife t' a' b')):=rfl
theorem Qo6{C:Ctx}{es w1 w2}:Qg (m+1) C (.Tuple es w1 w2)=(if es.length<=1000000 then(compA m C es).bind fun es'=>some (.tup es')else none):=rfl
theorem Qo5{C:Ctx}{es w1}:Qg (m+1) C (.List es w1)=(if es.length<=1000000 then(compA m C es).bind fun es'=>some (.lst es')else none):=rfl
theorem Qo4{C:Ctx}{a b w1}:Qg (m+1) C (.Subscript a b w1)=(match QhV b with
   | some (.cut lo hi)=>(Qg m C a).bind fun a'=>(compO m C lo).bind fun l=>(compO m C hi).bind fun h=>some (.sl a' l h)
   | some .rev=>(Qg m C a).bind fun a'=>some (.rev a')
   | some .bad=>none
   | none=>(Qg m C b).bind fun b'=>match Qmf a with
    | .tab ks vs=>if decide (ks.length<=15)&&!ks.isEmpty then(Qmu ks vs).bind fun kvs=>some (.dis kvs b')else none
    | .nm x=>(match Qio C x with|some k=>some (.tab k b')|none=>(Qg m C a).bind fun a'=>some (.ix a' b'))
    | .any=>(Qg m C a).bind fun a'=>some (.ix a' b')):=rfl
theorem Qo3{C:Ctx}{a f w1}:Qg (m+1) C (.Attribute a f w1)=(if Zc a then(Qg m C a).bind fun a'=>(idx f C.T.fns').bind fun k=>some (.fld a' k)else none):=rfl
theorem Qo2 {C : Ctx} {f w1 args w2} : Qg (m + 1) C (.Call (.Name f w1) args [] w2) = (if f = "__debug__" \/ f = "__name__" \/ YH C f = false then none else match C.gl.lookup f with
   | some (.fn i)=>if hdC C=true then none else(compA m C args).bind fun es=>QkN C i es
   | some (.cls i)=>if hdC C=true then none else(compA m C args).bind fun es=>some (.make i es)
   | some (.con _)=>none
   | some (.txt _)=>none
   | none=>if C.bl.contains f=false then none else if f="isinstance" then(match args with
     | [a, .Name t _] => if YH C t /\ t ≠ "__debug__" /\ t ≠ "__name__" then (Qg m C a).bind fun a' => (Qif C t).bind fun ty => some (.isi a' ty) else none
     | _=>none)
    else if hdC C=true then none else match Jn C f args with
     | some ra=>(compA m C ra).bind fun es=>some (.tupR es)
     | none=>match Ju C f args with
      | some a=>(Qg m C a).bind fun a'=>some (.rev a')
      | none=>(QkW C f).bind fun b=>(compA m C args).bind fun es=>some (.bi b es)):=rfl
theorem Qo1{C:Ctx}{o x p args q}:Qg (m+1) C (.Call (.Attribute o x p) args [] q)=(if Zc o&&(p.endLine==q.line)&&decide (args.length<29)then match idx x C.T.mns with
   | some k=>if hdC C=true then none else(Qg m C o).bind fun o'=>(compA m C args).bind fun es=>some (.meth k o' es)
   | none=>(QkV x).bind fun b=>(Qg m C o).bind fun o'=>(compA m C args).bind fun es=>some (.bm b o' es)else none):=rfl
theorem QnU{C:Ctx}{elt gens scope w1}:Qg (m+1) C (.ListComp elt gens scope w1)=((match QeP gens with
   | some g=>if Y8 C g.xs scope&&!hdC C then if Qms C g.iter then(if g.b=true then none else(Qg m C g.iter).bind fun e'=>(Qf1 e').bind fun i=>(compTO m (C.inner g.xs scope) g.tl).bind fun t=>(Qg m (C.inner g.xs scope) elt).bind fun el=>some (.thw i (.comp (.key (.var i)) false t el)))else(compSrc m C g.iter).bind fun src=>if Qc7 src (tgN g.b 0)then(compTO m (C.inner g.xs scope) g.tl).bind fun t=>(Qg m (C.inner g.xs scope) elt).bind fun el=>some (.comp src g.b t el)else none else none
   | none=>none)):=rfl
theorem Qo0{C:Ctx}{w1}:Qg (m+1) C (.Dict [] [] w1)=(some .dnew):=rfl
noncomputable def Y7(C:Ctx):Expr->Option Tg
 | .Name x _=>if YL C x then(idx x C.N).map .name else none
 | .Tuple [.Name x _,.Name y _] _ _=>if YL C x&&YL C y&&decide (x≠y)then(idx x C.N).bind fun i=>(idx y C.N).map fun j=>.pair i j else none
 | _=>none
noncomputable def QnP:Expr->Option Bool
 | .Constant c _ _=>(match c with|.str _=>some true|_=>none)
 | .ListComp ..=>some false
 | _=>none
inductive As where
 | nm (x:Str)|at (o:Expr) (f:Str)|sub (o i:Expr)|two (x:Str) (p:Pos) (y:Str) (q:Pos)|many (es:List Expr)
noncomputable def QbJ:Expr->Expr->Option As
 | .Name x p,.Name y q=>some (.two x p y q)
 | _,_=>none
noncomputable def as1:Expr->Option As
 | .Name x _=>some (.nm x)
 | .Attribute o f _=>some (.at o f)
 | .Subscript o i _=>some (.sub o i)
 | .Tuple es _ _=>(match es with|[a,b]=>QbJ a b|[a,b,c]=>some (.many [a,b,c])|[a,b,c,d]=>some (.many [a,b,c,d])|_=>none)
 | _=>none
noncomputable def QfU:List Expr->Option As
 | [t]=>as1 t
 | _=>none
noncomputable def QoV(C:Ctx)(it:Expr):Bool:=match it with
 | .Name y _=>C.T.dts.contains y||C.T.dks.contains y
 | _=>false
noncomputable def QnJ(C:Ctx)(tg it:Expr)(t:Tg):Option Nat:=match tg with
 | .Name x _=>(match t with|.name i=>if C.T.dts.contains x||QoV C it then some i else none|_=>none)
 | _=>none
noncomputable def QfI(C:Ctx)(x:Str):Bool:=match C.names.lookup x with
 | some .local=>true|_=>false
noncomputable def QnC:Expr->Option (Expr×Expr)
 | .Tuple es _ _=>(match es with|[a,b]=>some (a,b)|_=>none)
 | _=>none
noncomputable def QfB:Expr->Bool
 | .Tuple ..=>false
 | _=>true
noncomputable def QaN(C:Ctx):List Expr->Option (List Nat)
 | []=>some []
 | e::r=>match e with
  | .Name x _=>if YL C x then(idx x C.N).bind fun i=>(QaN C r).map (i::·)else none
  | _=>none
noncomputable def QnS(m:Nat)(C:Ctx)(s:Stmt)(s0:S):Option S:=some s0
mutual
noncomputable def ZY:Nat->Ctx->Stmt->Option S
 | 0,_,_=>none
 | m+1,C,s=>match s with
  | .Pass _=>some .pass
  | .Break _=>some .brk
  | .Continue _=>some .cont
  | .Expr e _=>(match QnP e with
   | some true=>some .pass
   | some false=>none
   | none=>(Qg m C e).map .expr)
  | .Return v _=>(match v with
   | none=>some .retN
   | some e=>(Qg m C e).map .ret)
  | .Assign ts e _=>(match QfU ts with
   | some (.nm x)=>if YL C x then(idx x C.N).bind fun i=>(Qg m C e).bind fun e'=>some (.set i e')else none
   | some (.at o f)=>if Zc o then(Qg m C e).bind fun e'=>(Qg m C o).bind fun o'=>(idx f C.T.fns').bind fun k=>some (.fld o' k e')else none
   | some (.sub o i)=>if ZJ i then(Qg m C e).bind fun e'=>(Qg m C o).bind fun o'=>(Qg m C i).bind fun i'=>some (.put o' i' e')else none
   | some (.two _ _ _ _)=>none
   | some (.many es)=>(QaN C es).bind fun is=>if QfB e then(Qg m C e).map (.unpN is)else none
   | none=>none)
  | .Raise _ _ _=>some .bad
  | .AugAssign t o e _=>(match t with
   | .Name x _=>if YL C x then(idx x C.N).bind fun i=>(Qg m C e).bind fun e'=>some (.aug i o e')else none
   | _=>none)
  | .If t a b _=>(compT m C t).bind fun t'=>(compSs m C a).bind fun a'=>(compSs m C b).bind fun b'=>some (.ite t' a' b')
  | .While t a [] _=>(compT m C t).bind fun t'=>(compSs m C a).bind fun a'=>some (.while t' a')
  | .For tg it a [] _=>(Y7 C tg).bind fun tg'=>(compSrc m C it).bind fun it'=>match QnJ C tg it tg' with
   | some i=>(Qg m C it).bind fun e=>(compSs m C a).bind fun a'=>some (.loopK i e a')
   | none=>if Qc7 it' tg' then(compSs m C a).bind fun a'=>some (.loop tg' it' a')else none
  | _=>none
noncomputable def compSs:Nat->Ctx->List Stmt->Option (List S)
 | 0,_,_=>none
 | m+1,C,ss=>match ss with
  | []=>some []
  | s::r=>(ZY m C s).bind fun s0=>(QnS m C s s0).bind fun s'=>(compSs m C r).bind fun r'=>some (s'::r')
end
end
end Iv
namespace L2
open PySem PySem.Spec PyProof.Rows
section
variable {X:Cx}
structure Mk0(K:W.Frag)(C:Addr):Prop where
 makes:W.makesIn K C=true
 init:W.findIn K (.ref C) "__init__"=some (some (.builtin "object.__init__"))
 kp:W.keepIn K (.ref C)=true
def Qf8(C:Addr):TE:=fun _ H Q=>∀x dx,H x=none->H dx=none->dx≠x->Q (.ref x) (upd (upd H dx (.own x)) x (.ins C dx []))
theorem QbU{pins:List (Addr×Obj)}{Y:St}{H:Hp}{s:Shared}{Q:VK}{C:Addr}(M:Mk0 X.K C)(I:Inv X pins Y H s)
  (h:∀x dx,H x=none->H dx=none->dx≠x->Q (.ref x) (upd (upd H dx (.own x)) x (.ins C dx []))):
  wpAny (model X.prog X.w) X.A (call (.ref C) []) (EP X pins Y Q) X.xe s:=by
 have hq:=h (s.heap.objs.size+1) s.heap.objs.size (I.hok.fresh (Nat.le_succ _)) (I.hok.fresh (Nat.le_refl _)) (Nat.ne_of_lt (Nat.lt_succ_self _));have I2:=Inv.made (C:=C) I;have Yyy:=W.makes_of (M:=model X.prog X.w) I.kIn M.makes
 have hob:((s.heap.push W.emptyDict).push (W.instObj C s.heap.objs.size)).get? (s.heap.objs.size+1)=some (W.instObj C s.heap.objs.size):=by
  have e:(s.heap.push W.emptyDict).objs.size=s.heap.objs.size+1:=Heap.size_push ..;rw [<-e];exact Heap.get?_push_size _ rfl
 have t1:W.Looks (model X.prog X.w) ((s.heap.push W.emptyDict).push (W.instObj C s.heap.objs.size)) (typeOf (.ref (s.heap.objs.size+1))) (.ref C):=(W.Looks.ld hob).andThen .now
 have t2:W.Looks (model X.prog X.w) ((s.heap.push W.emptyDict).push (W.instObj C s.heap.objs.size)) (isInstance (.ref (s.heap.objs.size+1)) (.type "object")) true :=
  t1.andThen (Yyy.top.keeps fun b o e=>Heap.get?_push_of_some _ (Heap.get?_push_of_some _ e))
 refine wpAny_call (Qdf I.kIn M.makes M.init (fun self=>W.Looks.of_pure (W.oi_bind self)) ?_);obtain⟨hh,g,d,t,os⟩:=s;refine codeAny_call_builtin W.oi_plain W.entry_oi (@W.check_slot (model X.prog X.w) _ _ _ "object.__init__" "object" "__init__" (.ref (hh.objs.size+1)) [] [] _ W.oi_kind W.oi_split t2 (W.oi_args (.ref (hh.objs.size+1))) ?_);rw [W.oi_run];exact wpAny_pure (And.intro rfl ⟨V.ref (hh.objs.size+1),_,I2,rfl,hq⟩)
theorem Qc4{C:Addr}{x:Str}{p pos:Pos}(M:Mk0 X.K C)(hg:Gl X x)(hm:X.mg x=some (.ref C))(hdb:(x==("__debug__":Str))=false:=by decide):PE X (.Call (.Name x p) [] [] pos) (Qf8 C):=by
 intro pins s Y H Q I h;refine wpAny_Call_Name_kw (ZX I hg hm ?_ hdb);exact W.callWith_K0 I.kIn M.kp (QbU M I h)
noncomputable def QnR:V->Option Value
 | .ty n=>some (.type n)
 | .ref a=>some (.ref a)
 | _=>none
def TyE(K:W.Frag)(H:Hp)(x:V)(t:Value):Prop:=TyOf K H x t\/False
theorem QeZ : CallR X (.builtin "isinstance") (fun xs H Q => ∃ x c cv t b, xs = [x, c] /\ QnR c = some cv /\ TyE X.K H x t /\ W.kitOne X.K t cv = some b /\ Q (.bl b) H) := by
 intro pins s Y H xs us Q I r h;obtain⟨x,c,cv,t,b,rfl,hc,ty,e,q⟩:=h
 rcases ty with ty|ty
 case inr=>exact ty.elim
 obtain⟨u,w',rfl,rx,rc⟩:=Qcr r
 have ec:w'=cv:=by
  cases c with
  | ty n=>cases(show w'=Value.type n from rc);exact Option.some.inj hc
  | ref a=>cases(show w'=Value.ref a from rc);exact Option.some.inj hc
  | _=>cases hc
 subst ec;exact Qdn I rx ty e fun tk=>⟨.bl b,H,I.tok tk,rfl,q⟩
end
end L2
namespace Iv
open PySem PySem.Spec PyProof.Rows L2
section
variable {a p:Addr}{e:Expr}{ho:HO}{H:Hp}{n:Nat}{o:O}{T:Tbl}
noncomputable abbrev St:=L2.St
structure Adr where
 f:Nat->Addr
 c:Nat->Addr
 k:Nat->Addr
 s:Addr
def Cg(i r:Int)(m:Nat):Prop:=∃q:Int,i=r+m*q
theorem Cg.exact{i r:Int}(h:Cg i r 0):i=r:=by obtain⟨q,e⟩:=h;simpa using e
theorem Cg.refl(i:Int)(m:Nat):Cg i i m:=⟨0,by simp⟩
def RU(A:Adr)(α:List Addr):U->V->Prop
 | .non,v=>v=.non
 | .bl b,v=>v=.bl b
 | .int r m,v=>∃i,v=.int i/\Cg i r m
 | .str x,v=>v=.str ⟨x.toArray⟩
 | .ref n,v=>∃a,α[n]?=some a/\v=.ref a
 | .con k,v=>v=.ref (A.k k)
 | .scr,v=>v=.ref A.s
abbrev RUs(A:Adr)(α:List Addr):List U->List V->Prop:=Paired (RU A α)
def RF(T:Tbl)(A:Adr)(α:List Addr):List (Nat×U)->List (Str×V)->Prop:=Paired fun p q=>T.fns'[p.1]?=some q.1/\RU A α p.2 q.2
def RK:U->Key->Prop
 | .int i m,k=>m=0/\k=Sum.inl i
 | .str x,k=>k=Sum.inr ⟨x.toArray⟩
 | _,_=>False
def RD(A:Adr)(α:List Addr):List (U×U)->List (Key×V)->Prop:=Paired fun p q=>RK p.1 q.1/\RU A α p.2 q.2
abbrev RKs:List U->List Key->Prop:=Paired RK
def RT(A:Adr)(α:List Addr):List (List U×U)->List (List Key×V)->Prop:=Paired fun p q=>RKs p.1 q.1/\RU A α p.2 q.2
def EF(T:Tbl)(H:Hp)(c:Nat)(dd:Option Addr):Prop:=∀f,T.efl.contains (c,f)=true->∃d od x,dd=some d/\T.fns'[f]?=some x/\H d=some (.frz od (.xd [(x,.non)]))
theorem EF.fz{H':Hp}{c:Nat}{dd:Option Addr}(h:EF T H c dd)(k:∀b o fs,H b=some (.frz o (.xd fs))->H' b=some (.frz o (.xd fs))):EF T H' c dd:=fun f q=>by
 obtain⟨d,od,x,e1,e2,e3⟩:=h f q;exact⟨d,od,x,e1,e2,k _ _ _ e3⟩
def RO(T:Tbl)(A:Adr)(α:List Addr)(H:Hp)(a:Addr):O->Prop
 | .lst xs=>∃vs,H a=some (.lst vs)/\RUs A α xs vs
 | .tup xs=>∃vs,H a=some (.tup vs)/\RUs A α xs vs
 | .ins c fs=>∃dx fv,H a=some (.ins (A.c c) dx fv)/\RF T A α fs fv/\c<T.cls.length
 | .dic kvs=>∃kv,H a=some (.dK kv)/\RD A α kvs kv
 | .dct kvs=>∃kv,H a=some (.dT kv)/\RT A α kvs kv
 | .fzd kvs=>∃kv ob,H a=some (.frz ob (.dK kv))/\RD A α kvs kv
 | .fzt kvs=>∃kv ob,H a=some (.frz ob (.dT kv))/\RT A α kvs kv
 | .err c=>∃dd,H a=some (QoO a (A.c c) dd)/\T.ers.contains c=true/\EF T H c dd
structure RH(T:Tbl)(A:Adr)(α:List Addr)(hs:Hs)(H:Hp):Prop where
 len:α.length=hs.length
 nd:∀(i j:Nat) a,α[i]?=some a->α[j]?=some a->i=j\/∃vs,H a=some (.tup vs)
 ob:∀(n:Nat) a o,α[n]?=some a->hs[n]?=some o->RO T A α H a o
def QmO(K:W.Frag)(H:Hp)(a:Addr)(xs:List V):Prop:=(∃o,H a=some (.frz o (.lst xs))) \/
 ∃ (o : Obj) (its : Array Value) (n : Nat), K.lookup a = some o /\ o.cls = .type "list" /\ o.dict = none /\ o.data = .seq its n /\ its.size <= sizeLine /\ Vals xs its.toList
def Scr(T:Tbl)(A:Adr)(K:W.Frag)(H:Hp):Prop:=∃vs,RUs A [] T.scr vs/\QmO K H A.s vs
structure Rep(T:Tbl)(A:Adr)(K:W.Frag)(α:List Addr)(hs:Hs)(H:Hp):Prop where
 h:RH T A α hs H
 s:Scr T A K H
structure Ext(α α':List Addr)(H H':Hp):Prop where
 pre:∀(n:Nat) a,α[n]?=some a->α'[n]?=some a
 new:∀(n:Nat) a,α'[n]?=some a->α.length<=n->H a=none\/∃vs,H a=some (.tup vs)
 keep:∀b o,H b=some o->b∉α->H' b=some o
 fz:∀b o u,H b=some (.frz o u)->H' b=some (.frz o u)
 tr:∀b o,H b=some o->∃o',H' b=some o'/\∀vs,o=.tup vs↔o'=.tup vs
structure RS(A:Adr)(α:List Addr)(Z:Rho)(Y:St):Prop where
 len:Z.length=Y.length
 val:∀(i:Nat) u,Z[i]?=some (some u)->∃v,Y[i]?=some (some v)/\RU A α u v
section
variable {A:Adr}{K:W.Frag}{α α' α1 α2:List Addr}{hs h2:Hs}{H' H1 H2:Hp}{u:U}{v:V}{us:List U}{vs:List V}{Z:Rho}{Y:St}
theorem RU.mono(p:∀(n:Nat) a,α[n]?=some a->α'[n]?=some a)(h:RU A α u v):RU A α' u v:=by
 cases u with
 | ref n=>obtain⟨a,e,r⟩:=h;exact⟨a,p _ _ e,r⟩
 | _=>exact h
theorem RUs.mono(p:∀(n:Nat) a,α[n]?=some a->α'[n]?=some a)(h:RUs A α us vs):RUs A α' us vs:=Paired.mapP h fun _ _ r=>RU.mono p r
theorem RF.mono{fs:List (Nat×U)}{fv:List (Str×V)}(p:∀(n:Nat) a,α[n]?=some a->α'[n]?=some a)(h:RF T A α fs fv):RF T A α' fs fv:=Paired.mapP h fun _ _ r=>⟨r.1,r.2.mono p⟩
theorem RD.mono{fs:List (U×U)}{fv:List (Key×V)}(p:∀(n:Nat) a,α[n]?=some a->α'[n]?=some a)(h:RD A α fs fv):RD A α' fs fv:=Paired.mapP h fun _ _ r=>⟨r.1,r.2.mono p⟩
theorem RT.mono{fs:List (List U×U)}{fv:List (List Key×V)}(p:∀(n:Nat) a,α[n]?=some a->α'[n]?=some a)(h:RT A α fs fv):RT A α' fs fv:=Paired.mapP h fun _ _ r=>⟨r.1,r.2.mono p⟩
theorem RS.mono(p:∀(n:Nat) a,α[n]?=some a->α'[n]?=some a)(h:RS A α Z Y):RS A α' Z Y:=⟨h.len,fun i u e=>let ⟨v,e1,r⟩:=h.val i u e;⟨v,e1,r.mono p⟩⟩
theorem Ext.refl:Ext α α H H:=⟨fun _ _ e=>e,fun n a e l=>by
 have:=(List.getElem?_eq_some_iff.mp e).1
 omega,fun _ _ e _=>e,fun _ _ _ e=>e,fun _ o e=>⟨o,e,fun _=>Iff.rfl⟩⟩
theorem getElem?_lt(e:α[n]?=some a):n < α.length:=(List.getElem?_eq_some_iff.mp e).1
theorem Ext.trans(a:Ext α α1 H H1)(b:Ext α1 α2 H1 H2)(R:RH T A α2 h2 H2):Ext α α2 H H2 where
 fz:=fun c o kv e=>b.fz c o kv (a.fz c o kv e)
 pre:=fun n x e=>b.pre n x (a.pre n x e)
 tr:=fun c o e=>by
  obtain⟨o1,e1,q1⟩:=a.tr c o e;obtain⟨o2,e2,q2⟩:=b.tr c o1 e1;exact⟨o2,e2,fun vs=>(q1 vs).trans (q2 vs)⟩
 new:=fun n x e l=>by
  by_cases hn:n < α1.length
  ·have e1:α1[n]?=some α1[n]:=List.getElem?_eq_getElem hn;have e2:=b.pre n _ e1;rw [e]at e2;cases e2;exact a.new n _ e1 l
  ·cases q:H x with
   | none=>exact .inl rfl
   | some o =>
    obtain⟨o1,e1,q1⟩:=a.tr x o q
    rcases b.new n x e (by omega)with z|⟨vs,z⟩
    ·rw [e1]at z;cases z
    ·rw [e1]at z;cases z;exact .inr ⟨vs,congrArg some ((q1 vs).mpr rfl)⟩
 keep:=fun c o e hc=>by
  by_cases hm:c∈α1
  ·obtain⟨n,hn⟩:=List.getElem?_of_mem hm;by_cases l:n < α.length
   ·have e1:α[n]?=some α[n]:=List.getElem?_eq_getElem l;have:=a.pre n _ e1;rw [hn]at this;cases this;exact absurd (List.getElem_mem l) hc
   ·rcases a.new n c hn (by omega)with z|⟨vs,z⟩
    ·rw [z]at e;cases e
    ·rw [e]at z;cases z;obtain⟨o1,e1,q1⟩:=a.tr c _ e;obtain⟨o2,e2,q2⟩:=b.tr c o1 e1;rw [e2,((q1 vs).trans (q2 vs)).mp rfl]
  ·exact b.keep c o (a.keep c o e hc) hm
theorem RO.trk(h:RO T A α H a o):∃x,H a=some x/\(∀ob u,x≠.frz ob (.lst u))/\∀ob u,x≠.frz ob (.xd u):=by
 cases o with
 | lst xs=>obtain⟨vs,e,_⟩:=h;exact⟨_,e,(fun _ _ z=>nomatch z),fun _ _ z=>nomatch z⟩
 | tup xs=>obtain⟨vs,e,_⟩:=h;exact⟨_,e,(fun _ _ z=>nomatch z),fun _ _ z=>nomatch z⟩
 | ins c fs=>obtain⟨dx,fv,e,_⟩:=h;exact⟨_,e,(fun _ _ z=>nomatch z),fun _ _ z=>nomatch z⟩
 | dic _=>obtain⟨kv,e,_⟩:=h;exact⟨_,e,(fun _ _ z=>nomatch z),fun _ _ z=>nomatch z⟩
 | dct _=>obtain⟨kv,e,_⟩:=h;exact⟨_,e,(fun _ _ z=>nomatch z),fun _ _ z=>nomatch z⟩
 | fzd _=>obtain⟨kv,ob,e,_⟩:=h;exact⟨_,e,(fun _ _ z=>nomatch z),fun _ _ z=>nomatch z⟩
 | fzt _=>obtain⟨kv,ob,e,_⟩:=h;exact⟨_,e,(fun _ _ z=>nomatch z),fun _ _ z=>nomatch z⟩
 | err _=>obtain⟨dd,e,_⟩:=h;exact⟨_,e,(fun _ _ z=>nomatch z),fun _ _ z=>nomatch z⟩
theorem RH.trk(R:RH T A α hs H)(e:α[n]?=some a):∃o,hs[n]?=some o/\RO T A α H a o:=by
 have l:=getElem?_lt e;rw [R.len]at l;exact⟨hs[n],List.getElem?_eq_getElem l,R.ob n a _ e (List.getElem?_eq_getElem l)⟩
theorem RH.adr(R:RH T A α hs H)(e:hs[n]?=some o):∃a,α[n]?=some a/\RO T A α H a o:=by
 have l:n<hs.length:=(List.getElem?_eq_some_iff.mp e).1;rw [<-R.len]at l;exact⟨α[n],List.getElem?_eq_getElem l,R.ob n _ _ (List.getElem?_eq_getElem l) e⟩
theorem RH.notIn(R:RH T A α hs H)(h:H p=none):p∉α:=fun m=>by
 obtain⟨n,e⟩:=List.getElem?_of_mem m;obtain⟨o,_,r⟩:=R.trk e;obtain⟨x,e,_⟩:=r.trk;rw [h]at e;cases e
theorem RH.nd_keep(R:RH T A α hs H)(k:∀b x,b∈α->H b=some x->H' b=some x):∀(i j:Nat) a,α[i]?=some a->α[j]?=some a->i=j\/∃vs,H' a=some (.tup vs):=fun i j a e1 e2 =>
 (R.nd i j a e1 e2).imp id fun⟨vs,q⟩=>⟨vs,k a _ (List.mem_of_getElem? e1) q⟩
theorem Qdc(h:∀(i j:Nat) a,α[i]?=some a->α[j]?=some a->i=j\/∃vs,H a=some (.tup vs))(n:p∉α):∀(i j:Nat) a,(α++[p])[i]?=some a->(α++[p])[j]?=some a->i=j\/∃vs,H a=some (.tup vs):=fun i j a e1 e2=>by
 have cs:∀{k:Nat},(α++[p])[k]?=some a->α[k]?=some a\/(k=α.length/\a=p):=fun {k} e=>by
  by_cases l:k < α.length
  ·rw [List.getElem?_append_left l]at e;exact .inl e
  ·rw [List.getElem?_append_right (by omega)]at e
   have:=(List.getElem?_eq_some_iff.mp e).1;simp at this
   have hk:k=α.length:=by omega
   subst hk;simp at e;exact .inr ⟨rfl,e.symm⟩
 rcases cs e1 with q1|⟨q1,w1⟩
 ·rcases cs e2 with q2|⟨q2,w2⟩
  ·exact h i j a q1 q2
  ·exact absurd (w2▸List.mem_of_getElem? q1) n
 ·rcases cs e2 with q2|⟨q2,w2⟩
  ·exact absurd (w1▸List.mem_of_getElem? q2) n
  ·exact .inl (q1.trans q2.symm)
theorem RO.keep(h:RO T A α H a o)(p:∀(n:Nat) a,α[n]?=some a->α'[n]?=some a)(k:∀b x,H b=some x->(b=a\/∃o fs,x=.frz o (.xd fs))->H' b=some x):RO T A α' H' a o:=by
 have kx:=k;have k:=fun x e=>kx a x e (.inl rfl)
 cases o with
 | lst xs=>obtain⟨vs,e,r⟩:=h;exact⟨vs,k _ e,RUs.mono p r⟩
 | tup xs=>obtain⟨vs,e,r⟩:=h;exact⟨vs,k _ e,RUs.mono p r⟩
 | ins c fs=>obtain⟨dx,fv,e,r,l⟩:=h;exact⟨dx,fv,k _ e,RF.mono p r,l⟩
 | dic _=>obtain⟨kv,e,r⟩:=h;exact⟨kv,k _ e,RD.mono p r⟩
 | dct _=>obtain⟨kv,e,r⟩:=h;exact⟨kv,k _ e,RT.mono p r⟩
 | fzd _=>obtain⟨kv,ob,e,r⟩:=h;exact⟨kv,ob,k _ e,RD.mono p r⟩
 | fzt _=>obtain⟨kv,ob,e,r⟩:=h;exact⟨kv,ob,k _ e,RT.mono p r⟩
 | err _=>obtain⟨dd,e,l,q⟩:=h;exact⟨dd,k _ e,l,q.fz fun b o fs e=>kx b _ e (.inr ⟨o,fs,rfl⟩)⟩
theorem Scr.keep(h:Scr T A K H)(k:∀x,H A.s=some x->(∃o u,x=.frz o (.lst u))->H' A.s=some x):Scr T A K H':=by
 obtain⟨vs,r,q|q⟩:=h
 ·obtain⟨o,e⟩:=q;exact⟨vs,r,.inl ⟨o,k _ e ⟨_,_,rfl⟩⟩⟩
 ·exact⟨vs,r,.inr q⟩
theorem Scr.sq(h:Scr T A K H):∃vs,RUs A α T.scr vs/\SqL K H A.s vs:=by
 obtain⟨vs,r,q⟩:=h
 refine⟨vs,RUs.mono (fun n a e=>by simp at e) r,?_⟩
 rcases q with⟨o,e⟩|q
 ·exact .inl (.inr ⟨o,e⟩)
 ·exact .inr q
theorem QM:(α++[p])[α.length]?=some p:=by simp
theorem QF:∀(n:Nat) a,α[n]?=some a->(α++[p])[n]?=some a:=fun n a e=>by
 rw [List.getElem?_append_left (getElem?_lt e)];exact e
theorem QJ{β:Type}{l:List β}{p a:β}(e:(l++[p])[n]?=some a):l[n]?=some a\/(n=l.length/\a=p):=by
 by_cases h:n<l.length
 ·rw [List.getElem?_append_left h]at e;exact .inl e
 ·rw [List.getElem?_append_right (by omega)]at e
  have:n-l.length=0:=by
   cases q:n-l.length with
   | zero=>rfl
   | succ k=>rw [q]at e;simp at e
  rw [this]at e;simp at e
  exact .inr ⟨by omega,e.symm⟩
theorem Rep.new(R:Rep T A K α hs H)(hp:H p=none)(r:RO T A (α++[p]) (upd H p ho) p o):Rep T A K (α++[p]) (hs++[o]) (upd H p ho)/\Ext α (α++[p]) H (upd H p ho):=by
 have ne:∀b x,H b=some x->b≠p:=fun b x e z=>by rw [z,hp]at e;cases e
 refine⟨⟨⟨by simp [R.h.len],Qdc (R.h.nd_keep fun b x _ e=>by rw [Qe (ne _ _ e)];exact e) (R.h.notIn hp),fun n a ob e1 e2=>?_⟩,R.s.keep fun x e _=>by rw [Qe (ne _ _ e)];exact e⟩,⟨QF,fun n a e l=>?_,fun b x e _=>by rw [Qe (ne _ _ e)];exact e,fun b x kv e=>by rw [Qe (ne _ _ e)];exact e,fun b x e=>⟨x,by rw [Qe (ne _ _ e)];exact e,fun _=>Iff.rfl⟩⟩⟩
 ·rcases QJ e1 with q|⟨q1,q2⟩
  ·rcases QJ e2 with z|⟨z,_⟩
   ·exact RO.keep (R.h.ob n a ob q z) QF fun _ x e _=>by rw [Qe (ne _ _ e)];exact e
   ·have:=getElem?_lt q;rw [R.h.len]at this;omega
  ·subst q2
   rcases QJ e2 with z|⟨_,z⟩
   ·have:=(List.getElem?_eq_some_iff.mp z).1;rw [<-R.h.len]at this;omega
   ·subst z;exact r
 ·rcases QJ e with q|⟨_,q⟩
  ·have:=getElem?_lt q;omega
  ·rw [q];exact .inl hp
theorem Rep.put0(R:Rep T A K α hs H)(ha:α[n]?=some a)(r:RO T A α (upd H a ho) a o)(ht:∀vs,H a≠some (.tup vs):=by intro _ z;simp only [*,Option.some.injEq,reduceCtorEq]at z):Rep T A K α (hs.set n o) (upd H a ho):=by
 have ta:=R.h.trk ha;obtain⟨o0,_,r0⟩:=ta;obtain⟨x0,e0,nf,nx⟩:=r0.trk
 have nd:∀(i j:Nat) c,α[i]?=some c->α[j]?=some c->i=j\/∃vs,upd H a ho c=some (.tup vs):=fun i j c e1 e2=>by
  rcases R.h.nd i j c e1 e2 with q|⟨vs,q⟩
  ·exact .inl q
  ·exact .inr ⟨vs,by rw [Qe (fun(z:c=a)=>ht vs (z▸q))];exact q⟩
 refine⟨⟨by simp [R.h.len],nd,fun m b ob e1 e2=>?_⟩,R.s.keep fun x e z=>?_⟩
 ·by_cases hm:m=n
  ·subst hm;rw [ha]at e1;cases e1
   have l:m<hs.length:=by rw [<-R.h.len];exact getElem?_lt ha
   rw [List.getElem?_set_self l]at e2;cases e2;exact r
  ·rw [List.getElem?_set_ne (Ne.symm hm)]at e2
   have hb:b≠a:=fun z=>by
    rcases R.h.nd m n a (z▸e1) ha with q|⟨vs,q⟩
    ·exact hm q
    ·exact ht vs q
   refine RO.keep (R.h.ob m b ob e1 e2) (fun _ _ e=>e) fun c x e w=>?_
   rcases w with rfl|⟨oz,fs,rfl⟩
   ·rw [Qe hb];exact e
   ·rw [Qe (fun z=>by rw [z,e0]at e;cases e;exact nx _ _ rfl)];exact e
 ·obtain⟨ob,u,z⟩:=z
  have hb:A.s≠a:=fun q=>by rw [q,e0]at e;cases e;exact nf _ _ z
  rw [Qe hb];exact e
theorem Rep.put(R:Rep T A K α hs H)(ha:α[n]?=some a)(r:RO T A α (upd H a ho) a o)(hz:∀ob u,H a≠some (.frz ob u):=by intro _ _ z;simp only [*,Option.some.injEq,reduceCtorEq]at z)(ht:∀vs,H a≠some (.tup vs):=by intro _ z;simp only [*,Option.some.injEq,reduceCtorEq]at z)(hh:∀vs,ho≠.tup vs:=by intro _ z;cases z):Rep T A K α (hs.set n o) (upd H a ho)/\Ext α α H (upd H a ho):=by
 refine⟨R.put0 ha r ht,⟨fun _ _ e=>e,fun m b e l=>by have:=getElem?_lt e;omega,fun b x e hb=>?_,fun b ob kv e=>?_,fun b x e=>?_⟩⟩
 ·have hb':b≠a:=fun z=>hb (z▸List.mem_of_getElem? ha);rw [Qe hb'];exact e
 ·have hb':b≠a:=fun z=>hz ob kv (z▸e);rw [Qe hb'];exact e
 ·by_cases hb':b=a
  ·subst hb';exact⟨ho,Qi,fun vs=>⟨fun z=>absurd (z▸e) (ht vs),fun z=>absurd z (hh vs)⟩⟩
  ·exact⟨x,by rw [Qe hb'];exact e,fun _=>Iff.rfl⟩
theorem RS.get(R:RS A α Z Y){i:Nat}{u:U}(e:Z[i]?=some (some u)):∃v,Y[i]?=some (some v)/\RU A α u v:=R.val i u e
theorem RS.set(R:RS A α Z Y)(i:Nat)(r:RU A α u v):RS A α (Z.set i (some u)) (Y.set i (some v)):=by
 refine⟨by simp [R.len],fun j w e=>?_⟩
 by_cases h:j=i
 ·subst h
  have l:j < Z.length:=by
   have:=(List.getElem?_eq_some_iff.mp e).1;simpa using this
  rw [List.getElem?_set_self l]at e;cases e
  exact⟨v,List.getElem?_set_self (by rw [<-R.len];exact l),r⟩
 ·rw [List.getElem?_set_ne (Ne.symm h)]at e;rw [List.getElem?_set_ne (Ne.symm h)];exact R.val j w e
end
def flE(A:Adr)(α:List Addr)(D:Ends)(Y:St)(H:Hp):Fl->Prop
 | .next=>D.nx Y H
 | .brk=>D.bk Y H
 | .cont=>D.ct Y H
 | .ret u=>∀v,RU A α u v->D.rt v H
section
variable (T:Tbl)(A:Adr)(K:W.Frag)
def TI(f:Rho->Hs->Option (U×Hs)):TE:=fun Y H Q=>∃α Z hs u hs',RS A α Z Y/\Rep T A K α hs H/\f Z hs=some (u,hs') /\
 ∀α' v H',Ext α α' H H'->Rep T A K α' hs' H'->RU A α' u v->Q v H'
def TIT(f:Rho->Hs->Option (Bool×Hs)):TT:=fun Y H Q=>∃α Z hs u hs',RS A α Z Y/\Rep T A K α hs H/\f Z hs=some (u,hs') /\
 ∀α' H',Ext α α' H H'->Rep T A K α' hs' H'->Q u H'
def TIA(f:Rho->Hs->Option (List U×Hs)):TA:=fun Y H Q=>∃α Z hs us hs',RS A α Z Y/\Rep T A K α hs H/\f Z hs=some (us,hs') /\
 ∀α' vs H',Ext α α' H H'->Rep T A K α' hs' H'->RUs A α' us vs->Q vs H'
def TIS(f:Ex):TS:=fun D Y H=>∃α Z hs fl ρ' hs',RS A α Z Y/\Rep T A K α hs H/\f Z hs=some (fl,ρ',hs') /\
 ∀α' Y' H',Ext α α' H H'->Rep T A K α' hs' H'->RS A α' ρ' Y'->flE A α' D Y' H' fl
end
section
variable {A:Adr}{K:W.Frag}{α:List Addr}{Z:Rho}{Y:St}{hs h1:Hs}
theorem TI.run{f:Rho->Hs->Option (U×Hs)}{u:U}{Q:VK}(rs:RS A α Z Y)(rp:Rep T A K α hs H)(h:f Z hs=some (u,h1))
  (k:∀α1 v H1,Ext α α1 H H1->Rep T A K α1 h1 H1->RU A α1 u v->RS A α1 Z Y->Q v H1):TI T A K f Y H Q :=
 ⟨α,Z,hs,u,h1,rs,rp,h,fun α1 v H1 e r q=>k α1 v H1 e r q (rs.mono e.pre)⟩
theorem TIT.run{f:Rho->Hs->Option (Bool×Hs)}{u:Bool}{Q:Bool->Hp->Prop}(rs:RS A α Z Y)(rp:Rep T A K α hs H)(h:f Z hs=some (u,h1))
  (k:∀α1 H1,Ext α α1 H H1->Rep T A K α1 h1 H1->RS A α1 Z Y->Q u H1):TIT T A K f Y H Q :=
 ⟨α,Z,hs,u,h1,rs,rp,h,fun α1 H1 e r=>k α1 H1 e r (rs.mono e.pre)⟩
theorem TIA.run{f:Rho->Hs->Option (List U×Hs)}{us:List U}{Q:List V->Hp->Prop}(rs:RS A α Z Y)(rp:Rep T A K α hs H)(h:f Z hs=some (us,h1))
  (k:∀α1 vs H1,Ext α α1 H H1->Rep T A K α1 h1 H1->RUs A α1 us vs->RS A α1 Z Y->Q vs H1):TIA T A K f Y H Q :=
 ⟨α,Z,hs,us,h1,rs,rp,h,fun α1 v H1 e r q=>k α1 v H1 e r q (rs.mono e.pre)⟩
end
section
variable {X:Cx}
theorem QO{t t':TE}(h:PE X e t)(i:∀Y H Q,t' Y H Q->t Y H Q):PE X e t':=fun pins s Y H Q I q=>h pins s Y H Q I (i Y H Q q)
theorem QhR{t t':TT}(h:PT X e t)(i:∀Y H Q,t' Y H Q->t Y H Q):PT X e t':=fun pins s Y H Q I q=>h pins s Y H Q I (i Y H Q q)
theorem QkC{t t':TT}(h:PW X e t)(i:∀Y H Q,t' Y H Q->t Y H Q):PW X e t':=fun wh pins s Y H Q I q=>h wh pins s Y H Q I (i Y H Q q)
theorem QkE{es:List Expr}{t t':TA}(h:PA X es t)(i:∀Y H Q,t' Y H Q->t Y H Q):PA X es t':=fun pos pins s Y H Q I q=>h pos pins s Y H Q I (i Y H Q q)
theorem Zy{st:Stmt}{t t':TS}(h:PS X st t)(i:∀D Y H,t' D Y H->t D Y H):PS X st t':=fun pins s Y H D I q=>h pins s Y H D I (i D Y H q)
theorem QfV{st:List Stmt}{t t':TS}(h:PSs X st t)(i:∀D Y H,t' D Y H->t D Y H):PSs X st t':=fun pins s Y H D I q=>h pins s Y H D I (i D Y H q)
end
end
section
variable {A:Adr}{C:Ctx}{X:Cx}{x:Str}{mg:Str->Option Value}{T:Tbl}
noncomputable def tyV:Ty->String
 | .non=>"NoneType"|.bool=>"bool"|.int=>"int"|.str=>"str"|.list=>"list"|.tuple=>"tuple"|.dict=>"dict"|.cls _=>"object"|.vale=>"ValueError"
noncomputable def tyW(A:Adr):Ty->Value
 | .cls c=>.ref (A.c c)
 | t=>.type (tyV t)
structure ClOk(T:Tbl)(A:Adr)(K:W.Frag)(i:Nat)(C:Cl):Prop where
 cls:Cls K (A.c i)
 nf:∀x∈T.fns',NoAttr K (A.c i) x
 me:∀m f,C.meths.lookup m=some f->∃x,T.mns[m]?=some x/\Meth K (A.c i) x (A.f f)
 mks:W.makesIn K (A.c i)=true
 kp:W.keepIn K (.ref (A.c i))=true
 ini:match C.init with
  | some f => W.findIn K (.ref (A.c i)) "__init__" = some (some (.ref (A.f f))) /\ W.isFn K (.ref (A.f f)) = true
  | none=>W.findIn K (.ref (A.c i)) "__init__"=some (some (.builtin "object.__init__"))
 ty:∀(H:Hp) (a dx:Addr) (fs:List (Str×V)),H a=some (.ins (A.c i) dx fs)->TyOf K H (.ref a) (.ref (A.c i))
structure FunD(K:W.Frag)(x qual:Str)(st:Stmt)(f:Addr)(fd:FuncData):Prop where
 ex:∃(oc:Value) (od:Option Addr) (dV kV doc pm:Value) (an:Option Addr) (cdv ct:Value) (osl:Array (Option Value)),
  fd=W.fnOf x qual (Jz st) (Zs st) (Qy st) dV kV doc pm an cdv ct/\K.lookup f=some ⟨oc,od,.func fd,osl⟩/\W.codeIn K cdv qual=true
 kp:W.keepIn K (.ref f)=true
theorem FunD.ok{P:Program}{w:World}{K:W.Frag}{base:Heap}{qual:Str}{st:Stmt}{f:Addr}{fd:FuncData}{N ps:List Str}{k:Nat}{sp:Sp}(F:FunD K x qual st f fd)(S:FnScope N ps (Qy st))(len:∀vs H Q E,sp vs H Q E->vs.length=ps.length)
  (hbody:∀(cdv:Value) (A:Around) (outer:List Env) (s:Shared) (H:Hp) (vs:List V) (Q:VK) (E:XK),Room k (A.deeper (envOfC qual (Qy st) s.heap.objs.size f cdv))->sp vs H Q E ->
   ∃t,PSs (QfO CX0 P w K mg base N qual (Qy st) f cdv A outer s H E).nox (Zs st) t/\t { nx:=fun _ H'=>Q .non H',rt:=Q } (start N vs) H):FnOk P w K mg base CX0 (k+1) f fd ps sp:=by
 obtain⟨oc,od,dV,kV,doc,pm,an,cdv,ct,osl,rfl,lk,hcd⟩:=F.ex;refine Qmk lk hcd S len fun A outer s H vs Q E hr hsp=>?_;obtain⟨t,h,q⟩:=hbody cdv A outer s H vs Q E hr hsp;exact⟨t,h.nox,q⟩
theorem FunD.same{K:W.Frag}{y q q':Str}{st st':Stmt}{f:Addr}{fd fd':FuncData}(a:FunD K x q st f fd)(b:FunD K y q' st' f fd'):fd=fd':=by
 obtain⟨_,_,_,_,_,_,_,_,_,_,_,l1,_⟩:=a.ex;obtain⟨_,_,_,_,_,_,_,_,_,_,_,l2,_⟩:=b.ex;rw [l1]at l2;cases l2;rfl
def Qh4(A:Adr)(K:W.Frag)(fd:FuncData)(D:Df):Prop:=∃(ds:List Value) (dvs:List V),RUs A [] D.ds dvs/\Vals dvs ds/\(∀n,Binds K fd D.ps (ds.drop n))
def QdW(K:W.Frag)(mg:Str->Option Value)(C:Addr)(x:Str):Prop:=W.hasDictIn K C=true/\W.findIn K (.ref C) x=some none/\∃fI fd ps,Exi K C fI/\Binds K fd ps [.none]/\∀P w base,FnOk P w K mg base CX0 2 fI fd ps (spI C x .non)
structure Txt(T:Tbl)(A:Adr)(K:W.Frag)(mg:Str->Option Value):Prop where
 fn:∀i F,T.fns[i]?=some F->∃fd,FunD K F.name F.qual F.st (A.f i) fd/\Binds K fd F.ps []/\FnScope F.N F.ps (Qy F.st)/\F.ps.length=F.np/\F.N.length=F.nN
 df:∀i D,T.dfl.lookup i=some D->∃fd x q st,FunD K x q st (A.f i) fd/\Qh4 A K fd D/\∀F,T.fns[i]?=some F->F.ps=D.ps/\F.np=D.np
 cl:∀i C,T.cls[i]?=some C->ClOk T A K i C
 fm:∀x∈T.fns',x∉T.mns
 fd:T.fns'.Nodup
 isi:∀k t b,T.isi.lookup (k,t)=some b->W.kitOne K (tyW A k) (tyW A t)=some b
 co:∀k c,T.cons[k]?=some c->match c with
  | Co.tup xs=>∃vs,RUs A [] xs vs/\∀H,SqT K H (A.k k) vs
  | Co.lst xs=>∃vs,RUs A [] xs vs/\∀H,SqL K H (A.k k) vs
  | Co.tab _=>True
 er : ∀ c, T.ers.contains c = true -> ErrCls K (A.c c) /\ ((∀ f, T.efl.contains (c, f) = false) /\ W.excIn K (A.c c) Qd5 "ValueError.__new__" = true \/ ∃ f x, T.efl.contains (c, f) = true /\ (∀ f', T.efl.contains (c, f') = true -> f' = f) /\ T.fns'[f]? = some x /\ QdW K mg (A.c c) x)
 es:∀c c',T.esb.contains (c,c')=true->W.exmOne K (.ref (A.c c)) (.ref (A.c c'))=some true
def Ql6:U->Key->Prop
 | .int i 0,k=>k=.inl i
 | .str x,k=>k=.inr ⟨x.toArray⟩
 | _,_=>False
def QaZ(P:Program)(w:World)(T:Tbl)(A:Adr)(K:W.Frag):Prop:=∀k kvs,T.cons[k]?=some (.tab kvs) ->
 ∃vs:List (Key×Value),(A.k k==sysModules)=false/\(∀h:Heap,K.In h->h.DictOf (Qv P w) (A.k k) vs)/\Paired (fun(p:U×U) (q:Key×Value)=>Ql6 p.1 q.1/\∃v,RU A [] p.2 v/\RelV v q.2) kvs vs
structure GX(T:Tbl)(A:Adr)(C:Ctx)(X:Cx):Prop where
 CT:C.T=T
 N:X.N=C.N
 nd:X.N.Nodup
 sc:X.env.scope.names=C.names
 calm:hdC C=false->X.calm=true
 kind:X.env.scope.kind=.function
 xe:X.xe=fun _ _=>False
 gfn:∀x i,C.gl.lookup x=some (.fn i)->X.mg x=some (.ref (A.f i))
 gcl:∀x i,C.gl.lookup x=some (.cls i)->X.mg x=some (.ref (A.c i))
 gco:∀x k,C.gl.lookup x=some (.con k)->X.mg x=some (.ref (A.k k))
 gtx:∀x t,C.gl.lookup x=some (.txt t)->∃k,X.mg x=some (.str ⟨t.toArray⟩ k)
 blt:∀x,¬C.bl.contains x=false->X.mg x=none
 txt:Txt T A X.K X.mg
 tab:QaZ X.prog X.w T A X.K
def spC(T:Tbl)(A:Adr)(K:W.Frag)(cf:Cf)(f:Nat):Sp:=fun vs H Q _=>∃α us hs u hs',RUs A α us vs/\Rep T A K α hs H/\cf f us hs=some (u,hs')/\(∃F,T.fns[f]?=some F/\us.length=F.np) /\
 ∀α' v H',Ext α α' H H'->Rep T A K α' hs' H'->RU A α' u v->Q v H'
def spX(T:Tbl)(A:Adr)(K:W.Frag)(xf:Nat->List U->Hs->Option (Nat×Hs))(f:Nat):Sp:=fun vs H _ E=>∃α us hs c hs',RUs A α us vs/\Rep T A K α hs H/\xf f us hs=some (c,hs')/\(∃F,T.fns[f]?=some F/\us.length=F.np) /\
 ∀α' H' dd,Ext α α' H H'->Rep T A K α' hs' H'->EF T H' c dd->E (.ref (A.c c)) dd H'
theorem Q7{x:Str}:∀{N:List Str} {i:Nat},idx x N=some i->N[i]?=some x
 | [],_,h=>by simp [idx]at h
 | y::r,i,h=>by
  unfold idx at h;split at h
  ·rename_i e;cases h;simp [e]
  ·cases q:idx x r with
   | none=>rw [q]at h;cases h
   | some j =>
    rw [q]at h;cases h;simpa using Q7 q
theorem Qia(g:GX T A C X)(h:QeJ C x=true):Vis X.env.scope x:=by
 unfold QeJ at h;unfold Vis;rw [g.sc];split at h<;>simp_all
theorem YW(g:GX T A C X)(h:YL C x=true):L2.Loc X.env.scope x:=by
 unfold YL at h;unfold L2.Loc;rw [g.sc];split at h<;>simp_all
theorem Q8(g:GX T A C X)(h:YH C x=true):Gl X x:=by
 unfold YH at h;show X.env.scope.names.lookup x=some .globalImplicit;rw [g.sc];split at h
 ·assumption
 ·cases h
theorem Q4{y:Str}(h:x≠y):(x==y)=false:=by simpa using h
theorem Zb{o:Expr}{f:Str}{env:Env}{w:Sem Value}(h:Zc o=true):attributeBase o f env w=w:=by
 unfold attributeBase;split
 ·cases h
 ·rfl
theorem QbW{b:Expr}(h:ZJ b=true):QdT b:=by
 intro o i
 cases b<;>first|rfl|cases h
theorem Qp{e:Expr}{es:List Expr}{env:Env}(h:∀x p,e≠.Starred x p):starEach (e::es) env=(false,eval e env)::starEach es env:=by
 cases e<;>first|rfl|exact absurd rfl (h _ _)
def YE(es:List Expr):Prop:=∀e∈es,∀x p,e≠.Starred x p
theorem Zh{env:Env}{pos:Pos}:∀{es:List Expr},YE es->(backTo pos (starEach es env)).any (·.1)=false
 | [],_=>rfl
 | e::r,h=>by
  rw [Qp (h e (List.mem_cons_self ..))];have ih:=Zh (env:=env) (pos:=pos) (es:=r) fun x hx=>h x (List.mem_cons_of_mem _ hx);unfold backTo at ih ⊢;rw [List.map_cons,List.any_cons,ih];rfl
theorem Qz{m:Nat}{e:Expr}{ir:E}(h:Qg m C e=some ir):∀x p,e≠.Starred x p:=by
 rintro x p rfl
 cases m<;>first|exact Znn h|simp [Qg]at h
theorem QA{C:Ctx}:∀{m:Nat} {es:List Expr} {irs:List E},compA m C es=some irs->YE es
 | 0,_,_,h=>by simp [compA]at h
 | m+1,[],_,_=>fun _ h=>nomatch h
 | m+1,e::r,irs,h=>by
  simp only [compA,Option.bind_eq_some_iff]at h;obtain⟨e',he,r',hr,_⟩:=h;intro x hx
  rcases List.mem_cons.mp hx with rfl|hx
  ·exact Qz he
  ·exact QA hr x hx
section
variable {K:W.Frag}{α:List Addr}{hs:Hs}{H:Hp}{u:U}{v:V}
theorem RUs.length{us:List U}{vs:List V}(r:RUs A α us vs):us.length=vs.length:=Paired.length r
theorem RUs.get:∀{us:List U} {vs:List V} {i:Nat} {u:U},RUs A α us vs->us[i]?=some u->∃v,vs[i]?=some v/\RU A α u v
 | _,_,_,_,.nil,e=>by simp at e
 | _,_,0,_,.cons r _,e=>by simp at e;subst e;exact⟨_,rfl,r⟩
 | _,_,i+1,u,.cons _ t,e=>by
  obtain⟨v,h1,h2⟩:=RUs.get (i:=i) (u:=u) t (by simpa using e)
  exact⟨v,by simpa using h1,h2⟩
theorem RUs.append:∀{us ws:List U} {vs ys:List V},RUs A α us vs->RUs A α ws ys->RUs A α (us++ws) (vs++ys)
 | _,_,_,_,.nil,s=>s
 | _,_,_,_,.cons r t,s=>.cons r (RUs.append t s)
theorem Jm{xs:List U}{K':W.Frag}(tx:Txt T A K mg)(R:Rep T A K α hs H)(h:ZR T u hs=some xs)(r:RU A α u v):∃a vs,v=.ref a/\RUs A α xs vs/\(SqL K H a vs\/SqT K H a vs):=by
 cases u with
 | ref n =>
  obtain⟨a,ha,rfl⟩:=r;simp only [ZR]at h;split at h
  ·rename_i ys e;cases h;obtain⟨vs,q,rr⟩:=R.h.ob n a _ ha e;exact⟨a,vs,rfl,rr,.inl (SqL.of q)⟩
  ·rename_i ys e;cases h;obtain⟨vs,q,rr⟩:=R.h.ob n a _ ha e;exact⟨a,vs,rfl,rr,.inr (SqT.of q)⟩
  ·cases h
 | con k =>
  simp only [ZR]at h;split at h
  ·rename_i ys e;cases h;obtain⟨vs,rr,q⟩:=tx.co k _ e
   exact⟨_,vs,r,RUs.mono (fun n a e=>by simp at e) rr,.inl (q H)⟩
  ·rename_i ys e;cases h;obtain⟨vs,rr,q⟩:=tx.co k _ e
   exact⟨_,vs,r,RUs.mono (fun n a e=>by simp at e) rr,.inr (q H)⟩
  ·cases h
 | scr =>
  simp only [ZR]at h;cases h;obtain⟨vs,rr,q⟩:=R.s.sq (α:=α);exact⟨_,vs,r,rr,.inl q⟩
 | _=>simp [ZR]at h
theorem YA(x:List Nat):({ cps:=x.toArray }:Str).length=x.length:=by simp [Str.length]
theorem big:(1000000:Nat)<=sizeLine:=by decide
theorem Qcz{b:Bool}(tx:Txt T A K mg)(R:Rep T A K α hs H)(h:Yl T u hs=some b)(r:RU A α u v):QkB K v H b:=by
 have sq:∀{xs:List U},ZR T u hs=some xs->b=!xs.isEmpty->QkB K v H b:=fun {xs} e1 e2=>by
  obtain⟨a,vs,rfl,rr,q⟩:=Jm (K':=K) tx R e1 r
  have e3:b=!vs.isEmpty:=by
   rw [e2];cases rr<;>rfl
  rcases q with q|q
  ·exact .inl ⟨vs,q,e3⟩
  ·exact .inr (.inl ⟨vs,q,e3⟩)
 cases u with
 | non=>simp only [Yl]at h;cases h;cases r;rfl
 | bl c=>simp only [Yl]at h;cases h;cases r;rfl
 | int i m =>
  cases m with
  | zero =>
   simp only [Yl]at h;cases h;obtain⟨j,rfl,c⟩:=r;cases c.exact;show decide (i≠0)=(i != 0);by_cases q:i=0<;>simp [q]
  | succ m=>simp [Yl,ZR]at h
 | str x =>
  simp only [Yl]at h;split at h
  ·rename_i l;cases h;cases(show v=.str ⟨x.toArray⟩from r)
   refine⟨by rw [YA];exact Nat.le_trans l big,?_⟩
   rw [YA];cases x<;>simp;omega
  ·cases h
 | ref n =>
  simp only [Yl,Option.map_eq_some_iff]at h;obtain⟨xs,e1,e2⟩:=h;exact sq e1 e2.symm
 | con n =>
  simp only [Yl,Option.map_eq_some_iff]at h;obtain⟨xs,e1,e2⟩:=h;exact sq e1 e2.symm
 | scr =>
  simp only [Yl,Option.map_eq_some_iff]at h;obtain⟨xs,e1,e2⟩:=h;exact sq e1 e2.symm
end
end
section
variable {i i' j:Int}{m:Nat}
theorem QfQ{j':Int}{n:Nat}(a:Cg i' i m)(b:Cg j' j n):Cg (i'+j') (i+j) (gz m n):=by
 obtain⟨p,rfl⟩:=a;obtain⟨q,rfl⟩:=b
 cases m with
 | zero=>exact⟨q,by simp [gz];omega⟩
 | succ m =>
  obtain⟨x,hx⟩:=Nat.gcd_dvd_left (m+1) n;obtain⟨y,hy⟩:=Nat.gcd_dvd_right (m+1) n;refine⟨x*p+y*q,?_⟩
  have e1:((m+1:Nat):Int)=(Nat.gcd (m+1) n:Int)*(x:Int):=by
   have:=congrArg (fun z:Nat=>(z:Int)) hx;simpa using this
  have e2:(n:Int)=(Nat.gcd (m+1) n:Int)*(y:Int):=by
   have:=congrArg (fun z:Nat=>(z:Int)) hy;simpa using this
  show i+((m+1:Nat):Int)*p+(j+(n:Int)*q)=i+j+(Nat.gcd (m+1) n:Int)*(x*p+y*q);rw [Int.mul_add,<-Int.mul_assoc,<-Int.mul_assoc,<-e1,<-e2];omega
theorem QfP(a:Cg i' i m):Cg (-i') (-i) m:=by
 obtain⟨p,rfl⟩:=a
 exact⟨-p,by rw [Int.mul_neg];omega⟩
theorem Qkh{j':Int}{n:Nat}(a:Cg i' i m)(b:Cg j' j n):Cg (i'-j') (i-j) (gz m n):=by
 have:=QfQ a (QfP b);rw [Int.sub_eq_add_neg,Int.sub_eq_add_neg];exact this
theorem Qki(a:Cg i' i m):Cg (i'*j) (i*j) (m*j.natAbs):=by
 obtain⟨p,rfl⟩:=a
 rcases Int.natAbs_eq j with e|e
 ·refine⟨p,?_⟩;rw [Int.add_mul,Int.natCast_mul,<-e,Int.mul_right_comm]
 ·refine⟨-p,?_⟩
  have e':(j.natAbs:Int)=-j:=by omega
  rw [Int.add_mul,Int.natCast_mul,e',Int.mul_neg,Int.mul_neg,Int.neg_mul,Int.neg_neg,Int.mul_right_comm]
theorem Qkk(a:Cg i' i m)(hj:0<j)(hd:m % j.toNat=0):Cg (i' / j) (i / j) (m / j.toNat):=by
 obtain⟨p,rfl⟩:=a
 have e:(m:Int)=j*((m / j.toNat:Nat):Int):=by
  have h:=Nat.div_add_mod m j.toNat;rw [hd,Nat.add_zero]at h;have h2:=congrArg (fun z:Nat=>(z:Int)) h
  have h3:((j.toNat:Nat):Int)=j:=by omega
  simp only [Int.natCast_mul,h3]at h2;exact h2.symm
 refine⟨p,?_⟩
 rw [e,Int.mul_assoc,Int.add_mul_ediv_left _ _ (by omega)]
theorem Qkj(a:Cg i' i m)(hj:0<j)(hd:m % j.toNat=0):i' % j=i % j:=by
 obtain⟨p,rfl⟩:=a
 have e:(m:Int)=j*((m / j.toNat:Nat):Int):=by
  have h:=Nat.div_add_mod m j.toNat;rw [hd,Nat.add_zero]at h;have h2:=congrArg (fun z:Nat=>(z:Int)) h
  have h3:((j.toNat:Nat):Int)=j:=by omega
  simp only [Int.natCast_mul,h3]at h2;exact h2.symm
 rw [e,Int.mul_assoc,Int.add_mul_emod_self_left]
theorem Zu(h:QE i=true):-(2 ^ 64) < i/\i<2 ^ 64:=by
 unfold QE at h;rw [Bool.and_eq_true,decide_eq_true_eq,decide_eq_true_eq]at h;exact h
def OpS(X:Cx)(T:Tbl)(A:Adr)(o:Operator):Prop:=∃r,OpR X (binaryOp o) r/\∀{α:List Addr} {u w u':U} {hs hs':Hs} {v y:V} {H:Hp} {Q:VK},opU o u w hs=some (u',hs')->RU A α u v->RU A α w y->Rep T A X.K α hs H ->
 (∀α' v' H',Ext α α' H H'->Rep T A X.K α' hs' H'->RU A α' u' v'->Q v' H')->r v y H Q
section
variable {X:Cx}{T:Tbl}{A:Adr}
theorem QeA{o:Operator}(h:∀u w hs,opU o u w hs=none):OpS X T A o:=⟨fun _ _ _ _=>False,fun _ _ _ _ _ _ _ _ _ _ _ _ h=>h.elim,fun e=>by rw [h]at e;cases e⟩
theorem Qc6{o:Operator}{f:U->U->Option U}{r:R2}(ho:OpR X (binaryOp o) r)(hf:∀u w hs,opU o u w hs=(f u w).map fun z=>(z,hs))
  (h:∀{α:List Addr} {u w z:U} {v y:V} {H:Hp} {Q:VK},f u w=some z->RU A α u v->RU A α w y->(∀v',RU A α z v'->Q v' H)->r v y H Q):OpS X T A o:=by
 refine⟨r,ho,?_⟩;intro α u w u' hs hs' v y H Q e ru rw R k;rw [hf,Option.map_eq_some_iff]at e;obtain⟨z,e,q⟩:=e;cases q;exact h e ru rw fun v' r'=>k α v' H Ext.refl R r'
theorem ZN{α:List Addr}{v:V}(r:RU A α (.int i 0) v):v=.int i:=by
 obtain⟨j,rfl,c⟩:=r;cases c.exact;rfl
theorem QgS:OpS X T A .Sub:=Qc6 Qjj (fun _ _ _=>rfl) fun {α u w z v y H Q} h ru rw k=>by
 unfold Qlp at h;split at h
 ·cases h;obtain⟨i',rfl,a⟩:=ru;obtain⟨j',rfl,b⟩:=rw;exact⟨i',j',rfl,rfl,k _ ⟨_,rfl,Qkh a b⟩⟩
 ·cases h
theorem QgR:OpR X (binaryOp .Mult) (rI IntMulOk fun i j=>.int (i*j)):=opI fun _ _ _ _ _ _ _ hc q=>mul_int q hc
theorem QdN(h:QdO i=true):Builtin.Int.intBits i<=4096:=by
 have h:=of_decide_eq_true h;unfold Builtin.Int.intBits;split
 ·omega
 ·rename_i z
  have n0:i.natAbs≠0:=by simpa using z
  exact Nat.succ_le_of_lt ((Nat.log2_lt n0).mpr h)
theorem Qjy(h:(QE i||QE j||(QdO i&&QdO j))=true):IntMulOk i j:=by
 rw [Bool.or_eq_true,Bool.or_eq_true,Bool.and_eq_true]at h
 rcases h with(h|h)|h
 ·exact CMul.ok (.inl (Zu h))
 ·exact CMul.ok (.inr (Zu h))
 ·have h1:=QdN h.1;have h2:=QdN h.2;unfold IntMulOk
  have:Builtin.Int.intTooBig (Builtin.Int.intBits i+Builtin.Int.intBits j)=false:=by
   unfold Builtin.Int.intTooBig;rw [bitsLine_eq]
   exact decide_eq_false (by omega)
  rw [this];simp
theorem QgU:OpS X T A .Mult:=by
 refine⟨_,QgR,?_⟩;intro α u w u' hs hs' v y H Q e ru rw R k;have e:(Qjz u w).map (fun r=>(r,hs))=some (u',hs'):=e;rw [Option.map_eq_some_iff]at e;obtain⟨z,h,q⟩:=e;cases q;have k:∀v',RU A α u' v'->Q v' H:=fun v' r'=>k α v' H Ext.refl R r';unfold Qjz at h;split at h
 ·split at h
  ·rename_i c;cases h;cases ZN ru;cases ZN rw;exact⟨_,_,rfl,rfl,Qjy c,k _ ⟨_,rfl,Cg.refl _ _⟩⟩
  ·cases h
 ·split at h
  ·rename_i c;cases h;obtain⟨i',rfl,a⟩:=ru;cases ZN rw;exact⟨i',_,rfl,rfl,CMul.ok (.inr (Zu c)),k _ ⟨_,rfl,Qki a⟩⟩
  ·cases h
 ·cases h
def QmR(i j:Int):Prop:=0<j/\j<1606938044258990275541962092341162602522202993782792835301376
theorem Qez{X:Cx}:OpR X (binaryOp .FloorDiv) (rI QmR fun i j=>.int (i / j)):=opI fun i j _ _ _ _ _ hc q=>by
 have h1:(0:Int) < j:=hc.1;have h2:j<1606938044258990275541962092341162602522202993782792835301376:=hc.2
 have h3:j.natAbs.log2<9000:=by
  have h4:j.natAbs<2 ^ 9000:=Nat.lt_of_lt_of_le (show j.natAbs<2 ^ 200 by omega) (Nat.pow_le_pow_right (by decide) (by decide))
  rcases Nat.eq_zero_or_pos j.natAbs with z|z
  ·rw [z];decide
  ·exact(Nat.log2_lt (by omega)).mpr h4
 exact floordiv_int (by omega) (by rw [Int.fdiv_eq_ediv_of_nonneg i (by omega)];exact q) (.inl (PyProof.noPylong_of_log2 h3))
theorem QeB:OpS X T A .FloorDiv:=Qc6 Qez (fun _ _ _=>rfl) fun {α u w z v y H Q} h ru rw k=>by
 unfold Qmt at h;split at h
 ·split at h
  ·rename_i c;cases h;cases ZN ru;cases ZN rw;simp only [Bool.and_eq_true,decide_eq_true_eq]at c;exact⟨_,_,rfl,rfl,c,k _ ⟨_,rfl,Cg.refl _ _⟩⟩
  ·cases h
 ·split at h
  ·rename_i c;cases h;obtain⟨i',rfl,a⟩:=ru;cases ZN rw;simp only [Bool.and_eq_true,decide_eq_true_eq]at c;exact⟨i',_,rfl,rfl,c.1,k _ ⟨_,rfl,Qkk a c.1.1 c.2⟩⟩
  ·cases h
 ·cases h
theorem QgV:OpS X T A .Mod:=Qc6 Qjm (fun _ _ _=>rfl) fun {α u w z v y H Q} h ru rw k=>by
 unfold QjB at h;split at h
 ·split at h
  ·rename_i c;cases h;cases ZN ru;cases ZN rw;exact⟨_,_,rfl,rfl,c,k _ ⟨_,rfl,Cg.refl _ _⟩⟩
  ·cases h
 ·split at h
  ·rename_i c;cases h;obtain⟨i',rfl,a⟩:=ru;cases ZN rw;simp only [Bool.and_eq_true,decide_eq_true_eq]at c
   exact⟨i',_,rfl,rfl,c.1,k _ ⟨_,rfl,by rw [Qkj a c.1 c.2];exact Cg.refl _ _⟩⟩
  ·cases h
 ·cases h
theorem QgT:OpS X T A .Pow:=⟨fun _ _ _ _=>False,fun pins s Y H x y v u Q I rx ry h=>h.elim,fun {α u w u' hs hs' v y H Q} e=>Znn e⟩
theorem QgW:OpS X T A .Add:=by
 refine⟨_,OpR.or Qjs Qjr,?_⟩;intro α u w u' hs hs' v y H Q h ru rw R k;have h:QhP u w hs=some (u',hs'):=h;unfold QhP at h;split at h
 ·cases h;obtain⟨i',rfl,a⟩:=ru;obtain⟨j',rfl,b⟩:=rw;exact .inl ⟨i',j',rfl,rfl,k α _ H Ext.refl R ⟨_,rfl,QfQ a b⟩⟩
 ·rename_i a b;obtain⟨pa,ha,rfl⟩:=ru;obtain⟨pb,hb,rfl⟩:=rw;split at h
  ·rename_i ox oy e1 e2;have o1:=R.h.ob _ pa _ ha e1;have o2:=R.h.ob _ pb _ hb e2;unfold QmC at h;split at h
   ·rename_i xs ys;split at h
    ·rename_i c;cases h;obtain⟨vs,q1,r1⟩:=o1;obtain⟨ws,q2,r2⟩:=o2;refine .inr ⟨pa,pb,vs,ws,rfl,rfl,q1,q2,?_,fun p hp=>?_⟩
     ·rw [<-r1.length,<-r2.length];exact Nat.le_trans c big
     ·obtain⟨R',E'⟩:=R.new (o:=.lst (xs++ys)) hp ⟨_,Qi,RUs.mono QF (r1.append r2)⟩
      exact k _ _ _ E' R' ⟨p,by rw [<-R.h.len];exact QM,rfl⟩
    ·cases h
   ·cases h
  ·cases h
 ·cases h
theorem opS(o:Operator):OpS X T A o:=by
 cases o with
 | Add=>exact QgW
 | Sub=>exact QgS
 | Mult=>exact QgU
 | FloorDiv=>exact QeB
 | Mod=>exact QgV
 | Pow=>exact QgT
 | _=>exact QeA fun u w hs=>rfl
end
end
section
section
variable {X:Cx}{T:Tbl}{A:Adr}{α:List Addr}{hs:Hs}{H:Hp}{u w:U}{v y:V}
theorem Q6{xs:List U}(tx:Txt T A X.K X.mg)(R:Rep T A X.K α hs H)(h:QU T u hs=some xs)(r:RU A α u v):∃a vs,v=.ref a/\RUs A α xs vs/\SqL X.K H a vs:=by
 cases u with
 | ref n =>
  obtain⟨a,ha,rfl⟩:=r;simp only [QU]at h;split at h
  ·rename_i ys e;cases h;obtain⟨vs,q,rr⟩:=R.h.ob n a _ ha e;exact⟨a,vs,rfl,rr,SqL.of q⟩
  ·cases h
 | con k =>
  simp only [QU]at h;split at h
  ·rename_i ys e;cases h;obtain⟨vs,rr,q⟩:=tx.co k _ e
   exact⟨_,vs,r,RUs.mono (fun n a e=>by simp at e) rr,q H⟩
  ·cases h
 | scr =>
  simp only [QU]at h;cases h;obtain⟨vs,rr,q⟩:=R.s.sq (α:=α);exact⟨_,vs,r,rr,q⟩
 | _=>simp [QU]at h
theorem Jf{xs:List U}(tx:Txt T A X.K X.mg)(R:Rep T A X.K α hs H)(h:Qas T u hs=some xs)(r:RU A α u v):∃a vs,v=.ref a/\RUs A α xs vs/\SqT X.K H a vs:=by
 cases u with
 | ref n =>
  obtain⟨a,ha,rfl⟩:=r;simp only [Qas]at h;split at h
  ·rename_i ys e;cases h;obtain⟨vs,q,rr⟩:=R.h.ob n a _ ha e;exact⟨a,vs,rfl,rr,SqT.of q⟩
  ·cases h
 | con k =>
  simp only [Qas]at h;split at h
  ·rename_i ys e;cases h;obtain⟨vs,rr,q⟩:=tx.co k _ e
   exact⟨_,vs,r,RUs.mono (fun n a e=>by simp at e) rr,q H⟩
  ·cases h
 | _=>simp [Qas]at h
def Qnx(T:Tbl)(A:Adr)(K:W.Frag)(b:Bool):R2:=fun x y H Q=>∃α u w hs,RU A α u x/\RU A α w y/\Rep T A K α hs H/\QaR T u w hs=true/\Q (.bl b) H
theorem Qbt{pins:List (Addr×Obj)}{s:Shared}{Y:L2.St}{H:Hp}{α:List Addr}{hs:Hs}{u w:U}{x y:V}{v z:Value}(tx:Txt T A X.K X.mg)(I:Inv X pins Y H s)(R:Rep T A X.K α hs H)(h:QaR T u w hs=true)(r1:RU A α u x)(r2:RU A α w y)(rx:RelV x v)(ry:RelV y z):
  ∃(a b:Addr) (i1 i2:List Value),v=.ref a/\z=.ref b/\s.heap.IsList a i1.toArray/\s.heap.IsList b i2.toArray/\(i1.toArray.size != i2.toArray.size)=true:=by
 unfold QaR at h;split at h
 ·rename_i xs ys e1 e2;obtain⟨a,vs,rfl,rr,sq⟩:=Q6 tx R e1 r1;obtain⟨b,ws,rfl,rr',sq'⟩:=Q6 tx R e2 r2;obtain⟨i1,q1,p1,_⟩:=I.list sq;obtain⟨i2,q2,p2,_⟩:=I.list sq';cases rx;cases ry;have l1:=rr.length;have l2:=rr'.length;have l3:=q1.length;have l4:=q2.length;have h:=of_decide_eq_true h;refine⟨a,b,i1,i2,rfl,rfl,p1.isList,p2.isList,?_⟩;simp only [List.size_toArray,bne_iff_ne,ne_eq];omega
 ·cases h
theorem Qjq(tx:Txt T A X.K X.mg)(hu:X.A.units+64<cLine):OpR X (compareOp .Eq) (Qnx T A X.K false):=by
 intro pins s Y H x y v u Q I rx ry h;obtain⟨α,u1,w1,hs,r1,r2,R,o1,q⟩:=h;obtain⟨a,b,i1,i2,rfl,rfl,p1,p2,z⟩:=Qbt tx I R o1 r1 r2 rx ry
 exact SeqAt.RcAt.lists_lengths p1 p2 z (by omega) _ _ _ _ ⟨.bl _,H,I,rfl,q⟩
theorem Qjl(tx:Txt T A X.K X.mg)(hu:X.A.units+64<cLine):OpR X (compareOp .NotEq) (Qnx T A X.K true):=by
 intro pins s Y H x y v u Q I rx ry h;obtain⟨α,u1,w1,hs,r1,r2,R,o1,q⟩:=h;obtain⟨a,b,i1,i2,rfl,rfl,p1,p2,z⟩:=Qbt tx I R o1 r1 r2 rx ry
 exact SeqAt.RcNeAt.lists_lengths p1 p2 z (by omega) _ _ _ _ ⟨.bl _,H,I,rfl,q⟩
def QiS(T:Tbl)(A:Adr)(K:W.Frag)(b:Bool):R2:=fun x y H Q=>∃α u w hs,RU A α u x/\RU A α w y/\Rep T A K α hs H/\QbS T u w hs=true/\Q (.bl b) H
theorem JJ{α:List Addr}:∀{xs:List U} {vs ws:List V} {i1 i2:List Value},(xs.all fun x=>match x with|.ref _=>true|_=>false)=true->RUs A α xs vs->RUs A α xs ws->Vals vs i1->Vals ws i2->i1=i2
 | [],_,_,_,_,_,r1,r2,q1,q2=>by cases r1;cases r2;cases q1;cases q2;rfl
 | x::xs,_,_,_,_,h,.cons a r1,.cons b r2,.cons c q1,.cons d q2=>by
  rw [List.all_cons,Bool.and_eq_true]at h
  cases x with
  | ref n =>
   obtain⟨p,hp,rfl⟩:=a;obtain⟨p',hp',rfl⟩:=b;rw [hp]at hp';cases hp';cases c;cases d;rw [JJ h.2 r1 r2 q1 q2]
  | _=>exact absurd h.1 (by simp)
theorem Qbe{pins:List (Addr×Obj)}{s:Shared}{Y:L2.St}{H:Hp}{α:List Addr}{hs:Hs}{u w:U}{x y:V}{v z:Value}(tx:Txt T A X.K X.mg)(I:Inv X pins Y H s)(R:Rep T A X.K α hs H)(h:QbS T u w hs=true)(r1:RU A α u x)(r2:RU A α w y)(rx:RelV x v)(ry:RelV y z):
  ∃(a b:Addr) (i1:List Value),v=.ref a/\z=.ref b/\s.heap.IsList a i1.toArray/\s.heap.IsList b i1.toArray:=by
 unfold QbS at h;split at h
 ·rename_i xs ys e1 e2;rw [Bool.and_eq_true]at h;obtain⟨h0,h⟩:=h;have h0:=of_decide_eq_true h0;subst h0;obtain⟨a,vs,rfl,rr,sq⟩:=Q6 tx R e1 r1;obtain⟨b,ws,rfl,rr',sq'⟩:=Q6 tx R e2 r2;obtain⟨i1,q1,p1,_⟩:=I.list sq;obtain⟨i2,q2,p2,_⟩:=I.list sq';cases rx;cases ry;cases JJ h rr rr' q1 q2;exact⟨a,b,i1,rfl,rfl,p1.isList,p2.isList⟩
 ·cases h
theorem Qjp(tx:Txt T A X.K X.mg)(hu:X.A.units+64<cLine):OpR X (compareOp .Eq) (QiS T A X.K true):=by
 intro pins s Y H x y v u Q I rx ry h;obtain⟨α,u1,w1,hs,r1,r2,R,o1,q⟩:=h;obtain⟨a,b,i1,rfl,rfl,p1,p2⟩:=Qbe tx I R o1 r1 r2 rx ry
 have rc:=SeqAt.RcAt.lists (A:=X.A) (e:=fun _=>true) p1 p2 rfl (by omega) fun j h1 h2=>SeqAt.EqAt.same _
 have al:(List.range i1.toArray.size).all (fun _=>true)=true:=by simp
 rw [al]at rc;exact rc _ _ _ _ ⟨.bl _,H,I,rfl,q⟩
theorem Qjk(tx:Txt T A X.K X.mg)(hu:X.A.units+64<cLine):OpR X (compareOp .NotEq) (QiS T A X.K false):=by
 intro pins s Y H x y v u Q I rx ry h;obtain⟨α,u1,w1,hs,r1,r2,R,o1,q⟩:=h;obtain⟨a,b,i1,rfl,rfl,p1,p2⟩:=Qbe tx I R o1 r1 r2 rx ry
 have rc:=SeqAt.RcNeAt.lists (A:=X.A) (e:=fun _=>true) p1 p2 rfl (by omega) fun j h1 h2=>SeqAt.EqAt.same _
 have al:(!(List.range i1.toArray.size).all (fun _=>true))=false:=by simp
 rw [al]at rc;exact rc _ _ _ _ ⟨.bl _,H,I,rfl,q⟩
end
end
section
variable {u:U}{v:V}
section
variable {κ κ':Type}[DecidableEq κ][DecidableEq κ']{P:κ->κ'->Prop}{A:Adr}{α:List Addr}{w:κ}{k:κ'}
abbrev RG(P:κ->κ'->Prop)(A:Adr)(α:List Addr):List (κ×U)->List (κ'×V)->Prop:=Paired fun p q=>P p.1 q.1/\RU A α p.2 q.2
def Inj(P:κ->κ'->Prop):Prop:=∀a b k l,P a k->P b l->(a=b↔k=l)
theorem RG.look(inj:Inj P)(hk:P w k):∀{kvs:List (κ×U)} {kv:List (κ'×V)},RG P A α kvs kv->(QS kvs w=none/\ZS kv k=none)\/∃u v,QS kvs w=some u/\ZS kv k=some v/\RU A α u v
 | _,_,.nil=>.inl ⟨rfl,rfl⟩
 | _,_,.cons (a:=p) (b:=q) r t=>by
  by_cases h:p.1=w
  ·have h':q.1=k:=(inj _ _ _ _ r.1 hk).mp h
   exact .inr ⟨p.2,q.2,by simp [QS,List.find?_cons,h],by simp [ZS,List.find?_cons,h'],r.2⟩
  ·have h':¬q.1=k:=fun z=>h ((inj _ _ _ _ r.1 hk).mpr z);have ih:=RG.look inj hk t
   have e1:∀l,QS (p::l) w=QS l w:=fun l=>by simp [QS,List.find?_cons,h]
   have e2:∀l,ZS (q::l) k=ZS l k:=fun l=>by simp [ZS,List.find?_cons,h']
   rw [e1,e2];exact ih
theorem RG.any(inj:Inj P)(hk:P w k):∀{kvs:List (κ×U)} {kv:List (κ'×V)},RG P A α kvs kv->(kvs.any fun p=>decide (p.1=w))=(kv.any fun p=>decide (p.1=k))
 | _,_,.nil=>rfl
 | _,_,.cons (a:=p) (b:=q) r t=>by
  rw [List.any_cons,List.any_cons,RG.any inj hk t,decide_eq_decide.mpr (inj _ _ _ _ r.1 hk)]
theorem RG.repl(inj:Inj P)(hk:P w k)(ru:RU A α u v):∀{kvs:List (κ×U)} {kv:List (κ'×V)},RG P A α kvs kv->RG P A α (kvs.map fun p=>if p.1=w then(p.1,u)else p) (kv.map fun p=>if p.1=k then(p.1,v)else p)
 | _,_,.nil=>.nil
 | _,_,.cons (a:=p) (b:=q) r t=>by
  refine .cons ?_ (RG.repl inj hk ru t);by_cases h:p.1=w
  ·have h':=(inj _ _ _ _ r.1 hk).mp h;simp only [h,h',if_true];exact⟨hk,ru⟩
  ·have h':¬q.1=k:=fun z=>h ((inj _ _ _ _ r.1 hk).mpr z);simp only [h,h',if_false];exact r
theorem RG.put(inj:Inj P)(hk:P w k)(ru:RU A α u v){kvs:List (κ×U)}{kv:List (κ'×V)}(r:RG P A α kvs kv):RG P A α (Qd1 kvs w u) (YJ kv k v):=by
 unfold Qd1 YJ;rw [RG.any inj hk r];split
 ·exact RG.repl inj hk ru r
 ·exact Paired.snoc r ⟨hk,ru⟩
theorem RG.merge(inj:Inj P){more:List (κ×U)}{mv:List (κ'×V)}(m:RG P A α more mv):∀{kvs:List (κ×U)} {kv:List (κ'×V)},RG P A α kvs kv->RG P A α (more.foldl (fun acc p=>Qd1 acc p.1 p.2) kvs) (mv.foldl (fun acc p=>YJ acc p.1 p.2) kv):=by
 induction m with
 | nil=>intro _ _ r;exact r
 | cons q _ ih=>intro _ _ r;exact ih (RG.put inj q.1 q.2 r)
end
theorem Qbx:Inj RK:=fun a b k l h h'=>by
 cases a<;>cases b<;>simp only [RK]at h h'<;>first|exact h.elim|exact h'.elim|skip
 ·obtain⟨rfl,rfl⟩:=h;obtain⟨rfl,rfl⟩:=h';simp
 ·obtain⟨rfl,rfl⟩:=h;subst h';simp
 ·subst h;obtain⟨rfl,rfl⟩:=h';simp
 ·subst h h';simp
section
variable {X:Cx}{T:Tbl}{A:Adr}{K:W.Frag}{α:List Addr}{hs:Hs}{H:Hp}{n:Nat}{a:Addr}{o:O}{w:U}{y:V}
theorem Qbu(hk:JF w=true)(r:RU A α w y):∃k,RK w k/\y=kV k:=by
 cases w with
 | int i m =>
  cases m with
  | zero=>obtain⟨j,rfl,c⟩:=r;cases c.exact;exact⟨Sum.inl i,⟨rfl,rfl⟩,rfl⟩
  | succ m=>cases hk
 | str x=>cases(show y=_ from r);exact⟨Sum.inr _,rfl,rfl⟩
 | _=>cases hk
theorem QaU{r:Option U}(R:Rep T A K α hs H)(ho:hs[n]?=some o)(ha:α[n]?=some a)(h:Jy o w hs=some r)(rw':RU A α w y):(r=none/\DGet H a y none)\/∃u v,r=some u/\DGet H a y (some v)/\RU A α u v:=by
 cases o with
 | dic kvs =>
  obtain⟨kv,e,rd⟩:=R.h.ob n a _ ha ho;simp only [Jy]at h;split at h
  ·rename_i c;cases h;obtain⟨k,rk,rfl⟩:=Qbu c rw';have g:=DGet.k (k:=k) e
   rcases RG.look Qbx rk rd with⟨h1,h2⟩|⟨u,v,h1,h2,h3⟩
   ·rw [h2]at g;exact .inl ⟨h1,g⟩
   ·rw [h2]at g;exact .inr ⟨u,v,h1,g,h3⟩
  ·cases h
 | fzd kvs =>
  obtain⟨kv,ob,e,rd⟩:=R.h.ob n a _ ha ho;simp only [Jy]at h;split at h
  ·rename_i c;cases h;obtain⟨k,rk,rfl⟩:=Qbu c rw';have g:DGet H a (kV k) (ZS kv k):=.inl ⟨kv,k,.inr ⟨ob,e⟩,rfl,rfl⟩
   rcases RG.look Qbx rk rd with⟨h1,h2⟩|⟨u,v,h1,h2,h3⟩
   ·rw [h2]at g;exact .inl ⟨h1,g⟩
   ·rw [h2]at g;exact .inr ⟨u,v,h1,g,h3⟩
  ·cases h
 | _=>cases h
theorem RG.length{κ κ':Type}{P:κ->κ'->Prop}{kvs:List (κ×U)}{kv:List (κ'×V)}(r:RG P A α kvs kv):kvs.length=kv.length:=Paired.length r
theorem Qhw{hs':Hs}(R:Rep T A K α hs H)(ho:hs[n]?=some o)(ha:α[n]?=some a)(h:QeW n o w u hs=some hs')(rw':RU A α w y)(ru:RU A α u v):∃H',DPut H a y v H'/\Rep T A K α hs' H'/\Ext α α H H':=by
 cases o with
 | dic kvs =>
  obtain⟨kv,e,rd⟩:=R.h.ob n a _ ha ho;simp only [QeW]at h;split at h
  ·rename_i c;cases h;obtain⟨k,rk,rfl⟩:=Qbu c.1 rw';have l:=RG.length rd;obtain⟨R',E'⟩:=R.put (o:=.dic (Qd1 kvs w u)) (ho:=.dK (YJ kv k v)) ha ⟨_,Qi,RG.put Qbx rk ru rd⟩
   exact⟨_,DPut.k e (Nat.lt_of_lt_of_le (by omega:kv.length<1000000) big),R',E'⟩
  ·cases h
 | _=>cases h
def QlC:R2:=fun x y H Q=>∃a v,x=.ref a/\DGet H a y (some v)/\Q v H
theorem Qhf(hu:X.A.units+1<cLine):IxR X QlC:=by
 intro value slice pins s Y H x y v u Q I rx ry h hs;obtain⟨a,z,rfl,g,q⟩:=h;obtain rfl:v=Value.ref a:=rx;have hT:=QaT I g;unfold subscriptTail;refine wpAny_bind ?_;rw [getitemInPython_of_ne hT.not_modules];refine wpAny_bind (wpAny_specialOf hT PySem.F.slot_dict_getitem.lookup ?_)
 have fin:wpAny (model X.prog X.w) X.A (subscripted slice false (.ref a) u) (fun r s₃=>wpAny (model X.prog X.w) X.A (letTemporaryGo value (.ref a) r >>= fun _=>pure r) (EP X pins Y Q) X.xe s₃) X.xe s:=by
  rw [hs];exact wpAny_operating (QdF hu I g ry fun w' s3 I3 rw'=>wpAny_bind (wpAny_letTemporaryGo (wpAny_pure ⟨z,H,I3,rw',q⟩)))
 first
  | exact wpAny_pure (wpAny_bind fin)
  | exact wpAny_bind (wpAny_pure (wpAny_bind fin))
  | exact wpAny_bind fin
def QnB(neg:Bool):R2:=fun x y H Q=>∃a o,y=.ref a/\DGet H a x o/\Q (.bl (if neg then !o.isSome else o.isSome)) H
theorem Qjo(hu:X.A.units+1<cLine):OpR X (compareOp .In) (QnB false):=by
 intro pins s Y H x y v u Q I rx ry h;obtain⟨a,o,rfl,g,q⟩:=h;obtain rfl:u=Value.ref a:=ry;exact QoW hu I g rx fun s3 I3=>⟨.bl o.isSome,H,I3,rfl,q⟩
theorem QjU{w:U}{y:V}{c neg:Bool}{Q:VK}(R:Rep T A K α hs H)(h:inD T w u hs=some c)(ru:RU A α u v)(rw':RU A α w y)(q:Q (.bl (if neg then !c else c)) H):QnB neg v y H Q:=by
 unfold inD at h;split at h
 ·rename_i n;split at h
  ·rename_i o e;simp only [Option.map_eq_some_iff]at h;obtain⟨r,h1,rfl⟩:=h;obtain⟨a,ha,rfl⟩:=rw'
   rcases QaU R e ha h1 ru with⟨rfl,g⟩|⟨u',v',rfl,g,_⟩
   ·exact⟨a,none,rfl,g,q⟩
   ·exact⟨a,some v',rfl,g,q⟩
  ·cases h
 ·cases h
def QlB:V->V->V->Hp->(Hp->Prop)->Prop:=fun o i v H Q=>∃a H',o=.ref a/\DPut H a i v H'/\Q H'
theorem Qeh(hu:X.A.units+1<cLine):QnX X QlB:=by
 intro pins s Y H o i v ov iv u Q I ro ri rv h;obtain⟨a,H',rfl,g,q⟩:=h;obtain rfl:ov=Value.ref a:=ro;exact QdE hu I g ri rv fun s4 I4=>⟨H',I4,q⟩
def QlD:V->List V->Hp->VK->Prop:=fun x vs H Q=>∃a y z o,x=.ref a/\vs=[y,z]/\DGet H a y o/\Q (o.getD z) H
theorem Qg5(hu:X.A.units+1<cLine):MtR X "dict.get" QlD:=by
 intro pins s Y H x vs v us Q I rx rv h;obtain⟨a,y,z,o,rfl,rfl,g,q⟩:=h;cases rx;obtain⟨uk,uy,rfl,rk,ry⟩:=Qcr rv;exact Qkc hu I g rk ry fun w' s' I' rw'=>⟨o.getD z,H,I',rw',q⟩
end
end
section
variable {i:Int}{α:List Addr}{u:U}{v:V}
section
variable {X:Cx}{T:Tbl}{A:Adr}
theorem Qmx{j:Int}:decide (V.int i=V.int j)=decide (i=j):=by
 by_cases e:i=j
 ·subst e;simp
 ·have:¬V.int i=V.int j:=fun q=>e (V.int.inj q);rw [decide_eq_false this,decide_eq_false e]
theorem Qmw{x y:List Nat}:decide (V.str ⟨x.toArray⟩=V.str ⟨y.toArray⟩)=decide (x=y):=by
 by_cases e:x=y
 ·subst e;simp
 ·have:¬V.str ⟨x.toArray⟩=V.str ⟨y.toArray⟩:=fun q=>e (by
   have q1:=V.str.inj q;have q2:=congrArg (fun s:Str=>s.cps.toList) q1
   simpa using q2)
  rw [decide_eq_false this,decide_eq_false e]
theorem Qmy{x y:Bool}:decide (V.bl x=V.bl y)=decide (x=y):=by cases x<;>cases y<;>rfl
theorem QfL{w:U}{y:V}{c:Bool}(h:eqS u w=some c)(ru:RU A α u v)(rw':RU A α w y):Qls v y=true/\decide (v=y)=c:=by
 cases u with
 | non =>
  cases(show v=_ from ru)
  cases w with
  | non=>cases(show y=_ from rw');cases h;exact⟨rfl,rfl⟩
  | bl b=>cases(show y=_ from rw');cases h;exact⟨rfl,rfl⟩
  | int j n=>obtain⟨_,rfl,_⟩:=rw';cases h;exact⟨rfl,rfl⟩
  | str x=>cases(show y=_ from rw');cases h;exact⟨rfl,rfl⟩
  | _=>exact Znn h
 | bl b =>
  cases(show v=_ from ru)
  cases w with
  | non=>cases(show y=_ from rw');cases h;exact⟨rfl,rfl⟩
  | bl b=>cases(show y=_ from rw');cases h;exact⟨rfl,Qmy⟩
  | str x=>cases(show y=_ from rw');cases h;exact⟨rfl,rfl⟩
  | _=>exact Znn h
 | str x =>
  cases(show v=_ from ru)
  cases w with
  | non=>cases(show y=_ from rw');cases h;exact⟨rfl,rfl⟩
  | bl b=>cases(show y=_ from rw');cases h;exact⟨rfl,rfl⟩
  | int j n=>obtain⟨_,rfl,_⟩:=rw';cases h;exact⟨rfl,rfl⟩
  | str z=>cases(show y=_ from rw');cases h;exact⟨rfl,Qmw⟩
  | _=>exact Znn h
 | int i m =>
  obtain⟨i',rfl,a⟩:=ru
  cases w with
  | non=>cases(show y=_ from rw');cases m<;>cases h<;>exact⟨rfl,rfl⟩
  | str x=>cases(show y=_ from rw');cases m<;>cases h<;>exact⟨rfl,rfl⟩
  | int j n =>
   obtain⟨j',rfl,b⟩:=rw'
   cases m with
   | succ m=>exact Znn h
   | zero =>
    cases n with
    | succ n=>exact Znn h
    | zero=>cases a.exact;cases b.exact;cases h;exact⟨rfl,Qmx⟩
  | _=>cases m<;>exact Znn h
 | _=>cases w<;>exact Znn h
def Qn0(X:Cx)(T:Tbl)(A:Adr)(o:CmpOp):Prop:=∃r,OpR X (compareOp o) r/\∀{α:List Addr} {u w:U} {hs:Hs} {v y:V} {H:Hp} {Q:VK} {c:Bool},ZP T o u w hs=some c->RU A α u v->RU A α w y->Rep T A X.K α hs H->Q (.bl c) H->r v y H Q
theorem QbD{o:CmpOp}{p:Int->Int->Bool}(ho:OpR X (compareOp o) (rI0 fun i j=>.bl (p i j)))(hc:∀u w hs,ZP T o u w hs=match u,w with|.int i 0,.int j 0=>some (p i j)|_,_=>none):Qn0 X T A o:=by
 refine⟨_,ho,?_⟩;intro α u w hs v y H Q c h ru rw' R q;rw [hc]at h;split at h
 ·cases h;obtain⟨i',rfl,a⟩:=ru;obtain⟨j',rfl,b⟩:=rw';cases a.exact;cases b.exact;exact⟨_,_,rfl,rfl,q⟩
 ·cases h
theorem QoY(tx:Txt T A X.K X.mg)(tab:QaZ X.prog X.w T A X.K)(hu:X.A.units+64<cLine)(o:CmpOp):Qn0 X T A o:=by
 cases o with
 | Eq =>
  refine⟨_,OpR.or QlT (OpR.or (Qjq tx hu) (Qjp tx hu)),?_⟩;intro α u w hs v y H Q c h ru rw' R q;simp only [ZP,eqA]at h;split at h
  ·rename_i b e;cases h;obtain⟨h1,h2⟩:=QfL e ru rw'
   exact .inl ⟨h1,by rw [h2];exact q⟩
  ·split at h
   ·rename_i c;cases h;exact .inr (.inl ⟨α,u,w,hs,ru,rw',R,c,q⟩)
   ·split at h
    ·rename_i c;cases h;exact .inr (.inr ⟨α,u,w,hs,ru,rw',R,c,q⟩)
    ·cases h
 | NotEq =>
  refine⟨_,OpR.or QlO (OpR.or (Qjl tx hu) (Qjk tx hu)),?_⟩;intro α u w hs v y H Q c h ru rw' R q;simp only [ZP,Option.map_eq_some_iff,eqA]at h;obtain⟨d,h,e⟩:=h;split at h
  ·rename_i b eb;cases h;obtain⟨h1,h2⟩:=QfL eb ru rw'
   exact .inl ⟨h1,by rw [h2,e];exact q⟩
  ·split at h
   ·rename_i cc;cases h;refine .inr (.inl ⟨α,u,w,hs,ru,rw',R,cc,?_⟩);rw [show(true:Bool)=c from e];exact q
   ·split at h
    ·rename_i cc;cases h;refine .inr (.inr ⟨α,u,w,hs,ru,rw',R,cc,?_⟩);rw [show(false:Bool)=c from e];exact q
    ·cases h
 | Lt=>exact QbD QlP fun _ _ _=>rfl
 | LtE=>exact QbD QlQ fun _ _ _=>rfl
 | Gt=>exact QbD QlR fun _ _ _=>rfl
 | GtE=>exact QbD QlS fun _ _ _=>rfl
 | Is =>
  refine⟨_,Qjn,?_⟩;intro α u w hs v y H Q c h ru rw' R q;simp only [ZP]at h;split at h
  ·cases h;refine⟨rw',?_⟩
   have e:decide (v=.non)=decide (u=.non):=by
    cases u with
    | non=>cases(show v=_ from ru);rfl
    | bl b=>cases(show v=_ from ru);rfl
    | int i m=>obtain⟨_,rfl,_⟩:=ru;rfl
    | str x=>cases(show v=_ from ru);rfl
    | ref n=>obtain⟨_,_,rfl⟩:=ru;rfl
    | con k=>cases(show v=_ from ru);rfl
    | scr=>cases(show v=_ from ru);rfl
   rw [e];exact q
  ·cases h
 | IsNot =>
  refine⟨_,QgQ,?_⟩;intro α u w hs v y H Q c h ru rw' R q;simp only [ZP]at h;split at h
  ·cases h;refine⟨rw',?_⟩
   have e:decide (v=.non)=decide (u=.non):=by
    cases u with
    | non=>cases(show v=_ from ru);rfl
    | bl b=>cases(show v=_ from ru);rfl
    | int i m=>obtain⟨_,rfl,_⟩:=ru;rfl
    | str x=>cases(show v=_ from ru);rfl
    | ref n=>obtain⟨_,_,rfl⟩:=ru;rfl
    | con k=>cases(show v=_ from ru);rfl
    | scr=>cases(show v=_ from ru);rfl
   rw [e];exact q
  ·cases h
 | In =>
  refine⟨_,Qjo (by omega),?_⟩
  intro α u w hs v y H Q c h ru rw' R q;exact QjU (neg:=false) R h ru rw' q
 | NotIn=>exact⟨fun _ _ _ _=>False,fun pins s Y H x y v u Q I rx ry h=>h.elim,fun {α u w hs v y H Q c} h=>Znn h⟩
theorem Qky{us:List U}{vs:List V}(r:RUs A α us vs)(h:atU us i=some u):∃v,atI vs i=some v/\RU A α u v:=by
 unfold atU at h;split at h
 ·rename_i j e;obtain⟨v,h1,h2⟩:=r.get h;refine⟨v,?_,h2⟩
  have e':ixN vs.length i=some j:=by rw [<-r.length];exact e
  unfold atI;rw [e'];exact h1
 ·cases h
theorem QmL{xs:List Nat}{c:Nat}(h:atU xs i=some c):atI xs i=some c:=by
 unfold atU at h;split at h
 ·rename_i j e;have e':ixN xs.length i=some j:=e;unfold atI;rw [e'];exact h
 ·cases h
theorem Qgb{w x:U}{hs:Hs}{y:V}{H:Hp}{Q:VK}(tx:Txt T A X.K X.mg)(h:Q9 T u w hs=some x)(ru:RU A α u v)(rw':RU A α w y)(R:Rep T A X.K α hs H)(k:∀z,RU A α x z->Q z H):rIx X.K v y H Q\/QlC v y H Q:=by
 have seq:∀{xs:List U} {i:Int},ZR T u hs=some xs->w=.int i 0->atU xs i=some x->rIx X.K v y H Q\/QlC v y H Q:=fun {xs i} e1 e2 e3=>by
  subst e2;obtain⟨j,rfl,c⟩:=rw';cases c.exact;obtain⟨a,vs,rfl,rr,sq⟩:=Jm (K':=X.K) tx R e1 ru;obtain⟨z,h1,h2⟩:=Qky rr e3
  rcases sq with sq|sq
  ·exact .inl (.inl ⟨a,vs,i,z,rfl,rfl,sq,h1,k z h2⟩)
  ·exact .inl (.inr (.inl ⟨a,vs,i,z,rfl,rfl,sq,h1,k z h2⟩))
 cases u with
 | str z =>
  cases w with
  | int i m =>
   cases m with
   | succ m=>simp [Q9,ZR]at h
   | zero =>
    simp only [Q9]at h;split at h
    ·rename_i l;simp only [Option.map_eq_some_iff]at h;obtain⟨c,e,rfl⟩:=h;cases(show v=_ from ru);obtain⟨j,rfl,q⟩:=rw';cases q.exact
     exact .inl (.inr (.inr ⟨_,i,c,rfl,rfl,by rw [YA];exact Nat.le_trans l big,by simpa using QmL e,k _ (by show _=_;rfl)⟩))
    ·cases h
  | _=>simp [Q9,ZR]at h
 | ref n =>
  simp only [Q9]at h;split at h
  ·rename_i xs i e
   exact seq (by simp only [ZR,e]) rfl h
  ·rename_i xs i e
   exact seq (by simp only [ZR,e]) rfl h
  ·rename_i o e _ _;obtain⟨a,ha,rfl⟩:=ru;simp only [Option.bind_eq_some_iff,id_eq]at h;obtain⟨r,h1,h2⟩:=h
   rcases QaU R e ha h1 rw' with⟨h3,_⟩|⟨u',v',h3,g,rv⟩
   ·rw [h3]at h2;cases h2
   ·rw [h3]at h2;cases h2;exact .inr ⟨a,v',rfl,g,k v' rv⟩
  ·cases h
 | con n =>
  cases w with
  | int i m =>
   cases m with
   | succ m=>simp [Q9]at h
   | zero =>
    simp only [Q9]at h;split at h
    ·rename_i xs e;exact seq e rfl h
    ·cases h
  | _=>simp [Q9]at h
 | scr =>
  cases w with
  | int i m =>
   cases m with
   | succ m=>simp [Q9]at h
   | zero =>
    simp only [Q9]at h;split at h
    ·rename_i xs e;exact seq e rfl h
    ·cases h
  | _=>simp [Q9]at h
 | _ =>
  cases w with
  | int i m=>cases m<;>simp [Q9,ZR]at h
  | _=>simp [Q9]at h
theorem RUs.drop{α:List Addr}:∀(n:Nat) {us:List U} {vs:List V},RUs A α us vs->RUs A α (us.drop n) (vs.drop n)
 | 0,_,_,r=>r
 | _+1,_,_,.nil=>.nil
 | n+1,_,_,.cons _ t=>RUs.drop n t
theorem RUs.take{α:List Addr}:∀(n:Nat) {us:List U} {vs:List V},RUs A α us vs->RUs A α (us.take n) (vs.take n)
 | 0,_,_,_=>.nil
 | _+1,_,_,.nil=>.nil
 | n+1,_,_,.cons r t=>.cons r (RUs.take n t)
theorem QbB(n d:Nat)(o:Option Int):Qcc n d o=HT.sIx n d o:=by cases o<;>rfl
theorem RUs.cut{us:List U}{vs:List V}(r:RUs A α us vs)(lo hi:Option Int):RUs A α (Qah us lo hi) (Qh0 vs lo hi):=by
 unfold Qah Qh0;rw [QbB,QbB,r.length];exact RUs.take _ (RUs.drop _ r)
theorem Qiv{x:U}{hs hs':Hs}{H:Hp}{Q:VK}{lo hi:Option Int}(h:slU T u lo hi hs=some (x,hs'))(ru:RU A α u v)(R:Rep T A X.K α hs H)(k:∀α' z H',Ext α α' H H'->Rep T A X.K α' hs' H'->RU A α' x z->Q z H'):Qnw X.K v lo hi H Q:=by
 cases u with
 | scr =>
  simp only [slU]at h;cases h;obtain⟨vs,rr,q⟩:=R.s.sq (α:=α);refine⟨_,vs,ru,q,fun p hp=>?_⟩;obtain⟨R',E'⟩:=R.new (o:=.lst (Qah T.scr lo hi)) hp ⟨_,Qi,RUs.mono QF (rr.cut lo hi)⟩
  exact k _ _ _ E' R' ⟨p,by rw [<-R.h.len];exact QM,rfl⟩
 | ref n =>
  simp only [slU]at h;split at h
  ·rename_i xs e;cases h;obtain⟨a,ha,rfl⟩:=ru;obtain⟨vs,q,rr⟩:=R.h.ob n a _ ha e;refine⟨_,vs,rfl,SqL.of q,fun p hp=>?_⟩;obtain⟨R',E'⟩:=R.new (o:=.lst (Qah xs lo hi)) hp ⟨_,Qi,RUs.mono QF (rr.cut lo hi)⟩
   exact k _ _ _ E' R' ⟨p,by rw [<-R.h.len];exact QM,rfl⟩
  ·cases h
 | _=>simp [slU]at h
end
end
section
variable {H:Hp}{hs:Hs}{α:List Addr}{us:List U}{vs:List V}{u:U}{v:V}
section
variable {X:Cx}{T:Tbl}{A:Adr}
theorem Z0{e:Expr}{t:TE}(h:∀Y H Q,¬t Y H Q):PE X e t:=fun _ _ Y H Q _ q=>(h Y H Q q).elim
theorem Ql5(K:W.Frag){k t:Ty}{b:Bool}(h:Ql9 k t=some b)(A:Adr):W.kitOne K (tyW A k) (tyW A t)=some b:=by
 cases k<;>cases t<;>simp only [Ql9]at h<;>first|(cases h;done)|(cases h;rfl)|(cases h;kernel_rfl)
theorem Qhc{k:Ty}(tx:Txt T A X.K X.mg)(h:Yv u hs=some k)(r:RU A α u v)(R:Rep T A X.K α hs H):TyE X.K H v (tyW A k):=by
 cases u with
 | non=>cases h;cases(show v=_ from r);exact .inl .non
 | bl b=>cases h;cases(show v=_ from r);exact .inl (.bl b)
 | int i m=>cases h;obtain⟨j,rfl,_⟩:=r;exact .inl (.int j)
 | str x=>cases h;cases(show v=_ from r);exact .inl (.str _)
 | ref n =>
  obtain⟨a,ha,rfl⟩:=r;simp only [Yv]at h;split at h
  ·rename_i xs e;cases h;obtain⟨vs,q,_⟩:=R.h.ob n a _ ha e;exact .inl (.lst q)
  ·rename_i xs e;cases h;obtain⟨vs,q,_⟩:=R.h.ob n a _ ha e;exact .inl (.tup q)
  ·rename_i c fs e;cases h;obtain⟨dx,fv,q,_,l⟩:=R.h.ob n a _ ha e;exact .inl ((tx.cl c _ (List.getElem?_eq_getElem l)).ty H a dx fv q)
  ·cases h
 | _=>simp [Yv]at h
theorem QjS{t:Ty}{b:Bool}(tx:Txt T A X.K X.mg)(h:YG T t u hs=some b)(r:RU A α u v)(R:Rep T A X.K α hs H):∃tv,TyE X.K H v tv/\W.kitOne X.K tv (tyW A t)=some b:=by
 unfold YG at h;split at h
 ·cases h
 ·rename_i k e;refine⟨tyW A k,Qhc tx e r R,?_⟩;split at h
  ·rename_i b' e';cases h;exact Ql5 X.K e' A
  ·exact tx.isi k t b h
theorem Ql(r:RUs A α (u::us) vs):∃v ws,vs=v::ws/\RU A α u v/\RUs A α us ws:=by cases r with|cons a b=>exact⟨_,_,rfl,a,b⟩
theorem Qx(r:RUs A α [] vs):vs=[]:=by cases r;rfl
def BiS(X:Cx)(T:Tbl)(A:Adr)(b:Bi)(f:Value):Prop:=∃r,CallR X f r/\∀{α:List Addr} {us:List U} {u':U} {hs hs':Hs} {vs:List V} {H:Hp} {Q:VK},biU T b us hs=some (u',hs')->RUs A α us vs->Rep T A X.K α hs H ->
 (∀α' v' H',Ext α α' H H'->Rep T A X.K α' hs' H'->RU A α' u' v'->Q v' H')->r vs H Q
theorem QfR{f:Value}:CallR X f (fun _ _ _=>False):=fun pins s Y H xs us Q I r h=>h.elim
theorem QhK(tx:Txt T A X.K X.mg):BiS X T A .len (.builtin "len"):=by
 refine⟨_,CallR.or (CallR.or Qam Qal) QfR,?_⟩;intro α us u' hs hs' vs H Q h r R k
 have seq:∀{u:U} {xs:List U},us=[u]->ZR T u hs=some xs->(u',hs')=(U.int xs.length 0,hs)->(∃p ys,vs=[V.ref p]/\(SqL X.K H p ys\/SqT X.K H p ys)/\Q (.int ys.length) H):=fun {u xs} e1 e2 e3=>by
  subst e1;cases e3;obtain⟨v,ws,rfl,ru,rn⟩:=Ql r;cases Qx rn;obtain⟨a,ys,rfl,rr,sq⟩:=Jm (K':=X.K) tx R e2 ru
  exact⟨a,ys,rfl,sq,k α _ H Ext.refl R ⟨_,rfl,by rw [rr.length];exact Cg.refl _ _⟩⟩
 cases us with
 | nil=>first|exact Znn h|simp [biU]at h
 | cons u t =>
  cases t with
  | cons _ _=>cases u<;>first|exact Znn h|simp [biU]at h
  | nil =>
   cases u with
   | str x =>
    unfold biU at h;try dsimp only at h;split at h
    ·rename_i l;cases h;obtain⟨v,ws,rfl,ru,rn⟩:=Ql r;cases Qx rn;cases(show v=_ from ru)
     refine .inl (.inr ⟨_,rfl,by rw [YA];exact Nat.le_trans l big,k α _ H Ext.refl R ⟨_,rfl,?_⟩⟩)
     rw [YA];exact Cg.refl _ _
    ·cases h
   | ref n =>
    unfold biU at h;try dsimp only at h;split at h
    ·rename_i xs e;exact .inl (.inl (seq rfl e (Option.some.inj h).symm))
    ·cases h
   | con n =>
    unfold biU at h;try dsimp only at h;split at h
    ·rename_i xs e;exact .inl (.inl (seq rfl e (Option.some.inj h).symm))
    ·cases h
   | scr =>
    unfold biU at h;try dsimp only at h;split at h
    ·rename_i xs e;exact .inl (.inl (seq rfl e (Option.some.inj h).symm))
    ·cases h
   | _=>unfold biU at h;simp [ZR]at h
theorem QdP:BiS X T A .tuple (.type "tuple"):=by
 refine⟨_,JC,?_⟩;intro α us u' hs hs' vs H Q h r R k
 cases us with
 | nil=>first|exact Znn h|simp [biU]at h
 | cons u t =>
  cases t with
  | cons _ _=>cases u<;>first|exact Znn h|simp [biU]at h
  | nil =>
   obtain⟨v,ws,rfl,ru,rn⟩:=Ql r;cases Qx rn
   cases u with
   | ref n =>
    obtain⟨a,ha,rfl⟩:=ru;unfold biU at h;try dsimp only at h;split at h
    ·rename_i xs e;cases h;obtain⟨ys,q,rr⟩:=R.h.ob n a _ ha e;refine⟨a,ys,rfl,.inl ⟨SqL.of q,fun p hp=>?_⟩⟩;obtain⟨R',E'⟩:=R.new (o:=.tup xs) hp ⟨_,Qi,RUs.mono QF rr⟩
     exact k _ _ _ E' R' ⟨p,by rw [<-R.h.len];exact QM,rfl⟩
    ·rename_i xs e;cases h;obtain⟨ys,q,rr⟩:=R.h.ob n a _ ha e;exact⟨a,ys,rfl,.inr ⟨SqT.of q,k α _ H Ext.refl R ⟨a,ha,rfl⟩⟩⟩
    ·cases h
   | _=>first|exact Znn h|simp [biU]at h
theorem QiO{k:Key}(h:RK u k):RU A α u (kV k):=by
 cases u<;>simp only [RK]at h<;>first|exact h.elim|skip
 ·obtain⟨rfl,rfl⟩:=h;exact⟨_,rfl,Cg.refl _ _⟩
 ·subst h;rfl
theorem Qe8(tx:Txt T A X.K X.mg)(hc:X.calm=true):BiS X T A .list (.type "list"):=by
 refine⟨_,CallR.or Qak QfR,?_⟩;intro α us u' hs hs' vs H Q h r R k
 cases us with
 | nil=>first|exact Znn h|simp [biU]at h
 | cons u t =>
  cases t with
  | cons _ _=>cases u<;>first|exact Znn h|simp [biU]at h
  | nil =>
   obtain⟨v,ws,rfl,ru,rn⟩:=Ql r;cases Qx rn
   have h:(match ZR T u hs with
    | some xs=>some (U.ref hs.length,hs++[O.lst xs])
    | none=>none)=some (u',hs'):=by
    cases u<;>exact h
   split at h
   ·rename_i xs e;cases h;obtain⟨a,ys,rfl,rr,sq⟩:=Jm (K':=X.K) tx R e ru;refine .inl ⟨a,ys,rfl,sq,fun p hp=>?_⟩;obtain⟨R',E'⟩:=R.new (o:=.lst xs) hp ⟨_,Qi,RUs.mono QF rr⟩
    exact k _ _ _ E' R' ⟨p,by rw [<-R.h.len];exact QM,rfl⟩
   ·cases h
theorem Jv{α:List Addr}:∀{ys:List U} {ns:List Int} {vs:List V},YM ys=some ns->RUs A α ys vs->vs=ns.map V.int
 | [],_,_,h,r=>by cases h;cases Qx r;rfl
 | u::ys,ns,vs,h,r=>by
  cases u with
  | int i m =>
   cases m with
   | succ m=>simp [YM]at h
   | zero =>
    simp only [YM,Option.map_eq_some_iff]at h;obtain⟨ns',h,rfl⟩:=h;obtain⟨v,ws,rfl,ru,rn⟩:=Ql r;obtain⟨j,rfl,c⟩:=ru;cases c.exact;rw [Jv h rn];rfl
  | _=>simp [YM]at h
theorem Qbz{i:Int}(r:RU A α (.int i 0) v):v=.int i:=by
 obtain⟨j,rfl,c⟩:=r;cases c.exact;rfl
theorem QhJ(tx:Txt T A X.K X.mg)(hc:X.calm=true):BiS X T A .sum (.builtin "sum"):=by
 refine⟨_,QdI hc,?_⟩;intro α us u' hs hs' vs H Q h r R k;have h:biL T .sum us hs=some (u',hs'):=h;unfold biL at h;split at h<;>try contradiction
 ·simp only [Option.bind_eq_some_iff,Option.map_eq_some_iff]at h;obtain⟨xs,el,ns,en,h⟩:=h;cases h;obtain⟨v,ws,rfl,ru,rn⟩:=Ql r;cases Qx rn;obtain⟨a,vs,rfl,rr,sq⟩:=Q6 tx R el ru;cases Jv en rr;exact⟨a,ns,rfl,sq,k α _ H Ext.refl R ⟨_,rfl,Cg.refl _ _⟩⟩
theorem QjR{k:List Int}(R:Rep T A X.K α hs H)(r:RU A α u v)(h:itU hs u=some k):k≠[]/\∃b,v=.ref b/\SqT X.K H b (k.map V.int):=by
 unfold itU at h;split at h
 case h_2=>cases h
 obtain⟨a,ha,rfl⟩:=r;split at h
 case h_2=>cases h
 rename_i k0 ks e;obtain⟨vs,q,rr⟩:=R.h.ob _ a _ ha e;have hl:=rr.length;cases Jv h rr;refine⟨fun z=>?_,a,rfl,SqT.of q⟩;subst z;simp at hl
theorem Qdl{hs:Hs}{H:Hp}(R:Rep T A X.K α hs H):∀{xs:List U} {ys:List V} {ks:List (List Int)},RUs A α xs ys->Qhi hs xs=some ks->QkA X.K H ys ks
 | [],ys,ks,rr,h=>by
  cases h;cases rr
  exact⟨rfl,fun i y k e=>by simp at e⟩
 | u::us,ys,ks,rr,h=>by
  simp only [Qhi,Option.bind_eq_some_iff,Option.map_eq_some_iff]at h;obtain⟨k,hk,ks',hks,rfl⟩:=h;obtain⟨v,ws,rfl,ru,rn⟩:=Ql rr;obtain⟨l,f⟩:=Qdl R rn hks
  refine⟨by simp [l],fun i y k' e1 e2=>?_⟩
  cases i with
  | zero =>
   simp at e1 e2;subst e1 e2;exact QjR R ru hk
  | succ i=>exact f i y k' (by simpa using e1) (by simpa using e2)
theorem Qee{α':List Addr}{ks:List (List Int)}{xs:List U}{ys:List V}(rr:RUs A α' xs ys):RUs A α' (QbP ks xs) (QaB ks ys):=by
 unfold QbP QaB;rw [rr.length];generalize permK ks ys.length=p
 induction p with
 | nil=>exact .nil
 | cons i p ih =>
  refine .cons ?_ ih
  cases e:xs[i]? with
  | none =>
   have e2:ys[i]?=none:=by
    rw [List.getElem?_eq_none_iff]at e ⊢;rw [<-rr.length];exact e
   simp [List.getD,e,e2,RU]
  | some u =>
   obtain⟨v,hv,rv⟩:=rr.get e;simpa [List.getD,e,hv]using rv
theorem Qcj(tx:Txt T A X.K X.mg):BiS X T A .sorted (.builtin "sorted"):=by
 refine⟨_,Qce,?_⟩;intro α us u' hs hs' vs H Q h r R k;have h:biL T .sorted us hs=some (u',hs'):=h
 obtain⟨u,rfl⟩:∃u,us=[u]:=by
  match us,h with
  | [],h=>exact Znn h
  | _::_::_,h=>exact Znn h
  | [u],_=>exact⟨u,rfl⟩
 have h:Option.bind (QU T u hs) _=some (u',hs'):=h;simp only [Option.bind_eq_some_iff]at h;obtain⟨xs,el,h⟩:=h;split at h
 case isFalse=>cases h
 rename_i h64;simp only [Option.map_eq_some_iff]at h;obtain⟨ks,hk,h⟩:=h;cases h;obtain⟨v,ws,rfl,ru,rn⟩:=Ql r;cases Qx rn;obtain⟨a,ys,rfl,rr,sq⟩:=Q6 tx R el ru;have hl:=rr.length
 refine⟨a,ys,ks,rfl,sq,by omega,fun h2=>?_,fun p hp=>?_⟩
 ·rw [if_neg (by omega)]at hk
  exact Qdl R rr hk
 ·obtain⟨R2,E2⟩:=R.new (p:=p) (o:=.lst (QbP ks xs)) (ho:=.lst (QaB ks ys)) hp ⟨_,Qi,RUs.mono QF (Qee rr)⟩
  exact k _ _ _ E2 R2 ⟨p,by rw [<-R.h.len];exact QM,rfl⟩
theorem QcV{α:List Addr}{hs:Hs}{H:Hp}(R:Rep T A X.K α hs H):∀{us:List U} {kvs:List (U×U)} {zs:List V},QhW hs us=some kvs->RUs A α us zs->∃kv,RD A α kvs kv/\Paired (fun(v:V) (p:Key×V)=>∃t,v=.ref t/\H t=some (.tup [kV p.1,p.2])) zs kv
 | [],_,_,h,.nil=>by cases h;exact⟨[],.nil,.nil⟩
 | u::r,kvs,z::zs,h,.cons ru rr=>by
  cases u with
  | ref p =>
   simp only [QhW]at h;split at h
   ·rename_i k v hp;split at h
    ·rename_i hk;obtain⟨l,hl,rfl⟩:=Option.map_eq_some_iff.mp h;obtain⟨kv,q1,q2⟩:=QcV R hl rr;obtain⟨a,ha,rfl⟩:=ru;obtain⟨vs,ez,rz⟩:=R.h.ob p a _ ha hp;obtain⟨y1,ws,rfl,s1,rz⟩:=Ql rz;obtain⟨y2,ws,rfl,s2,rz⟩:=Ql rz;cases Qx rz;obtain⟨kk,rk,rfl⟩:=Qbu hk s1;exact⟨(kk,y2)::kv,.cons ⟨rk,s2⟩ q1,.cons ⟨a,rfl,ez⟩ q2⟩
    ·cases h
   ·cases h
  | _=>exact nomatch (show none=some _ from h)
theorem QdQ(hh:X.calm=true):BiS X T A .dictS (.type "dict"):=by
 refine⟨_,Qcf hh,?_⟩;intro α us u' hs hs' vs H Q h r R k;have h:biL T .dictS us hs=some (u',hs'):=h
 obtain⟨u,rfl⟩:∃u,us=[u]:=by
  match us,h with
  | [],h=>exact Znn h
  | _::_::_,h=>exact Znn h
  | [u],_=>exact⟨u,rfl⟩
 have h:Option.bind (Qb2 u hs) _=some (u',hs'):=h;simp only [Option.bind_eq_some_iff,Option.map_eq_some_iff]at h;obtain⟨xs,el,kvs,hk,h⟩:=h;cases h;obtain⟨v,ws,rfl,ru,rn⟩:=Ql r;cases Qx rn
 cases u with
 | ref p =>
  simp only [Qb2]at el;split at el
  ·rename_i ys hp;cases el;obtain⟨a,ha,rfl⟩:=ru;obtain⟨zs,ez,rz⟩:=R.h.ob p a _ ha hp;obtain⟨kv,q1,q2⟩:=QcV R hk rz;refine⟨a,zs,kv,rfl,ez,q2,fun d hd=>?_⟩;obtain⟨R2,E2⟩:=R.new (p:=d) (o:=.dic (Qde [] kvs)) (ho:=.dK (ZK [] kv)) hd ⟨_,Qi,RD.mono QF (RG.merge Qbx q1 .nil)⟩
   exact k _ _ _ E2 R2 ⟨d,by rw [<-R.h.len];exact QM,rfl⟩
  ·cases el
 | _=>exact nomatch (show none=some _ from el)
def BmS(X:Cx)(T:Tbl)(A:Adr)(b:Bm)(id:String):Prop:=∃r,MtR X id r/\∀{α:List Addr} {o u':U} {us:List U} {hs hs':Hs} {x:V} {vs:List V} {H:Hp} {Q:VK},bmU T b o us hs=some (u',hs')->RU A α o x->RUs A α us vs->Rep T A X.K α hs H ->
 (∀α' v' H',Ext α α' H H'->Rep T A X.K α' hs' H'->RU A α' u' v'->Q v' H')->r x vs H Q
theorem QdM{b:Bm}{o u':U}{hs':Hs}(h:bmU T b o us hs=some (u',hs'))(hb:∀x,bmS T b x us hs=none)(hd:∀n kvs,bmD b n kvs us hs=none):∃n xs,o=.ref n/\hs[n]?=some (.lst xs):=by
 cases o with
 | ref n =>
  simp only [bmU]at h;split at h
  ·rename_i xs e;exact⟨n,xs,rfl,e⟩
  ·rw [hd]at h;cases h
  ·cases h
 | str x =>
  simp only [bmU]at h;rw [hb]at h;cases h
 | _=>simp [bmU]at h
theorem Qci:BmS X T A .append "list.append":=by
 refine⟨_,JY,?_⟩;intro α o u' us hs hs' x vs H Q h ro r R k;obtain⟨n,xs,rfl,e⟩:=QdM h (fun _=>rfl) (fun _ _=>rfl);obtain⟨a,ha,rfl⟩:=ro
 cases us with
 | nil=>simp [bmU,bmL,e]at h
 | cons u t =>
  cases t with
  | cons _ _=>simp [bmU,bmL,e]at h
  | nil =>
   simp only [bmU,bmL,e]at h;split at h
   ·rename_i l;cases h;obtain⟨v,ws,rfl,ru,rn⟩:=Ql r;cases Qx rn;obtain⟨ys,q,rr⟩:=R.h.ob n a _ ha e;refine⟨a,ys,v,rfl,rfl,q,?_,?_⟩
    ·rw [<-rr.length];exact Nat.lt_of_lt_of_le l big
    ·obtain⟨R',E'⟩:=R.put (o:=.lst (xs++[u])) ha ⟨_,Qi,rr.append (.cons ru .nil)⟩;exact k _ _ _ E' R' rfl
   ·cases h
theorem RUs.dropLast(r:RUs A α us vs):RUs A α us.dropLast vs.dropLast:=by
 rw [List.dropLast_eq_take,List.dropLast_eq_take,r.length];exact RUs.take _ r
theorem RUs.reverse{α:List Addr}:∀{us:List U} {vs:List V},RUs A α us vs->RUs A α us.reverse vs.reverse
 | _,_,.nil=>.nil
 | _,_,.cons r t=>by
  rw [List.reverse_cons,List.reverse_cons];exact RUs.append (RUs.reverse t) (.cons r .nil)
theorem QhG:BmS X T A .pop "list.pop":=by
 refine⟨_,QjA,?_⟩;intro α o u' us hs hs' x vs H Q h ro r R k;obtain⟨n,xs,rfl,e⟩:=QdM h (fun _=>rfl) (fun _ _=>rfl);obtain⟨a,ha,rfl⟩:=ro
 cases us with
 | cons u t=>simp [bmU,bmL,e]at h
 | nil =>
  simp only [bmU,bmL,e]at h;split at h
  ·rename_i y l;cases h;cases Qx r;obtain⟨ys,q,rr⟩:=R.h.ob n a _ ha e;obtain⟨v,hv,rv⟩:=rr.get l
   refine⟨a,ys,v,rfl,rfl,q,by rw [<-rr.length];exact hv,?_⟩
   obtain⟨R',E'⟩:=R.put (o:=.lst xs.dropLast) ha ⟨_,Qi,rr.dropLast⟩;exact k _ _ _ E' R' rv
  ·cases h
theorem RK.eq{w:U}{a b:Key}(h:RK u a)(h':RK w b):u=w↔a=b:=by
 cases u with
 | int i m =>
  obtain⟨rfl,rfl⟩:=h
  cases w with
  | int j n=>obtain⟨rfl,rfl⟩:=h';simp
  | str y=>cases(show b=_ from h');simp
  | _=>exact h'.elim
 | str x =>
  cases(show a=_ from h)
  cases w with
  | int j n=>obtain⟨rfl,rfl⟩:=h';simp
  | str y =>
   cases(show b=_ from h');constructor
   ·intro e;cases e;rfl
   ·intro e;have e1:=Sum.inr.inj e;have e2:=congrArg (fun t:Str=>t.cps.toList) e1;simp only at e2;rw [e2]
  | _=>exact h'.elim
 | _=>exact h.elim
theorem Qhe(h:JF u=true)(r:RU A α u v):∃k,RK u k/\v=kV k:=by
 cases u with
 | int i m =>
  cases m with
  | zero=>obtain⟨j,rfl,c⟩:=r;cases c.exact;exact⟨.inl i,⟨rfl,rfl⟩,rfl⟩
  | succ m=>cases h
 | str x=>cases(show v=_ from r);exact⟨.inr _,rfl,rfl⟩
 | _=>cases h
def QnY(A:Adr)(α:List Addr)(o:Option U)(v:Option V):Prop:=match o with
 | some x=>∃z,v=some z/\RU A α x z
 | none=>v=none
theorem Qbs{α:List Addr}{k:U}{k':Key}(hk:RK k k'):∀{kvs:List (U×U)} {kv:List (Key×V)},RD A α kvs kv->QnY A α (Qb4 kvs k) (ZS kv k')
 | _,_,.nil=>rfl
 | _,_,.cons (a:=p) (b:=q) (l₁:=ps) (l₂:=qs) h t=>by
  obtain⟨p1,p2⟩:=p;obtain⟨h1,h2⟩:=h;have ih:=Qbs hk t;have e:=RK.eq h1 hk;show QnY A α (if p1=k then some p2 else Qb4 ps k) (ZS (q::qs) k');by_cases c:p1=k
  ·rw [if_pos c];exact⟨_,Z8 (e.mp c),h2⟩
  ·rw [if_neg c,Z9 fun z=>c (e.mpr z)];exact ih
theorem Qch:BmS X T A .setdef "dict.setdefault":=by
 refine⟨_,Qdd,?_⟩;intro α o u' us hs hs' x vs H Q h ro r R k
 cases o with
 | ref n =>
  simp only [bmU]at h;split at h
  ·simp [bmL]at h
  case h_3=>cases h
  rename_i kvs e;obtain⟨a,ha,rfl⟩:=ro;simp only [bmD]at h;split at h
  case h_2=>cases h
  rename_i ku u;split at h
  case isFalse=>cases h
  rename_i ck;obtain⟨vk,ws,rfl,rk,rn⟩:=Ql r;obtain⟨vy,ws,rfl,ry,rn⟩:=Ql rn;cases Qx rn;obtain⟨k',hk',rfl⟩:=Qhe ck.1 rk;obtain⟨kv,q,rr⟩:=R.h.ob n a _ ha e;have lk:=Qbs hk' rr;split at h
  ·rename_i x' ex;cases h;rw [ex]at lk;obtain⟨z,ez,rz⟩:=lk;refine⟨a,k',vy,kv,rfl,rfl,q,?_,fun z' ez'=>?_,fun en=>?_⟩
   ·rw [<-Paired.length rr];exact Nat.lt_of_lt_of_le ck.2 big
   ·rw [ez]at ez';cases ez';exact k α _ H Ext.refl R rz
   ·rw [ez]at en;cases en
  ·rename_i ex;cases h;rw [ex]at lk;have lk:ZS kv k'=none:=lk;refine⟨a,k',vy,kv,rfl,rfl,q,?_,fun z' ez'=>?_,fun _=>?_⟩
   ·rw [<-Paired.length rr];exact Nat.lt_of_lt_of_le ck.2 big
   ·rw [lk]at ez';cases ez'
   ·obtain⟨R',E'⟩:=R.put (o:=.dic (kvs++[_])) ha ⟨_,Qi,Paired.snoc rr (show RK (Prod.fst (_,u')) (Prod.fst (k',vy))/\RU A α (Prod.snd (_,u')) (Prod.snd (k',vy))from⟨hk',ry⟩)⟩;exact k _ _ _ E' R' ry
 | _=>first|(simp [bmU,bmS]at h;done)|(simp [bmU]at h;done)
theorem QhH(hu:X.A.units+1<cLine):BmS X T A .get "dict.get":=by
 refine⟨_,Qg5 hu,?_⟩;intro α o u' us hs hs' x vs H Q h ro r R k
 cases o with
 | ref n =>
  simp only [bmU]at h;split at h
  ·simp [bmL]at h
  case h_3=>cases h
  rename_i kvs e;obtain⟨a,ha,rfl⟩:=ro;simp only [bmD]at h;split at h
  case h_2=>cases h
  rename_i ku u;split at h
  case isFalse=>cases h
  rename_i ck;cases h;obtain⟨vk,ws,rfl,rk,rn⟩:=Ql r;obtain⟨vy,ws,rfl,ry,rn⟩:=Ql rn;cases Qx rn
  have g:=QaU (o:=.dic kvs) (w:=ku) (r:=QS kvs ku) R e ha (by simp only [Jy];rw [if_pos ck]) rk
  rcases g with⟨h1,g⟩|⟨u1,v1,h1,g,rv⟩
  ·exact⟨a,vk,vy,none,rfl,rfl,g,k α vy H Ext.refl R (by rw [h1];exact ry)⟩
  ·exact⟨a,vk,vy,some v1,rfl,rfl,g,k α v1 H Ext.refl R (by rw [h1];exact rv)⟩
 | _=>first|(simp [bmU,bmS]at h;done)|(simp [bmU]at h;done)
end
end
section
variable {ir:E}{a e:Expr}{d:Nat}{p:Pos}
def TIO(T:Tbl)(A:Adr)(K:W.Frag)(f:Rho->Hs->Option (Option Int×Hs)):TO:=fun Y H Q=>∃α Z hs u hs',RS A α Z Y/\Rep T A K α hs H/\f Z hs=some (u,hs') /\
 ∀α' H',Ext α α' H H'->Rep T A K α' hs' H'->Q u H'
structure Fc(X:Cx)(T:Tbl)(A:Adr)(cf:Cf)(k:Nat):Prop where
 ok:∀f F,T.fns[f]?=some F->∃fd,FnOk X.prog X.w X.K X.mg X.base CX0 k (A.f f) fd F.ps (spC T A X.K cf f)/\Binds X.K fd F.ps []/\W.keepIn X.K (.ref (A.f f))=true
 some:∀f us hs r,cf f us hs=some r->∃F,T.fns[f]?=some F/\us.length=F.np
 df:∀i D F,T.dfl.lookup i=Option.some D->T.fns[i]?=Option.some F->∃fd,FnOk X.prog X.w X.K X.mg X.base CX0 k (A.f i) fd D.ps (spC T A X.K cf i)/\W.keepIn X.K (.ref (A.f i))=true/\Qh4 A X.K fd D
 xf:∀f F,T.fns[f]?=Option.some F->∃fd,FnOk X.prog X.w X.K X.mg X.base (CXw X.prog X.w) k (A.f f) fd F.ps (spX T A X.K T.xf f)/\Binds X.K fd F.ps []/\W.keepIn X.K (.ref (A.f f))=true
structure Snd(T:Tbl)(A:Adr)(C:Ctx)(X:Cx)(cf:Cf)(m:Nat):Prop where
 e:∀d e ir,Qg m C e=some ir->PE X e (TI T A X.K (ev T cf d ir))
 t:∀d e ir,compT m C e=some ir->PT X e (TIT T A X.K (evT T cf d ir))/\PE X e (TI T A X.K (ev T cf d ir))
 an:∀d a r p ir,compAnd m C a r p=some ir->PW X (.BoolOp .And (a::r) p) (TIT T A X.K (evT T cf d ir))/\PE X (.BoolOp .And (a::r) p) (TI T A X.K (ev T cf d ir))
 orr:∀d a r p ir,compOr m C a r p=some ir->PW X (.BoolOp .Or (a::r) p) (TIT T A X.K (evT T cf d ir))/\PE X (.BoolOp .Or (a::r) p) (TI T A X.K (ev T cf d ir))
 a:∀d es irs,compA m C es=some irs->PA X es (TIA T A X.K (fun Z hs=>evs (ev T cf d) Z irs hs))
 o:∀d e ir,compO m C e=some ir->PO X e (TIO T A X.K (fun Z hs=>evO (ev T cf d) Z ir hs))
section
variable {X:Cx}{T:Tbl}{A:Adr}{C:Ctx}{cf:Cf}{m:Nat}
theorem Qa0{t:TT}(h:∀Y H Q,¬t Y H Q):PT X e t:=fun _ _ Y H Q _ q=>(h Y H Q q).elim
theorem QhQ{t:TT}(h:∀Y H Q,¬t Y H Q):PW X e t:=fun _ _ _ Y H Q _ q=>(h Y H Q q).elim
theorem QlW{K:W.Frag}:∀Y H Q,¬TI T A K (ev T cf 0 ir) Y H Q:=fun _ _ _ ⟨_,_,_,_,_,_,_,h,_⟩=>nomatch h
theorem Qdb{K:W.Frag}:∀Y H Q,¬TIT T A K (evT T cf 0 ir) Y H Q:=fun _ _ _ ⟨_,_,_,_,_,_,_,h,_⟩=>nomatch h
theorem QD(h:∀d',PE X e (TI T A X.K (ev T cf (d'+1) ir))):PE X e (TI T A X.K (ev T cf d ir)):=by
 cases d with
 | zero=>exact Z0 QlW
 | succ d=>exact h d
theorem Qgp{c:Const}{k:Nat}(h:Qg (m+1) C (.Constant c k p)=some ir):PE X (.Constant c k p) (TI T A X.K (ev T cf d ir)):=by
 refine QD fun d=>?_
 cases c with
 | int i=>cases h;exact QO Qjf fun Y H Q ⟨α,Z,hs,u,hs',rs,R,e,q⟩=>by cases e;exact q α _ H Ext.refl R ⟨i,rfl,Cg.refl _ _⟩
 | bool b=>cases h;exact QO QlN fun Y H Q ⟨α,Z,hs,u,hs',rs,R,e,q⟩=>by cases e;exact q α _ H Ext.refl R rfl
 | none=>cases h;exact QO Qjd fun Y H Q ⟨α,Z,hs,u,hs',rs,R,e,q⟩=>by cases e;exact q α _ H Ext.refl R rfl
 | str x=>cases h;exact QO Qjc fun Y H Q ⟨α,Z,hs,u,hs',rs,R,e,q⟩=>by cases e;exact q α _ H Ext.refl R rfl
 | _=>first|exact Znn h|simp [Qg]at h
theorem QiE{x:Str}(g:GX T A C X)(h:Qg (m+1) C (.Name x p)=some ir):PE X (.Name x p) (TI T A X.K (ev T cf d ir)):=by
 refine QD fun d=>?_;simp only [cE4]at h;split at h
 ·cases h
 ·rename_i hn;have n1:(x==("__debug__":Str))=false:=Q4 fun z=>hn (.inl z);have n2:(x==("__classdict__":Str))=false:=Q4 fun z=>hn (.inr z);split at h
  ·rename_i hv;simp only [Option.map_eq_some_iff]at h;obtain⟨i,hi,rfl⟩:=h
   refine QO (Qja (i:=i) (by rw [g.N];exact Q7 hi) (Qia g hv) n1 n2) ?_
   rintro Y H Q ⟨α,Z,hs,u,hs',rs,R,e,q⟩;simp only [ev]at e;split at e
   ·rename_i w e';cases e;obtain⟨v,h1,h2⟩:=rs.get e';exact⟨v,h1,q α v H Ext.refl R h2⟩
   ·cases e
  ·split at h
   ·rename_i hg;split at h
    ·rename_i k hk;cases h;refine QO (QaJ (Q8 g hg) (g.gco x k hk) (v:=.ref (A.k k)) rfl n1) ?_;rintro Y H Q ⟨α,Z,hs,u,hs',rs,R,e,q⟩;cases e;exact q α _ H Ext.refl R rfl
    ·rename_i t hk;cases h;obtain⟨k,hm⟩:=g.gtx x t hk;refine QO (QaJ (Q8 g hg) hm (v:=.str ⟨t.toArray⟩) ⟨_,rfl⟩ n1) ?_;rintro Y H Q ⟨α,Z,hs,u,hs',rs,R,e,q⟩;simp only [ev]at e;cases e;exact q α _ H Ext.refl R rfl
    ·cases h
   ·cases h
theorem Qlv{b:Expr}{o:Operator}(S:Snd T A C X cf m)(h:Qg (m+1) C (.BinOp a o b p)=some ir):PE X (.BinOp a o b p) (TI T A X.K (ev T cf d ir)):=by
 refine QD fun d=>?_;simp only [cE5,Option.bind_eq_some_iff]at h;obtain⟨a',ha,b',hb,h⟩:=h;cases h;obtain⟨r,ho,hr⟩:=opS (X:=X) (T:=T) (A:=A) o;refine QO (QlK ho (S.e d a a' ha) (S.e d b b' hb)) ?_;rintro Y H Q ⟨α,Z,hs,u,hs',rs,R,e,q⟩;simp only [ev]at e;obtain⟨u1,h1,e1,e⟩:=Qc e;obtain⟨u2,h2,e2,e⟩:=Qc e;refine TI.run rs R e1 fun α1 x H1 E1 R1 r1 rs1=>?_;refine TI.run rs1 R1 e2 fun α2 y H2 E2 R2 r2 rs2=>?_;exact hr e (r1.mono E2.pre) r2 R2 fun α3 v H3 E3 R3 r3=>q α3 v H3 ((E1.trans E2 R2.h).trans E3 R3.h) R3 r3
theorem Qlt(S:Snd T A C X cf m)(h:Qg (m+1) C (.UnaryOp .USub a p)=some ir):PE X (.UnaryOp .USub a p) (TI T A X.K (ev T cf d ir)):=by
 refine QD fun d=>?_;simp only [cE6,Option.bind_eq_some_iff]at h;obtain⟨a',ha,h⟩:=h;cases h;refine QO (QlI Qie (S.e d a a' ha)) ?_;rintro Y H Q ⟨α,Z,hs,u,hs',rs,R,e,q⟩;simp only [ev]at e;obtain⟨u1,h1,e1,e⟩:=Qc e;refine TI.run rs R e1 fun α1 x H1 E1 R1 r1 rs1=>?_;split at e
 ·cases e;obtain⟨i,rfl,c⟩:=r1;exact⟨i,rfl,q α1 _ H1 E1 R1 ⟨_,rfl,QfP c⟩⟩
 ·cases e
theorem QiD(tx:Txt T A X.K X.mg)(S:Snd T A C X cf m)(h:Qg (m+1) C (.UnaryOp .Not a p)=some ir):PE X (.UnaryOp .Not a p) (TI T A X.K (ev T cf d ir))/\PT X (.UnaryOp .Not a p) (TIT T A X.K (evT T cf d ir)):=by
 simp only [cE7,Option.bind_eq_some_iff]at h;obtain⟨a',ha,h⟩:=h;cases h;constructor
 ·refine QD fun d=>?_;intro pins s Y H Q I hw;obtain⟨α,Z,hs,u,hs',rs,R,e,q⟩:=hw;simp only [ev]at e;obtain⟨u1,h1,e1,e⟩:=Qc e;simp only [Option.map_eq_some_iff]at e;obtain⟨c,e2,e⟩:=e;cases e;refine UnaryOp_ (thn ((S.t d a a' ha).2 pins s Y H (fun v H'=>QkB X.K v H' c/\Q (.bl (!c)) H') I ⟨α,Z,hs,u1,_,rs,R,e1,fun α' v H' E' R' r'=>⟨Qcz tx R' e2 r',q α' _ H' E' R' rfl⟩⟩) fun v s1 ⟨x,H1,I1,r1,q1,q2⟩=>?_)
  exact not_of (thn (Qfj pins s1 Y H1 x v (fun b H'=>b=c/\H'=H1) I1 r1 ⟨c,q1,rfl,rfl⟩) fun b s2 ⟨H2,I2,eb,eH⟩=>⟨.bl (!c),H2,I2,by rw [eb];rfl,by rw [eH];exact q2⟩)
 ·cases d with
  | zero=>exact Qa0 Qdb
  | succ d =>
   refine QhR (Qi0 (S.t d a a' ha).1) ?_;rintro Y H Q ⟨α,Z,hs,u,hs',rs,R,e,q⟩;simp only [evT]at e;obtain⟨c,h1,e1,e⟩:=Qc e;cases e;exact TIT.run rs R e1 fun α1 H1 E1 R1 rs1=>q α1 H1 E1 R1
end
end
section
variable {ir:E}{a b e:Expr}{d:Nat}{p:Pos}
section
variable {X:Cx}{T:Tbl}{A:Adr}{C:Ctx}{cf:Cf}{m:Nat}
theorem Qbk(h:∀d',PT X e (TIT T A X.K (evT T cf (d'+1) ir))):PT X e (TIT T A X.K (evT T cf d ir)):=by
 cases d with
 | zero=>exact Qa0 Qdb
 | succ d=>exact h d
theorem Qbj(h:∀d',PW X e (TIT T A X.K (evT T cf (d'+1) ir))):PW X e (TIT T A X.K (evT T cf d ir)):=by
 cases d with
 | zero=>exact QhQ Qdb
 | succ d=>exact h d
theorem QiM(S:Snd T A C X cf m)(d:Nat)(a:Expr)(r:List Expr)(p:Pos)(ir:E)(h:compAnd (m+1) C a r p=some ir):
  PW X (.BoolOp .And (a::r) p) (TIT T A X.K (evT T cf d ir))/\PE X (.BoolOp .And (a::r) p) (TI T A X.K (ev T cf d ir)):=by
 cases r with
 | nil=>exact⟨Qgy (S.t d a ir h).1,Qfy (S.t d a ir h).2⟩
 | cons b r =>
  simp only [compAnd,Option.bind_eq_some_iff]at h;obtain⟨a',ha,b',hb,h⟩:=h;cases h;constructor
  ·refine Qbj fun d=>?_;refine QkC (QiW (S.t d a a' ha).1 (S.an d b r p b' hb).1) ?_;rintro Y H Q ⟨α,Z,hs,u,hs',rs,R,e,q⟩;simp only [evT]at e;obtain⟨c,h1,e1,e⟩:=Qc e;refine TIT.run rs R e1 fun α1 H1 E1 R1 rs1=>?_
   cases c with
   | true=>exact TIT.run rs1 R1 e fun α2 H2 E2 R2 rs2=>q α2 H2 (E1.trans E2 R2.h) R2
   | false=>cases e;exact q α1 H1 E1 R1
  ·refine QD fun d=>?_;refine QO (Qji (S.t d a a' ha).2 (S.an d b r p b' hb).2) ?_;rintro Y H Q ⟨α,Z,hs,u,hs',rs,R,e,q⟩;simp only [ev]at e;obtain⟨u1,h1,e1,e⟩:=Qc e;refine TI.run rs R e1 fun α1 x H1 E1 R1 r1 rs1=>?_;split at e
   ·cases(show x=_ from r1);exact⟨true,rfl,TI.run rs1 R1 e fun α2 v H2 E2 R2 r2 rs2=>q α2 v H2 (E1.trans E2 R2.h) R2 r2⟩
   ·cases(show x=_ from r1);cases e;exact⟨false,rfl,q α1 _ H1 E1 R1 rfl⟩
   ·cases e
theorem Qnu(S:Snd T A C X cf m)(d:Nat)(a:Expr)(r:List Expr)(p:Pos)(ir:E)(h:compOr (m+1) C a r p=some ir):
  PW X (.BoolOp .Or (a::r) p) (TIT T A X.K (evT T cf d ir))/\PE X (.BoolOp .Or (a::r) p) (TI T A X.K (ev T cf d ir)):=by
 cases r with
 | nil=>exact⟨QiV (S.t d a ir h).1,Qfy (S.t d a ir h).2⟩
 | cons b r =>
  simp only [compOr,Option.bind_eq_some_iff]at h;obtain⟨a',ha,b',hb,h⟩:=h;cases h;constructor
  ·refine Qbj fun d=>?_;refine QkC (QlE (S.t d a a' ha).1 (S.orr d b r p b' hb).1) ?_;rintro Y H Q ⟨α,Z,hs,u,hs',rs,R,e,q⟩;simp only [evT]at e;obtain⟨c,h1,e1,e⟩:=Qc e;refine TIT.run rs R e1 fun α1 H1 E1 R1 rs1=>?_
   cases c with
   | false=>exact TIT.run rs1 R1 e fun α2 H2 E2 R2 rs2=>q α2 H2 (E1.trans E2 R2.h) R2
   | true=>cases e;exact q α1 H1 E1 R1
  ·refine QD fun d=>?_;refine QO (QlJ (S.t d a a' ha).2 (S.orr d b r p b' hb).2) ?_;rintro Y H Q ⟨α,Z,hs,u,hs',rs,R,e,q⟩;simp only [ev]at e;obtain⟨u1,h1,e1,e⟩:=Qc e;refine TI.run rs R e1 fun α1 x H1 E1 R1 r1 rs1=>?_;split at e
   ·cases(show x=_ from r1);cases e;exact⟨true,rfl,q α1 _ H1 E1 R1 rfl⟩
   ·cases(show x=_ from r1);exact⟨false,rfl,TI.run rs1 R1 e fun α2 v H2 E2 R2 r2 rs2=>q α2 v H2 (E1.trans E2 R2.h) R2 r2⟩
   ·cases e
theorem Qjw{b':E}{o:CmpOp}(h:Qg m C b=some b'):behindInMarks o b=false:=by
 cases b<;>first|rfl|skip
 cases m<;>first|exact Znn h|simp [Qg]at h
theorem QiJ{o:CmpOp}(tx:Txt T A X.K X.mg)(tab:QaZ X.prog X.w T A X.K)(hu:X.A.units+64<cLine)(S:Snd T A C X cf m)(h:Qg (m+1) C (.Compare a [o] [b] p)=some ir):
  PE X (.Compare a [o] [b] p) (TI T A X.K (ev T cf d ir))/\PT X (.Compare a [o] [b] p) (TIT T A X.K (evT T cf d ir)):=by
 simp only [Qo8,Option.bind_eq_some_iff]at h;obtain⟨a',ha,b',hb,h⟩:=h;cases h;obtain⟨r,ho,hr⟩:=QoY (X:=X) (T:=T) (A:=A) tx tab hu o
 have key:∀(d:Nat) (Y:St) (H:Hp) (Q:VK) (α:List Addr) (Z:Rho) (hs hs':Hs) (u:U),RS A α Z Y->Rep T A X.K α hs H->ev T cf (d+1) (.cmp o a' b') Z hs=some (u,hs') ->
   (∀α' c H',u=.bl c->Ext α α' H H'->Rep T A X.K α' hs' H'->Q (.bl c) H')->tOp r (TI T A X.K (ev T cf d a')) (TI T A X.K (ev T cf d b')) Y H Q:=by
  intro d Y H Q α Z hs hs' u rs R e q;simp only [ev]at e;obtain⟨u1,h1,e1,e⟩:=Qc e;obtain⟨u2,h2,e2,e⟩:=Qc e;simp only [Option.map_eq_some_iff]at e;obtain⟨c,e3,e⟩:=e;cases e;refine TI.run rs R e1 fun α1 x H1 E1 R1 r1 rs1=>?_;refine TI.run rs1 R1 e2 fun α2 y H2 E2 R2 r2 rs2=>?_;exact hr e3 (r1.mono E2.pre) r2 R2 (q α2 c H2 rfl (E1.trans E2 R2.h) R2)
 constructor
 ·refine QD fun d=>?_;refine QO (QgM ho (S.e d a a' ha) (S.e d b b' hb) (Qjw hb)) ?_;rintro Y H Q ⟨α,Z,hs,u,hs',rs,R,e,q⟩
  exact key d Y H Q α Z hs hs' u rs R e fun α' c H' eu E' R'=>q α' _ H' E' R' (by rw [eu];rfl)
 ·refine Qbk fun d=>?_
  cases d with
  | zero=>exact Qa0 fun _ _ _ ⟨_,_,_,_,_,_,_,h,_⟩=>by simp [evT,ev,bd]at h
  | succ d =>
   refine QhR (Qgz ho (S.e d a a' ha) (S.e d b b' hb) (Qjw hb)) ?_;rintro Y H Q ⟨α,Z,hs,u,hs',rs,R,e,q⟩;simp only [evT]at e;obtain⟨u1,h1,e1,e⟩:=Qc e;simp only [Option.map_eq_some_iff]at e;obtain⟨c,e3,e⟩:=e;cases e;refine key d Y H _ α Z hs _ u1 rs R e1 fun α' c' H' eu E' R'=>⟨c',rfl,?_⟩;rw [eu]at e3;cases e3;exact q α' H' E' R'
theorem Qgo{t:Expr}(S:Snd T A C X cf m)(h:Qg (m+1) C (.IfExp t a b p)=some ir):PE X (.IfExp t a b p) (TI T A X.K (ev T cf d ir)):=by
 refine QD fun d=>?_;simp only [Qo7,Option.bind_eq_some_iff]at h;obtain⟨t',ht,a',ha,b',hb,h⟩:=h;cases h;refine QO (Qev (S.t d t t' ht).1 (S.e d a a' ha) (S.e d b b' hb)) ?_;rintro Y H Q ⟨α,Z,hs,u,hs',rs,R,e,q⟩;simp only [ev]at e;obtain⟨c,h1,e1,e⟩:=Qc e;refine TIT.run rs R e1 fun α1 H1 E1 R1 rs1=>?_
 cases c with
 | true=>exact TI.run rs1 R1 e fun α2 v H2 E2 R2 r2 rs2=>q α2 v H2 (E1.trans E2 R2.h) R2 r2
 | false=>exact TI.run rs1 R1 e fun α2 v H2 E2 R2 r2 rs2=>q α2 v H2 (E1.trans E2 R2.h) R2 r2
theorem Yz{f:Ev}{Z:Rho}:∀{es:List E} {hs hs':Hs} {us:List U},evs f Z es hs=some (us,hs')->us.length=es.length
 | [],_,_,_,h=>by cases h;rfl
 | e::r,hs,hs',us,h=>by
  simp only [evs]at h;obtain⟨u,h1,e1,h⟩:=Qc h;obtain⟨ws,h2,e2,h⟩:=Qc h;cases h;simp [Yz e2]
theorem QL{C:Ctx}:∀{m:Nat} {es:List Expr} {irs:List E},compA m C es=some irs->irs.length=es.length
 | 0,_,_,h=>by simp [compA]at h
 | m+1,[],_,h=>by cases h;rfl
 | m+1,e::r,irs,h=>by
  simp only [compA,Option.bind_eq_some_iff]at h;obtain⟨e',he,r',hr,h⟩:=h;cases h;simp [QL hr]
theorem Qfn(S:Snd T A C X cf m)(d:Nat)(es:List Expr)(irs:List E)(h:compA (m+1) C es=some irs):PA X es (TIA T A X.K (fun Z hs=>evs (ev T cf d) Z irs hs)):=by
 cases es with
 | nil =>
  cases h;refine QkE JW ?_;rintro Y H Q ⟨α,Z,hs,u,hs',rs,R,e,q⟩;cases e;exact q α [] H Ext.refl R .nil
 | cons e r =>
  simp only [compA,Option.bind_eq_some_iff]at h;obtain⟨e',he,r',hr,h⟩:=h;cases h;refine QkE (Zr (S.e d e e' he) (S.a d r r' hr) (Qp (Qz he))) ?_;rintro Y H Q ⟨α,Z,hs,u,hs',rs,R,e,q⟩;simp only [evs]at e;obtain⟨u1,h1,e1,e⟩:=Qc e;obtain⟨us,h2,e2,e⟩:=Qc e;cases e;refine TI.run rs R e1 fun α1 x H1 E1 R1 r1 rs1=>?_;exact TIA.run rs1 R1 e2 fun α2 xs H2 E2 R2 r2 rs2=>q α2 _ H2 (E1.trans E2 R2.h) R2 (.cons (r1.mono E2.pre) r2)
theorem QiC(S:Snd T A C X cf m)(d:Nat)(e:Option Expr)(ir:Option E)(h:compO (m+1) C e=some ir):PO X e (TIO T A X.K (fun Z hs=>evO (ev T cf d) Z ir hs)):=by
 cases e with
 | none =>
  cases h;intro pins s Y H Q I hw;refine QgF pins s Y H Q I ?_;obtain⟨α,Z,hs,u,hs',rs,R,e,q⟩:=hw;cases e;exact q α H Ext.refl R
 | some e =>
  simp only [compO,Option.bind_eq_some_iff]at h;obtain⟨e',he,h⟩:=h;cases h;intro pins s Y H Q I hw;refine QgE (S.e d e e' he) pins s Y H Q I ?_;obtain⟨α,Z,hs,u,hs',rs,R,e,q⟩:=hw;simp only [evO]at e;obtain⟨u1,h1,e1,e⟩:=Qc e;refine TI.run rs R e1 fun α1 x H1 E1 R1 r1 rs1=>?_;split at e
  ·cases e;obtain⟨i,rfl,c⟩:=r1;cases c.exact;exact⟨_,rfl,q α1 H1 E1 R1⟩
  ·cases e
theorem TIO.run{T:Tbl}{A:Adr}{K:W.Frag}{α:List Addr}{Z:Rho}{Y:St}{hs h1:Hs}{H:Hp}{f:Rho->Hs->Option (Option Int×Hs)}{u:Option Int}{Q:Option Int->Hp->Prop}(rs:RS A α Z Y)(rp:Rep T A K α hs H)(h:f Z hs=some (u,h1))
  (k:∀α1 H1,Ext α α1 H H1->Rep T A K α1 h1 H1->RS A α1 Z Y->Q u H1):TIO T A K f Y H Q :=
 ⟨α,Z,hs,u,h1,rs,rp,h,fun α1 H1 e r=>k α1 H1 e r (rs.mono e.pre)⟩
theorem Qgl{es:List Expr}{k:Nat}(S:Snd T A C X cf m)(h:Qg (m+1) C (.Tuple es k p)=some ir):PE X (.Tuple es k p) (TI T A X.K (ev T cf d ir)):=by
 refine QD fun d=>?_;simp only [Qo6]at h;split at h
 case isFalse=>cases h
 rename_i hz;simp only [Option.bind_eq_some_iff]at h;obtain⟨es',he,h⟩:=h;cases h;refine QO (Qjb (S.a d es es' he)) ?_;rintro Y H Q ⟨α,Z,hs,u,hs',rs,R,e,q⟩;simp only [ev]at e;obtain⟨us,h1,e1,e⟩:=Qc e;cases e;refine TIA.run rs R e1 fun α1 vs H1 E1 R1 r1 rs1=>⟨?_,fun p hp=>?_⟩
 ·rw [<-r1.length,Yz e1,QL he];exact Nat.le_trans hz big
 ·obtain⟨R',E'⟩:=R1.new (o:=.tup us) hp ⟨_,Qi,RUs.mono QF r1⟩
  exact q _ _ _ (E1.trans E' R'.h) R' ⟨p,by rw [<-R1.h.len];exact QM,rfl⟩
theorem QiI{es:List Expr}(S:Snd T A C X cf m)(h:Qg (m+1) C (.List es p)=some ir):PE X (.List es p) (TI T A X.K (ev T cf d ir)):=by
 refine QD fun d=>?_;simp only [Qo5]at h;split at h
 case isFalse=>cases h
 rename_i hz;simp only [Option.bind_eq_some_iff]at h;obtain⟨es',he,h⟩:=h;cases h;refine QO (Qje (S.a d es es' he)) ?_;rintro Y H Q ⟨α,Z,hs,u,hs',rs,R,e,q⟩;simp only [ev]at e;obtain⟨us,h1,e1,e⟩:=Qc e;cases e;refine TIA.run rs R e1 fun α1 vs H1 E1 R1 r1 rs1=>⟨?_,fun p hp=>?_⟩
 ·rw [<-r1.length,Yz e1,QL he];exact Nat.le_trans hz big
 ·obtain⟨R',E'⟩:=R1.new (o:=.lst us) hp ⟨_,Qi,RUs.mono QF r1⟩
  exact q _ _ _ (E1.trans E' R'.h) R' ⟨p,by rw [<-R1.h.len];exact QM,rfl⟩
theorem Qgn{lo hi:Option Expr}{p2:Pos}(S:Snd T A C X cf m)(h:((Qg m C a).bind fun a'=>(compO m C lo).bind fun l=>(compO m C hi).bind fun h=>some (E.sl a' l h))=some ir):PE X (.Subscript a (.Slice lo hi none p2) p) (TI T A X.K (ev T cf d ir)):=by
 refine QD fun d=>?_;simp only [Option.bind_eq_some_iff]at h;obtain⟨a',ha,l',hl,h',hh,h⟩:=h;cases h;refine QO (Qet Qgj (S.e d a a' ha) (S.o d lo l' hl) (S.o d hi h' hh)) ?_;rintro Y H Q ⟨α,Z,hs,u,hs',rs,R,e,q⟩;simp only [ev]at e;obtain⟨u1,h1,e1,e⟩:=Qc e;obtain⟨u2,h2,e2,e⟩:=Qc e;obtain⟨u3,h3,e3,e⟩:=Qc e;refine TI.run rs R e1 fun α1 x H1 E1 R1 r1 rs1=>?_;refine TIO.run rs1 R1 e2 fun α2 H2 E2 R2 rs2=>?_;refine TIO.run rs2 R2 e3 fun α3 H3 E3 R3 rs3=>?_;exact Qiv e ((r1.mono E2.pre).mono E3.pre) R3 fun α4 z H4 E4 R4 r4=>q α4 z H4 (((E1.trans E2 R2.h).trans E3 R3.h).trans E4 R4.h) R4 r4
theorem Qhg{a' b':E}(hu:X.A.units+1<cLine)(tx:Txt T A X.K X.mg)(ha:PE X a (TI T A X.K (ev T cf d a')))(hb:PE X b (TI T A X.K (ev T cf d b')))(hs:ZJ b=true):PE X (.Subscript a b p) (TI T A X.K (ev T cf (d+1) (.ix a' b'))):=by
 refine QO (QlL (ix_seq.or (Qhf hu)) ha hb (QbW hs)) ?_;rintro Y H Q ⟨α,Z,hs,u,hs',rs,R,e,q⟩;simp only [ev]at e;obtain⟨u1,h1,e1,e⟩:=Qc e;obtain⟨u2,h2,e2,e⟩:=Qc e;simp only [Option.map_eq_some_iff]at e;obtain⟨x,e3,e⟩:=e;cases e;refine TI.run rs R e1 fun α1 x H1 E1 R1 r1 rs1=>?_;refine TI.run rs1 R1 e2 fun α2 y H2 E2 R2 r2 rs2=>?_;exact Qgb tx e3 (r1.mono E2.pre) r2 R2 fun z rz=>q α2 z H2 (E1.trans E2 R2.h) R2 rz
theorem RF.look{α:List Addr}{x:Str}{k:Nat}{u:U}(hk:T.fns'[k]?=some x)(nd:T.fns'.Nodup):∀{fs:List (Nat×U)} {fv:List (Str×V)},RF T A α fs fv->fs.lookup k=some u->∃v,fv.lookup x=some v/\RU A α u v
 | _,_,.nil,h=>by cases h
 | _,_,.cons (a:=p) (b:=q) r t,h=>by
  obtain⟨pk,pu⟩:=p;obtain⟨qx,qv⟩:=q;rw [List.lookup_cons]at h ⊢;by_cases e:k=pk
  ·subst e;rw [beq_self_eq_true]at h;cases h;have e2:x=qx:=Option.some.inj (hk.symm.trans r.1);subst e2;rw [beq_self_eq_true];exact⟨qv,rfl,r.2⟩
  ·have n1:(k==pk)=false:=by simpa using e
   rw [n1]at h
   have n2:(x==qx)=false:=by
    rw [beq_eq_false_iff_ne];rintro rfl;obtain⟨l1,q1⟩:=List.getElem?_eq_some_iff.mp hk;obtain⟨l2,q2⟩:=List.getElem?_eq_some_iff.mp r.1;exact e ((List.getElem_inj nd).mp (q1.trans q2.symm))
   rw [n2];exact RF.look hk nd t h
theorem Qpc{t t':TE}(h:PE X e t)(h':PE X e t'):PE X e (fun Y H Q=>t Y H Q\/t' Y H Q):=fun pins s Y H Q I z=>z.elim (h pins s Y H Q I) (h' pins s Y H Q I)
theorem Qow:PE X e (fun _ _ _=>False):=fun pins s Y H Q I h=>h.elim
theorem QiL{f:Str}(g:GX T A C X)(S:Snd T A C X cf m)(h:Qg (m+1) C (.Attribute a f p)=some ir):PE X (.Attribute a f p) (TI T A X.K (ev T cf d ir)):=by
 refine QD fun d=>?_;simp only [Qo3]at h;split at h
 ·rename_i hn;simp only [Option.bind_eq_some_iff]at h;obtain⟨a',ha,k,hk,h⟩:=h;cases h
  have hk':T.fns'[k]?=some f:=by rw [<-g.CT];exact Q7 hk
  refine QO (Qpc (Qjg (S.e d a a' ha) (Zb hn)) Qow) ?_;rintro Y H Q ⟨α,Z,hs,u,hs',rs,R,e,q⟩;simp only [ev]at e;obtain⟨u1,h1,e1,e⟩:=Qc e;split at e
  ·rename_i n;split at e
   ·rename_i c fs eo;refine .inl (TI.run rs R e1 fun α1 x H1 E1 R1 r1 rs1=>?_);obtain⟨pa,hpa,rfl⟩:=r1;simp only [Option.map_eq_some_iff]at e;obtain⟨w,el,e⟩:=e;cases e;obtain⟨dx,fv,q1,rf,lc⟩:=R1.h.ob n pa _ hpa eo;obtain⟨v,l1,rv⟩:=RF.look hk' g.txt.fd rf el;have cl:=g.txt.cl c _ (List.getElem?_eq_getElem lc);exact⟨pa,A.c c,dx,fv,v,rfl,q1,cl.cls,cl.nf f (List.mem_of_getElem? hk'),l1,q α1 v H1 E1 R1 rv⟩
   ·cases e
  ·cases e
 ·cases h
end
end
section
variable {α:List Addr}{es:List E}{args:List Expr}{us:List U}{vs:List V}{d i:Nat}{p pos:Pos}{x:Str}
section
variable {X:Cx}{T:Tbl}{A:Adr}{C:Ctx}{cf:Cf}{m k:Nat}
theorem QcI{hs hs':Hs}{H:Hp}{u:U}{f:Nat}{Q:VK}{E:XK}(F:Fc X T A cf k)(r:RUs A α us vs)(R:Rep T A X.K α hs H)(e:cf f us hs=some (u,hs'))
  (q:∀α' v H',Ext α α' H H'->Rep T A X.K α' hs' H'->RU A α' u v->Q v H'):spC T A X.K cf f vs H Q E:=⟨α,us,hs,u,hs',r,R,e,F.some f us hs _ e,q⟩
theorem QiK(g:GX T A C X)(F:Fc X T A cf k)(hr:Room k X.A)(S:Snd T A C X cf m)(hg:YH C x=true)(hn:x≠"__debug__") (hx:C.gl.lookup x=some (.fn i)) (ha:compA m C args=some es):
  PE X (.Call (.Name x p) args [] pos) (TI T A X.K (ev T cf (d+1) (.call i es))):=by
 cases hF:T.fns[i]? with
 | none =>
  refine Z0 ?_;rintro Y H Q ⟨α,Z,hs,u,hs',rs,R,e,q⟩;simp only [ev]at e;obtain⟨us,h1,e1,e⟩:=Qc e;obtain⟨F',h,_⟩:=F.some _ _ _ _ e;rw [hF]at h;cases h
 | some Fn =>
  obtain⟨fd,G,b,kp⟩:=F.ok i Fn hF;have pa:=S.a d args es ha
  have key:∀Y H Q,TI T A X.K (ev T cf (d+1) (.call i es)) Y H Q->Qga (spC T A X.K cf i) [] E0 (TIA T A X.K (fun Z hs=>evs (ev T cf d) Z es hs)) Y H Q:=by
   rintro Y H Q ⟨α,Z,hs,u,hs',rs,R,e,q⟩;simp only [ev]at e;obtain⟨us,h1,e1,e⟩:=Qc e;refine TIA.run rs R e1 fun α1 vs H1 E1 R1 r1 rs1=>?_;rw [List.append_nil];exact QcI F r1 R1 e fun α2 v H2 E2 R2 r2=>q α2 v H2 (E1.trans E2 R2.h) R2 r2
  cases args with
  | nil =>
   have ee:es=[]:=by
    have:=QL ha;simpa using this
   subst ee;refine QO (Qex G hr (Q8 g hg) (g.gfn x i hx) kp b .nil Qc5 (Q4 hn)) fun Y H Q h=>?_;have h2:=key Y H Q h;obtain⟨α,Z,hs,us,hs',rs,R,e,q⟩:=h2;cases e;exact q α [] H Ext.refl R .nil
  | cons a r=>exact QO (QgN G hr (Q8 g hg) (g.gfn x i hx) kp b .nil Qc5 pa (Q4 hn) (Qp (QA ha a (List.mem_cons_self ..))) (Zh fun z hz=>QA ha z (List.mem_cons_of_mem _ hz))) key
theorem RUs.app{ws:List U}{zs:List V}(a:RUs A α us vs)(b:RUs A α ws zs):RUs A α (us++ws) (vs++zs):=a.append b
theorem Vals.dropN{us:List Value}(r:Vals vs us):∀n,Vals (vs.drop n) (us.drop n):=fun n=>by
 induction r generalizing n with
 | nil=>simp;exact .nil
 | cons a t ih =>
  cases n with
  | zero=>exact .cons a t
  | succ n=>exact ih n
theorem Qgq{ir:E}(g:GX T A C X)(F:Fc X T A cf k)(hr:Room k X.A)(S:Snd T A C X cf m)(hg:YH C x=true)(hn:x≠"__debug__") (hx:C.gl.lookup x=some (.fn i)) (ha:compA m C args=some es) (h:QkN C i es=some ir):
  PE X (.Call (.Name x p) args [] pos) (TI T A X.K (ev T cf (d+1) ir)):=by
 unfold QkN at h;rw [g.CT]at h;split at h
 ·cases h;exact QiK g F hr S hg hn hx ha
 cases h
theorem RUs.nilA(r:RUs A [] us vs):RUs A α us vs:=RUs.mono (fun n a e=>by simp at e) r
theorem QfJ(F:Fc X T A cf k){f n:Nat}{Fn:Fn}(hF:T.fns[f]?=some Fn):∃fd ps ds dvs,FnOk X.prog X.w X.K X.mg X.base CX0 k (A.f f) fd ps (spC T A X.K cf f)/\W.keepIn X.K (.ref (A.f f))=true/\Binds X.K fd ps ds/\Vals dvs ds/\RUs A [] (QaL T f n) dvs:=by
 unfold QaL
 cases hD:T.dfl.lookup f with
 | none =>
  obtain⟨fd,G,b,kp⟩:=F.ok f Fn hF;exact⟨fd,_,[],[],G,kp,b,.nil,.nil⟩
 | some D =>
  obtain⟨fd,G,kp,ds,dvs,rd,vd,hb⟩:=F.df f D Fn hD hF;exact⟨fd,_,_,_,G,kp,hb (D.ds.length-(D.np-n)),Vals.dropN vd _,RUs.drop (D.ds.length-(D.np-n)) rd⟩
theorem QiG(g:GX T A C X)(F:Fc X T A cf k)(hr:Room (k+1) X.A)(S:Snd T A C X cf m)(hg:YH C x=true)(hn:x≠"__debug__") (hx:C.gl.lookup x=some (.cls i)) (ha:compA m C args=some es):
  PE X (.Call (.Name x p) args [] pos) (TI T A X.K (ev T cf (d+1) (.make i es))):=by
 cases hC:T.cls[i]? with
 | none =>
  refine Z0 ?_;rintro Y H Q ⟨α,Z,hs,u,hs',rs,R,e,q⟩;simp only [ev]at e;obtain⟨us,h1,e1,e⟩:=Qc e;simp [Q5,hC]at e
 | some Cl =>
  have cl:=g.txt.cl i Cl hC;have li:i<T.cls.length:=(List.getElem?_eq_some_iff.mp hC).1;have pa:=S.a d args es ha
  have new:∀{α:List Addr} {hs:Hs} {H:Hp} (R:Rep T A X.K α hs H) (x dx:Addr),H x=none->H dx=none->dx≠x ->
    Rep T A X.K (α++[x]) (hs++[.ins i []]) (upd (upd H dx (.own x)) x (.ins (A.c i) dx []))/\Ext α (α++[x]) H (upd (upd H dx (.own x)) x (.ins (A.c i) dx [])):=by
   intro α hs H R x dx hx hd hne
   have ne:∀b y,H b=some y->b≠dx:=fun b y e z=>by rw [z,hd]at e;cases e
   have R0:Rep T A X.K α hs (upd H dx (.own x)):=⟨⟨R.h.len,R.h.nd_keep fun b x _ e=>by rw [Qe (ne _ _ e)];exact e,fun n a o e1 e2=>RO.keep (R.h.ob n a o e1 e2) (fun _ _ e=>e) fun _ y e _=>by rw [Qe (ne _ _ e)];exact e⟩,R.s.keep fun y e _=>by rw [Qe (ne _ _ e)];exact e⟩
   obtain⟨R1,E1⟩:=R0.new (p:=x) (o:=.ins i []) (ho:=.ins (A.c i) dx []) (by rw [Qe (Ne.symm hne)];exact hx) ⟨dx,[],Qi,.nil,li⟩
   refine⟨R1,⟨E1.pre,fun n a e l=>?_,fun b o e hb=>E1.keep b o (by rw [Qe (ne _ _ e)];exact e) hb,fun b o kv e=>E1.fz b o kv (by rw [Qe (ne _ _ e)];exact e),fun b o e=>E1.tr b o (by rw [Qe (ne _ _ e)];exact e)⟩⟩
   rcases QJ e with z|⟨_,z⟩
   ·have:=getElem?_lt z;omega
   ·rw [z];exact .inl hx
  cases hi:Cl.init with
  | none =>
   have ini:=cl.ini;rw [hi]at ini
   cases args with
   | cons a r =>
    refine Z0 ?_;rintro Y H Q ⟨α,Z,hs,u,hs',rs,R,e,q⟩;simp only [ev]at e;obtain⟨us,h1,e1,e⟩:=Qc e;have l1:=Yz e1;rw [QL ha]at l1;simp only [Q5,hC,hi]at e;split at e
    ·rename_i z;rw [z]at l1;simp at l1
    ·cases e
   | nil =>
    refine QO (Qc4 (C:=A.c i) ⟨cl.mks,ini,cl.kp⟩ (Q8 g hg) (g.gcl x i hx) (Q4 hn)) ?_;rintro Y H Q ⟨α,Z,hs,u,hs',rs,R,e,q⟩
    have ee:es=[]:=by
     have:=QL ha;simpa using this
    subst ee;simp only [ev,evs,bd,Q5,hC,hi,if_true]at e;cases e;intro y dx h1 h2 h3;obtain⟨R1,E1⟩:=new R y dx h1 h2 h3
    exact q _ _ _ E1 R1 ⟨y,by rw [<-R.h.len];exact QM,rfl⟩
  | some f =>
   have ini:=cl.ini;rw [hi]at ini
   have key:∀dvs:List V,RUs A [] (QaL T f (es.length+1)) dvs->∀Y H Q,TI T A X.K (ev T cf (d+1) (.make i es)) Y H Q->TIA T A X.K (fun Z hs=>evs (ev T cf d) Z es hs) Y H fun vs H1=>∀x dx,H1 x=none->H1 dx=none->dx≠x ->
     spC T A X.K cf f (.ref x::(vs++dvs)) (upd (upd H1 dx (.own x)) x (.ins (A.c i) dx [])) (fun v H2=>v=.non/\Q (.ref x) H2) E0:=by
    rintro dvs rdv Y H Q ⟨α,Z,hs,u,hs',rs,R,e,q⟩;simp only [ev]at e;obtain⟨us,h1,e1,e⟩:=Qc e;simp only [Q5,hC,hi]at e;rw [Yz e1]at e;split at e
    case h_2=>cases e
    rename_i h2 e2;cases e;refine TIA.run rs R e1 fun α1 vs H1 E1 R1 r1 rs1=>?_;intro y dx g1 g2 g3;obtain⟨R2,E2⟩:=new R1 y dx g1 g2 g3
    have at1:(α1++[y])[h1.length]?=some y:=by rw [<-R1.h.len];exact QM
    refine QcI F (us:=.ref h1.length::(us++QaL T f (es.length+1))) (.cons ⟨y,at1,rfl⟩ ((RUs.mono E2.pre r1).app (RUs.nilA rdv))) R2 e2 fun α3 v H3 E3 R3 r3=>⟨r3,?_⟩;exact q α3 _ H3 (((E1.trans E2 R2.h)).trans E3 R3.h) R3 ⟨y,E3.pre _ _ at1,rfl⟩
   cases hF:T.fns[f]? with
   | none =>
    refine Z0 ?_;rintro Y H Q ⟨α,Z,hs,u,hs',rs,R,e,q⟩;simp only [ev]at e;obtain⟨us,h1,e1,e⟩:=Qc e;simp only [Q5,hC,hi]at e;split at e
    case h_2=>cases e
    rename_i h2 e2;obtain⟨F',h,_⟩:=F.some _ _ _ _ e2;rw [hF]at h;cases h
   | some Fn =>
    obtain⟨fd,ps,ds,dvs,G,kp,b,vd,rdv⟩:=QfJ F (n:=es.length+1) hF;have M:Mk X.K (A.c i) (A.f f):=⟨cl.mks,ini.1,ini.2,cl.kp⟩
    cases args with
    | nil =>
     have ee:es=[]:=by
      have:=QL ha;simpa using this
     subst ee;refine QO (Qeu M G hr (Q8 g hg) (g.gcl x i hx) b vd Qc5 (Q4 hn)) fun Y H Q h=>?_;obtain⟨α,Z,hs,us,hs',rs,R,e,q⟩:=key dvs rdv Y H Q h;cases e;exact q α [] H Ext.refl R .nil
    | cons a r=>exact QO (QgK M G hr (Q8 g hg) (g.gcl x i hx) b vd Qc5 pa (Q4 hn) (Qp (QA ha a (List.mem_cons_self ..))) (Zh fun z hz=>QA ha z (List.mem_cons_of_mem _ hz))) (key dvs rdv)
end
end
section
variable {b:Bm}{o':E}{env:Env}{o:Expr}{hs:Hs}{es:List E}{args:List Expr}{d:Nat}{p pos q:Pos}{x:Str}
section
variable {X:Cx}{T:Tbl}{A:Adr}{C:Ctx}{cf:Cf}{m k:Nat}
theorem Jk{env:Env}{pos:Pos}:∀{es:List Expr},YE es->(backTo pos (starEach es env)).all (fun x=>!x.1)=true
 | [],_=>rfl
 | e::r,h=>by
  rw [Qp (h e (List.mem_cons_self ..))];have ih:=Jk (env:=env) (pos:=pos) (es:=r) fun x hx=>h x (List.mem_cons_of_mem _ hx);unfold backTo at ih ⊢;rw [List.map_cons,List.all_cons,ih];rfl
theorem Qht(hn:YE args)(hl:args.length<29):methodCallForm (args.length+([]:List Keyword).length) (backTo pos (starEach args env)) (backToKw pos (keywordEach [] env))=true:=by
 unfold methodCallForm;rw [Jk hn]
 have:(args.length+([]:List Keyword).length+(if(backToKw pos (keywordEach [] env)).isEmpty then 0 else 1) < 30):=by
  simp only [List.length_nil];split<;>omega
 simp only [decide_eq_true this,Bool.and_true,Bool.true_and];rfl
theorem Qg9(h1:Zc o=true)(h2:(p.endLine==q.line)=true)(h3:args.length<29)(h4:YE args):
  eval (.Call (.Attribute o x p) args [] q) env=(do
   let ov <-eval o env
   standAt p.atName
   let (f,first) <-holding [ov] (getMethod ov x (do return (<-importBound o env).getD true))
   callWith q f first (backTo q (starEach args env)) (backToKw q (keywordEach [] env))):=by
 rw [PySem.arm_eval_Call,Zb h1];unfold methodCall;rw [Qht h4 h3];unfold calleeOf methodCallPos;rw [h2];rfl
theorem RF.none_of{α:List Addr}{x:Str}(hx:x∉T.fns'):∀{fs:List (Nat×U)} {fv:List (Str×V)},RF T A α fs fv->fv.lookup x=none
 | _,_,.nil=>rfl
 | _,_,.cons (a:=p) (b:=q) r t=>by
  obtain⟨qx,qv⟩:=q;rw [List.lookup_cons]
  have n2:(x==qx)=false:=by
   rw [beq_eq_false_iff_ne];rintro rfl;exact hx (List.mem_of_getElem? r.1)
  rw [n2];exact RF.none_of hx t
theorem QbY{i f:Nat}{u:U}(h:Z5 T i u hs=some f):∃n c fs Cl,u=.ref n/\hs[n]?=some (.ins c fs)/\T.cls[c]?=some Cl/\Cl.meths.lookup i=some f:=by
 cases u with
 | ref n =>
  simp only [Z5]at h;split at h
  ·rename_i c fs e;split at h
   ·rename_i Cl e2;exact⟨n,c,fs,Cl,rfl,e,e2,h⟩
   ·cases h
  ·cases h
 | _=>simp [Z5]at h
theorem QiF{i:Nat}(g:GX T A C X)(F:Fc X T A cf k)(hr:Room k X.A)(S:Snd T A C X cf m)(h1:Zc o=true)(h2:(p.endLine==q.line)=true)(h3:args.length<29)
  (hx:idx x C.T.mns=some i) (ho:Qg m C o=some o') (ha:compA m C args=some es):PE X (.Call (.Attribute o x p) args [] q) (TI T A X.K (ev T cf (d+1) (.meth i o' es))):=by
 intro pins s Y H Q I hw;obtain⟨α,Z,hs,u,hs',rs,R,e,q'⟩:=hw;simp only [ev]at e;obtain⟨u1,h1',e1,e⟩:=Qc e;split at e
 case h_2=>cases e
 rename_i f hf;obtain⟨us,h2',e2,e⟩:=Qc e
 have hx':T.mns[i]?=some x:=by rw [<-g.CT];exact Q7 hx
 have hns:=QA ha;refine W.methodCall_KW (thn (S.e d o o' ho pins s Y H (fun v H1=>∃α1,Ext α α1 H H1/\Rep T A X.K α1 h1' H1/\RU A α1 u1 v/\RS A α1 Z Y) I (TI.run rs R e1 fun α1 v H1 E1 R1 r1 rs1=>⟨α1,E1,R1,r1,rs1⟩)) fun ov s1 ⟨v,H1,I1,rv,α1,E1,R1,r1,rs1⟩=>?_) (Qg9 h1 h2 h3 hns);obtain⟨n,c,fs,Cl,rfl,eo,hC,hf⟩:=QbY hf;obtain⟨pa',hpa,rfl⟩:=r1;cases(show ov=_ from rv);obtain⟨dx,fv,q1,rf,lc⟩:=R1.h.ob n pa' _ hpa eo;have cl:=g.txt.cl c Cl hC;obtain⟨x',hx2,hm⟩:=cl.me i f hf;have ex:x=x':=Option.some.inj (hx'.symm.trans hx2);subst ex;have nx:x∉T.fns':=fun z=>g.txt.fm x z (List.mem_of_getElem? hx');obtain⟨Fn,hF,_⟩:=F.some _ _ _ _ e;obtain⟨fd,ps,ds,dvs,G,kp,b,vd,rdv⟩:=QfJ F (n:=us.length+1) hF;refine Qb6 I1 q1 cl.cls hm (RF.none_of nx rf) ?_
 have fin:∀(s2:Shared) (H2:Hp) (α2:List Addr) (vs:List V) (ws:List Value),Inv X pins Y H2 s2->Ext α1 α2 H1 H2->Rep T A X.K α2 h2' H2->RUs A α2 us vs->Vals vs ws ->
   wpAny (model X.prog X.w) X.A (call (.ref (A.f f)) (.ref pa'::ws)) (EP X pins Y Q) X.xe s2:=by
  intro s2 H2 α2 vs ws I2 E2 R2 r2 rw';refine QcQ (us:=.ref pa'::ws) (vs:=.ref pa'::vs) G hr b vd Qc5 I2 (.cons rfl rw') ?_;exact QcI F (us:=.ref n::(us++QaL T f (us.length+1))) (.cons ⟨pa',E2.pre _ _ hpa,rfl⟩ (r2.app (RUs.nilA rdv))) R2 e fun α3 v H3 E3 R3 r3=>q' α3 v H3 ((E1.trans E2 R2.h).trans E3 R3.h) R3 r3
 cases args with
 | nil =>
  have ee:es=[]:=by
   have:=QL ha;simpa using this
  subst ee;cases e2
  exact W.callWith_K0 (first:=[.ref pa']) I1.kIn hm.kp (fin s1 H1 α1 [] [] I1 Ext.refl R1 .nil .nil)
 | cons a r =>
  refine W.callWith_K (first:=[.ref pa']) (h₀:=X.base) I.ok.mod.kin hm.kp (thn (S.a d (a::r) es ha q pins s1 Y H1 (fun vs H2=>∃α2,Ext α1 α2 H1 H2/\Rep T A X.K α2 h2' H2/\RUs A α2 us vs) I1 (TIA.run rs1 R1 e2 fun α2 vs H2 E2 R2 r2 rs2=>⟨α2,E2,R2,r2⟩)) fun ws s2 ⟨vs,H2,I2,rw',α2,E2,R2,r2⟩=>⟨I2.kIn,?_⟩)
   (Qp (hns a (List.mem_cons_self ..))) (Zh fun z hz=>hns z (List.mem_cons_of_mem _ hz))
  exact fin s2 H2 α2 vs ws I2 E2 R2 r2 rw'
theorem Qj3{e:Expr}{es:List Expr}(hn:YE (e::es))(hl:(e::es).length<29):((backTo pos (starEach (e::es) env)).all (fun x=>!x.1)&&(backToKw pos (keywordEach [] env)).all (fun x=>x.1.isSome)
   && decide ((e::es).length+([]:List Keyword).length+(if([]:List Keyword).isEmpty then 0 else 1) < 30))=true:=by
 rw [Jk hn]
 have:(e::es).length+([]:List Keyword).length+(if([]:List Keyword).isEmpty then 0 else 1) < 30:=by
  simp only [List.length_nil,List.isEmpty_nil,if_true];omega
 rw [decide_eq_true this];rfl
theorem JE{id ty:String}(S:Snd T A C X cf m)(B:BmS X T A b id)(pa:PlainAttrs ty)(slot:Slot ty x id)(hty:typeOf (.builtin id)=pure (.type "method_descriptor"))
  (ty:∀{u:U} {hs:Hs} {α:List Addr} {v:V} {H:Hp},QbV b u hs=true->RU A α u v->Rep T A X.K α hs H->L2.tyV X.K ty v H) (h1:Zc o=true) (h2:(p.endLine==q.line)=true) (h3:args.length<29)
  (ho:Qg m C o=some o') (ha:compA m C args=some es):PE X (.Call (.Attribute o x p) args [] q) (TI T A X.K (ev T cf (d+1) (.bm b o' es))):=by
 obtain⟨r,hm,hB⟩:=B;have hns:=QA ha
 cases args with
 | nil =>
  have ee:es=[]:=by
   have:=QL ha;simpa using this
  subst ee;refine QO (Qjh pa slot hty hm (S.e d o o' ho) (Zb h1) h2) ?_;rintro Y H Q ⟨α,Z,hs,u,hs',rs,R,e,q⟩;simp only [ev,evs]at e;obtain⟨u1,h1',e1,e⟩:=Qc e;split at e
  case isFalse=>cases e
  rename_i il;obtain⟨us,h2',e2,e⟩:=Qc e;cases e2;exact TI.run rs R e1 fun α1 v H1 E1 R1 r1 rs1=>⟨ty il r1 R1,hB e r1 .nil R1 fun α2 v2 H2 E2 R2 r2=>q α2 v2 H2 (E1.trans E2 R2.h) R2 r2⟩
 | cons a t =>
  refine QO (QlM pa slot hty hm (S.e d o o' ho) (S.a d (a::t) es ha) (Zb h1) (Qj3 hns h3) h2 (Qp (hns a (List.mem_cons_self ..))) (Zh fun z hz=>hns z (List.mem_cons_of_mem _ hz))) ?_;rintro Y H Q ⟨α,Z,hs,u,hs',rs,R,e,q⟩;simp only [ev]at e;obtain⟨u1,h1',e1,e⟩:=Qc e;split at e
  case isFalse=>cases e
  rename_i il;obtain⟨us,h2',e2,e⟩:=Qc e;exact TI.run rs R e1 fun α1 v H1 E1 R1 r1 rs1=>⟨ty il r1 R1,TIA.run rs1 R1 e2 fun α2 vs H2 E2 R2 r2 rs2=>hB e (r1.mono E2.pre) r2 R2 fun α3 v2 H3 E3 R3 r3=>q α3 v2 H3 ((E1.trans E2 R2.h).trans E3 R3.h) R3 r3⟩
noncomputable def kdB:Bm->String
 | .setdef=>"dict"
 | .get=>"dict"
 | .update=>"dict"
 | .join=>"str"
 | .split=>"str"
 | .find=>"str"
 | .index=>"str"
 | _=>"list"
theorem Qbg{u:U}{α:List Addr}{v:V}{H:Hp}(e:QbV b u hs=true)(r:RU A α u v)(R:Rep T A X.K α hs H):L2.tyV X.K (kdB b) v H:=by
 cases u with
 | ref n =>
  obtain⟨a,ha,rfl⟩:=r;simp only [QbV]at e;split at e
  ·rename_i xs eo;obtain⟨vs,q,_⟩:=R.h.ob n a _ ha eo
   have:kdB b="list":=by cases b<;>first|rfl|cases e
   rw [this];exact .inl ⟨rfl,vs,SqL.of q⟩
  ·rename_i kvs eo;obtain⟨kv,q,_⟩:=R.h.ob n a _ ha eo
   have:kdB b="dict":=by cases b<;>first|rfl|cases e
   rw [this];exact .inr (.inr (.inl ⟨rfl,.inl ⟨kv,q⟩⟩))
  ·cases e
 | str x =>
  cases(show v=_ from r)
  have:kdB b="str":=by cases b<;>first|rfl|cases e
  exact this
 | _=>cases e
theorem Qon(hu:X.A.units+1<cLine)(tx:Txt T A X.K X.mg)(S:Snd T A C X cf m)(hb:QkV x=some b)(h1:Zc o=true)(h2:(p.endLine==q.line)=true)(h3:args.length<29)
  (ho:Qg m C o=some o') (ha:compA m C args=some es):PE X (.Call (.Attribute o x p) args [] q) (TI T A X.K (ev T cf (d+1) (.bm b o' es))):=by
 unfold QkV at hb;split at hb
 ·rename_i e;subst e;cases hb;exact JE S Qci PySem.F.plainAttrs_list PySem.F.slot_list_append PySem.F.type_list_append (fun e r R=>Qbg e r R) h1 h2 h3 ho ha
 split at hb
 ·rename_i e;subst e;cases hb;exact JE S QhG PySem.F.plainAttrs_list PySem.F.slot_list_pop PySem.F.type_list_pop (fun e r R=>Qbg e r R) h1 h2 h3 ho ha
 split at hb
 ·rename_i e;subst e;cases hb;exact JE S Qch PySem.F.plainAttrs_dict PySem.F.slot_dict_setdefault PySem.F.type_dict_setdefault (fun e r R=>Qbg e r R) h1 h2 h3 ho ha
 unfold Qkw at hb;split at hb
 ·rename_i e;subst e;cases hb;exact JE S (QhH hu) PySem.F.plainAttrs_dict PySem.F.slot_dict_get PySem.F.type_dict_get (fun e r R=>Qbg e r R) h1 h2 h3 ho ha
 ·cases hb
theorem ZZ{args:List Expr}{b:Bi}{fv:Value}{r:List V->Hp->VK->Prop}{e0:Expr}(hB:∀{α:List Addr} {us:List U} {u':U} {hs hs':Hs} {vs:List V} {H:Hp} {Q:VK},biU T b us hs=some (u',hs')->RUs A α us vs->Rep T A X.K α hs H ->
   (∀α' v' H',Ext α α' H H'->Rep T A X.K α' hs' H'->RU A α' u' v'->Q v' H')->r vs H Q)
  (h:PE X e0 (tCB r (TIA T A X.K (fun Z hs=>evs (ev T cf d) Z es hs)))):PE X e0 (TI T A X.K (ev T cf (d+1) (.bi b es))):=by
 refine QO h ?_;rintro Y H Q ⟨α,Z,hs,u,hs',rs,R,e,q⟩;simp only [ev]at e;obtain⟨us,h1,e1,e⟩:=Qc e;exact TIA.run rs R e1 fun α1 vs H1 E1 R1 r1 rs1=>hB e r1 R1 fun α2 v2 H2 E2 R2 r2=>q α2 v2 H2 (E1.trans E2 R2.h) R2 r2
theorem QhI{b:Bi}:biU T b [] hs=none:=by cases b<;>rfl
theorem Qoo{b:Bi}(g:GX T A C X)(hh:hdC C=false)(hu:X.A.units+2<cLine)(S:Snd T A C X cf m)(hg:YH C x=true)(hn:x≠"__debug__") (hn2:x≠"__name__") (hx:QkW C x=some b) (ha:compA m C args=some es):
  PE X (.Call (.Name x p) args [] pos) (TI T A X.K (ev T cf (d+1) (.bi b es))):=by
 have hns:=QA ha
 cases args with
 | nil =>
  refine Z0 ?_;rintro Y H Q ⟨α,Z,hs,u,hs',rs,R,e,q⟩
  have ee:es=[]:=by
   have:=QL ha;simpa using this
  subst ee;simp [ev,evs,bd,QhI]at e
 | cons a t =>
  unfold QkW at hx;split at hx
  ·cases hx
  split at hx
  ·cases hx
  rename_i hl;have hm:X.mg x=none:=g.blt x hl;have pa:=S.a d (a::t) es ha;have st:=Qp (env:=X.env) (es:=t) (hns a (List.mem_cons_self ..));have sa:=Zh (env:=X.env) (pos:=pos) (es:=t) fun z hz=>hns z (List.mem_cons_of_mem _ hz);split at hx
  ·rename_i e;subst e;cases hx;obtain⟨r,hc,hB⟩:=QhK (X:=X) (A:=A) g.txt
   exact ZZ (fv:=.builtin "len") (args:=[]) hB (Yc hc (Q8 g hg) hm (by decide +kernel) pa hn2 (Q4 hn) st sa)
  split at hx
  ·rename_i e;subst e;cases hx;obtain⟨r,hc,hB⟩:=QdP (X:=X) (A:=A) (T:=T)
   exact ZZ (fv:=.none) (args:=[]) hB (Yr hc (Q8 g hg) hm (by decide +kernel) pa hn2 (Q4 hn) st sa)
  split at hx
  ·rename_i e;subst e;cases hx;obtain⟨r,hc,hB⟩:=Qe8 (X:=X) (A:=A) g.txt (g.calm hh)
   exact ZZ (fv:=.none) (args:=[]) hB (Yr hc (Q8 g hg) hm (by decide +kernel) pa hn2 (Q4 hn) st sa)
  split at hx
  ·rename_i e;subst e;cases hx;obtain⟨r,hc,hB⟩:=QhJ (X:=X) (A:=A) g.txt (g.calm hh)
   exact ZZ (fv:=.builtin "sum") (args:=[]) hB (Yc hc (Q8 g hg) hm (by decide +kernel) pa hn2 (Q4 hn) st sa)
  unfold Qkx at hx;split at hx
  ·rename_i e;subst e;cases hx;obtain⟨r,hc,hB⟩:=Qcj (X:=X) (A:=A) g.txt
   exact ZZ (fv:=.builtin "sorted") (args:=[]) hB (Yc hc (Q8 g hg) hm (by decide +kernel) pa hn2 (Q4 hn) st sa)
  split at hx
  ·rename_i e;subst e;split at hx
   ·cases hx;obtain⟨r,hc,hB⟩:=QdQ (X:=X) (A:=A) (T:=T) (g.calm hh)
    exact ZZ (fv:=.none) (args:=[]) hB (Yr hc (Q8 g hg) hm (by decide +kernel) pa hn2 (Q4 hn) st sa)
   ·cases hx
  ·cases hx
theorem Qom {t : Str} {ty : Ty} (g : GX T A C X) (hg : YH C t = true) (hn : t ≠ "__debug__") (hn2 : t ≠ "__name__") (h : Qif C t = some ty) : ∃ v, PE X (.Name t p) (tC v) /\ QnR v = some (tyW A ty) := by
 unfold Qif at h;split at h
 ·rename_i i e;cases h;exact⟨.ref (A.c i),QaJ (Q8 g hg) (g.gcl t i e) rfl (Q4 hn),rfl⟩
 ·cases h
 ·split at h
  ·cases h
  rename_i e;have hm:X.mg t=none:=g.blt t e;have fin:∀n:String,bootBuiltins t=some (.type n)->PE X (.Name t p) (tC (.ty n)):=fun n hb=>QgO (Q8 g hg) hm hb rfl hn2 (Q4 hn);split at h
  ·rename_i e;subst e;cases h;exact⟨_,fin "int" (by decide +kernel),rfl⟩
  split at h
  ·rename_i e;subst e;cases h;exact⟨_,fin "str" (by decide +kernel),rfl⟩
  split at h
  ·rename_i e;subst e;cases h;exact⟨_,fin "bool" (by decide +kernel),rfl⟩
  split at h
  ·rename_i e;subst e;cases h;exact⟨_,fin "list" (by decide +kernel),rfl⟩
  split at h
  ·rename_i e;subst e;cases h;exact⟨_,fin "tuple" (by decide +kernel),rfl⟩
  split at h
  ·rename_i e;subst e;cases h;exact⟨_,fin "dict" (by decide +kernel),rfl⟩
  split at h
  ·rename_i e;subst e;cases h;exact⟨_,fin "ValueError" (by decide +kernel),rfl⟩
  ·cases h
theorem Qlu{a:Expr}{t:Str}{ty:Ty}{a':E}{p1:Pos}(g:GX T A C X)(S:Snd T A C X cf m)(hi:YH C "isinstance"=true) (hl:¬C.bl.contains ("isinstance":Str)=false) (hg:YH C t=true) (hn:t≠"__debug__") (hn2:t≠"__name__") (h:Qif C t=some ty) (ha:Qg m C a=some a'):
  PE X (.Call (.Name "isinstance" p) [a,.Name t p1] [] pos) (TI T A X.K (ev T cf (d+1) (.isi a' ty))):=by
 obtain⟨v,hv,hc⟩:=Qom (p:=p1) g hg hn hn2 h;have s1:starEach [a,.Name t p1] X.env=(false,eval a X.env)::starEach [.Name t p1] X.env:=Qp (Qz ha)
 refine QO (Yc QeZ (Q8 g hi) (g.blt _ hl) (by decide +kernel) (Zr (S.e d a a' ha) (Zr hv JW) s1) (by decide) (by decide) s1 rfl) ?_
 rintro Y H Q ⟨α,Z,hs,u,hs',rs,R,e,q⟩;simp only [ev]at e;obtain⟨u1,h1,e1,e⟩:=Qc e;simp only [Option.map_eq_some_iff]at e;obtain⟨b,e2,e⟩:=e;cases e;refine TI.run rs R e1 fun α1 x H1 E1 R1 r1 rs1=>?_;obtain⟨tv,h1,h2⟩:=QjS g.txt e2 r1 R1;exact⟨x,v,_,tv,b,rfl,hc,h1,h2,q α1 _ H1 E1 R1 rfl⟩
end
end
end Iv
namespace L2
open PySem PySem.Spec PyProof.Rows
section
open Sem (wp)
variable {xs ys:Array Value}{k1 k2:Nat}{a b x:Value}{Q:Value->Shared->Prop}
structure Nx(prog:Program)(w:World)(it l:Addr)(P:Nat->Heap->Prop)(L:Array Value->Heap->Prop):Prop where
 item:∀(A:Around) (E:Value->Shared->Prop) (s:Shared) (k:Nat) (xs:Array Value) (x:Value) (Q:Value->Shared->Prop),P k s.heap->L xs s.heap->xs[k]?=some x->(∀h',P (k+1) h'->Heap.SameBut it s.heap h'->Q x { s with heap:=h' }) ->
  wpAny (model prog w) A (Builtin.SmallTypes.nextOf (.ref it)) Q E s
 done:∀(A:Around) (E:Value->Shared->Prop) (s:Shared) (k:Nat) (xs:Array Value) (Q:Value->Shared->Prop),A.handled=none->P k s.heap->L xs s.heap->xs[k]?=none ->
  (∀ h' e, Heap.ExtBut it s.heap h' -> (∃ o, h'.get? e = some o /\ o.cls = .type "StopIteration") -> E (.ref e) { s with heap := h' }) -> wpAny (model prog w) A (Builtin.SmallTypes.nextOf (.ref it)) Q E s
 keepP:∀k h h',P k h->(∀o,h.get? it=some o->h'.get? it=some o)->P k h'
 keepL:∀xs h h',L xs h->(∀o,h.get? l=some o->h'.get? l=some o)->L xs h'
 obj:∀k h,P k h->∃o vs,h.get? it=some o/\o.data=.fields vs
theorem QgY(prog:Program)(w:World)(it l:Addr):Nx prog w it l (fun k h=>h.IsListIter it l k) (fun xs h=>h.IsList l xs) where
 item:=fun A E s k xs x Q p q e h=>wpAny_nextOf_list_item p q e h
 done:=fun A E s k xs Q hh p q e h=>wpAny_nextOf_list_end hh p q e h
 keepP:=fun k h h' p f=>p.at fun o e=>f o e
 keepL:=fun xs h h' p f=>p.at fun o e=>f o e
 obj:=fun k h ⟨o,e,_,d⟩=>⟨o,_,e,d⟩
section
variable {prog:Program}{w:World}{A:Around}{E:Value->Shared->Prop}{s:Shared}
theorem ZW{it t:Addr}{i:Nat}{items:Array Value}(hit:s.heap.IsTupleIter it t i)
  (ht:s.heap.IsTuple t items) (hx:items[i]?=some x) (hQ:∀h',h'.IsTupleIter it t (i+1)->Heap.SameBut it s.heap h'->Q x { s with heap:=h' }):
  wpAny (model prog w) A (Builtin.SmallTypes.nextOf (.ref it)) Q E s:=by
 obtain⟨o,ho,hc,hd⟩:=id hit;obtain⟨ol,hol,_,nl,hdl⟩:=ht;unfold Builtin.SmallTypes.nextOf
 refine wpAny_bind (wpAny_callSpecial?_slot (name:=Str.ofString "__next__") hit.typeIs F.slot_tuple_iterator_next
  (wpAny_call_entry F.slot_tuple_iterator_next hit.typeIs F.entry_tuple_iterator_next ?_ (F.args_tuple_iterator_next_1 _)))
 show wpAny _ _ (field (.ref it) 0 >>= _) _ _ s;refine wpAny_bind (wpAny_field ho hd (x:=.ref t) rfl ?_);show wpAny _ _ (if(Value.ref t==Value.none)=true then _ else _) _ _ s;rw [if_neg (show ¬((Value.ref t==Value.none)=true)from Bool.false_ne_true)];show wpAny _ _ (field (.ref it) 1 >>= _) _ _ s;refine wpAny_bind (wpAny_field ho hd (x:=.int i 0) rfl ?_);show wpAny _ _ (seqItems? (.ref t) >>= _) _ _ s;refine wpAny_bind (wpAny_seqItems hol hdl ?_);simp only [Int.toNat_natCast,hx]
 refine wpAny_bind (wpAny_setField ho hd (by simp) (wpAny_pure ⟨x,rfl,wpAny_pure (hQ _ ?_ (Heap.SameBut.update ..))⟩))
 exact⟨_,Heap.get?_update_self _ ho (Obj.isFreed_of_fields (Obj.data_mapFields hd _)),(Obj.cls_mapFields ..).trans hc,by
  rw [Obj.data_mapFields hd];simp [rawInt]⟩
theorem Z4{it t:Addr}{i:Nat}{items:Array Value}(hh:A.handled=none)
  (hit:s.heap.IsTupleIter it t i) (ht:s.heap.IsTuple t items) (hx:items[i]?=none)
  (hE : ∀ h' e, Heap.ExtBut it s.heap h' -> (∃ o, h'.get? e = some o /\ o.cls = .type "StopIteration") -> E (.ref e) { s with heap := h' }) :
  wpAny (model prog w) A (Builtin.SmallTypes.nextOf (.ref it)) Q E s:=by
 obtain⟨o,ho,hc,hd⟩:=id hit;obtain⟨ol,hol,_,nl,hdl⟩:=ht;unfold Builtin.SmallTypes.nextOf
 refine wpAny_bind (wpAny_callSpecial?_slot (name:=Str.ofString "__next__") hit.typeIs F.slot_tuple_iterator_next
  (wpAny_call_entry F.slot_tuple_iterator_next hit.typeIs F.entry_tuple_iterator_next ?_ (F.args_tuple_iterator_next_1 _)))
 show wpAny _ _ (field (.ref it) 0 >>= _) _ _ s;refine wpAny_bind (wpAny_field ho hd (x:=.ref t) rfl ?_);show wpAny _ _ (if(Value.ref t==Value.none)=true then _ else _) _ _ s;rw [if_neg (show ¬((Value.ref t==Value.none)=true)from Bool.false_ne_true)];show wpAny _ _ (field (.ref it) 1 >>= _) _ _ s;refine wpAny_bind (wpAny_field ho hd (x:=.int i 0) rfl ?_);show wpAny _ _ (seqItems? (.ref t) >>= _) _ _ s;refine wpAny_bind (wpAny_seqItems hol hdl ?_);simp only [Int.toNat_natCast,hx]
 refine wpAny_bind (wpAny_rule (wpAny_bind (wpAny_setField ho hd (by simp) ?_)))
 show wpAny _ _ (newExc (.type "StopIteration") [] >>= _) _ _ _;refine wpAny_bind ?_;simp only [newExc,newTuple]
 refine wpAny_bind (wpAny_newObj_type ?_ (by size_fits))
 refine wpAny_bind (m:=firstArgMember _ _) (wpAny_of_eq (a:=Value.none) (by first|rfl|(simp only [firstArgMember];rfl)) ?_)
 refine wpAny_newObj_type ?_ (by size_fits)
 simp only [raiseNew];refine wpAny_bind (wpAny_handled ?_)
 first|rw [show A.in1.handled=none from hh]|rw [hh]
 refine wpAny_bind (wpAny_pure (wpAny_throw ?_));exact hE _ _ (((Heap.SameBut.update ..).extBut.push _).push _) ⟨_,Heap.get?_push_size _ rfl,rfl⟩
end
theorem QeD(prog:Program)(w:World)(it l:Addr):Nx prog w it l (fun k h=>h.IsTupleIter it l k) (fun xs h=>h.IsTuple l xs) where
 item:=fun A E s k xs x Q p q e h=>ZW p q e h
 done:=fun A E s k xs Q hh p q e h=>Z4 hh p q e h
 keepP:=fun k h h' p f=>p.at fun o e=>f o e
 keepL:=fun xs h h' p f=>p.at fun o e=>f o e
 obj:=fun k h ⟨o,e,_,d⟩=>⟨o,_,e,d⟩
section
variable {prog:Program}{w:World}{A:Around}{E:Value->Shared->Prop}{s:Shared}{z TI TO i1 i2 l1 l2:Addr}{P1 P2:Nat->Heap->Prop}{L1 L2:Array Value->Heap->Prop}
theorem Qcl{y:Value}(N1:Nx prog w i1 l1 P1 L1)(N2:Nx prog w i2 l2 P2 L2)(D:ZipApart z TI TO i1 i2 l1 l2)
  (hz:IsZip s.heap z TI TO .none) (hTI:IsPair s.heap TI (.ref i1) (.ref i2)) (hTO:IsPair s.heap TO a b)
  (h1:P1 k1 s.heap) (h2:P2 k2 s.heap) (hl1:L1 xs s.heap) (hl2:L2 ys s.heap) (hx:xs[k1]?=some x) (hy:ys[k2]?=some y)
  (hQ:∀h',IsZip h' z TI TO (rawInt s.heap.objs.size)->IsPair h' TO x y->P1 (k1+1) h'->P2 (k2+1) h'->IsPair h' s.heap.objs.size x y->h'.objs.size=s.heap.objs.size+1 ->
   (∀c o,c≠z->c≠TO->c≠i1->c≠i2->s.heap.get? c=some o->h'.get? c=some o)->Q (.ref s.heap.objs.size) { s with heap:=h' }):
  wpAny (model prog w) A (Builtin.«zip.__next__» ⟨[.ref z],[]⟩) (fun fin s'=>∃v,fin=.done (.ret v)/\Q v s') E s:=by
 have kP1:∀{k:Nat} {h h':Heap} {c:Addr},P1 k h->Heap.SameBut c h h'->i1≠c->P1 k h':=fun {k h h' c} p sb ne=>N1.keepP k h h' p fun o e=>(sb.2 i1 ne).trans e;have kP2:∀{k:Nat} {h h':Heap} {c:Addr},P2 k h->Heap.SameBut c h h'->i2≠c->P2 k h':=fun {k h h' c} p sb ne=>N2.keepP k h h' p fun o e=>(sb.2 i2 ne).trans e;have kL1:∀{h h':Heap} {c:Addr},L1 xs h->Heap.SameBut c h h'->l1≠c->L1 xs h':=fun {h h' c} p sb ne=>N1.keepL xs h h' p fun o e=>(sb.2 l1 ne).trans e;have kL2:∀{h h':Heap} {c:Addr},L2 ys h->Heap.SameBut c h h'->l2≠c->L2 ys h':=fun {h h' c} p sb ne=>N2.keepL ys h h' p fun o e=>(sb.2 l2 ne).trans e;show wpAny _ _ (field (.ref z) 2 >>= _) _ _ _;refine wpAny_bind (wpAny_field hz rfl (x:=.bool false) rfl ?_);show wpAny _ _ (field (.ref z) 3 >>= _) _ _ _;refine wpAny_bind (wpAny_field hz rfl (x:=.ref TI) rfl ?_);refine wpAny_bind (wpAny_seqItems hTI rfl ?_);show wpAny _ _ (Builtin.SmallTypes.ownedTupleIsFree (.ref z) >>= _) _ _ _;refine wpAny_bind ?_;unfold Builtin.SmallTypes.ownedTupleIsFree;refine wpAny_bind (wpAny_field hz rfl (x:=.none) rfl (wpAny_pure ?_));simp only [if_true];refine wpAny_bind (wpAny_rule ?_);refine wpAny_bind (wpAny_field hz rfl (x:=.ref TO) rfl ?_)
 refine wpAny_bind (wpAny_setField_rec hz (by simp) fun h₁ hz₁ hs₁=>?_)
 replace hz₁:IsZip h₁ z TI TO .ellipsis:=hz₁;refine wpAny_bind ?_;simp only [List.zipIdx_cons,List.zipIdx_nil,List.forIn_cons,List.forIn_nil];refine wpAny_bind (wpAny_bind (wpAny_onRaise ?_));show wpAny _ _ (Builtin.SmallTypes.nextOf (.ref i1) >>= _) _ _ _;refine wpAny_bind (N1.item _ _ _ _ _ _ _ (kP1 h1 hs₁ D.i1z) (kL1 hl1 hs₁ D.l1z) hx fun h₂ h1₂ hs₂=>wpAny_pure ?_);have hTO₂:IsPair h₂ TO a b:=hs₂.extBut _ _ D.TOi1 (hs₁.extBut _ _ D.TOz hTO);refine wpAny_bind (wpAny_seqItems hTO₂ rfl ?_);refine wpAny_bind (wpAny_updateSeq_pair hTO₂ fun h₃ hTO₃ hs₃=>?_);replace hTO₃:IsPair h₃ TO x b:=hTO₃;refine wpAny_bind (wpAny_letGo (wpAny_pure ?_));refine wpAny_bind (wpAny_bind (wpAny_onRaise ?_));show wpAny _ _ (Builtin.SmallTypes.nextOf (.ref i2) >>= _) _ _ _;refine wpAny_bind (N2.item _ _ _ _ _ _ _ (kP2 (kP2 (kP2 h2 hs₁ D.i2z) hs₂ D.i12.symm) hs₃ D.TOi2.symm) (kL2 (kL2 (kL2 hl2 hs₁ D.l2z) hs₂ D.l2i1) hs₃ D.l2TO) hy fun h₄ h2₄ hs₄=>wpAny_pure ?_);have hTO₄:IsPair h₄ TO x b:=hs₄.extBut _ _ D.TOi2 hTO₃;refine wpAny_bind (wpAny_seqItems hTO₄ rfl ?_);refine wpAny_bind (wpAny_updateSeq_pair hTO₄ fun h₅ hTO₅ hs₅=>?_);replace hTO₅:IsPair h₅ TO x y:=hTO₅;refine wpAny_bind (wpAny_letGo (wpAny_pure (wpAny_pure ?_)));refine wpAny_bind (wpAny_seqItems hTO₅ rfl ?_);refine wpAny_bind (wpAny_newTuple ?_)
 have hsz:h₅.objs.size=s.heap.objs.size:=by rw [hs₅.1,hs₄.1,hs₃.1,hs₂.1,hs₁.1]
 have hz₅:IsZip h₅ z TI TO .ellipsis:=hs₅.extBut _ _ D.TOz.symm (hs₄.extBut _ _ D.i2z.symm (hs₃.extBut _ _ D.TOz.symm (hs₂.extBut _ _ D.i1z.symm hz₁)))
 have hk₅:∀c o,c≠z->c≠TO->c≠i1->c≠i2->s.heap.get? c=some o->h₅.get? c=some o:=fun c o c1 c2 c3 c4 e =>
  hs₅.extBut _ _ c2 (hs₄.extBut _ _ c4 (hs₃.extBut _ _ c2 (hs₂.extBut _ _ c3 (hs₁.extBut _ _ c1 e))))
 have h1₅:P1 (k1+1) h₅:=kP1 (kP1 (kP1 h1₂ hs₃ D.TOi1.symm) hs₄ D.i12) hs₅ D.TOi1.symm;have h2₅:P2 (k2+1) h₅:=kP2 h2₄ hs₅ D.TOi2.symm;have hzlt:z<h₅.objs.size:=Heap.lt_size hz₅;show wpAny _ _ (Builtin.SmallTypes.ownedTupleHandOut (.ref z) (.ref h₅.objs.size) >>= _) _ _ _;refine wpAny_bind ?_;unfold Builtin.SmallTypes.ownedTupleHandOut;have hz₆:IsZip (h₅.push { cls:=.type "tuple",data:=.seq #[x,y] }) z TI TO .ellipsis:=Heap.get?_push_of_some _ hz₅
 refine wpAny_bind (wpAny_setField_rec hz₆ (by simp) fun h₇ hz₇ hs₇=>?_)
 replace hz₇:IsZip h₇ z TI TO (rawInt h₅.objs.size):=hz₇
 refine wpAny_setField_rec hz₇ (by simp) fun h₈ hz₈ hs₈=>?_
 replace hz₈:IsZip h₈ z TI TO (rawInt h₅.objs.size):=hz₈;have up:∀c o,c≠z->h₅.get? c=some o->h₈.get? c=some o:=fun c o c1 e=>hs₈.extBut _ _ c1 (hs₇.extBut _ _ c1 (Heap.get?_push_of_some _ e));have hT₈:IsPair h₈ h₅.objs.size x y:=hs₈.extBut _ _ (Nat.ne_of_gt hzlt) (hs₇.extBut _ _ (Nat.ne_of_gt hzlt) (Heap.get?_push_size _ rfl))
 have hz8:h₈.objs.size=h₅.objs.size+1:=by rw [hs₈.1,hs₇.1,Heap.size_push]
 rw [hsz]at hz₈ hT₈ hz8;refine wpAny_pure ⟨_,rfl,?_⟩;show Q (.ref h₅.objs.size) _;rw [hsz];exact hQ h₈ hz₈ (up _ _ D.TOz hTO₅) (N1.keepP _ _ _ h1₅ fun o e=>up _ o D.i1z e) (N2.keepP _ _ _ h2₅ fun o e=>up _ o D.i2z e) hT₈ hz8 fun c o c1 c2 c3 c4 e=>up c o c1 (hk₅ c o c1 c2 c3 c4 e)
theorem Qd2{Q:Fin->Shared->Prop}(N1:Nx prog w i1 l1 P1 L1)(N2:Nx prog w i2 l2 P2 L2)(hh:A.handled=none)(D:ZipApart z TI TO i1 i2 l1 l2)
  (hz:IsZip s.heap z TI TO .none) (hTI:IsPair s.heap TI (.ref i1) (.ref i2)) (hTO:IsPair s.heap TO a b)
  (h1:P1 k1 s.heap) (h2:P2 k2 s.heap) (hl1:L1 xs s.heap) (hl2:L2 ys s.heap) (hend:xs[k1]?=none\/ys[k2]?=none)
  (hE : ∀ h' e, (∀ c o, c ≠ z -> c ≠ TO -> c ≠ i1 -> c ≠ i2 -> s.heap.get? c = some o -> h'.get? c = some o) -> (∃ o, h'.get? e = some o /\ o.cls = .type "StopIteration") -> E (.ref e) { s with heap := h' }) :
  wpAny (model prog w) A (Builtin.«zip.__next__» ⟨[.ref z],[]⟩) Q E s:=by
 have kP1:∀{k:Nat} {h h':Heap} {c:Addr},P1 k h->Heap.SameBut c h h'->i1≠c->P1 k h':=fun {k h h' c} p sb ne=>N1.keepP k h h' p fun o e=>(sb.2 i1 ne).trans e;have kP2:∀{k:Nat} {h h':Heap} {c:Addr},P2 k h->Heap.SameBut c h h'->i2≠c->P2 k h':=fun {k h h' c} p sb ne=>N2.keepP k h h' p fun o e=>(sb.2 i2 ne).trans e;have kL1:∀{h h':Heap} {c:Addr},L1 xs h->Heap.SameBut c h h'->l1≠c->L1 xs h':=fun {h h' c} p sb ne=>N1.keepL xs h h' p fun o e=>(sb.2 l1 ne).trans e;have kL2:∀{h h':Heap} {c:Addr},L2 ys h->Heap.SameBut c h h'->l2≠c->L2 ys h':=fun {h h' c} p sb ne=>N2.keepL ys h h' p fun o e=>(sb.2 l2 ne).trans e;show wpAny _ _ (field (.ref z) 2 >>= _) _ _ _;refine wpAny_bind (wpAny_field hz rfl (x:=.bool false) rfl ?_);show wpAny _ _ (field (.ref z) 3 >>= _) _ _ _;refine wpAny_bind (wpAny_field hz rfl (x:=.ref TI) rfl ?_);refine wpAny_bind (wpAny_seqItems hTI rfl ?_);show wpAny _ _ (Builtin.SmallTypes.ownedTupleIsFree (.ref z) >>= _) _ _ _;refine wpAny_bind ?_;unfold Builtin.SmallTypes.ownedTupleIsFree;refine wpAny_bind (wpAny_field hz rfl (x:=.none) rfl (wpAny_pure ?_));simp only [if_true];refine wpAny_bind (wpAny_rule ?_);refine wpAny_bind (wpAny_field hz rfl (x:=.ref TO) rfl ?_)
 refine wpAny_bind (wpAny_setField_rec hz (by simp) fun h₁ hz₁ hs₁=>?_)
 replace hz₁:IsZip h₁ z TI TO .ellipsis:=hz₁;refine wpAny_bind ?_;simp only [List.zipIdx_cons,List.zipIdx_nil,List.forIn_cons,List.forIn_nil];refine wpAny_bind (wpAny_bind (wpAny_onRaise ?_));show wpAny _ _ (Builtin.SmallTypes.nextOf (.ref i1) >>= _) _ _ _
 cases hx:xs[k1]? with
 | none =>
  refine wpAny_bind (N1.done _ _ _ _ _ _ hh (kP1 h1 hs₁ D.i1z) (kL1 hl1 hs₁ D.l1z) hx fun h₂ e hs₂ he=>?_);obtain⟨oe,hoe,hce⟩:=he;have hz₂:IsZip h₂ z TI TO .ellipsis:=hs₂ _ _ D.i1z.symm hz₁
  have hez:e≠z:=fun x=>by subst x;rw [hz₂]at hoe;cases hoe;simp at hce
  refine wpAny_setField_rec hz₂ (by simp) fun h₃ _ hs₃=>hE h₃ e (fun c o c1 _ c3 _ x=>hs₃.extBut _ _ c1 (hs₂ _ _ c3 (hs₁.extBut _ _ c1 x))) ⟨oe,hs₃.extBut _ _ hez hoe,hce⟩
 | some x =>
  have hy:ys[k2]?=none:=by rcases hend with h|h;rw [hx]at h;cases h;exact h
  refine wpAny_bind (N1.item _ _ _ _ _ _ _ (kP1 h1 hs₁ D.i1z) (kL1 hl1 hs₁ D.l1z) hx fun h₂ h1₂ hs₂=>wpAny_pure ?_);have hTO₂:IsPair h₂ TO a b:=hs₂.extBut _ _ D.TOi1 (hs₁.extBut _ _ D.TOz hTO);refine wpAny_bind (wpAny_seqItems hTO₂ rfl ?_);refine wpAny_bind (wpAny_updateSeq_pair hTO₂ fun h₃ hTO₃ hs₃=>?_);refine wpAny_bind (wpAny_letGo (wpAny_pure ?_));refine wpAny_bind (wpAny_bind (wpAny_onRaise ?_));show wpAny _ _ (Builtin.SmallTypes.nextOf (.ref i2) >>= _) _ _ _;refine wpAny_bind (N2.done _ _ _ _ _ _ hh (kP2 (kP2 (kP2 h2 hs₁ D.i2z) hs₂ D.i12.symm) hs₃ D.TOi2.symm) (kL2 (kL2 (kL2 hl2 hs₁ D.l2z) hs₂ D.l2i1) hs₃ D.l2TO) hy fun h₄ e hs₄ he=>?_);obtain⟨oe,hoe,hce⟩:=he;have hz₄:IsZip h₄ z TI TO .ellipsis:=hs₄ _ _ D.i2z.symm (hs₃.extBut _ _ D.TOz.symm (hs₂.extBut _ _ D.i1z.symm hz₁))
  have hez:e≠z:=fun x=>by subst x;rw [hz₄]at hoe;cases hoe;simp at hce
  refine wpAny_setField_rec hz₄ (by simp) fun h₅ _ hs₅=>hE h₅ e (fun c o c1 c2 c3 c4 x=>hs₅.extBut _ _ c1 (hs₄ _ _ c4 (hs₃.extBut _ _ c2 (hs₂.extBut _ _ c3 (hs₁.extBut _ _ c1 x))))) ⟨oe,hs₅.extBut _ _ hez hoe,hce⟩
theorem Z3{y:Value}{Q:Option Value->Shared->Prop}(N1:Nx prog w i1 l1 P1 L1)(N2:Nx prog w i2 l2 P2 L2)(D:ZipApart z TI TO i1 i2 l1 l2)
  (hz:IsZip s.heap z TI TO .none) (hTI:IsPair s.heap TI (.ref i1) (.ref i2)) (hTO:IsPair s.heap TO a b)
  (h1:P1 k1 s.heap) (h2:P2 k2 s.heap) (hl1:L1 xs s.heap) (hl2:L2 ys s.heap) (hx:xs[k1]?=some x) (hy:ys[k2]?=some y)
  (hQ:∀h',IsZip h' z TI TO (rawInt s.heap.objs.size)->IsPair h' TO x y->P1 (k1+1) h'->P2 (k2+1) h'->IsPair h' s.heap.objs.size x y->h'.objs.size=s.heap.objs.size+1 ->
   (∀c o,c≠z->c≠TO->c≠i1->c≠i2->s.heap.get? c=some o->h'.get? c=some o)->Q (some (.ref s.heap.objs.size)) { s with heap:=h' }):
  wpAny (model prog w) A (pyNext (.ref z)) Q E s:=by
 have hT:s.TypeIs (.ref z) "zip":=⟨_,hz,rfl⟩;unfold pyNext
 exact wpAny_bind (wpAny_attempt (wpAny_callSpecial?_slot (name:=Str.ofString "__next__") hT F.slot_zip_next
  (wpAny_call_entry F.slot_zip_next hT F.entry_zip_next
   (Qcl N1 N2 D hz hTI hTO h1 h2 hl1 hl2 hx hy fun h' a1 a2 a3 a4 a5 a6 a7=>wpAny_pure (hQ h' a1 a2 a3 a4 a5 a6 a7)) (F.args_zip_next_1 _))))
theorem Yp{Q:Option Value->Shared->Prop}(N1:Nx prog w i1 l1 P1 L1)(N2:Nx prog w i2 l2 P2 L2)(hh:A.handled=none)(D:ZipApart z TI TO i1 i2 l1 l2)
  (hz:IsZip s.heap z TI TO .none) (hTI:IsPair s.heap TI (.ref i1) (.ref i2)) (hTO:IsPair s.heap TO a b)
  (h1:P1 k1 s.heap) (h2:P2 k2 s.heap) (hl1:L1 xs s.heap) (hl2:L2 ys s.heap) (hend:xs[k1]?=none\/ys[k2]?=none)
  (hQ:∀h',(∀c o,c≠z->c≠TO->c≠i1->c≠i2->s.heap.get? c=some o->h'.get? c=some o)->Q none { s with heap:=h' }):wpAny (model prog w) A (pyNext (.ref z)) Q E s:=by
 have hT:s.TypeIs (.ref z) "zip":=⟨_,hz,rfl⟩;unfold pyNext
 refine wpAny_bind (wpAny_attempt (wpAny_callSpecial?_slot (name:=Str.ofString "__next__") hT F.slot_zip_next
  (wpAny_call_entry F.slot_zip_next hT F.entry_zip_next (Qd2 N1 N2 hh D hz hTI hTO h1 h2 hl1 hl2 hend fun h' e hk he=>?_) (F.args_zip_next_1 _))))
 obtain⟨o,ho,hc⟩:=he;refine wpAny_bind (wpAny_isInstance (T:="StopIteration") (b:=true) ⟨o,ho,hc⟩ isSubtype_stop ?_);exact wpAny_pure (hQ _ hk)
end
end
section
variable {b:Bool}{X:Cx}{H:Hp}{pins:List (Addr×Obj)}{s:Shared}{Y:St}
section
variable {h':Heap}
theorem Inv.turnedLay{t':Nat}{ch:List Addr}{p:Addr}{vs:List V}{its:List Value}(I:Inv X pins Y H s)(hf:∀b∈ch,Qa1 X pins H b)(k:∀b o,b∉ch->s.heap.get? b=some o->h'.get? b=some o)
  (there:∀b o,b∈ch->s.heap.get? b=some o->∃o',h'.get? b=some o')
  (hp:s.heap.objs.size<=p) (hv:Vals vs its) (ht:IsTup h' p its.toArray) (hz:vs.length<=sizeLine):Inv X pins Y (upd H p (.tup vs)) { s with heap:=h',toks:=t' }:=by
 have hn:H p=none:=I.hok.fresh hp
 have ne:∀b o,s.heap.get? b=some o->b≠p:=fun b o e z=>by
  have:=Heap.lt_size e;rw [z]at this;exact absurd (Nat.lt_of_lt_of_le this hp) (Nat.lt_irrefl _)
 have nch:∀b u,H b=some u->b∉ch:=fun b u e z=>by rw [(hf b z).1]at e;cases e
 have up:∀b u,H b=some u->upd H p (.tup vs) b=some u:=fun b u e=>by rw [Qe (Q2 e hn)];exact e
 refine I.step (g':=s.gens) (d':=s.drawn) (ch:=ch) (fun b hb=>?_) (fun b o _ _ hc e _=>k b o hc e) (fun b o _ _ hc e _=>⟨o.slots,k b o hc e⟩) (fun b o _ e n=>by rw [Qe (ne b o e)];exact n)
  (fun b o hc e=>⟨o,k b o hc e⟩) (fun b xs e=>up b _ e) (fun b o u e=>up b _ e) (fun b ps e=>⟨#[],by rw [up b _ e];simp⟩) (fun m hm=>?_) (fun b u e=>?_) I.bare
 ·obtain⟨_,f1,_,f3,f4,f5⟩:=hf b hb;exact⟨f3,f1,f4,f5⟩
 ·obtain⟨o,es,ep,ho,r⟩:=hm;refine⟨o,es,ep,k _ o (fun z=>(hf _ z).2.1 rfl) ho,r⟩
 ·by_cases hb:b=p
  ·subst hb;rw [Qi]at e;cases e;exact⟨hz,its,hv,ht⟩
  ·rw [Qe hb]at e;refine(I.hok b u e).stay (fun c v hc q=>k c v ?_ q) (fun c q=>up c _ q) fun c xs q=>up c _ q
   rcases hc with z|z
   ·rw [z];exact nch b u e
   ·exact nch c _ z
theorem Inv.turnedL{t':Nat}{ch:List Addr}(I:Inv X pins Y H s)(hf:∀b∈ch,Qa1 X pins H b)(k:∀b o,b∉ch->s.heap.get? b=some o->h'.get? b=some o):Inv X pins Y H { s with heap:=h',toks:=t' }:=by
 have nch:∀b u,H b=some u->b∉ch:=fun b u e z=>by rw [(hf b z).1]at e;cases e
 refine I.step (g':=s.gens) (d':=s.drawn) (ch:=ch) (fun b hb=>?_) (fun b o _ _ hc e _=>k b o hc e) (fun b o _ _ hc e _=>⟨o.slots,k b o hc e⟩) (fun b o _ e n=>n)
  (fun b o hc e=>⟨o,k b o hc e⟩) (fun b xs e=>e) (fun b o u e=>e) (fun b ps e=>⟨#[],by rw [e];simp⟩) (fun m hm=>?_) (fun b u e=>?_) I.bare
 ·obtain⟨_,f1,_,f3,f4,f5⟩:=hf b hb;exact⟨f3,f1,f4,f5⟩
 ·obtain⟨o,es,ep,ho,r⟩:=hm;exact⟨o,es,ep,k _ o (fun z=>(hf _ z).2.1 rfl) ho,r⟩
 ·refine(I.hok b u e).stay (fun c v hc q=>k c v ?_ q) (fun c q=>q) fun c xs q=>q
  rcases hc with z|z
  ·rw [z];exact nch b u e
  ·exact nch c _ z
end
def SqB:Bool->W.Frag->Hp->Addr->List V->Prop
 | true=>SqL
 | false=>SqT
def LB:Bool->Addr->Array Value->Heap->Prop
 | true,l=>fun xs h=>h.IsList l xs
 | false,l=>fun xs h=>h.IsTuple l xs
def PB:Bool->Addr->Addr->Nat->Heap->Prop
 | true,it,l=>fun k h=>h.IsListIter it l k
 | false,it,l=>fun k h=>h.IsTupleIter it l k
theorem nxB(b:Bool)(prog:Program)(w:World)(it l:Addr):Nx prog w it l (PB b it l) (LB b l):=by
 cases b with
 | true=>exact QgY prog w it l
 | false=>exact QeD prog w it l
theorem Inv.sqB{a:Addr}{xs:List V}(I:Inv X pins Y H s)(h:SqB b X.K H a xs):∃its:List Value,Vals xs its/\LB b a its.toArray s.heap/\xs.length<=sizeLine:=by
 cases b with
 | true=>obtain⟨its,r,p,z⟩:=I.list h;exact⟨its,r,p.isList,z⟩
 | false=>obtain⟨its,r,p,z⟩:=I.tuple h;exact⟨its,r,p,z⟩
theorem Inv.sqB_inj{a:Addr}{xs ys:List V}(I:Inv X pins Y H s)(h:SqB b X.K H a xs)(h':SqB b X.K H a ys):xs=ys:=by
 cases b with
 | true=>exact I.list_inj h h'
 | false=>exact I.tuple_inj h h'
noncomputable def Itz(b c:Bool)(K:W.Frag)(a1 a2:Addr):It :=
 ⟨fun i H=>∃xs ys x y,SqB b K H a1 xs/\SqB c K H a2 ys/\xs[i]?=some x/\ys[i]?=some y,
   fun i H x H'=>∃p v w,H p=none/\x=.ref p/\H'=upd H p (.tup [v,w])/\(∀xs,SqB b K H a1 xs->xs[i]?=some v)/\∀ys,SqB c K H a2 ys->ys[i]?=some w,
   fun i H=>∃xs ys,SqB b K H a1 xs/\SqB c K H a2 ys/\(xs.length<=i\/ys.length<=i)⟩
theorem Qd8{P:Program}{w:World}{K:W.Frag}{elts:List Expr}{kt:Nat}{pt:Pos}(b b':Bool)(a1 a2 z TI TO i1 i2:Addr)(D:ZipApart z TI TO i1 i2 a1 a2):
  Turn P w K (.Tuple elts kt pt) (Itz b b' K a1 a2) [z,TI,TO,i1,i2] z (fun i h=>IsZip h z TI TO .none/\IsPair h TI (.ref i1) (.ref i2)/\(∃a c,IsPair h TO a c)/\PB b i1 a1 i h/\PB b' i2 a2 i h) where
 mem:=by simp
 obj:=fun i h st c hc=>by
  obtain⟨hz,hTI,⟨a,c',hTO⟩,p1,p2⟩:=st
  have hc':c=z\/c=TI\/c=TO\/c=i1\/c=i2:=by simpa using hc
  rcases hc' with rfl|rfl|rfl|rfl|rfl
  ·exact⟨_,hz,fun v q=>nomatch q⟩
  ·exact⟨_,hTI,fun v q=>nomatch q⟩
  ·exact⟨_,hTO,fun v q=>nomatch q⟩
  ·obtain⟨o,vs,e,d⟩:=(nxB b P w c a1).obj i h p1
   exact⟨o,e,fun v q=>by rw [d]at q;cases q⟩
  ·obtain⟨o,vs,e,d⟩:=(nxB b' P w c a2).obj i h p2
   exact⟨o,e,fun v q=>by rw [d]at q;cases q⟩
 keep:=fun i h h' st k=>by
  obtain⟨hz,hTI,⟨a,c',hTO⟩,p1,p2⟩:=st
  exact⟨k z (by simp) _ hz,k TI (by simp) _ hTI,⟨a,c',k TO (by simp) _ hTO⟩,(nxB b P w i1 a1).keepP i h h' p1 fun o e=>k i1 (by simp) o e,(nxB b' P w i2 a2).keepP i h h' p2 fun o e=>k i2 (by simp) o e⟩
 item:=by
  intro X hP hw hK hc i pins s Y H E I hf st hg;subst hP hw hK;obtain⟨hz,hTI,⟨a,c',hTO⟩,p1,p2⟩:=st;obtain⟨xs,ys,x,y,q1,q2,ex,ey⟩:=hg;obtain⟨it1,r1,l1,_⟩:=I.sqB q1;obtain⟨it2,r2,l2,_⟩:=I.sqB q2;obtain⟨u,hu,ru⟩:=r1.get ex;obtain⟨v,hv,rv⟩:=r2.get ey
  have ltz:∀c,c∈[z,TI,TO,i1,i2]->c<s.heap.objs.size:=fun c hc=>by
   have hc':c=z\/c=TI\/c=TO\/c=i1\/c=i2:=by simpa using hc
   rcases hc' with rfl|rfl|rfl|rfl|rfl
   ·exact Heap.lt_size hz
   ·exact Heap.lt_size hTI
   ·exact Heap.lt_size hTO
   ·obtain⟨o,vs,e,d⟩:=(nxB b X.prog X.w c a1).obj i _ p1;exact Heap.lt_size e
   ·obtain⟨o,vs,e,d⟩:=(nxB b' X.prog X.w c a2).obj i _ p2;exact Heap.lt_size e
  refine Z3 (nxB b X.prog X.w i1 a1) (nxB b' X.prog X.w i2 a2) D hz hTI hTO p1 p2 l1 l2 (x:=u) (y:=v) (by simpa using hu) (by simpa using hv) fun h' b1 b2 b3 b4 b5 b6 b7=>?_
  refine⟨_,rfl,?_⟩;refine wpAny_letOwnedTupleGo_zip (s:={ s with heap:=h' }) b1 fun h2 c1 c2=>?_;have nep:∀c,c∈[z,TI,TO,i1,i2]->c≠s.heap.objs.size:=fun c hc=>Nat.ne_of_lt (ltz c hc);have up:∀c o,c≠z->h'.get? c=some o->h2.get? c=some o:=fun c o hc e=>c2.extBut _ _ hc e
  have kp:∀c o,c∉[z,TO,i1,i2]->s.heap.get? c=some o->h2.get? c=some o:=fun c o hc e=>by
   have hc':¬(c=z\/c=TO\/c=i1\/c=i2):=by simpa using hc
   exact up c o (fun q=>hc' (.inl q)) (b7 c o (fun q=>hc' (.inl q)) (fun q=>hc' (.inr (.inl q))) (fun q=>hc' (.inr (.inr (.inl q)))) (fun q=>hc' (.inr (.inr (.inr q)))) e)
  have hf':∀c∈[z,TO,i1,i2],Qa1 X pins H c:=fun c hc=>hf c (by
   have hc':c=z\/c=TO\/c=i1\/c=i2:=by simpa using hc
   rcases hc' with rfl|rfl|rfl|rfl<;>simp)
  have hT:IsPair h2 s.heap.objs.size u v:=up _ _ (Ne.symm (nep z (by simp))) b5
  have I2:Inv X pins Y (upd H s.heap.objs.size (.tup [x,y])) { s with heap:=h2 }:=I.turnedLay (t':=s.toks) (its:=[u,v]) hf' kp (fun c o _ e=>by
   by_cases hc:c∈[z,TO,i1,i2]
   ·have hc':c=z\/c=TO\/c=i1\/c=i2:=by simpa using hc
    rcases hc' with rfl|rfl|rfl|rfl
    ·exact⟨_,c1⟩
    ·exact⟨_,up _ _ D.TOz b2⟩
    ·obtain⟨o,vs,e,d⟩:=(nxB b X.prog X.w c a1).obj _ _ b3;exact⟨o,up _ _ D.i1z e⟩
    ·obtain⟨o,vs,e,d⟩:=(nxB b' X.prog X.w c a2).obj _ _ b4;exact⟨o,up _ _ D.i2z e⟩
   ·exact⟨o,kp c o hc e⟩) (Nat.le_refl _) (.cons ru (.cons rv .nil)) ⟨_,hT,rfl,_,rfl⟩ (by show 2<=sizeLine;decide)
  have hn:H s.heap.objs.size=none:=I.hok.fresh (Nat.le_refl _)
  refine⟨.ref s.heap.objs.size,_,I2,rfl,⟨_,x,y,hn,rfl,rfl,fun ws hw=>by rw [I.sqB_inj hw q1];exact ex,fun ws hw=>by rw [I.sqB_inj hw q2];exact ey⟩,⟨c1,?_,⟨_,_,up _ _ D.TOz b2⟩,?_,?_⟩,fun c hc=>?_⟩
  ·exact kp _ _ (by
    have d1:=D.TIz;have d2:=D.TITO;have d3:=D.TIi1;have d4:=D.TIi2
    simp [d1,d2,d3,d4]) hTI
  ·exact(nxB b X.prog X.w i1 a1).keepP _ _ _ b3 fun o e=>up _ _ D.i1z e
  ·exact(nxB b' X.prog X.w i2 a2).keepP _ _ _ b4 fun o e=>up _ _ D.i2z e
  ·rw [Qe (nep c hc)];exact(hf c hc).1
 done:=by
  intro X hP hw hK hc i pins s Y H E I hf st hg;subst hP hw hK;obtain⟨hz,hTI,⟨a,c',hTO⟩,p1,p2⟩:=st;obtain⟨xs,ys,q1,q2,hl⟩:=hg;obtain⟨it1,r1,l1,_⟩:=I.sqB q1;obtain⟨it2,r2,l2,_⟩:=I.sqB q2;have e1:=r1.length;have e2:=r2.length
  refine Yp (nxB b X.prog X.w i1 a1) (nxB b' X.prog X.w i2 a2) (I.ok.hd hc) D hz hTI hTO p1 p2 l1 l2 (by
   rcases hl with q|q
   ·exact .inl (by simp;omega)
   ·exact .inr (by simp;omega)) fun h' kp=>⟨rfl,I.turnedL (t':=s.toks) (ch:=[z,TO,i1,i2]) (fun c hc=>hf c (by
    have hc':c=z\/c=TO\/c=i1\/c=i2:=by simpa using hc
    rcases hc' with rfl|rfl|rfl|rfl<;>simp)) fun c o hc e=>?_⟩
  have hc':¬(c=z\/c=TO\/c=i1\/c=i2):=by simpa using hc
  exact kp c o (fun q=>hc' (.inl q)) (fun q=>hc' (.inr (.inl q))) (fun q=>hc' (.inr (.inr (.inl q)))) (fun q=>hc' (.inr (.inr (.inr q)))) e
 self:=fun A i s Q E st h=>wpAny_pyIter_zip st.1 h
noncomputable abbrev QeI(b:Bool)(l:Addr):Obj:={ cls:=.type (if b then "list_iterator" else "tuple_iterator"),data:=.fields #[.ref l,.int 0 0] }
noncomputable abbrev zH1(b:Bool)(h:Heap)(l1:Addr):Heap:=h.push (QeI b l1)
noncomputable abbrev zH2(b b':Bool)(h:Heap)(l1 l2:Addr):Heap:=(zH1 b h l1).push (QeI b' l2)
noncomputable abbrev zH3(b b':Bool)(h:Heap)(l1 l2:Addr):Heap:=(zH2 b b' h l1 l2).push { cls:=.type "tuple",data:=.seq #[.ref h.objs.size,.ref (zH1 b h l1).objs.size] }
noncomputable abbrev zH4(b b':Bool)(h:Heap)(l1 l2:Addr):Heap:=(zH3 b b' h l1 l2).push { cls:=.type "tuple",data:=.seq #[.none,.none] }
noncomputable abbrev zH5(b b':Bool)(h:Heap)(l1 l2:Addr):Heap:=(zH4 b b' h l1 l2).push { cls:=.type "zip",data:=.fields #[.none,.bool false,.bool false,.ref (zH2 b b' h l1 l2).objs.size,.ref (zH3 b b' h l1 l2).objs.size] }
theorem QbZ(b b':Bool)(l1 l2:Addr)(xs ys:Array Value):
  Meets (Builtin.«zip.__new__» ⟨[.type "zip", .ref l1, .ref l2], []⟩) (fun _ R s => LB b l1 xs s.heap /\ LB b' l2 ys s.heap /\
   R (.ok (.ret (.ref (zH4 b b' s.heap l1 l2).objs.size))) { s with heap:=zH5 b b' s.heap l1 l2 }):=by
 refine .of_wp fun prog w A R s h=>?_;obtain⟨hp,g,d,tk,os⟩:=s;obtain⟨hl1,hl2,h⟩:=h;have hsub:=sub_zip
 cases b with
 | true =>
  have hL1:Heap.IsList (Shared.heap ⟨hp,g,d,tk,os⟩) l1 xs:=hl1
  cases b' with
  | true =>
   have hL2:Heap.IsList (Shared.heap ⟨hp.push { cls:=.type "list_iterator",data:=.fields #[.ref l1,.int 0 0] },g,d,tk,os⟩) l2 ys:=Heap.IsList.push hl2 _
   wp_walk using wpAny_pyIter_list hL1,wpAny_pyIter_list hL2
   exact⟨_,rfl,h⟩
  | false =>
   have hL2:Heap.IsTuple (Shared.heap ⟨hp.push { cls:=.type "list_iterator",data:=.fields #[.ref l1,.int 0 0] },g,d,tk,os⟩) l2 ys:=Heap.IsTuple.at hl2 fun o e=>Heap.get?_push_of_some _ e
   wp_walk using wpAny_pyIter_list hL1,wpAny_pyIter_tuple hL2
   exact⟨_,rfl,h⟩
 | false =>
  have hL1:Heap.IsTuple (Shared.heap ⟨hp,g,d,tk,os⟩) l1 xs:=hl1
  cases b' with
  | true =>
   have hL2:Heap.IsList (Shared.heap ⟨hp.push { cls:=.type "tuple_iterator",data:=.fields #[.ref l1,.int 0 0] },g,d,tk,os⟩) l2 ys:=Heap.IsList.push hl2 _
   wp_walk using wpAny_pyIter_tuple hL1,wpAny_pyIter_list hL2
   exact⟨_,rfl,h⟩
  | false =>
   have hL2:Heap.IsTuple (Shared.heap ⟨hp.push { cls:=.type "tuple_iterator",data:=.fields #[.ref l1,.int 0 0] },g,d,tk,os⟩) l2 ys:=Heap.IsTuple.at hl2 fun o e=>Heap.get?_push_of_some _ e
   wp_walk using wpAny_pyIter_tuple hL1,wpAny_pyIter_tuple hL2
   exact⟨_,rfl,h⟩
section
variable {prog:Program}{w:World}{A:Around}{E:Value->Shared->Prop}
theorem QdH{b':Bool}{l1 l2:Addr}{xs ys:Array Value}{Q:Value->Shared->Prop}(hl1:LB b l1 xs s.heap)(hl2:LB b' l2 ys s.heap)
  (h:∀h',IsZip h' (s.heap.objs.size+4) (s.heap.objs.size+2) (s.heap.objs.size+3) .none->IsPair h' (s.heap.objs.size+2) (.ref s.heap.objs.size) (.ref (s.heap.objs.size+1)) ->
   IsPair h' (s.heap.objs.size+3) .none .none->PB b s.heap.objs.size l1 0 h'->PB b' (s.heap.objs.size+1) l2 0 h'->h'.objs.size=s.heap.objs.size+5 ->
   (∀c o,s.heap.get? c=some o->h'.get? c=some o)->Q (.ref (s.heap.objs.size+4)) { s with heap:=h' }):
  wpAny (model prog w) A (call (.type "zip") [.ref l1,.ref l2]) Q E s:=by
 refine callType_new F.called_zip (by decide) (F.typeCall_zip_2 _ _) (F.newCall_zip_2 _ _) (fun obj=>F.args_object_init_3 obj _ _) F.entry_zip_new
  (QbZ b b' l1 l2 xs ys) ⟨hl1,hl2,?_⟩
 have z1:(zH1 b s.heap l1).objs.size=s.heap.objs.size+1:=Heap.size_push ..
 have z2:(zH2 b b' s.heap l1 l2).objs.size=s.heap.objs.size+2:=by rw [Heap.size_push,z1]
 have z3:(zH3 b b' s.heap l1 l2).objs.size=s.heap.objs.size+3:=by rw [Heap.size_push,z2]
 have z4:(zH4 b b' s.heap l1 l2).objs.size=s.heap.objs.size+4:=by rw [Heap.size_push,z3]
 have z5:(zH5 b b' s.heap l1 l2).objs.size=s.heap.objs.size+5:=by rw [Heap.size_push,z4]
 have g5:(zH5 b b' s.heap l1 l2).get? (zH4 b b' s.heap l1 l2).objs.size=some _:=Heap.get?_push_size _ rfl;have g4:(zH5 b b' s.heap l1 l2).get? (zH3 b b' s.heap l1 l2).objs.size=some _:=Heap.get?_push_of_some _ (Heap.get?_push_size _ rfl);have g3:(zH5 b b' s.heap l1 l2).get? (zH2 b b' s.heap l1 l2).objs.size=some _:=Heap.get?_push_of_some _ (Heap.get?_push_of_some _ (Heap.get?_push_size _ rfl));have g2:(zH5 b b' s.heap l1 l2).get? (zH1 b s.heap l1).objs.size=some (QeI b' l2):=Heap.get?_push_of_some _ (Heap.get?_push_of_some _ (Heap.get?_push_of_some _ (Heap.get?_push_size _ rfl)));have g1:(zH5 b b' s.heap l1 l2).get? s.heap.objs.size=some (QeI b l1):=Heap.get?_push_of_some _ (Heap.get?_push_of_some _ (Heap.get?_push_of_some _ (Heap.get?_push_of_some _ (Heap.get?_push_size _ rfl))));show _/\_;rw [z2,z3,z4]at g5;rw [z1,z2]at g3;rw [z3]at g4;rw [z1]at g2;rw [z4];refine⟨⟨_,g5,rfl⟩,h _ g5 g3 g4 ?_ ?_ z5 fun c o x=>Heap.get?_push_of_some _ (Heap.get?_push_of_some _ (Heap.get?_push_of_some _ (Heap.get?_push_of_some _ (Heap.get?_push_of_some _ x))))⟩
 ·cases b<;>exact⟨_,g1,rfl,rfl⟩
 ·cases b'<;>exact⟨_,g2,rfl,rfl⟩
end
section

def QnM(b b':Bool)(K:W.Frag)(ta:TA):TI:=fun Y H R=>ta Y H fun vs H1=>∃a1 a2,vs=[.ref a1,.ref a2]/\(∃xs,SqB b K H1 a1 xs)/\(∃ys,SqB b' K H1 a2 ys)/\R (Itz b b' K a1 a2) H1
theorem Qbl{b':Bool}{e1 e2:Expr}{ta:TA}{elts:List Expr}{kt:Nat}{pt p pos:Pos}(hg:Gl X "zip") (hm:X.mg "zip"=none) (ha:PA X [e1,e2] ta) (hs:starEach [e1,e2] X.env=[(false,eval e1 X.env),(false,eval e2 X.env)]) (hs2:starEach [e2] X.env=[(false,eval e2 X.env)]):
  PI X (.Tuple elts kt pt) (.Call (.Name "zip" p) [e1,e2] [] pos) (QnM b b' X.K ta):=by
 intro pins s Y H R I h
 refine Call_ (ZB I hg hm PyProof.Rows.boot_zip (PyProof.Rows.callWith_type1 (thn (ha pos pins s Y H _ I h) fun us s1 ⟨vs,H1,I1,r1,q1⟩=>?_) (by rw [hs,hs2]) (by rw [hs2];rfl)))
 obtain⟨a1,a2,e,⟨xs,q1⟩,⟨ys,q2⟩,q⟩:=q1;subst e;obtain⟨u,w',rfl,ru,rw'⟩:=Qcr r1;cases(show u=_ from ru);cases(show w'=_ from rw');obtain⟨it1,v1,l1,_⟩:=I1.sqB q1;obtain⟨it2,v2,l2,_⟩:=I1.sqB q2
 have hlt1:a1<s1.heap.objs.size:=by
  cases b with
  | true=>obtain⟨o,e,_⟩:=l1;exact Heap.lt_size e
  | false=>obtain⟨o,e,_⟩:=l1;exact Heap.lt_size e
 have hlt2:a2<s1.heap.objs.size:=by
  cases b' with
  | true=>obtain⟨o,e,_⟩:=l2;exact Heap.lt_size e
  | false=>obtain⟨o,e,_⟩:=l2;exact Heap.lt_size e
 refine QdH l1 l2 fun h' b1 b2 b3 b4 b5 b6 b7=>?_;refine wpAny_pyIter_zip b1 ?_;have I2:Inv X pins Y H1 { s1 with heap:=h' }:=I1.kept (t':=s1.toks) b7;refine⟨_,[s1.heap.objs.size+4,s1.heap.objs.size+2,s1.heap.objs.size+3,s1.heap.objs.size,s1.heap.objs.size+1],_,_,H1,rfl,I2,Qd8 b b' a1 a2 _ _ _ _ _ (W.ktu_apart _ _ _ hlt1 hlt2),⟨b1,b2,⟨_,_,b3⟩,b4,b5⟩,fun c hc=>?_,q⟩
 have hc':c=s1.heap.objs.size+4\/c=s1.heap.objs.size+2\/c=s1.heap.objs.size+3\/c=s1.heap.objs.size\/c=s1.heap.objs.size+1:=by simpa using hc
 have le:s1.heap.objs.size<=c:=by rcases hc' with rfl|rfl|rfl|rfl|rfl<;>omega
 exact I1.fpOk le (I1.hok.fresh le)
end
end
section
variable {elt iter tg:Expr}{n:Nat}{tl:Option Expr}{pos:Pos}{y:Str}{te:TE}{g:TG}{tt:TT}
noncomputable def Cx.block(X:Cx)(xs:List Str)(scope:Scope)(C:Addr)(s:Shared)(H:Hp)(fp:List Addr):Cx :=
 { X with N:=hideN xs X.N++xs,s₀:=s,H₀:=H,env:=compEnvC scope (Qcd X.env.cells scope.names []) C X.env,outer:=X.stack,ex:=fp,fn:=fun _=>false,pn:=[],xe:=fun _ _=>False }
structure CompOk(X:Cx)(xs:List Str)(scope:Scope):Prop where
 kind:scope.kind=.function
 loc:∀x∈xs,scope.names.lookup x=some .local
 all : ∀ y ∈ scope.names, (y.2 = .local -> (y.1 ∈ xs \/ y.1 = ".0") /\ scope.names.lookup y.1 = some .local) /\ y.2 ≠ .cell /\ (y.2 = .free -> X.env.scope.names.lookup y.1 = some .cell \/ X.env.scope.names.lookup y.1 = some .free)
 hid:∀x∈xs,scope.names.lookup (mang x)=none
 nd:xs.Nodup
 dot:(".0":Str)∉X.N
section
variable {X:Cx}{xs:List Str}{scope:Scope}{pins:List (Addr×Obj)}{Y:St}{H:Hp}{s:Shared}{fp:List Addr}
theorem CompOk.free_of(k:CompOk X xs scope)(hk:X.env.scope.kind=.function)(h:(relabel scope X.env).names.lookup y=some .cell\/(relabel scope X.env).names.lookup y=some .free):(y,NameKind.free)∈scope.names:=by
 rw [QP hk,Zq]at h
 cases q:scope.names.lookup y with
 | none=>rw [q]at h;simp at h
 | some kd =>
  rw [q]at h;have m:=Zv q
  cases kd with
  | free=>exact m
  | cell=>exact absurd rfl (k.all _ m).2.1
  | _=>simp at h
theorem CompOk.local_of (k : CompOk X xs scope) (hk : X.env.scope.kind = .function) (h : (relabel scope X.env).names.lookup y = some .local) : y ∈ xs \/ y = ".0" := by
 rw [QP hk,Zq]at h
 cases q:scope.names.lookup y with
 | none=>rw [q]at h;simp at h
 | some kd =>
  rw [q]at h;have m:=Zv q
  cases kd with
  | «local»=>exact((k.all _ m).1 rfl).1
  | free =>
   simp only [Option.map_some]at h;split at h<;>cases h
  | _=>simp at h
theorem Q3{cells:List (Str×Addr)}{l:List (Str×NameKind)}{c:Addr}(e:(Qcd cells l []).lookup y=some c):cells.lookup y=some c:=by
 rcases Qaj e with z|z
 ·simp at z
 ·exact z
theorem QgP{Y:St}{i:Nat}{v:V}(e:(Y++List.replicate n none)[i]?=some (some v)):Y[i]?=some (some v):=by
 by_cases h:i < Y.length
 ·rw [List.getElem?_append_left h]at e;exact e
 ·rw [List.getElem?_append_right (by omega),List.getElem?_replicate]at e
  split at e<;>cases e
theorem Inv.block{h₁:Heap}{m:Str->Option Value}{tk:Nat}(I:Inv X pins Y H s)(k:CompOk X xs scope)(hf:∀b∈fp,Qa1 X pins H b)(hfs:∀b∈fp,b<s.heap.objs.size)
  (hn:h₁.Ns s.heap.objs.size m) (kp:∀b o,s.heap.get? b=some o->h₁.get? b=some o):Inv (X.block xs scope s.heap.objs.size s H fp) [] (Y++List.replicate xs.length none) H { s with heap:=h₁,toks:=tk }:=by
 have hk:X.env.scope.kind=.function:=I.ok.kind
 have fsub:∀b∈fp,b∉frs X.stack:=fun b hb z=>by
  rcases List.mem_cons.mp (I.stkSub b z)with e|e
  ·exact(hf b hb).2.1 e
  ·exact(hf b hb).2.2.1 e
 have okB:(X.block xs scope s.heap.objs.size s H fp).Ok:={
  mod:=I.ok.mod
  kind:=k.kind
  glob:=I.ok.glob
  blt:=I.ok.blt
  above:=Nat.le_refl _
  inj:=fun y z c e1 e2=>I.ok.inj y z c (Q3 e1) (Q3 e2)
  has:=fun y h=>by
   have m:=k.free_of hk h;obtain⟨c,hc⟩:=I.ok.has y ((k.all _ m).2.2 rfl);exact⟨c,JB hc (.inl m)⟩
  cab:=fun y c h=>nomatch h
  hd:=I.ok.hd
  frames:=I.ok.frames
  stk:=.inl rfl
  exf:=fun b hb=>⟨Nat.ne_of_lt (hfs b hb),fun y c e=>(hf b hb).2.2.2.2.1 y c (Q3 e)⟩
  bs:=I.bs
  bsz:=Nat.le_trans I.ok.bsz I.sz
  noex:=fun b o e hb=>by
   rcases (hf b hb).2.2.2.1 with z|z
   ·exact I.ok.noex b o e z
   ·exact absurd (Nat.lt_of_lt_of_le (Heap.lt_size e) (Nat.le_trans I.ok.bsz z)) (Nat.lt_irrefl _)
  exfs:=fun b hb z=>fsub b hb z
  funs:=I.stack
  frf:=fun b hb=>I.stkFree b hb }
 refine⟨okB,rfl,I.bare,Un.kept kp,⟨m,hn,fun i y v e1 e2 e3=>?_⟩,fun y c e=>?_,I.hok.fresh (Nat.le_refl _),fun y c e=>I.freeC y c (Q3 e),(fun p hp=>by cases hp),I.hok.kept kp,?_⟩
 ·have e1:(hideN xs X.N++xs)[i]?=some y:=e1;have e3:Vis (relabel scope X.env) y:=e3;have q2:Y[i]?=some (some v):=QgP e2
  have q0:(hideN xs X.N)[i]?=some y:=by
   have:=(List.getElem?_eq_some_iff.mp q2).1;rw [I.len,<-ZL (xs:=xs)]at this;rw [List.getElem?_append_left this]at e1;exact e1
  obtain⟨z,q1,⟨zm,rfl⟩|⟨zn,rfl⟩⟩:=QeK q0
  ·have no:=k.hid z zm
   have no':(relabel scope X.env).names.lookup (mang z)=none:=by rw [QP hk,Zq,no];rfl
   rcases e3 with w|w|w<;>(rw [no']at w;cases w)
  have ym:y∈X.N:=List.mem_of_getElem? q1
  have hcf:(relabel scope X.env).names.lookup y=some .cell\/(relabel scope X.env).names.lookup y=some .free:=by
   rcases e3 with z|z
   ·rcases k.local_of hk z with q|q
    ·exact absurd q zn
    ·exact absurd (q▸ym) k.dot
   ·exact z
  have m':=k.free_of hk hcf;have xk:=(k.all _ m').2.2 rfl;obtain⟨mm,hnn,hl⟩:=I.loc;obtain⟨u,r,l⟩:=hl i y v q1 q2 (.inr xk);refine⟨u,r,.inr ⟨hcf,?_⟩⟩
  rcases l with⟨l,_⟩|⟨_,c,e,o,ho,hd⟩
  ·have l:X.env.scope.names.lookup y=some .local:=l
   rcases xk with z|z<;>(rw [l]at z;cases z)
  ·exact⟨c,JB e (.inl m'),o,kp c o ho,hd⟩
 ·obtain⟨v,o,ho,hd⟩:=I.cell y c (Q3 e);exact⟨v,o,kp c o ho,hd⟩
 ·show(Y++List.replicate xs.length none).length=(hideN xs X.N++xs).length;simp [I.len,ZL]
def PTO(X:Cx)(tl:Option Expr)(tt:TT):Prop:=match tl with
 | none=>∀Y H Q,tt Y H Q->Q true H
 | some c=>PT X c tt
def QaA(wi:TI)(n:Nat)(g:TG)(tt:TT)(te:TE):TE:=fun Y H Q=>wi Y H fun J H1=>∀D,H1 D=none->∃W:Nat->Nat->List V->Hp->Prop,(∃m,W 0 m [] (upd H1 D (.lst [])))/\∀i m ys H2,W i m ys H2->H2 D=some (.lst ys) /\
 ((J.stop i H2/\Q (.ref D) H2)\/(J.go i H2/\ys.length<sizeLine/\∀x H3 os,os.length=n->J.yld i H2 x H3->g x (Y++os) H3 fun Y' H4=>(∃os',os'.length=n/\Y'=Y++os')/\tt Y' H4 fun b H5=>if b=true then te Y' H5 fun y H6=>H6 D=some (.lst ys)/\∃m',m'<m/\W (i+1) m' (ys++[y]) (upd H6 D (.lst (ys++[y])))else ∃m',m'<m/\W (i+1) m' ys H5))
theorem Y6{Q:VK}{it:Addr}{tn:Nat->Heap->Prop}{J:It}{E:Value->Shared->Prop}{RR:Value->Addr->Result->Shared->Prop}(hc:X.calm=true)(k:CompOk X xs scope)
  (hn:xs.length=n) (hg:∀C s H fp,PG (X.block xs scope C s H fp) tg g) (ht:∀C s H fp,PTO (X.block xs scope C s H fp) tl tt) (he:∀C s H fp,PE (X.block xs scope C s H fp) elt te)
  (I2:Inv X pins Y H s) (T:Turn X.prog X.w X.K tg J fp it tn) (st2:tn 0 s.heap) (f2:∀b∈fp,Qa1 X pins H b)
  (q:∀D,H D=none->∃W:Nat->Nat->List V->Hp->Prop,(∃m,W 0 m [] (upd H D (.lst [])))/\∀i m ys H2,W i m ys H2->H2 D=some (.lst ys) /\
   ((J.stop i H2/\Q (.ref D) H2)\/(J.go i H2/\ys.length<sizeLine/\∀x H3 os,os.length=n->J.yld i H2 x H3->g x (Y++os) H3 fun Y' H4=>(∃os',os'.length=n/\Y'=Y++os')/\tt Y' H4 fun b H5=>if b=true then te Y' H5 fun y H6=>H6 D=some (.lst ys)/\∃m',m'<m/\W (i+1) m' (ys++[y]) (upd H6 D (.lst (ys++[y])))else ∃m',m'<m/\W (i+1) m' ys H5)))
  (hRR:∀D C s' H' m,Inv X pins Y H' s'->s'.heap.Ns C m->Qa1 X pins H' C->Q (.ref D) H'->RR (.ref D) C (.ok .next) s'):
  wpAny (model X.prog X.w) X.A (newList []) (fun acc s₃=>wpAny (model X.prog X.w) X.A (newFunctionEnv scope X.env.globals (Qcd X.env.cells scope.names []) [] X.env.qual none .none (some X.env)) (fun cenv s₄ =>
   codeAny (model X.prog X.w) X.A (.compStart (.ListComp elt [⟨tg,iter,tl.toList,0⟩] scope pos) 0 (.ref it) acc { cenv with scope:=relabel scope X.env }) (RR acc cenv.locals) s₄) E s₃) E s:=by
 have hk:X.env.scope.kind=.function:=I2.ok.kind
 refine wpAny_newObj_type (wpAny_newFunctionEnv (fun y hy=>(k.all y hy).2.1) (by intro y hy;simp at hy) (fun h₁ hns₁ hsb₁=>?_) k.kind)
 dsimp only at hns₁ hsb₁ ⊢;have hD:H s.heap.objs.size=none:=I2.hok.fresh (Nat.le_refl _);obtain⟨W,⟨m0,w0⟩,turn⟩:=q s.heap.objs.size hD
 have I3:Inv X pins Y (upd H s.heap.objs.size (.lst [])) { s with heap:=s.heap.push { cls:=.type "list",dict:=none,data:=.seq ([]:List Value).toArray } }:=
  I2.laid (t':=s.toks) (fun b o e=>Heap.get?_push_of_some _ e) (Nat.le_refl _) (show ObjOk X.prog X.w _ _ _ (.lst [])from⟨Nat.zero_le _,[],_,.nil,Heap.get?_push_size _ rfl⟩)
 have lt2:∀b∈fp,b<s.heap.objs.size:=fun b hb=>by
  obtain⟨o,e,_⟩:=T.obj 0 _ st2 b hb;exact Heap.lt_size e
 have f3:∀b∈fp,Qa1 X pins (upd H s.heap.objs.size (.lst [])) b:=fun b hb=>⟨by rw [Qe (Nat.ne_of_lt (lt2 b hb))];exact(f2 b hb).1,(f2 b hb).2⟩
 have lt3:∀b∈fp,b<(s.heap.push { cls:=.type "list",dict:=none,data:=.seq ([]:List Value).toArray }).objs.size:=fun b hb=>by
  rw [Heap.size_push];exact Nat.lt_succ_of_lt (lt2 b hb)
 generalize hs3:({ s with heap:=s.heap.push { cls:=.type "list",dict:=none,data:=.seq ([]:List Value).toArray } }:Shared)=s3 at I3
 have e3:s3.heap=s.heap.push { cls:=.type "list",dict:=none,data:=.seq ([]:List Value).toArray }:=by rw [<-hs3]
 rw [<-e3]at hns₁ hsb₁ lt3 ⊢;have kp:∀b o,s3.heap.get? b=some o->h₁.get? b=some o:=fun b o e=>hsb₁.extBut b o (Nat.ne_of_lt (Heap.lt_size e)) (Heap.get?_push_of_some _ e);have IB:=I3.block (tk:=s.toks+([]:List (Str×Value)).length) k f3 lt3 hns₁ kp
 have es:({ s3 with heap:=h₁,toks:=s.toks+([]:List (Str×Value)).length }:Shared)={ s with heap:=h₁,toks:=s.toks+([]:List (Str×Value)).length }:=by rw [<-hs3]
 rw [es]at IB;generalize hX:X.block xs scope s3.heap.objs.size s3 (upd H s.heap.objs.size (.lst [])) fp=Yyy at IB;have HE:PE Yyy elt te:=hX▸he _ _ _ _;have HT:PTO Yyy tl tt:=hX▸ht _ _ _ _;have HG:PG Yyy tg g:=hX▸hg _ _ _ _
 have hP:Yyy.prog=X.prog:=by rw [<-hX];rfl
 have hw:Yyy.w=X.w:=by rw [<-hX];rfl
 have hK:Yyy.K=X.K:=by rw [<-hX];rfl
 have hA:Yyy.A=X.A:=by rw [<-hX];rfl
 have hcY:Yyy.calm=true:=by rw [<-hX];exact hc
 have hxe:Yyy.xe=fun _ _=>False:=by rw [<-hX];rfl
 have henv:Yyy.env=compEnvC scope (Qcd X.env.cells scope.names []) s3.heap.objs.size X.env:=by rw [<-hX];rfl
 have fpY:∀{H':Hp},(∀b∈fp,H' b=none)->∀b∈fp,Qa1 Yyy [] H' b:=fun hn b hb=>by
  have hb1:=(f2 b hb).2;rw [<-hX]
  refine⟨hn b hb,?_,fun z=>?_,.inl hb,fun y c e=>hb1.2.2.2.1 y c (Q3 e),(fun p hp=>by cases hp)⟩
  ·exact Nat.ne_of_lt (lt3 b hb)
  ·rcases List.mem_cons.mp (I3.stkSub b z)with e|e
   ·exact hb1.1 e
   ·exact hb1.2.1 e
 have back:∀{Y':St} {H':Hp} {s':Shared},Inv Yyy [] Y' H' s'->Inv X pins Y H' s'/\(∃m,s'.heap.Ns s3.heap.objs.size m)/\Qa1 X pins H' s3.heap.objs.size:=fun {Y' H' s'} J'=>by
  have u:=J'.base;have os:=J'.os;have hok:=J'.hok;have bare:=J'.bare;obtain⟨mm,hnn,_⟩:=J'.loc;have fr:=J'.free;rw [henv]at hnn fr;rw [<-hX]at u os hok;refine⟨I3.call' os u hok bare fun b hb=>?_,⟨mm,hnn⟩,I3.fpOk (Nat.le_refl _) fr⟩;exact⟨(f2 b hb).2.2.2.1,(f2 b hb).2.1,(f2 b hb).2.2.2.2.1,(f2 b hb).2.2.2.2.2⟩
 have loop:∀s₃:Shared,Inv Yyy [] (Y++List.replicate xs.length none) (upd H s.heap.objs.size (.lst [])) s₃->tn 0 s₃.heap ->
   codeAny (model X.prog X.w) X.A (.compLoop (.ListComp elt [⟨tg,iter,tl.toList,0⟩] scope pos) 0 (.ref it) (.ref s.heap.objs.size) Yyy.env) (RR (.ref s.heap.objs.size) s3.heap.objs.size) s₃:=by
  intro s₃ J3 t3
  refine QaX (fun m s'=>∃i os H' ys,os.length=n/\Inv Yyy [] (Y++os) H' s'/\tn i s'.heap/\(∀b∈fp,H' b=none)/\W i m ys H') ?_ m0 ⟨0,_,_,[],by rw [List.length_replicate];exact hn,J3,t3,fun b hb=>(f3 b hb).1,w0⟩
  rintro m s4 ⟨i,os,H4,ys,lo,J4,st4,fr4,w4⟩;obtain⟨hDl,tr⟩:=turn i m ys H4 w4
  rcases tr with⟨stop,qn⟩|⟨go,hz,step⟩
  ·have dn:=T.done Yyy hP hw hK hcY i [] s4 (Y++os) H4 (notedBy (model X.prog X.w) X.A Yyy.env fun e s'=>RR (.ref s.heap.objs.size) s3.heap.objs.size (.error e) s') J4 (fpY fr4) st4 stop;rw [hA]at dn;refine thn dn fun r s5 ⟨hr,J5⟩=>?_;subst hr;obtain⟨I5,⟨m5,n5⟩,f5⟩:=back J5;exact hRR _ _ _ _ _ I5 n5 f5 qn
  ·have im:=T.item Yyy hP hw hK hcY i [] s4 (Y++os) H4 (notedBy (model X.prog X.w) X.A Yyy.env fun e s'=>RR (.ref s.heap.objs.size) s3.heap.objs.size (.error e) s') J4 (fpY fr4) st4 go;rw [hA]at im;refine thn im fun r s5 ⟨u,hr,h5⟩=>?_;subst hr;refine thn h5 fun _ s6 ⟨v,H6,J6,rv,y6,st6,fr6⟩=>?_;have J6':=J6.pinned (fpY fr6) (T.obj _ _ st6)
   have noE:∀{EE:Value->Shared->Prop},∀e s',Yyy.xe e s'->EE e s':=fun {EE} e s' z=>by rw [hxe]at z;exact z.elim
   have asg:=HG _ s6 (Y++os) H6 v u _ J6' rv (step v H6 os lo y6);rw [hP,hw,hA]at asg;refine wpAny_mono asg (fun _ s7 ⟨σ7,H7,J7,⟨os',lo',e7⟩,q7⟩=>?_) noE;subst e7
   have fin:∀{s9:Shared} {H9:Hp} {m':Nat} {zs:List V},Inv Yyy ([]++Yq fp s6.heap) (Y++os') H9 s9->m'<m->W (i+1) m' zs H9->∃m',m'<m/\∃i os H' ys,os.length=n/\Inv Yyy [] (Y++os) H' s9/\tn i s9.heap/\(∀b∈fp,H' b=none)/\W i m' ys H':=fun {s9 H9 m' zs} J9 hm' w9=>by
    refine⟨m',hm',i+1,os',H9,zs,lo',J9.unpinned,T.keep _ _ _ st6 fun b hb ob e=>(J9.pin (b,ob) (List.mem_append_right _ (List.mem_append_right _ (Zf hb e)))).1,fun b hb=>?_,w9⟩;obtain⟨ob,e,d⟩:=T.obj _ _ st6 b hb;exact(J9.pin (b,ob) (List.mem_append_right _ (List.mem_append_right _ (Zf hb e)))).2.1
   have tst:wpAny (model X.prog X.w) X.A (forIn tl.toList true fun c r=>if r=true then do let ok <-isTrue c Yyy.env (eval c Yyy.env);pure (ForInStep.yield ok)else pure (ForInStep.yield r)) (TP Yyy ([]++Yq fp s6.heap) (Y++os') fun b H5=>if b=true then te (Y++os') H5 fun y H6=>H6 s.heap.objs.size=some (.lst ys)/\∃m',m'<m/\W (i+1) m' (ys++[y]) (upd H6 s.heap.objs.size (.lst (ys++[y])))else ∃m',m'<m/\W (i+1) m' ys H5) (notedBy (model X.prog X.w) X.A Yyy.env fun e s'=>RR (.ref s.heap.objs.size) s3.heap.objs.size (.error e) s') s7:=by
    refine Qd4 ?_
    cases tl with
    | none=>exact⟨H7,J7,HT _ _ _ q7⟩
    | some c =>
     have z:=(show PT Yyy c tt from HT) _ s7 _ _ _ J7 q7;rw [hP,hw,hA]at z;exact wpAny_mono z (fun _ _ h=>h) noE
   refine wpAny_mono tst (fun b s8 ⟨H8,J8,q8⟩=>?_) fun _ _ e=>e
   cases b with
   | false =>
    rw [if_neg Bool.false_ne_true]at q8 ⊢;obtain⟨m',hm',w8⟩:=q8;exact fin J8 hm' w8
   | true =>
    rw [if_pos rfl]at q8 ⊢;have ev:=HE _ s8 _ _ _ J8 q8;rw [hP,hw,hA]at ev;refine wpAny_mono ev (fun y s8 ⟨yv,H8,J8,ry,hD8,m',hm',w8⟩=>?_) noE;have ap:=JY (X:=Yyy) _ s8 _ H8 (.ref s.heap.objs.size) [yv] (.ref s.heap.objs.size) [y] (fun _ H'=>H'=upd H8 s.heap.objs.size (.lst (ys++[yv]))) J8 rfl (.cons ry .nil) ⟨_,ys,yv,rfl,rfl,hD8,hz,rfl⟩;rw [hP,hw,hA]at ap;refine wpAny_mono ap (fun _ s9 ⟨_,H9,J9,_,e9⟩=>?_) noE;subst e9;exact fin J9 hm' w8
 have t1:tn 0 h₁:=T.keep 0 _ _ st2 fun b hb o e=>kp b o (by rw [e3];exact Heap.get?_push_of_some _ e)
 have go:=loop _ IB t1;rw [henv]at go;refine codeAny_compStart_list ?_ ?_
 ·exact go
 ·exact T.self X.A 0 _ _ _ t1 go
theorem QaK{wi:TI}(hc:X.calm=true)(k:CompOk X xs scope)(hi:PI X tg iter wi)(hn:xs.length=n)(hg:∀C s H fp,PG (X.block xs scope C s H fp) tg g)(ht:∀C s H fp,PTO (X.block xs scope C s H fp) tl tt)(he:∀C s H fp,PE (X.block xs scope C s H fp) elt te)
  (hs:∀v,foldedSetIterable iter X.env v=pure v):PE X (.ListComp elt [⟨tg,iter,tl.toList,0⟩] scope pos) (QaA wi n g tt te):=by
 intro pins s Y H Q I h;rw [eval_ListComp];refine wpAny_comprehension_free (use:=none) rfl hs (Y9 fun y hy hf=>I.ok.has y.1 ((k.all y hy).2.2 hf)) k.kind (fun y hy hl=>((k.all y hy).1 hl).2) ?_;refine thn (hi pins s Y H _ I h) fun v s1 h1=>thn h1 fun itv s2 h2=>?_;obtain⟨it,fp,tn,J,H2,e,I2,T,st2,f2,q⟩:=h2;subst e;refine Y6 (RR:=fun acc C=>compPost (model X.prog X.w) X.A X.xe none (EP X pins Y Q) acc C) hc k hn hg ht he I2 T st2 f2 q ?_;intro D C s' H' m I' n' f' q';refine⟨m,n',fun h' sb=>?_⟩;exact⟨.ref D,H',I'.turned (t':=s'.toks) (fun b o hb e=>sb.extBut b o hb e) f'.1 f'.2.1 f'.2.2.2.1 f'.2.2.2.2.1 f'.2.2.2.2.2,rfl,q'⟩
theorem QcU{py spos:Pos}{wi:TI}{j:Nat}(hc:X.calm=true)(hN:X.N.Nodup)(k:CompOk X xs scope)(hi:PI X tg iter wi)(hn:xs.length=n)(hg:∀C s H fp,PG (X.block xs scope C s H fp) tg g)(ht:∀C s H fp,PTO (X.block xs scope C s H fp) tl tt)(he:∀C s H fp,PE (X.block xs scope C s H fp) elt te)
  (hs:∀v,foldedSetIterable iter X.env v=pure v) (hj:X.N[j]?=some y) (hy:Loc X.env.scope y) (hfn:X.fn y=true\/X.env.scope.names.lookup y=some .local):
  PS X (.Assign [.Name y py] (.ListComp elt [⟨tg,iter,tl.toList,0⟩] scope pos) spos) (fun D Y H=>QaA wi n g tt te Y H fun v H1=>D.nx (Y.set j (some v)) H1):=by
 have hsw:∃b,swapsWith (.ListComp elt [⟨tg,iter,tl.toList,0⟩] scope pos) (some (.Name y py)) spos.line X.env=pure b:=⟨_,rfl⟩;obtain⟨b,hsw⟩:=hsw
 cases b with
 | false=>exact Qfs hN hj hy (QaK hc k hi hn hg ht he hs) hsw hfn
 | true =>
  intro pins s Y H D I h;rw [exec_Assign_Name_used _ _ _ _ hsw];refine wpAny_bind (wpAny_standAt (wpAny_bind ?_))
  show wpAny _ _ (do let _ <-comprehension (.ListComp elt [⟨tg,iter,tl.toList,0⟩] scope pos) scope X.env _ (newList []) false (eval iter X.env) (some (assign (.Name y py) X.env))) _ _ s
  refine wpAny_bind (wpAny_mono (wpAny_comprehension_free (use:=some (assign (.Name y py) X.env)) (Q:=fun _ s'=>SP X pins D .next s') rfl hs (Y9 fun y hy hf=>I.ok.has y.1 ((k.all y hy).2.2 hf)) k.kind (fun y hy hl=>((k.all y hy).1 hl).2) ?_)
   (fun _ s' hq=>wpAny_pure (wpAny_pure hq)) fun _ _ e=>e)
  refine thn (hi pins s Y H _ I h) fun v s1 h1=>thn h1 fun itv s2 h2=>?_;obtain⟨it,fp,tn,J,H2,e,I2,T,st2,f2,q⟩:=h2;subst e;refine Y6 (Q:=fun v H1=>D.nx (Y.set j (some v)) H1) (RR:=fun acc C=>compPost (model X.prog X.w) X.A X.xe (some (assign (.Name y py) X.env)) (fun _ s'=>SP X pins D .next s') acc C) hc k hn hg ht he I2 T st2 f2 q ?_;intro Da C s' H' m I' n' f' q';obtain⟨o,es,ep,ho,hd,r⟩:=id n'
  have Ip:Inv X (pins++Yq [C] s'.heap) Y H' s':=I'.pinned (fun b hb=>by
   have e:b=C:=by simpa using hb
   subst e
   exact f') fun b hb=>by
    have e:b=C:=by simpa using hb
    subst e
    exact⟨o,ho,fun v z=>by rw [hd]at z;cases z⟩
  refine thn (Jr (i:=j) hN hj hy hfn _ s' Y H' (.ref Da) (.ref Da) _ Ip rfl q') fun _ s'' ⟨σ2,H2',J2,q2⟩=>?_
  have pc:=J2.pin (C,o) (List.mem_append_right _ (List.mem_append_right _ (Zf (by simp) ho)))
  refine⟨m,⟨o,es,ep,pc.1,hd,r⟩,fun h' sb=>?_⟩;exact⟨σ2,H2',J2.unpinned.turned (t':=s''.toks) (fun b ob hb e=>sb.extBut b ob hb e) pc.2.1 f'.2.1 f'.2.2.2.1 f'.2.2.2.2.1 f'.2.2.2.2.2,q2⟩
end
end
end L2
namespace Iv
open PySem PySem.Spec PyProof.Rows L2
section
variable {D:Addr}{b:Bool}{a':E}{a it tg:Expr}{J:It}{d:Nat}{p q:Pos}{w:Wk}
section
variable {X:Cx}{T:Tbl}{A:Adr}{cf:Cf}{m k:Nat}{α:List Addr}{hs:Hs}{H:Hp}{u:U}{v:V}{Z:Rho}{Y:St}
def WJ(A:Adr)(K:W.Frag)(α:List Addr)(J:It)(H:Hp):Wk->Prop
 | .seqL u=>∃a,RU A α u (.ref a)/\J=Itl K a
 | .seqT u=>∃a,RU A α u (.ref a)/\J=Itt K a
 | .rng lo n=>J=Itr lo n
 | .zipB p q x y=>∃a b,RU A α x (.ref a)/\RU A α y (.ref b)/\J=Itz p q K a b
 | .revL _ _=>False
 | .rngC _ _ _=>False
 | .enmL _=>False
 | .strW _=>False
 | .keyD n=>∃a o kv,α[n]?=some a/\J=Itk a o kv/\H a=some (.frz o (.dK kv))
theorem WJ.mono{K:W.Frag}{α':List Addr}{H':Hp}(p:∀(n:Nat) a,α[n]?=some a->α'[n]?=some a)(f:∀b o u,H b=some (.frz o u)->H' b=some (.frz o u))(h:WJ A K α J H w):WJ A K α' J H' w:=by
 cases w with
 | seqL u=>obtain⟨a,r,e⟩:=h;exact⟨a,r.mono p,e⟩
 | seqT u=>obtain⟨a,r,e⟩:=h;exact⟨a,r.mono p,e⟩
 | rng lo n=>exact h
 | zipB b c x y=>obtain⟨a,b,r,r',e⟩:=h;exact⟨a,b,r.mono p,r'.mono p,e⟩
 | revL u n=>exact False.elim h
 | rngC lo c n=>exact False.elim h
 | enmL u=>exact False.elim h
 | strW x=>exact False.elim h
 | keyD n=>obtain⟨a,o,kv,e1,e2,e3⟩:=h;exact⟨a,o,kv,p _ _ e1,e2,f _ _ _ e3⟩
noncomputable def gT(K:W.Frag):Tg->TG
 | .name i=>Qad i
 | .pair i j=>QnO K 2 (QeR (Qad i) (QeR (Qad j) Qmj))
theorem YQ{xs:List U}(tx:Txt T A X.K X.mg)(R:Rep T A X.K α hs H)(h:sqU T b u hs=some xs)(r:RU A α u v):∃a vs,v=.ref a/\RUs A α xs vs/\SqB b X.K H a vs:=by
 cases b with
 | true=>exact Q6 tx R h r
 | false=>exact Jf tx R h r
theorem Qbv{i:Nat}(tx:Txt T A X.K X.mg)(R:Rep T A X.K α hs H)(W:WJ A X.K α J H w)(h:itm T w i hs=some none):J.stop i H:=by
 cases w with
 | seqL u =>
  obtain⟨a,r,rfl⟩:=W;simp only [itm,Option.map_eq_some_iff,Option.map_eq_none_iff]at h;obtain⟨xs,e,h⟩:=h;obtain⟨a',vs,ea,rr,q⟩:=Q6 tx R e r;cases ea
  exact⟨vs,q,by rw [<-rr.length];exact List.getElem?_eq_none_iff.mp h⟩
 | seqT u =>
  obtain⟨a,r,rfl⟩:=W;simp only [itm,Option.map_eq_some_iff,Option.map_eq_none_iff]at h;obtain⟨xs,e,h⟩:=h;obtain⟨a',vs,ea,rr,q⟩:=Jf tx R e r;cases ea
  exact⟨vs,q,by rw [<-rr.length];exact List.getElem?_eq_none_iff.mp h⟩
 | rng lo n =>
  cases(show J=_ from W);simp only [itm,Option.some.injEq]at h;split at h
  ·cases h
  ·rename_i l;show n<=i;omega
 | zipB p q x y =>
  obtain⟨a,b,r1,r2,rfl⟩:=W;simp only [itm]at h;split at h
  case h_2=>cases h
  rename_i xs ys e1 e2;obtain⟨a',vs,ea,rr,q⟩:=YQ tx R e1 r1;cases ea;obtain⟨b',ws,eb,rr',q'⟩:=YQ tx R e2 r2;cases eb;refine⟨vs,ws,q,q',?_⟩;unfold two at h;rw [<-rr.length,<-rr'.length];by_cases l1:i<xs.length
  ·by_cases l2:i<ys.length
   ·rw [List.getElem?_eq_getElem l1,List.getElem?_eq_getElem l2]at h;cases h
   ·exact .inr (by omega)
  ·exact .inl (by omega)
 | revL u n=>exact False.elim W
 | rngC lo c n=>exact False.elim W
 | enmL u=>exact False.elim W
 | strW x=>exact False.elim W
 | keyD n =>
  obtain⟨a,o,kv,ha,rfl,hz⟩:=W;simp only [itm]at h;split at h
  case h_2=>cases h
  rename_i kvs hn;obtain⟨kv',ob,e,rd⟩:=R.h.ob n a _ ha hn;rw [hz]at e;cases e;simp only [Option.some.injEq,Option.map_eq_none_iff]at h
  exact⟨hz,by rw [<-Paired.length rd];exact List.getElem?_eq_none_iff.mp h⟩
theorem Ji{t:Tg}{ρ':Rho}{Q:St->Hp->Prop}(R:Rep T A X.K α hs H)(rs:RS A α Z Y)(r:RU A α u v)(h:tgt t (.one u) Z hs=some ρ')(k:∀σ2,RS A α ρ' σ2->Q σ2 H):gT X.K t v Y H Q:=by
 cases t with
 | name i=>cases h;exact k _ (rs.set i r)
 | pair i j =>
  cases u with
  | ref n =>
   obtain⟨a,ha,rfl⟩:=r;simp only [tgt]at h;split at h
   case h_2=>cases h
   rename_i x y e;cases h;obtain⟨vs,q,rr⟩:=R.h.ob n a _ ha e;obtain⟨v1,ws,rfl,r1,rr⟩:=Ql rr;obtain⟨v2,ws,rfl,r2,rr⟩:=Ql rr;cases Qx rr;exact⟨a,[v1,v2],rfl,SqT.of q,rfl,v1,[v2],rfl,v2,[],rfl,rfl,k _ ((rs.set i r1).set j r2)⟩
  | _=>simp [tgt]at h
theorem Qdm{i:Nat}{x:Im}{t:Tg}{ρ':Rho}(tx:Txt T A X.K X.mg)(R:Rep T A X.K α hs H)(W:WJ A X.K α J H w)(rs:RS A α Z Y)(h:itm T w i hs=some (some x))(ht:tgt t x Z hs=some ρ'):
  J.go i H/\∀v H' (Q:St->Hp->Prop),J.yld i H v H'->(∀σ2,RS A α ρ' σ2->Rep T A X.K α hs H'->Ext α α H H'->Q σ2 H')->gT X.K t v Y H' Q:=by
 have zip:∀{b c:Bool} {a1 a2:Addr} {xs ys:List U} {vs ws:List V},SqB b X.K H a1 vs->SqB c X.K H a2 ws->RUs A α xs vs->RUs A α ys ws->some (two xs ys i)=some (some x) ->
   (Itz b c X.K a1 a2).go i H/\∀v H' (Q:St->Hp->Prop),(Itz b c X.K a1 a2).yld i H v H'->(∀σ2,RS A α ρ' σ2->Rep T A X.K α hs H'->Ext α α H H'->Q σ2 H')->gT X.K t v Y H' Q:=by
  intro b c a1 a2 xs ys vs ws q1 q2 r1 r2 h;unfold two at h;split at h
  case h_2=>cases h
  rename_i x1 y1 e1 e2;cases h;obtain⟨v1,f1,g1⟩:=r1.get e1;obtain⟨v2,f2,g2⟩:=r2.get e2;refine⟨⟨vs,ws,v1,v2,q1,q2,f1,f2⟩,?_⟩;rintro v H' Q ⟨p,w1,w2,hp,rfl,rfl,k1,k2⟩ k;have n1:w1=v1:=Option.some.inj ((k1 vs q1).symm.trans f1);have n2:w2=v2:=Option.some.inj ((k2 ws q2).symm.trans f2);subst n1 n2
  have ne:∀b y,H b=some y->b≠p:=fun b y e z=>by rw [z,hp]at e;cases e
  have R':Rep T A X.K α hs (upd H p (.tup [w1,w2])):=⟨⟨R.h.len,R.h.nd_keep fun b x _ e=>by rw [Qe (ne _ _ e)];exact e,fun n a o e1 e2=>RO.keep (R.h.ob n a o e1 e2) (fun _ _ e=>e) fun _ y e _=>by rw [Qe (ne _ _ e)];exact e⟩,R.s.keep fun y e _=>by rw [Qe (ne _ _ e)];exact e⟩
  have E':Ext α α H (upd H p (.tup [w1,w2])):=⟨fun _ _ e=>e,fun n a e l=>by have:=getElem?_lt e;omega,fun b o e _=>by rw [Qe (ne _ _ e)];exact e,fun b o kv e=>by rw [Qe (ne _ _ e)];exact e,fun b o e=>⟨o,by rw [Qe (ne _ _ e)];exact e,fun _=>Iff.rfl⟩⟩
  cases t with
  | name i=>simp [tgt]at ht
  | pair i j =>
   cases ht;exact⟨p,[w1,w2],rfl,SqT.of Qi,rfl,w1,[w2],rfl,w2,[],rfl,rfl,k _ ((rs.set i g1).set j g2) R' E'⟩
 cases w with
 | seqL u =>
  obtain⟨a,r,rfl⟩:=W;simp only [itm,Option.map_eq_some_iff]at h;obtain⟨xs,e,y,h,rfl⟩:=h;obtain⟨a',vs,ea,rr,q⟩:=Q6 tx R e r;cases ea;obtain⟨v1,f1,g1⟩:=rr.get h;refine⟨⟨vs,v1,q,f1⟩,?_⟩;rintro v H' Q ⟨rfl,k1⟩ k;have n1:v=v1:=Option.some.inj ((k1 vs q).symm.trans f1);subst n1;exact Ji R rs g1 ht fun σ2 r2=>k σ2 r2 R Ext.refl
 | seqT u =>
  obtain⟨a,r,rfl⟩:=W;simp only [itm,Option.map_eq_some_iff]at h;obtain⟨xs,e,y,h,rfl⟩:=h;obtain⟨a',vs,ea,rr,q⟩:=Jf tx R e r;cases ea;obtain⟨v1,f1,g1⟩:=rr.get h;refine⟨⟨vs,v1,q,f1⟩,?_⟩;rintro v H' Q ⟨rfl,k1⟩ k;have n1:v=v1:=Option.some.inj ((k1 vs q).symm.trans f1);subst n1;exact Ji R rs g1 ht fun σ2 r2=>k σ2 r2 R Ext.refl
 | rng lo n =>
  cases(show J=_ from W);simp only [itm,Option.some.injEq]at h;split at h
  case isFalse=>cases h
  rename_i l;cases h;refine⟨l,?_⟩;rintro v H' Q ⟨rfl,rfl⟩ k;exact Ji (u:=.int (lo+i) 0) R rs ⟨_,rfl,Cg.refl _ _⟩ ht fun σ2 r2=>k σ2 r2 R Ext.refl
 | zipB p q x1 y1 =>
  obtain⟨a,b,r1,r2,rfl⟩:=W;simp only [itm]at h;split at h
  case h_2=>cases h
  rename_i xs ys e1 e2;obtain⟨a',vs,ea,rr,q⟩:=YQ tx R e1 r1;cases ea;obtain⟨b',ws,eb,rr',q'⟩:=YQ tx R e2 r2;cases eb;exact zip q q' rr rr' h
 | revL u n=>exact False.elim W
 | rngC lo c n=>exact False.elim W
 | enmL u=>exact False.elim W
 | strW y=>exact False.elim W
 | keyD n =>
  obtain⟨a,o,kv,ha,rfl,hz⟩:=W;simp only [itm]at h;split at h
  case h_2=>cases h
  rename_i kvs hn;obtain⟨kv',ob,e,rd⟩:=R.h.ob n a _ ha hn;rw [hz]at e;cases e;simp only [Option.some.injEq,Option.map_eq_some_iff]at h;obtain⟨p,hp,rfl⟩:=h;obtain⟨p',hp',r'⟩:=QlH rd hp;refine⟨⟨hz,(List.getElem?_eq_some_iff.mp hp').1⟩,?_⟩;rintro v H' Q ⟨rfl,q,hq,rfl⟩ k;rw [hp']at hq;cases hq;exact Ji R rs (QiO r'.1) ht fun σ2 r2=>k σ2 r2 R Ext.refl
noncomputable def TIW(T:Tbl)(A:Adr)(K:W.Frag)(f:Rho->Hs->Option (Wk×Hs)):L2.TI:=fun Y H R=>∃α Z hs w hs',RS A α Z Y/\Rep T A K α hs H/\f Z hs=some (w,hs') /\
 ∀α' J H',Ext α α' H H'->Rep T A K α' hs' H'->WJ A K α' J H' w->R J H'
theorem QdV{t t':L2.TI}(h:PI X tg it t)(i:∀Y H R,t' Y H R->t Y H R):PI X tg it t':=fun pins s Y H R I q=>h pins s Y H R I (i Y H R q)
theorem QkD{t t':L2.TI}(h:PI X tg it t)(h':PI X tg it t'):PI X tg it (fun Y H R=>t Y H R\/t' Y H R):=fun pins s Y H R I q=>q.elim (h pins s Y H R I) (h' pins s Y H R I)
theorem QbA{u:U}{hs h1:Hs}{n:Nat}{kvs:List (U×U)}(h:Qcb u hs h1=some (n,kvs)):u=.ref n/\(∃k0,hs[n]?=some (.dic k0))/\h1[n]?=some (.dic kvs):=by
 unfold Qcb at h;split at h
 ·split at h
  ·rename_i k0 e0;split at h
   ·rename_i e1;cases h;exact⟨rfl,⟨_,e0⟩,e1⟩
   ·cases h
  ·cases h
 ·cases h
theorem Qhu{a:Addr}{o:Obj}{kv:List (Key×V)}(ha:a∈α)(h:H a=some (.dK kv)):Ext α α H (upd H a (.frz o (.dK kv))):=by
 have ne:∀b y,H b=some y->b∉α->b≠a:=fun b y _ hb z=>hb (z▸ha)
 refine⟨fun _ _ e=>e,fun n b e l=>by have:=getElem?_lt e;omega,fun b y e hb=>?_,fun b y u e=>?_,fun b y e=>?_⟩
 ·rw [Qe (ne b y e hb)];exact e
 ·rw [Qe (fun z=>by rw [z,h]at e;cases e)];exact e
 ·by_cases hb:b=a
  ·subst hb;rw [h]at e;cases e;exact⟨_,Qi,fun _=>⟨fun z=>(nomatch z),fun z=>(nomatch z)⟩⟩
  ·exact⟨y,by rw [Qe hb];exact e,fun _=>Iff.rfl⟩
theorem Qi8{ir:E}(h:PE X it (Iv.TI T A X.K (ev T cf d ir))):PI X tg it (TIW T A X.K (fun Z hs=>Zi T (ev T cf d) Z (.key ir) hs)):=by
 refine QdV (Qc1 h) ?_;rintro Y H R ⟨α,Z,hs,w,hs',rs,Rp,e,q⟩;simp only [Zi]at e;obtain⟨u,h1,e1,e⟩:=Qc e;simp only [Option.map_eq_some_iff]at e;obtain⟨⟨n,kvs⟩,ed,e⟩:=e;cases e;obtain⟨rfl,_,hk1⟩:=QbA ed;refine TI.run rs Rp e1 fun α1 x H1 E1 R1 r1 rs1=>?_;obtain⟨a1,ha1,rfl⟩:=r1;obtain⟨kv1,hH1,rd1⟩:=R1.h.ob n a1 _ ha1 hk1;refine⟨a1,kv1,rfl,hH1,fun ob=>?_⟩;have R2:Rep T A X.K α1 (h1.set n (.fzd kvs)) (upd H1 a1 (.frz ob (.dK kv1))):=R1.put0 ha1 ⟨kv1,ob,Qi,rd1⟩;exact q α1 _ _ (E1.trans (Qhu (List.mem_of_getElem? ha1) hH1) R2.h) R2 ⟨a1,ob,kv1,ha1,rfl,Qi⟩
theorem Qov:PI X tg it (fun _ _ _=>False):=fun pins s Y H R I h=>h.elim
theorem Qi6{ir:E}(tx:Txt T A X.K X.mg)(h:PE X it (Iv.TI T A X.K (ev T cf d ir))):PI X tg it (TIW T A X.K (fun Z hs=>Zi T (ev T cf d) Z (.seq ir) hs)):=by
 refine QdV (QkD (QkD (QgI h) (Qi5 h)) Qov) ?_;rintro Y H R ⟨α,Z,hs,w,hs',rs,Rp,e,q⟩;simp only [Zi]at e;obtain⟨u,h1,e1,e⟩:=Qc e;simp only [Option.map_eq_some_iff]at e;obtain⟨w',e2,e⟩:=e;cases e;unfold wkS at e2;split at e2
 ·rename_i xs el;cases e2;refine .inl (.inl (TI.run rs Rp e1 fun α1 x H1 E1 R1 r1 rs1=>?_));obtain⟨a,vs,rfl,rr,sq⟩:=Q6 tx R1 el r1;exact⟨a,rfl,⟨vs,sq⟩,q α1 _ H1 E1 R1 ⟨a,r1,rfl⟩⟩
 ·split at e2
  ·rename_i xs el;cases e2;refine .inl (.inr (TI.run rs Rp e1 fun α1 x H1 E1 R1 r1 rs1=>?_));obtain⟨a,vs,rfl,rr,sq⟩:=Jf tx R1 el r1;exact⟨a,rfl,⟨vs,sq⟩,q α1 _ H1 E1 R1 ⟨a,r1,rfl⟩⟩
  ·cases e2
theorem Yn{i:Int}(h:QE (i*4)=true):-(2 ^ 62)<=i/\i<2 ^ 62:=by
 obtain⟨h1,h2⟩:=Zu h;constructor<;>omega
theorem Qi7(hg:Gl X "range") (hm:X.mg "range"=none) (hns:∀x p,a≠.Starred x p) (h:PE X a (Iv.TI T A X.K (ev T cf d a'))):PI X tg (.Call (.Name "range" p) [a] [] q) (TIW T A X.K (fun Z hs=>Zi T (ev T cf d) Z (.rng a') hs)):=by
 refine QdV (Qc0 hg hm (Zr h JW (Qp hns)) (Qp hns)) ?_;rintro Y H R ⟨α,Z,hs,w,hs',rs,Rp,e,q⟩;simp only [Zi]at e;obtain⟨u,h1,e1,e⟩:=Qc e;split at e
 case h_2=>cases e
 split at e
 case isFalse=>cases e
 rename_i i c;cases e;refine TI.run rs Rp e1 fun α1 x H1 E1 R1 r1 rs1=>?_;obtain⟨j,rfl,cg⟩:=r1;cases cg.exact;obtain⟨b1,b2⟩:=Yn c;exact⟨_,rfl,b1,b2,q α1 _ H1 E1 R1 rfl⟩
theorem QgH{b:Expr}{b':E}(hg:Gl X "range") (hm:X.mg "range"=none) (hna:∀x p,a≠.Starred x p) (hnb:∀x p,b≠.Starred x p) (ha:PE X a (Iv.TI T A X.K (ev T cf d a'))) (hb:PE X b (Iv.TI T A X.K (ev T cf d b'))):PI X tg (.Call (.Name "range" p) [a,b] [] q) (TIW T A X.K (fun Z hs=>Zi T (ev T cf d) Z (.rng2 a' b') hs)):=by
 have s2:starEach [b] X.env=[(false,eval b X.env)]:=Qp hnb
 have s1:starEach [a,b] X.env=[(false,eval a X.env),(false,eval b X.env)]:=by rw [Qp hna,s2]
 refine QdV (QcZ hg hm (Zr ha (Zr hb JW (Qp hnb)) (Qp hna)) s1 s2) ?_;rintro Y H R ⟨α,Z,hs,w,hs',rs,Rp,e,q⟩;simp only [Zi]at e;obtain⟨u,h1,e1,e⟩:=Qc e;obtain⟨u2,h2,e2,e⟩:=Qc e;split at e
 case h_2=>cases e
 split at e
 case isFalse=>cases e
 rename_i i j c;cases e;rw [Bool.and_eq_true]at c;refine TI.run rs Rp e1 fun α1 x H1 E1 R1 r1 rs1=>?_;refine TI.run rs1 R1 e2 fun α2 y H2 E2 R2 r2 rs2=>?_;obtain⟨i',rfl,cg⟩:=r1;cases cg.exact;obtain⟨j',rfl,cg⟩:=r2;cases cg.exact;obtain⟨b1,b2⟩:=Yn c.1;obtain⟨b3,b4⟩:=Yn c.2;exact⟨_,_,rfl,⟨b1,b2,b3,b4⟩,q α2 _ H2 (E1.trans E2 R2.h) R2 rfl⟩
theorem QgG{elts:List Expr}{kt:Nat}{pt:Pos}{b:Expr}{b':E}(tx:Txt T A X.K X.mg)(hg:Gl X "zip") (hm:X.mg "zip"=none) (hna:∀x p,a≠.Starred x p) (hnb:∀x p,b≠.Starred x p) (ha:PE X a (Iv.TI T A X.K (ev T cf d a'))) (hb:PE X b (Iv.TI T A X.K (ev T cf d b'))):
  PI X (.Tuple elts kt pt) (.Call (.Name "zip" p) [a,b] [] q) (TIW T A X.K (fun Z hs=>Zi T (ev T cf d) Z (.zip a' b') hs)):=by
 have s2:starEach [b] X.env=[(false,eval b X.env)]:=Qp hnb
 have s1:starEach [a,b] X.env=[(false,eval a X.env),(false,eval b X.env)]:=by rw [Qp hna,s2]
 have pa:=Zr ha (Zr hb JW (Qp hnb)) (Qp hna);refine QdV (QkD (QkD (Qbl (b:=true) (b':=true) hg hm pa s1 s2) (Qbl (b:=true) (b':=false) hg hm pa s1 s2)) (QkD (Qbl (b:=false) (b':=true) hg hm pa s1 s2) (Qbl (b:=false) (b':=false) hg hm pa s1 s2))) ?_;rintro Y H R ⟨α,Z,hs,w,hs',rs,Rp,e,q⟩;simp only [Zi]at e;obtain⟨u1,h1,e1,e⟩:=Qc e;obtain⟨u2,h2,e2,e⟩:=Qc e;simp only [Option.map_eq_some_iff]at e;obtain⟨w',e3,e⟩:=e;cases e;unfold wkZ at e3;simp only at e3;generalize (QU T u1 hs').isSome=p at e3;generalize (QU T u2 hs').isSome=p' at e3;split at e3
 case isFalse=>cases e3
 rename_i c;simp only [Bool.and_eq_true]at c;obtain⟨xs,l1⟩:=Option.isSome_iff_exists.mp c.1;obtain⟨ys,l2⟩:=Option.isSome_iff_exists.mp c.2;cases e3
 have key:QnM p p' X.K (Qf9 (Iv.TI T A X.K (ev T cf d a')) (Qf9 (Iv.TI T A X.K (ev T cf d b')) QkH)) Y H R:=by
  refine TI.run rs Rp e1 fun α1 x H1 E1 R1 r1 rs1=>TI.run rs1 R1 e2 fun α2 y H2 E2 R2 r2 rs2=>?_;obtain⟨a,vs,rfl,rr,sq⟩:=YQ tx R2 l1 (r1.mono E2.pre);obtain⟨b,ws,rfl,rr',sq'⟩:=YQ tx R2 l2 r2;exact⟨a,b,rfl,⟨vs,sq⟩,⟨ws,sq'⟩,q α2 _ H2 (E1.trans E2 R2.h) R2 ⟨a,b,r1.mono E2.pre,r2,rfl⟩⟩
 cases p<;>cases p'
 ·exact .inr (.inr key)
 ·exact .inr (.inl key)
 ·exact .inl (.inr key)
 ·exact .inl (.inl key)
theorem Rep.aside{ho:HO}(R:Rep T A X.K α hs H)(hn:D∉α)(hs':∀o u,H D≠some (.frz o u)):Rep T A X.K α hs (upd H D ho):=
 ⟨⟨R.h.len,R.h.nd_keep fun b x hb e=>by rw [Qe (fun(z:b=D)=>hn (z▸hb))];exact e,fun n a o e1 e2=>RO.keep (R.h.ob n a o e1 e2) (fun _ _ e=>e) fun c y e w=>by
   rcases w with rfl|⟨oz,fs,rfl⟩
   ·have ne:c≠D:=fun z=>hn (z▸List.mem_of_getElem? e1);rw [Qe ne];exact e
   ·rw [Qe (fun z=>hs' _ _ (z▸e))];exact e⟩,
  R.s.keep fun y e z=>by
   obtain⟨ob,u,rfl⟩:=z;have ne:A.s≠D:=fun z=>hs' ob _ (z▸e);rw [Qe ne]
   exact e⟩
theorem Rep.adopt{us:List U}{ys:List V}(R:Rep T A X.K α hs H)(hn:D∉α)(hD:H D=some (.lst ys))(r:RUs A α us ys):Rep T A X.K (α++[D]) (hs++[.lst us]) H:=by
 refine⟨⟨by simp [R.h.len],Qdc R.h.nd hn,fun n a o e1 e2=>?_⟩,R.s⟩
 rcases QJ e1 with q|⟨q1,q2⟩
 ·rcases QJ e2 with z|⟨z,_⟩
  ·exact RO.keep (R.h.ob n a o q z) QF fun _ _ e _=>e
  ·have:=getElem?_lt q;rw [R.h.len]at this;omega
 ·subst q2
  rcases QJ e2 with z|⟨_,z⟩
  ·have:=(List.getElem?_eq_some_iff.mp z).1;rw [<-R.h.len]at this;omega
  ·subst z;exact⟨ys,hD,RUs.mono QF r⟩
theorem RS.pad{p:Rho}{os:St}(rs:RS A α Z Y)(hl:p.length=os.length)(hp:∀x∈p,x=none):RS A α (Z++p) (Y++os):=by
 refine⟨by simp [rs.len,hl],fun i u e=>?_⟩
 by_cases l:i < Z.length
 ·rw [List.getElem?_append_left l]at e;obtain⟨v,h1,h2⟩:=rs.val i u e
  exact⟨v,by rw [List.getElem?_append_left (List.getElem?_eq_some_iff.mp h1).1];exact h1,h2⟩
 ·rw [List.getElem?_append_right (by omega)]at e
  cases hp _ (List.mem_of_getElem? e)
noncomputable def nN(b:Bool):Nat:=if b then 2 else 1
theorem Qbm(b:Bool):(Qey b).length=nN b:=by cases b<;>rfl
theorem JV(b:Bool):∀x∈Qey b,x=none:=by cases b<;>simp [Qey]
theorem Qhs{K:W.Frag}{os:St}{Q:St->Hp->Prop}(hl:os.length=nN b)(h:gT K (tgN b Y.length) v (Y++os) H Q):
  gT K (tgN b Y.length) v (Y++os) H fun σ2 H2=>(∃os':St,os'.length=nN b/\σ2=Y++os')/\Q σ2 H2:=by
 cases b with
 | false =>
  have h:Q ((Y++os).set Y.length (some v)) H:=h
  exact⟨⟨os.set 0 (some v),by simp [hl],by rw [List.set_append_right _ _ (Nat.le_refl _),Nat.sub_self]⟩,h⟩
 | true =>
  obtain⟨a,xs,rfl,sq,len,v1,r1,rfl,v2,r2,rfl,e,q⟩:=h
  refine⟨a,_,rfl,sq,len,v1,_,rfl,v2,_,rfl,e,⟨(os.set 0 (some v1)).set 1 (some v2),by simp [hl],?_⟩,q⟩
  rw [List.set_append_right _ _ (Nat.le_refl _),Nat.sub_self,List.set_append_right _ _ (Nat.le_succ _)]
  congr 1
  congr 1
  omega
theorem Qfz{α4:List Addr}{ho:HO}{H4:Hp}(E4:Ext α α4 H H4)(nD:D∉α)(d3:H D=some ho)(hnt:∀vs,ho≠.tup vs:=by intro _ z;cases z):D∉α4:=fun z=>by
 obtain⟨n,hn⟩:=List.getElem?_of_mem z;by_cases l:n < α.length
 ·have e1:α[n]?=some α[n]:=List.getElem?_eq_getElem l;have e2:=E4.pre _ _ e1;rw [hn]at e2;cases e2;exact nD (List.getElem_mem l)
 ·rcases E4.new n D hn (by omega)with q|⟨vs,q⟩
  ·rw [d3]at q;cases q
  ·rw [d3]at q;exact hnt vs (Option.some.inj q)
theorem Qai{src:Src}{t:Option E}{el:E}{Y:St}{H:Hp}{Q:VK}(tx:Txt T A X.K X.mg)(hl:Y.length=X.N.length)(h:Iv.TI T A X.K (ev T cf (d+1) (.comp src b t el)) Y H Q):
  QaA (TIW T A X.K (fun Z hs=>Zi T (ev T cf d) Z src hs)) (nN b) (gT X.K (tgN b X.N.length)) (TIT T A X.K (Qaf (evT T cf d) t)) (Iv.TI T A X.K (ev T cf d el)) Y H Q:=by
 rw [<-hl];obtain⟨α,Z,hs,u,hs',rs,R,e,q⟩:=h;simp only [ev]at e;obtain⟨w,h1,e1,e⟩:=Qc e;obtain⟨us,h2,e2,e⟩:=Qc e;cases e;refine⟨α,Z,hs,w,h1,rs,R,e1,fun α1 J H1 E1 R1 W1 D hD=>?_⟩;have rs1:=rs.mono E1.pre
 refine⟨fun i m ys H2=>∃αc hc acc,RS A αc Z Y/\Rep T A X.K αc hc H2/\D∉αc/\H2 D=some (.lst ys)/\RUs A αc acc ys/\Ext α1 αc H1 H2/\WJ A X.K αc J H2 w/\Zn T (ev T cf d) (Qaf (evT T cf d) t) w b el Z m i acc hc=some (us,h2),⟨Zg T w h1,α1,h1,[],rs1,?_,R1.h.notIn hD,Qi,.nil,?_,W1.mono (fun _ _ e=>e) (fun b o u e=>by rw [Qe (fun z=>by rw [z,hD]at e;cases e)];exact e),e2⟩,?_⟩
 ·exact R1.aside (R1.h.notIn hD) fun o u z=>by rw [hD]at z;cases z
 ·exact⟨fun _ _ e=>e,fun n a e l=>by have:=getElem?_lt e;omega,fun b o e _=>by rw [Qe (fun z=>by rw [z,hD]at e;cases e)];exact e,fun b o kv e=>by rw [Qe (fun z=>by rw [z,hD]at e;cases e)];exact e,fun b o e=>⟨o,by rw [Qe (fun z=>by rw [z,hD]at e;cases e)];exact e,fun _=>Iff.rfl⟩⟩
 rintro i m ys H2 ⟨αc,hc,acc,rsc,Rc,nD,hDl,rr,Ec,Wc,ec⟩;refine⟨hDl,?_⟩
 cases m with
 | zero=>cases ec
 | succ m =>
  simp only [Zn]at ec;split at ec
  ·cases ec
  ·rename_i ei;cases ec;refine .inl ⟨Qbv tx Rc Wc ei,?_⟩;have Ra:=Rc.adopt nD hDl rr
   have Ea:Ext α1 (αc++[D]) H1 H2:=⟨fun n a e=>QF n a (Ec.pre n a e),fun n a e l=>by
    rcases QJ e with z|⟨_,z⟩
    ·exact Ec.new n a z l
    ·rw [z];exact .inl hD,Ec.keep,Ec.fz,Ec.tr⟩
   exact q _ _ _ (E1.trans Ea Ra.h) Ra ⟨D,by rw [<-Rc.h.len];exact QM,rfl⟩
  ·rename_i x ei;split at ec
   ·cases ec
   rename_i ρ' et;split at ec
   case isFalse=>cases ec
   rename_i small;obtain⟨c,h3,e3,ec⟩:=Qc ec
   have go:J.go i H2:=(Qdm tx Rc Wc (rsc.pad (os:=List.replicate (nN b) none) (by rw [Qbm];simp) (JV b)) ei et).1
   refine .inr ⟨go,?_,fun v H3 os lo yl=>?_⟩
   ·have:=rr.length;rw [sizeLine_eq];omega
   have rsn:RS A αc (Z++Qey b) (Y++os):=rsc.pad (by rw [Qbm,lo]) (JV b)
   obtain⟨_,stp⟩:=Qdm tx Rc Wc rsn ei et;rw [rs.len]at stp;refine Qhs lo (stp v H3 _ yl fun σ2 rs2 R3 E3=>?_);have d3:H3 D=some (.lst ys):=E3.keep D _ hDl nD;refine TIT.run rs2 R3 e3 fun α4 H4 E4 R4 rs4=>?_;have d4:H4 D=some (.lst ys):=E4.keep D _ d3 nD;have nD4:=Qfz E4 nD d3;have Et4:=(Ec.trans E3 R3.h).trans E4 R4.h
   cases c with
   | false =>
    rw [if_neg Bool.false_ne_true]at ec ⊢;exact⟨m,Nat.lt_succ_self _,α4,h3,acc,rsc.mono E4.pre,R4,nD4,d4,RUs.mono E4.pre rr,Et4,Wc.mono E4.pre fun b o u e=>E4.fz _ _ _ (E3.fz _ _ _ e),ec⟩
   | true =>
    rw [if_pos rfl]at ec ⊢;obtain⟨u',h5,e5,ec⟩:=Qc ec;refine TI.run rs4 R4 e5 fun α5 y H5 E5 R5 r5 rs5=>?_;have d5:H5 D=some (.lst ys):=E5.keep D _ d4 nD4;have nD5:=Qfz E5 nD4 d4
    refine⟨d5,m,Nat.lt_succ_self _,α5,h5,acc++[u'],(rsc.mono E4.pre).mono E5.pre,R5.aside nD5 (fun o u z=>by rw [d5]at z;cases z),nD5,Qi,?_,?_,(Wc.mono (fun n a e=>E5.pre n a (E4.pre n a e)) fun b o u e=>by rw [Qe (fun z=>by rw [z,hDl]at e;cases e)];exact E5.fz _ _ _ (E4.fz _ _ _ (E3.fz _ _ _ e))),ec⟩
    ·exact Paired.snoc (RUs.mono E5.pre (RUs.mono E4.pre rr)) r5
    ·have Et:=Et4.trans E5 R5.h
     exact⟨Et.pre,Et.new,fun b o e hb=>by rw [Qe (fun z=>by rw [z,hD]at e;cases e)];exact Et.keep b o e hb,fun b o kv e=>by rw [Qe (fun z=>by rw [z,hD]at e;cases e)];exact Et.fz b o kv e,fun b o e=>by
      obtain⟨o',q1,q2⟩:=Et.tr b o e
      exact⟨o',by rw [Qe (fun z=>by rw [z,hD]at e;cases e)];exact q1,q2⟩⟩
end
end
section
variable {d:Nat}{pos:Pos}{scope:Scope}
section
variable {X:Cx}{T:Tbl}{A:Adr}{C:Ctx}{cf:Cf}{m k:Nat}
theorem QiH{f:Str}{args:List Expr}{a:Expr}{a':E}{p:Pos}(g:GX T A C X)(hh:hdC C=false)(hg:YH C f=true)(hx:¬C.bl.contains f=false)(hra:Ju C f args=some a)(h:PE X a (TI T A X.K (ev T cf d a')))(hns:∀x p,a≠.Starred x p):
  PE X (.Call (.Name f p) args [] pos) (TI T A X.K (ev T cf (d+1) (.rev a'))):=by
 unfold Ju at hra;split at hra
 case isFalse=>cases hra
 rename_i ef;subst ef;split at hra
 case h_2=>cases hra
 rename_i r pr a0 p2;split at hra
 case isFalse=>cases hra
 rename_i c;cases hra;simp only [Bool.and_eq_true,decide_eq_true_eq]at c;obtain⟨⟨⟨c1,c2⟩,c3⟩,c4⟩:=c
 have e1:r=Str.ofString "reversed":=by simpa using c1
 subst e1
 refine QO (QgL (g.calm hh) (Q8 g hg) (g.blt _ hx) (Q8 g c2) (g.blt _ (by rw [c4];simp)) h (Qp hns)) ?_
 rintro Y H Q ⟨α,Z,hs,u,hs',rs,R,e,q⟩;simp only [ev]at e;obtain⟨u1,h1,e1,e⟩:=Qc e;split at e
 case h_2=>cases e
 rename_i xs el;cases e;refine TI.run rs R e1 fun α1 x H1 E1 R1 r1 rs1=>?_;obtain⟨b,vs,rfl,rr,sq⟩:=Q6 g.txt R1 el r1;refine⟨b,vs,rfl,sq,fun p hp=>?_⟩;obtain⟨R2,E2⟩:=R1.new (p:=p) (o:=.lst xs.reverse) (ho:=.lst vs.reverse) hp ⟨_,Qi,RUs.mono QF rr.reverse⟩
 exact q _ _ _ (E1.trans E2 R2.h) R2 ⟨p,by rw [<-R1.h.len];exact QM,rfl⟩
theorem Qgr{α:List Addr}{us xs:List U}{vs:List V}(h:Qfp us=some xs)(r:RUs A α us vs):∃a b c:Int,rngA vs=some (a,b,c)/\(-(2 ^ 62)<=a/\a<2 ^ 62/\-(2 ^ 62)<=b/\b<2 ^ 62)/\(c=1\/c=-1) /\
  Qau a b c<=sizeLine/\Qau a b c<=2 ^ 24/\∀α',RUs A α' xs (QdZ a (Qau a b c) c):=by
 have one:∀{i:Int} {v:V},RU A α (.int i 0) v->v=.int i:=fun⟨j,e,c⟩=>by cases c.exact;exact e
 have core:∀{a b c:Int},QiN a b c=some xs->(-(2 ^ 62)<=a/\a<2 ^ 62/\-(2 ^ 62)<=b/\b<2 ^ 62)/\(c=1\/c=-1)/\Qau a b c<=sizeLine/\Qau a b c<=2 ^ 24/\∀α',RUs A α' xs (QdZ a (Qau a b c) c):=by
  intro a b c h;unfold QiN at h;split at h
  case isFalse=>cases h
  rename_i cc;simp only [Bool.and_eq_true,Bool.or_eq_true,decide_eq_true_eq]at cc;obtain⟨⟨c1,c2⟩,c3⟩:=cc;obtain⟨b1,b2⟩:=Yn c1;obtain⟨b3,b4⟩:=Yn c2;have h:(if Qau a b c<=1000000 then some ((List.range (Qau a b c)).map fun i:Nat=>U.int (a+(i:Int)*c) 0)else none)=some xs:=h;split at h
  case isFalse=>cases h
  rename_i hn;cases h
  refine⟨⟨b1,b2,b3,b4⟩,c3,by rw [sizeLine_eq];omega,by omega,fun α'=>?_⟩
  unfold QdZ;generalize List.range (Qau a b c)=l
  induction l with
  | nil=>exact .nil
  | cons x r ih=>exact .cons ⟨_,rfl,Cg.refl _ _⟩ ih
 unfold Qfp at h;split at h
 ·obtain⟨v,ws,rfl,r1,rr⟩:=Ql r;cases Qx rr;cases one r1;exact⟨_,_,_,rfl,core h⟩
 ·obtain⟨v,ws,rfl,r1,rr⟩:=Ql r;obtain⟨v2,ws,rfl,r2,rr⟩:=Ql rr;cases Qx rr;cases one r1;cases one r2;exact⟨_,_,_,rfl,core h⟩
 ·obtain⟨v,ws,rfl,r1,rr⟩:=Ql r;obtain⟨v2,ws,rfl,r2,rr⟩:=Ql rr;obtain⟨v3,ws,rfl,r3,rr⟩:=Ql rr;cases Qx rr;cases one r1;cases one r2;cases one r3;exact⟨_,_,_,rfl,core h⟩
 ·cases h
theorem Qiy{f:Str}{args ra:List Expr}{es:List E}{p:Pos}(g:GX T A C X)(hh:hdC C=false)(hg:YH C f=true)(hx:¬C.bl.contains f=false)(hra:Jn C f args=some ra)(ha:PA X ra (TIA T A X.K (fun Z hs=>evs (ev T cf d) Z es hs)))(hns:YE ra):
  PE X (.Call (.Name f p) args [] pos) (TI T A X.K (ev T cf (d+1) (.tupR es))):=by
 unfold Jn at hra;split at hra
 case isFalse=>cases hra
 rename_i ef;subst ef;split at hra
 case h_2=>cases hra
 rename_i r pr ra' pc;split at hra
 case isFalse=>cases hra
 rename_i c;simp only [Bool.and_eq_true,decide_eq_true_eq]at c;obtain⟨⟨⟨⟨⟨c1,c2⟩,c3⟩,c4⟩,c5⟩,c6⟩:=c;cases hra;subst c1
 cases ra with
 | nil=>simp at c6
 | cons a0 args =>
  refine QO (QgJ (g.calm hh) (Q8 g hg) (g.blt _ hx) (Q8 g c2) (g.blt _ (by rw [c4];simp)) ha (Qp (hns a0 (List.mem_cons_self ..))) (Zh fun z hz=>hns z (List.mem_cons_of_mem _ hz))) ?_
  rintro Y H Q ⟨α,Z,hs,u,hs',rs,R,e,q⟩;simp only [ev]at e;obtain⟨us,h1,e1,e⟩:=Qc e;split at e
  case h_2=>cases e
  rename_i xs er;cases e;refine TIA.run rs R e1 fun α1 vs H1 E1 R1 r1 rs1=>?_;obtain⟨a,b,c,h1,h2,h3,h4,h5,h6⟩:=Qgr er r1;refine⟨a,b,c,h1,h2,h3,h4,h5,fun p hp=>?_⟩;obtain⟨R2,E2⟩:=R1.new (p:=p) (o:=.tup xs) (ho:=.tup (QdZ a (Qau a b c) c)) hp ⟨_,Qi,h6 _⟩
  exact q _ _ _ (E1.trans E2 R2.h) R2 ⟨p,by rw [<-R1.h.len];exact QM,rfl⟩
theorem QiB{tg it:Expr}{src:Src}(g:GX T A C X)(S:Snd T A C X cf m)(h:compSrc (m+1) C it=some src)(hz:QkR src=true->∃elts kt pt,tg=.Tuple elts kt pt):PI X tg it (TIW T A X.K (fun Z hs=>Zi T (ev T cf d) Z src hs)):=by
 have seq:∀{it:Expr} {src:Src},(Qg m C it).map Src.seq=some src->PI X tg it (TIW T A X.K (fun Z hs=>Zi T (ev T cf d) Z src hs)):=by
  intro it src h;simp only [Option.map_eq_some_iff]at h;obtain⟨ir,hi,rfl⟩:=h;exact Qi6 g.txt (S.e d it ir hi)
 simp only [compSrc]at h;split at h
 ·rename_i f p args q;split at h
  case isFalse=>cases h
  rename_i hg;split at h
  ·exact seq h
  ·split at h
   ·cases h
   rename_i hx;split at h
   ·rename_i e;subst e;split at h
    ·rename_i a;simp only [Option.map_eq_some_iff]at h;obtain⟨a',ha,rfl⟩:=h;exact Qi7 (Q8 g hg) (g.blt _ hx) (Qz ha) (S.e d a a' ha)
    ·rename_i a b;simp only [Option.bind_eq_some_iff,Option.map_eq_some_iff]at h;obtain⟨a',ha,b',hb,rfl⟩:=h;exact QgH (Q8 g hg) (g.blt _ hx) (Qz ha) (Qz hb) (S.e d a a' ha) (S.e d b b' hb)
    ·cases h
   ·split at h
    ·rename_i e;subst e;split at h
     ·rename_i a b;simp only [Option.bind_eq_some_iff,Option.map_eq_some_iff]at h;obtain⟨a',ha,b',hb,rfl⟩:=h;obtain⟨elts,kt,pt,rfl⟩:=hz rfl;exact QgG g.txt (Q8 g hg) (g.blt _ hx) (Qz ha) (Qz hb) (S.e d a a' ha) (S.e d b b' hb)
     ·cases h
    ·exact seq h
 ·exact seq h
theorem Qbp{it:Expr}{src:Src}{env:Env}(h:compSrc m C it=some src):∀x,foldedSetIterable it env x=pure x:=by
 intro x
 cases it<;>first|rfl|skip
 cases m with
 | zero=>simp [compSrc]at h
 | succ m =>
  simp only [compSrc,Option.map_eq_some_iff]at h;obtain⟨_,h,_⟩:=h
  cases m<;>first|exact Znn h|simp [Qg]at h
theorem Zt{xs:List Str}(g:GX T A C X)(h:Y8 C xs scope=true):CompOk X xs scope/\∀C0 s H fp,GX T A (C.inner xs scope) (X.block xs scope C0 s H fp):=by
 unfold Y8 at h;simp only [Bool.and_eq_true,beq_iff_eq,List.all_eq_true,Bool.not_eq_true',decide_eq_true_eq]at h;obtain⟨⟨⟨⟨h1,h2⟩,hd⟩,h3⟩,h5⟩:=h
 have nd:(".0":Str)∉X.N:=fun z=>by
  rw [g.N]at z;rw [List.contains_iff_mem.mpr z]at h5;cases h5
 refine⟨⟨h1,fun x hx=>(h2 x hx).1,fun y hy=>?_,fun x hx=>(h2 x hx).2,(List.nodup_append.mp hd).2.1,nd⟩,fun C0 s H fp=>?_⟩
 ·have:=h3 y hy;obtain⟨n,kd⟩:=y
  cases kd with
  | «local» =>
   simp only [Bool.and_eq_true,Bool.or_eq_true,decide_eq_true_eq,beq_iff_eq,List.contains_iff_mem]at this;exact⟨fun _=>this,(fun z=>nomatch z),fun z=>nomatch z⟩
  | cell=>cases this
  | free =>
   simp only [Bool.or_eq_true,beq_iff_eq]at this;rw [<-g.sc]at this;exact⟨(fun z=>nomatch z),(fun z=>nomatch z),fun _=>this⟩
  | _=>exact⟨(fun z=>nomatch z),(fun z=>nomatch z),fun z=>nomatch z⟩
 ·refine⟨g.CT,?_,?_,?_,g.calm,h1,rfl,g.gfn,g.gcl,g.gco,g.gtx,g.blt,g.txt,g.tab⟩
  ·show hideN xs X.N++xs=hideN xs C.N++xs;rw [g.N]
  ·show(hideN xs X.N++xs).Nodup;rw [g.N];exact hd
  ·show(relabel scope X.env).names=relN C.names scope.names;rw [QP g.kind,g.sc]
theorem Js{tg:Expr}{b:Bool}{xs:List Str}{C0:Addr}{s:Shared}{H:Hp}{fp:List Addr}(g:GX T A C X)(hh:hdC C=false)(k:CompOk X xs scope)(gb:GX T A (C.inner xs scope) (X.block xs scope C0 s H fp))(h:QkY tg b xs):PG (X.block xs scope C0 s H fp) tg (gT X.K (tgN b X.N.length)):=by
 have nm:∀{x:Str} {p:Pos} {i:Nat},x∈xs->(hideN xs X.N++xs)[i]?=some x->PG (X.block xs scope C0 s H fp) (.Name x p) (Qad i):=fun {x p i} hx hi=>by
  have loc:(X.block xs scope C0 s H fp).env.scope.names.lookup x=some .local:=by
   show(relabel scope X.env).names.lookup x=some .local;rw [QP g.kind,Zq,k.loc x hx];rfl
  exact Jr gb.nd hi (.inl loc) (.inr loc)
 rcases h with⟨rfl,x,p,rfl,rfl⟩|⟨rfl,x,p,y,q,kt,pt,rfl,rfl⟩
 ·exact nm (by simp) (by rw [<-ZL (xs:=[x])];simp)
 ·refine Qc3 (gb.calm hh) (ZI (nm (by simp) (by rw [<-ZL (xs:=[x,y])];simp)) (ZI (nm (by simp) ?_) QaI))
  rw [<-ZL (xs:=[x,y]),List.getElem?_append_right (by omega)]
  simp
def CompParts(X:Cx)(elt:Expr)(gens:List Comprehension)(scope:Scope)(t:TE):Prop:=∃tg iter tl xs n wi g tt te,gens=[⟨tg,iter,Option.toList tl,0⟩]/\CompOk X xs scope/\PI X tg iter wi/\xs.length=n/\(∀C s H fp,PG (X.block xs scope C s H fp) tg g)/\(∀C s H fp,PTO (X.block xs scope C s H fp) tl tt)/\(∀C s H fp,PE (X.block xs scope C s H fp) elt te) /\
 (∀v,foldedSetIterable iter X.env v=pure v)/\∀Y H Q,Y.length=X.N.length->t Y H Q->QaA wi n g tt te Y H Q\/∃a kv,H a=some (.dK kv)/\QaA wi n g tt te Y H fun v H'=>QbN a H (Q v) H'
theorem CompParts.pe{elt:Expr}{gens:List Comprehension}{t:TE}(hc:X.calm=true)(h:CompParts X elt gens scope t):PE X (.ListComp elt gens scope pos) t:=by
 obtain⟨tg,iter,tl,xs,n,wi,gg,tt,te,rfl,ok,hi,hn,hg,ht,he,hf,imp⟩:=h;intro pins s Y H Q I q
 rcases imp Y H Q I.len q with q|⟨a,kv,ha,q⟩
 ·exact QaK hc ok hi hn hg ht he hf pins s Y H Q I q
 ·have h0:∀o' u',X.H₀ a≠some (.frz o' u'):=fun o' u' z=>by
   have:=I.base.frzs a o' u' z;rw [ha]at this;cases this
  exact thn (QaK hc ok hi hn hg ht he hf pins s Y H _ I q) fun v s' ⟨x,H',I',rx,o,kv',e,p⟩=>⟨x,_,I'.thaw e h0,rx,p⟩
end
end
section
variable {ir:E}{b:Expr}{d:Nat}{p:Pos}
section
variable {X:Cx}{T:Tbl}{A:Adr}{C:Ctx}{cf:Cf}{m k:Nat}
theorem QcM(h:QhV b=none):ZJ b=true:=by
 cases b with
 | Slice lo hi st p =>
  cases st with
  | none=>cases h
  | some e =>
   cases h
 | _=>rfl
theorem Qeg{lo hi:Option Expr}(h:QhV b=some (.cut lo hi)):∃p,b=.Slice lo hi none p:=by
 cases b with
 | Slice lo' hi' st p =>
  cases st with
  | none=>cases h;exact⟨p,rfl⟩
  | some e =>
   cases h
 | _=>cases h
theorem QbQ:QhV b≠some .rev:=fun h=>by
 unfold QhV at h;split at h
 ·split at h<;>cases h
 ·cases h
theorem QaC{a:Expr}(g:GX T A C X)(hu:X.A.units+1<cLine)(S:Snd T A C X cf m)(h:Qg (m+1) C (.Subscript a b p)=some ir):PE X (.Subscript a b p) (TI T A X.K (ev T cf d ir)):=by
 simp only [Qo4]at h;split at h
 ·rename_i lo hi hb;obtain⟨p2,rfl⟩:=Qeg hb;exact Qgn S h
 ·rename_i hb;exact absurd hb QbQ
 ·cases h
 ·rename_i hb;have hs:=QcM hb;refine QD fun d=>?_;simp only [Option.bind_eq_some_iff]at h;obtain⟨b',hb',h⟩:=h
  have gen:((Qg m C a).bind fun a'=>some (E.ix a' b'))=some ir->PE X (.Subscript a b p) (TI T A X.K (ev T cf (d+1) ir)):=fun h=>by
   simp only [Option.bind_eq_some_iff]at h;obtain⟨a',ha,h⟩:=h;cases h;exact Qhg hu g.txt (S.e d a a' ha) (S.e d b b' hb') hs
  split at h
  ·rename_i ks vs hh
   exact absurd hh (by cases a<;>simp [Qmf])
  ·rename_i x hh;split at h
   ·rename_i k ht;exact nomatch ht
   ·exact gen h
  ·exact gen h
theorem hd0{C:Ctx}(h:¬hdC C=true):hdC C=false:=by
 cases q:hdC C with
 | true=>exact absurd q h
 | false=>rfl
theorem Ql1{elt:Expr}{gens:List Comprehension}{scope:Scope}(h:Qg (m+1) C (.ListComp elt gens scope p)=some ir):hdC C=false:=by
 simp only [QnU]at h;split at h
 case h_2=>cases h
 split at h
 case isFalse=>cases h
 rename_i ok;simp only [Bool.and_eq_true,Bool.not_eq_true']at ok;exact ok.2
theorem QbT{f:Expr}{args:List Expr}{kws:List Keyword}(g:GX T A C X)(F:Fc X T A cf k)(hr:hdC C=false->Room (k+1) X.A)(hu:X.A.units+64<cLine)(S:Snd T A C X cf m)(h:Qg (m+1) C (.Call f args kws p)=some ir):PE X (.Call f args kws p) (TI T A X.K (ev T cf d ir)):=by
 refine QD fun d=>?_
 cases kws with
 | cons kw kws=>cases f<;>exact Znn h
 | nil =>
  cases f with
  | Name x px =>
   simp only [Qo2]at h;split at h
   ·cases h
   rename_i hn;have n1:x≠"__debug__":=fun z=>hn (.inl z);have n2:x≠"__name__":=fun z=>hn (.inr (.inl z))
   have hg:YH C x=true:=by
    cases q:YH C x with
    | true=>rfl
    | false=>exact absurd (.inr (.inr q)) hn
   split at h
   ·rename_i i hx;split at h
    ·cases h
    rename_i hh;simp only [Option.bind_eq_some_iff]at h;obtain⟨es,ha,h⟩:=h;exact Qgq g F ((hr (hd0 hh)).mono (Nat.le_succ _)) S hg n1 hx ha h
   ·rename_i i hx;split at h
    ·cases h
    rename_i hh;simp only [Option.bind_eq_some_iff]at h;obtain⟨es,ha,h⟩:=h;cases h;exact QiG g F (hr (hd0 hh)) S hg n1 hx ha
   ·cases h
   ·cases h
   ·split at h
    ·cases h
    rename_i hx;split at h
    ·rename_i e;subst e;split at h
     ·rename_i a t pt;split at h
      ·rename_i c;simp only [Option.bind_eq_some_iff]at h;obtain⟨a',ha,ty,ht,h⟩:=h;cases h;exact Qlu g S hg hx c.1 c.2.1 c.2.2 ht ha
      ·cases h
     ·cases h
    ·split at h
     ·cases h
     rename_i hh;have hh:=hd0 hh;split at h
     ·rename_i ra hra;simp only [Option.bind_eq_some_iff]at h;obtain⟨es,ha,h⟩:=h;cases h;exact Qiy g hh hg hx hra (S.a d ra es ha) (QA ha)
     ·split at h
      ·rename_i a hra;simp only [Option.bind_eq_some_iff]at h;obtain⟨a',ha,h⟩:=h;cases h;exact QiH g hh hg hx hra (S.e d a a' ha) (Qz ha)
      ·simp only [Option.bind_eq_some_iff]at h;obtain⟨b,hb,es,ha,h⟩:=h;cases h
       exact Qoo g hh (by omega) S hg n1 n2 hb ha
  | Attribute o x pa =>
   simp only [Qo1]at h;split at h
   case isFalse=>cases h
   rename_i c;simp only [Bool.and_eq_true,decide_eq_true_eq]at c;split at h
   ·rename_i i hx;split at h
    ·cases h
    rename_i hh;simp only [Option.bind_eq_some_iff]at h;obtain⟨o',ho,es,ha,h⟩:=h;cases h;exact QiF g F ((hr (hd0 hh)).mono (Nat.le_succ _)) S c.1.1 c.1.2 c.2 hx ho ha
   ·simp only [Option.bind_eq_some_iff]at h;obtain⟨b,hb,o',ho,es,ha,h⟩:=h;cases h
    exact Qon (by omega) g.txt S hb c.1.1 c.1.2 c.2 ho ha
  | _=>exact Znn h
theorem QcO(g:GX T A C X)(F:Fc X T A cf k)(hr:hdC C=false->Room (k+1) X.A)(hu:X.A.units+64<cLine)(S:Snd T A C X cf m)(cp:∀d elt gens scope p ir,Qg (m+1) C (.ListComp elt gens scope p)=some ir->CompParts X elt gens scope (TI T A X.K (ev T cf d ir)))(d:Nat)(e:Expr)(ir:E)(h:Qg (m+1) C e=some ir):PE X e (TI T A X.K (ev T cf d ir)):=by
 cases e with
 | Constant c j p=>exact Qgp h
 | Name x p=>exact QiE g h
 | BinOp a o b p=>exact Qlv S h
 | UnaryOp o a p =>
  cases o with
  | USub=>exact Qlt S h
  | Not=>exact(QiD g.txt S h).1
  | _=>exact Znn h
 | BoolOp o vs p =>
  cases vs with
  | nil=>cases o<;>first|exact Znn h|simp [Qg]at h
  | cons a r =>
   cases o with
   | And=>exact(S.an d a r p ir h).2
   | Or=>exact(S.orr d a r p ir h).2
 | Compare a os bs p =>
  match os,bs,h with
  | [o],[b],h=>exact(QiJ g.txt g.tab hu S h).1
  | [_,_],[_,_],h=>exact Znn h
  | [],_,h=>exact Znn h
  | [_],[],h=>exact Znn h
  | [_],_::_::_,h=>exact Znn h
  | [_,_],[],h=>exact Znn h
  | [_,_],[_],h=>exact Znn h
  | [_,_],_::_::_::_,h=>exact Znn h
  | _::_::_::_,_,h=>exact Znn h
 | IfExp t a b p=>exact Qgo S h
 | Tuple es j p=>exact Qgl S h
 | List es p=>exact QiI S h
 | Subscript a b p=>exact QaC g (by omega) S h
 | ListComp elt gens scope p=>exact(cp d elt gens scope p ir h).pe (g.calm (Ql1 h))
 | Dict ks vs p =>
  cases ks with
  | cons k0 ks=>exact Znn h
  | nil =>
   cases vs with
   | cons v0 vs=>exact Znn h
   | nil =>
    simp only [Qo0]at h;cases h;refine QD fun d=>QO Qew ?_;rintro Y H Q ⟨α,Z,hs,u,hs',rs,R,e,q⟩;simp only [ev]at e;cases e;intro p hp;obtain⟨R',E'⟩:=R.new (o:=.dic []) hp ⟨[],Qi,.nil⟩
    exact q _ _ _ E' R' ⟨p,by rw [<-R.h.len];exact QM,rfl⟩
 | Attribute a f p=>exact QiL g S h
 | Call f args kws p=>exact QbT g F hr hu S h
 | _=>exact Znn h
theorem QQ{e:Expr}(g:GX T A C X)(he:∀whole,isTrue e X.env whole=(do let v <-whole;standAt e.pos;holding [v] (truthy v)))(h:∀d,PE X e (TI T A X.K (ev T cf d ir)))(hir:∀d Z hs,evT T cf (d+1) ir Z hs=bd (ev T cf d ir Z hs) fun u h1=>(Yl T u h1).map fun b=>(b,h1)):
  PT X e (TIT T A X.K (evT T cf d ir)):=by
 refine Qbk fun d=>?_;refine QhR (Qeo (h d) he) ?_;rintro Y H Q ⟨α,Z,hs,u,hs',rs,R,e,q⟩;rw [hir]at e;obtain⟨u1,h1,e1,e⟩:=Qc e;simp only [Option.map_eq_some_iff]at e;obtain⟨b,e2,e⟩:=e;cases e;exact TI.run rs R e1 fun α1 x H1 E1 R1 r1 rs1=>⟨_,Qcz g.txt R1 e2 r1,q α1 H1 E1 R1⟩
theorem QI(h:Qfx ir=true):∀d Z hs,evT T cf (d+1) ir Z hs=bd (ev T cf d ir Z hs) fun u h1=>(Yl T u h1).map fun b=>(b,h1):=by
 intro d Z hs
 cases ir<;>first|rfl|cases h
theorem Qiz(g:GX T A C X)(F:Fc X T A cf k)(hr:hdC C=false->Room (k+1) X.A)(hu:X.A.units+64<cLine)(S:Snd T A C X cf m)(cp:∀d elt gens scope p ir,Qg (m+1) C (.ListComp elt gens scope p)=some ir->CompParts X elt gens scope (TI T A X.K (ev T cf d ir)))(d:Nat)(e:Expr)(ir:E)(hne:∀t a b p,e≠.IfExp t a b p)(ok:okT e ir=true)(h:Qg (m+1) C e=some ir):PT X e (TIT T A X.K (evT T cf d ir)):=by
 have all:=fun d=>QcO g F hr hu S cp d e ir h
 cases e with
 | Constant c j p=>exact QQ g (fun _=>rfl) all (QI ok)
 | Name x p=>exact QQ g (fun _=>rfl) all (QI ok)
 | BinOp a o b p=>exact QQ g (fun _=>rfl) all (QI ok)
 | UnaryOp o a p =>
  cases o with
  | USub=>exact QQ g (fun _=>rfl) all (QI ok)
  | Not=>exact(QiD g.txt S h).2
  | _=>exact Znn h
 | BoolOp o vs p =>
  cases vs with
  | nil=>cases o<;>first|exact Znn h|simp [Qg]at h
  | cons a r =>
   cases o with
   | And=>exact(S.an d a r p ir h).1.pt
   | Or=>exact(S.orr d a r p ir h).1.pt
 | Compare a os bs p =>
  match os,bs,h with
  | [o],[b],h=>exact(QiJ g.txt g.tab hu S h).2
  | [_,_],[_,_],h=>exact Znn h
  | [],_,h=>exact Znn h
  | [_],[],h=>exact Znn h
  | [_],_::_::_,h=>exact Znn h
  | [_,_],[],h=>exact Znn h
  | [_,_],[_],h=>exact Znn h
  | [_,_],_::_::_::_,h=>exact Znn h
  | _::_::_::_,_,h=>exact Znn h
 | IfExp t a b p=>exact absurd rfl (hne t a b p)
 | Tuple es j p=>exact QQ g (fun _=>rfl) all (QI ok)
 | List es p=>exact QQ g (fun _=>rfl) all (QI ok)
 | Subscript a b p=>exact QQ g (fun _=>rfl) all (QI ok)
 | ListComp elt gens scope p=>exact QQ g (fun _=>rfl) all (QI ok)
 | Dict ks vs p=>exact QQ g (fun _=>rfl) all (QI ok)
 | Attribute a f p=>exact QQ g (fun _=>rfl) all (QI ok)
 | Call f args kws p=>exact QQ g (fun _=>rfl) all (QI ok)
 | _=>exact Znn h
theorem Qol:Snd T A C X cf 0 where
 e:=fun d e ir h=>by first|exact Znn h|simp [Qg]at h
 t:=fun d e ir h=>by simp [compT]at h
 an:=fun d a r p ir h=>by simp [compAnd]at h
 orr:=fun d a r p ir h=>by simp [compOr]at h
 a:=fun d es irs h=>by simp [compA]at h
 o:=fun d e ir h=>by simp [compO]at h
structure Snd2(T:Tbl)(A:Adr)(C:Ctx)(X:Cx)(cf:Cf)(m:Nat):Prop where
 s:Snd T A C X cf m
 w:∀d it src tg,compSrc m C it=some src->(QkR src=true->∃elts kt pt,tg=.Tuple elts kt pt)->PI X tg it (TIW T A X.K (fun Z hs=>Zi T (ev T cf d) Z src hs))
 c:∀d elt gens scope p ir,Qg m C (.ListComp elt gens scope p)=some ir->CompParts X elt gens scope (TI T A X.K (ev T cf d ir))
theorem QiZ{tl:Option Expr}{t:Option E}{Yyy:Cx}{C':Ctx}(S:Snd T A C' Yyy cf m)(h:compTO (m+1) C' tl=some t):PTO Yyy tl (TIT T A Yyy.K (Qaf (evT T cf d) t)):=by
 cases tl with
 | none =>
  simp only [compTO]at h;cases h;rintro Y H Q ⟨α,Z,hs,u,hs',rs,R,e,q⟩;simp only [Qaf]at e;cases e;exact q α H Ext.refl R
 | some e =>
  simp only [compTO,Option.bind_eq_some_iff]at h;obtain⟨e',he,h⟩:=h;cases h;exact(S.t d e e' he).1
theorem QcB{tg:Expr}{b:Bool}{xs:List Str}{src:Src}(ht:QkY tg b xs)(ok:Qc7 src (tgN b 0)=true):QkR src=true->∃elts kt pt,tg=.Tuple elts kt pt:=by
 intro hp
 rcases ht with⟨rfl,_⟩|⟨rfl,x,p,y,q,k,pt,rfl,_⟩
 ·cases src<;>first|(cases hp;done)|(cases ok;done)
 ·exact⟨_,_,_,rfl⟩
theorem Qbb{i:Nat}{e0:E}{Z:Rho}{hs hs':Hs}{u:U}(h:ev T cf (d+1) (.thw i e0) Z hs=some (u,hs')):∃n k0 h2 kvs,hs[n]?=some (.dic k0)/\ev T cf d e0 Z hs=some (u,h2)/\h2[n]?=some (.fzd kvs)/\hs'=h2.set n (.dic kvs):=by
 simp only [ev]at h;split at h
 case h_2=>cases h
 rename_i n _;split at h
 case h_2=>cases h
 rename_i k0 e1;split at h
 case h_2=>cases h
 rename_i u2 h2 e2;split at h
 case h_2=>cases h
 rename_i kvs e3;cases h;exact⟨n,k0,h2,kvs,e1,e2,e3,rfl⟩
theorem Qd6{e:E}{i:Nat}(h:Qf1 e=some i):e=.var i:=by
 cases e<;>first|(cases h;rfl)|exact nomatch (show none=some _ from h)
theorem Qhx{it:Expr}(h:Qms C it=true):∃y p,it=.Name y p:=by
 cases it<;>first|exact⟨_,_,rfl⟩|exact nomatch (show false=true from h)
theorem Y0(g:GX T A C X)(S:Snd2 T A C X cf m)(SB:∀xs scope C0 s H fp,Y8 C xs scope=true->Snd2 T A (C.inner xs scope) (X.block xs scope C0 s H fp) cf m)(ST:∀xs scope C0 s H fp tl t d,Y8 C xs scope=true->compTO m (C.inner xs scope) tl=some t->PTO (X.block xs scope C0 s H fp) tl (TIT T A X.K (Qaf (evT T cf d) t)))(d:Nat)(elt:Expr)(gens:List Comprehension)(scope:Scope)(p:Pos)(ir:E)
  (h:Qg (m+1) C (.ListComp elt gens scope p)=some ir):CompParts X elt gens scope (TI T A X.K (ev T cf d ir)):=by
 simp only [QnU]at h;split at h
 case h_2=>cases h
 rename_i gn hgen;split at h
 case isFalse=>cases h
 rename_i ok;simp only [Bool.and_eq_true,Bool.not_eq_true']at ok;obtain⟨ok,hh⟩:=ok;split at h
 ·rename_i hdk;split at h
  ·cases h
  rename_i hb;simp only [Option.bind_eq_some_iff]at h;obtain⟨e',he,i,hv,t,ht,el,hel,h⟩:=h;cases h;cases Qd6 hv;obtain⟨y,py,hit⟩:=Qhx hdk;obtain⟨tg,rfl,htg⟩:=YZ hgen;obtain⟨ck,gb⟩:=Zt g ok
  have hb0:gn.b=false:=by simpa using hb
  rw [hb0]at htg
  have hn:gn.xs.length=nN false:=by
   rcases htg with⟨e,x,p,_,e'⟩|⟨e,_⟩
   ·rw [e'];rfl
   ·cases e
  have mk:∀(d:Nat) (t':TE),(∀Y H Q,Y.length=X.N.length->t' Y H Q->QaA (TIW T A X.K (fun Z hs=>Zi T (ev T cf d) Z (.key (.var i)) hs)) (nN false) (gT X.K (tgN false X.N.length)) (TIT T A X.K (Qaf (evT T cf d) t)) (TI T A X.K (ev T cf d el)) Y H Q\/∃a kv,H a=some (.dK kv)/\QaA (TIW T A X.K (fun Z hs=>Zi T (ev T cf d) Z (.key (.var i)) hs)) (nN false) (gT X.K (tgN false X.N.length)) (TIT T A X.K (Qaf (evT T cf d) t)) (TI T A X.K (ev T cf d el)) Y H fun v H'=>QbN a H (Q v) H')->CompParts X elt [⟨tg,gn.iter,gn.tl.toList,0⟩] scope t':=fun d t' imp =>
   ⟨tg,gn.iter,gn.tl,gn.xs,nN false,_,_,TIT T A X.K (Qaf (evT T cf d) t),TI T A X.K (ev T cf d el),rfl,ck,Qi8 (S.s.e d gn.iter (.var i) he),hn,(fun C0 s H fp=>Js g hh ck (gb C0 s H fp) htg),(fun C0 s H fp=>ST _ _ C0 s H fp _ _ d ok ht),(fun C0 s H fp=>show PE _ elt (TI T A X.K (ev T cf d el))from(SB _ scope C0 s H fp ok).s.e d elt el hel),(by rw [hit];exact fun v=>rfl),imp⟩
  cases d with
  | zero=>exact mk 0 _ fun Y H Q _ ⟨_,_,_,_,_,_,_,e,_⟩=>nomatch e
  | succ d =>
   cases d with
   | zero =>
    refine mk 0 _ fun Y H Q _ ⟨α,Z,hs,u,hs',rs,R,e,q⟩=>?_;obtain⟨_,_,_,_,_,e2,_⟩:=Qbb e;exact nomatch e2
   | succ d =>
    refine mk d _ fun Y H Q hl ⟨α,Z,hs,u,hs',rs,R,e,q⟩=>.inr ?_;obtain⟨n,k0,h2,kvs,hk0,e2,hk2,rfl⟩:=Qbb e;obtain⟨a0,ha0,kv0,hH0,rd0⟩:=R.h.adr hk0;refine⟨a0,kv0,hH0,Qai g.txt hl ⟨α,Z,hs,u,h2,rs,R,e2,fun α3 v H3 E3 R3 r3=>?_⟩⟩;have ha3:=E3.pre n a0 ha0;obtain⟨kv3,ob3,hH3,rd3⟩:=R3.h.ob n a0 _ ha3 hk2;refine⟨ob3,kv3,hH3,q α3 v _ ?_ (R3.put0 ha3 ⟨kv3,Qi,rd3⟩) r3⟩;refine⟨E3.pre,E3.new,fun b o e hb=>?_,fun b o u e=>?_,fun b o e=>?_⟩
    ·rw [Qe (fun z:b=a0=>hb (z▸List.mem_of_getElem? ha0))];exact E3.keep b o e hb
    ·rw [Qe (fun z=>by rw [z,hH0]at e;cases e)]
     exact E3.fz b o u e
    ·by_cases hb':b=a0
     ·subst hb';rw [hH0]at e;cases e;exact⟨_,Qi,fun _=>⟨fun z=>(nomatch z),fun z=>(nomatch z)⟩⟩
     ·rw [Qe hb'];exact E3.tr b o e
 simp only [Option.bind_eq_some_iff]at h;obtain⟨src,hsrc,h⟩:=h;split at h
 case isFalse=>cases h
 rename_i oks;simp only [Option.bind_eq_some_iff]at h;obtain⟨t,ht,el,hel,h⟩:=h;cases h;obtain⟨tg,rfl,htg⟩:=YZ hgen;obtain⟨ck,gb⟩:=Zt g ok
 have hn:gn.xs.length=nN gn.b:=by
  rcases htg with⟨e,x,p,_,e'⟩|⟨e,x,p,y,q,k,pt,_,e'⟩<;>rw [e,e']<;>rfl
 cases d with
 | zero =>
  exact⟨tg,gn.iter,gn.tl,gn.xs,nN gn.b,_,_,TIT T A X.K (Qaf (evT T cf 0) t),TI T A X.K (ev T cf 0 el),rfl,ck,S.w 0 gn.iter src tg hsrc (QcB htg oks),hn,(fun C0 s H fp=>Js g hh ck (gb C0 s H fp) htg),(fun C0 s H fp=>ST _ _ C0 s H fp _ _ 0 ok ht),(fun C0 s H fp=>show PE _ elt (TI T A X.K (ev T cf 0 el))from(SB _ scope C0 s H fp ok).s.e 0 elt el hel),Qbp hsrc,fun Y H Q _ ⟨_,_,_,_,_,_,_,e,_⟩=>nomatch e⟩
 | succ d =>
  exact⟨tg,gn.iter,gn.tl,gn.xs,nN gn.b,_,_,TIT T A X.K (Qaf (evT T cf d) t),TI T A X.K (ev T cf d el),rfl,ck,S.w d gn.iter src tg hsrc (QcB htg oks),hn,(fun C0 s H fp=>Js g hh ck (gb C0 s H fp) htg),(fun C0 s H fp=>ST _ _ C0 s H fp _ _ d ok ht),(fun C0 s H fp=>show PE _ elt (TI T A X.K (ev T cf d el))from(SB _ scope C0 s H fp ok).s.e d elt el hel),Qbp hsrc,fun Y H Q hl hq=>.inl (Qai g.txt hl hq)⟩
theorem Qgi:∀(m:Nat) {C:Ctx} {X:Cx},GX T A C X->Fc X T A cf k->(hdC C=false->Room (k+1) X.A)->X.A.units+64<cLine->Snd2 T A C X cf m
 | 0,C,X,g,F,hr,hu=>⟨Qol,fun d it src tg h=>by simp [compSrc]at h,fun d elt gens scope p ir h=>by first|exact Znn h|simp [Qg]at h⟩
 | 1,C,X,g,F,hr,hu=>by
  have S0:=Qgi 0 g F hr hu;have S:=S0.s
  have cp:=Y0 g S0 (fun x scope C0 s H fp ok=>Qgi 0 ((Zt g ok).2 C0 s H fp) ⟨F.ok,F.some,F.df,F.xf⟩ hr hu) (fun xs scope C0 s H fp tl t d ok h=>by simp [compTO]at h)
  refine⟨⟨QcO g F hr hu S cp,fun d e ir h=>?_,QiM S,Qnu S,Qfn S,QiC S⟩,fun d it src tg h hz=>QiB g S h hz,cp⟩;cases e<;>exact Znn h
 | m+2,C,X,g,F,hr,hu=>by
  have S1:=Qgi (m+1) g F hr hu;have S:=S1.s;have S':=Qgi m g F hr hu;have cp:=Y0 g S1 (fun x scope C0 s H fp ok=>Qgi (m+1) ((Zt g ok).2 C0 s H fp) ⟨F.ok,F.some,F.df,F.xf⟩ hr hu) (fun xs scope C0 s H fp tl t d ok h=>QiZ (Qgi m ((Zt g ok).2 C0 s H fp) ⟨F.ok,F.some,F.df,F.xf⟩ hr hu).s h);refine⟨⟨QcO g F hr hu S cp,fun d e ir h=>?_,QiM S,Qnu S,Qfn S,QiC S⟩,fun d it src tg h hz=>QiB g S h hz,cp⟩
  have hne:∀t a b p,e≠.IfExp t a b p:=by
   rintro t a b p rfl;simp [compT]at h
  have h':((Qg (m+1) C e).bind fun ir=>if okT e ir=true then some ir else none)=some ir:=by
   cases e<;>first|exact h|(simp [compT]at h;done)
  simp only [Option.bind_eq_some_iff]at h';obtain⟨ir',he,h'⟩:=h';split at h'
  ·rename_i ok;cases h';exact⟨Qiz g F hr hu S'.s S1.c d e ir hne ok he,S.e d e ir he⟩
  ·cases h'
end
end
section
variable {ir:E}{D:Ends}{env:Env}{e i o:Expr}{fl:Fl}{H0:Hp}{h0 hs':Hs}{α0:List Addr}{es ts:List Expr}{body:List S}{d l:Nat}{p:Pos}{ρ' ρ0:Rho}{σ0:St}{st:Stmt}{x:Str}{t:Tg}
section
variable {X:Cx}{T:Tbl}{A:Adr}{C:Ctx}{cf:Cf}{m k:Nat}
theorem QdU{t:TS}(h:∀D Y H,¬t D Y H):PS X st t:=fun _ _ Y H D _ q=>(h D Y H q).elim
theorem Qfc{st:List Stmt}{t:TS}(h:∀D Y H,¬t D Y H):PSs X st t:=fun _ _ Y H D _ q=>(h D Y H q).elim
theorem QfC{tg:Option Expr}(h:Qg m C e=some ir)(hn:∀elt gens scope p,e≠.ListComp elt gens scope p):swapsWith e tg l env=pure false:=by
 cases e<;>first|rfl|exact absurd rfl (hn _ _ _ _)|(cases m<;>exact Znn h)
theorem Qg3{f:Str}(h:Qg m C e=some ir):swapsWith e (some (.Attribute o f p)) l env=pure false:=by
 cases e<;>first|rfl|(cases m<;>exact Znn h)
theorem Qnt{tg:Expr}(hc:X.calm=true)(g:GX T A C X)(fl:∀x,X.fn x=true\/X.env.scope.names.lookup x=some .local)(h:Y7 C tg=some t):PG X tg (gT X.K t):=by
 have nm:∀{x:Str} {p:Pos} {i:Nat},YL C x=true->idx x C.N=some i->PG X (.Name x p) (Qad i):=fun {x p i} h1 h2=>Jr g.nd (by rw [g.N];exact Q7 h2) (YW g h1) (fl x)
 unfold Y7 at h;split at h
 ·split at h
  ·rename_i hl;simp only [Option.map_eq_some_iff]at h;obtain⟨i,hi,rfl⟩:=h;exact nm hl hi
  ·cases h
 ·split at h
  ·rename_i c;simp only [Bool.and_eq_true]at c;simp only [Option.bind_eq_some_iff,Option.map_eq_some_iff]at h;obtain⟨i,hi,j,hj,rfl⟩:=h;exact Qc3 hc (ZI (nm c.1.1 hi) (ZI (nm c.1.2 hj) QaI))
  ·cases h
 ·cases h
theorem Qck{pos:Pos}(h:ZJ i=true):∀v,assign (.Subscript o i pos) env v=(do
   let ov <-holding [v] (eval o env);let iv <-holding [v,ov] (eval i env)
   standAt pos
   holding [v,ov,iv] (setItem ov iv v)
   release [v,ov,iv] []):=by
 intro v
 cases i<;>first|rfl|cases h
theorem Qg2(h:Qg m C e=some ir):swapsWithSole [.Subscript o i p] e l env=pure false:=by
 cases e<;>first|rfl|(cases m<;>exact Znn h)
theorem Qg1{kt:Nat}(h:Qg m C e=some ir):swapsWithSole [.Tuple es kt p] e l env=pure false:=by
 cases e<;>first|rfl|(cases m<;>exact Znn h)
theorem JX{kt:Nat}(h:QfB e=true):swappedStores [.Tuple es kt p] e env=pure none:=by
 cases e<;>first|rfl|cases h
theorem QeU(h:QnP e=some true):∃x j q,e=.Constant (.str x) j q:=by
 cases e with
 | Constant c j q=>cases c<;>first|exact⟨_,_,_,rfl⟩|cases h
 | _=>cases h
theorem Yd{a:As}(h:QfU ts=some a):∃t,ts=[t]/\as1 t=some a:=by
 match ts,h with
 | [t],h=>exact⟨t,rfl,h⟩
theorem QhN(h:QfU ts=some (.nm x)):∃p,ts=[.Name x p]:=by
 obtain⟨t,rfl,h'⟩:=Yd h;clear h;have h:=h';clear h';unfold as1 at h;split at h
 ·cases h;exact⟨_,rfl⟩
 ·cases h
 ·cases h
 ·split at h
  ·unfold QbJ at h;split at h<;>cases h
  all_goals cases h
 ·cases h
theorem QhO{f:Str}(h:QfU ts=some (.at o f)):∃p,ts=[.Attribute o f p]:=by
 obtain⟨t,rfl,h'⟩:=Yd h;clear h;have h:=h';clear h';unfold as1 at h;split at h
 ·cases h
 ·cases h;exact⟨_,rfl⟩
 ·cases h
 ·split at h
  ·unfold QbJ at h;split at h<;>cases h
  all_goals cases h
 ·cases h
theorem Qfa(h:QfU ts=some (.sub o i)):∃p,ts=[.Subscript o i p]:=by
 obtain⟨t,rfl,h'⟩:=Yd h;clear h;have h:=h';clear h';unfold as1 at h;split at h
 ·cases h
 ·cases h
 ·cases h;exact⟨_,rfl⟩
 ·split at h
  ·unfold QbJ at h;split at h<;>cases h
  all_goals cases h
 ·cases h
theorem QkX{y:Str}{q:Pos}(h:QfU ts=some (.two x p y q)):∃kt pt,ts=[.Tuple [.Name x p,.Name y q] kt pt]:=by
 obtain⟨t,rfl,h'⟩:=Yd h;clear h;have h:=h';clear h';unfold as1 at h;split at h
 ·cases h
 ·cases h
 ·cases h
 ·split at h
  ·unfold QbJ at h;split at h
   ·cases h;exact⟨_,_,rfl⟩
   ·cases h
  all_goals cases h
 ·cases h
theorem QdR(h:QfU ts=some (.many es)):∃kt pt,ts=[.Tuple es kt pt]:=by
 unfold QfU at h;split at h
 ·rename_i t;unfold as1 at h;split at h
  ·cases h
  ·cases h
  ·cases h
  ·rename_i es' kt pt;split at h
   ·unfold QbJ at h;split at h<;>cases h
   ·cases h;exact⟨kt,pt,rfl⟩
   ·cases h;exact⟨kt,pt,rfl⟩
   ·cases h
  ·cases h
 ·cases h
theorem QjT(h:QfI C x=true):C.names.lookup x=some .local:=by
 unfold QfI at h;split at h
 ·rename_i e;exact e
 ·cases h
noncomputable def Qmi:List Nat->TGs
 | []=>Qmj
 | i::is=>QeR (Qad i) (Qmi is)
theorem YT{r:List Expr}{is:List Nat}(h:QaN C (e::r)=some is):∃x p i is',e=.Name x p/\YL C x=true/\idx x C.N=some i/\QaN C r=some is'/\is=i::is':=by
 unfold QaN at h;split at h
 ·rename_i x p;split at h
  ·rename_i l;simp only [Option.bind_eq_some_iff,Option.map_eq_some_iff]at h;obtain⟨i,hi,is',h1,rfl⟩:=h;exact⟨x,p,i,is',rfl,l,hi,h1,rfl⟩
  ·cases h
 ·cases h
theorem Qc2(g:GX T A C X)(fl:∀x,X.fn x=true\/X.env.scope.names.lookup x=some .local):∀{es:List Expr} {is:List Nat},QaN C es=some is->PGs X es (Qmi is)
 | [],_,h=>by cases h;exact QaI
 | e::r,is,h=>by
  obtain⟨x,p,i,is',rfl,l,hi,h1,rfl⟩:=YT h
  have ix:X.N[i]?=some x:=by rw [g.N];exact Q7 hi
  exact ZI (Jr g.nd ix (YW g l) (fl x)) (Qc2 g fl h1)
theorem Qbq{env:Env}:∀{es:List Expr} {is:List Nat},QaN C es=some is->(assignEach es env).length=is.length/\(assignEach es env).findIdx? (·.1)=none
 | [],_,h=>by cases h;exact⟨rfl,rfl⟩
 | e::r,is,h=>by
  obtain⟨x,p,i,is',rfl,l,hi,h1,rfl⟩:=YT h;obtain⟨a,b⟩:=Qbq (env:=env) h1;have e:assignEach (.Name x p::r) env=(false,assign (.Name x p) env)::assignEach r env:=rfl;rw [e]
  exact⟨congrArg (· + 1) a,by rw [List.findIdx?_cons,b];rfl⟩
theorem QfD{α:List Addr}{H:Hp}{Q:St->Hp->Prop}:∀{is:List Nat} {us:List U} {vs:List V} {Z ρ':Rho} {Y:St},QkK is us Z=some ρ'->RUs A α us vs->RS A α Z Y->(∀σ2,RS A α ρ' σ2->Q σ2 H)->Qmi is vs Y H Q/\vs.length=is.length
 | [],[],_,_,_,_,h,.nil,rs,k=>by cases h;exact⟨⟨rfl,k _ rs⟩,rfl⟩
 | i::is,u::us,v::vs,_,_,_,h,.cons r t,rs,k=>by
  obtain⟨w,l⟩:=QfD (is:=is) (us:=us) h t (rs.set i r) k;exact⟨⟨v,vs,rfl,w⟩,congrArg (· + 1) l⟩
 | [],_::_,_,_,_,_,h,_,_,_=>nomatch (show none=some _ from h)
 | _::_,[],_,_,_,_,h,_,_,_=>nomatch (show none=some _ from h)
theorem Qim{tg:Expr}{src:Src}(ht:Y7 C tg=some t)(ok:Qc7 src t=true):QkR src=true->∃elts kt pt,tg=.Tuple elts kt pt:=by
 intro hp
 cases tg with
 | Tuple elts kt pt=>exact⟨_,_,_,rfl⟩
 | Name x p =>
  simp only [Y7]at ht;split at ht
  ·simp only [Option.map_eq_some_iff]at ht;obtain⟨i,_,rfl⟩:=ht
   cases src<;>first|(cases hp;done)|(cases ok;done)
  ·cases ht
 | _=>simp [Y7]at ht
structure SndS(T:Tbl)(A:Adr)(C:Ctx)(X:Cx)(cf:Cf)(m:Nat):Prop where
 s:∀d st ir,ZY m C st=some ir->PS X st (TIS T A X.K (ex T cf d ir))
 ss:∀d sts irs,compSs m C sts=some irs->PSs X sts (TIS T A X.K (exs T cf d irs))
theorem QlV{K:W.Frag}{ir:S}:∀D Y H,¬TIS T A K (ex T cf 0 ir) D Y H:=fun _ _ _ ⟨_,_,_,_,_,_,_,_,h,_⟩=>nomatch h
theorem Qjv{K:W.Frag}{irs:List S}:∀D Y H,¬TIS T A K (exs T cf 0 irs) D Y H:=fun _ _ _ ⟨_,_,_,_,_,_,_,_,h,_⟩=>nomatch h
theorem Qer{ir:S}(h:∀d',PS X st (TIS T A X.K (ex T cf (d'+1) ir))):PS X st (TIS T A X.K (ex T cf d ir)):=by
 cases d with
 | zero=>exact QdU QlV
 | succ d=>exact h d
theorem TIS.run{K:W.Frag}{α:List Addr}{Z:Rho}{Y:St}{hs h1:Hs}{H:Hp}{f:Ex}(rs:RS A α Z Y)(rp:Rep T A K α hs H)(h:f Z hs=some (fl,ρ',h1))
  (k:∀α1 σ1 H1,Ext α α1 H H1->Rep T A K α1 h1 H1->RS A α1 ρ' σ1->flE A α1 D σ1 H1 fl):TIS T A K f D Y H:=⟨α,Z,hs,fl,ρ',h1,rs,rp,h,k⟩
theorem QeS{w:Wk}{J:It}{K:PySem.W.Frag}{n:Nat}(hK:K=X.K)(tx:Txt T A X.K X.mg)(rs0:RS A α0 ρ0 σ0)(R0:Rep T A X.K α0 h0 H0)(W0:WJ A X.K α0 J H0 w)
  (e0:Qds T w t (exs T cf d body) n 0 ρ0 h0=some (fl,ρ',hs'))
  (q:∀α' Y' H',Ext α0 α' H0 H'->Rep T A X.K α' hs' H'->RS A α' ρ' Y'->flE A α' D Y' H' fl):
  ∃W:Nat->Nat->St->Hp->Prop,(∃m,W 0 m σ0 H0)/\∀i m Y H,W i m Y H->(J.stop i H/\D.nx Y H)\/(J.go i H/\∃N:St->Hp->Prop,(∀Y' H',N Y' H'->∃m',m'<m/\W (i+1) m' Y' H') /\
   ∀x H',J.yld i H x H'->gT X.K t x Y H' fun σ2 H2=>TIS T A X.K (exs T cf d body) { D with nx:=N,ct:=N,bk:=D.nx } σ2 H2):=by
 refine⟨fun i m Y H=>∃α Z hs,RS A α Z Y/\Rep T A X.K α hs H/\Ext α0 α H0 H/\Qds T w t (exs T cf d body) m i Z hs=some (fl,ρ',hs'),⟨n,α0,ρ0,h0,rs0,R0,Ext.refl,e0⟩,?_⟩;rintro i m Y H ⟨α,Z,hs,rs,R,E,e⟩
 cases m with
 | zero=>cases e
 | succ m =>
  have W:=W0.mono E.pre E.fz;simp only [Qds]at e;split at e
  ·cases e
  ·rename_i ei;cases e;exact .inl ⟨Qbv tx R W ei,q α Y H E R rs⟩
  ·rename_i x ei;split at e
   ·cases e
   ·rename_i ρ1 et;obtain⟨go,yl⟩:=Qdm tx R W rs ei et;refine .inr ⟨go,fun Y' H'=>∃α Z hs,RS A α Z Y'/\Rep T A X.K α hs H'/\Ext α0 α H0 H'/\Qds T w t (exs T cf d body) m (i+1) Z hs=some (fl,ρ',hs'),fun Y' H' z=>⟨m,Nat.lt_succ_self _,z⟩,?_⟩;intro v H' hy;refine yl v H' _ hy fun σ2 rs2 R2 E2=>?_;have E02:Ext α0 α H0 H':=E.trans E2 R2.h;split at e
    ·rename_i ρ2 h2 eb;exact TIS.run rs2 R2 eb fun α3 σ3 H3 E3 R3 rs3=>⟨α3,ρ2,h2,rs3,R3,E02.trans E3 R3.h,e⟩
    ·rename_i ρ2 h2 eb;exact TIS.run rs2 R2 eb fun α3 σ3 H3 E3 R3 rs3=>⟨α3,ρ2,h2,rs3,R3,E02.trans E3 R3.h,e⟩
    ·rename_i ρ2 h2 eb;cases e;exact TIS.run rs2 R2 eb fun α3 σ3 H3 E3 R3 rs3=>q α3 σ3 H3 (E02.trans E3 R3.h) R3 rs3
    ·rename_i n1 n2 n3
     cases fl with
     | next=>exact absurd e (n1 _ _)
     | cont=>exact absurd e (n2 _ _)
     | brk=>exact absurd e (n3 _ _)
     | ret u=>exact TIS.run rs2 R2 e fun α3 σ3 H3 E3 R3 rs3=>q α3 σ3 H3 (E02.trans E3 R3.h) R3 rs3
theorem QiQ{α:List Addr}:∀{kvs:List (U×U)} {kv:List (Key×V)} {i:Nat} {p:U×U} {q:Key×V},RD A α kvs kv->kvs[i]?=some p->kv[i]?=some q->RK p.1 q.1
 | _,_,i,p,q,.nil,h1,h2=>by simp at h1
 | _,_,0,p,q,.cons r t,h1,h2=>by
  simp at h1 h2;subst h1 h2;exact r.1
 | _,_,i+1,p,q,.cons r t,h1,h2=>QiQ (i:=i) t (by simpa using h1) (by simpa using h2)
theorem Qdt{i0:Nat}{a:Addr}{ob:Obj}{kv:List (Key×V)}{kvs:List (U×U)}(rs0:RS A α0 ρ0 σ0)(R0:Rep T A X.K α0 h0 H0)
  (hz:H0 a=some (.frz ob (.dK kv))) (rd:RD A α0 kvs kv)
  (e0:QeT i0 (exs T cf d body) (kvs.map (·.1)) ρ0 h0=some (fl,ρ',hs'))
  (q:∀α' Y' H',Ext α0 α' H0 H'->Rep T A X.K α' hs' H'->RS A α' ρ' Y'->flE A α' D Y' H' fl):
  ∃W:Nat->Nat->St->Hp->Prop,(∃m,W 0 m σ0 H0)/\∀i m Y H,W i m Y H->((Itk a ob kv).stop i H/\D.nx Y H)\/((Itk a ob kv).go i H/\∃N:St->Hp->Prop,(∀Y' H',N Y' H'->∃m',m'<m/\W (i+1) m' Y' H') /\
   ∀x H',(Itk a ob kv).yld i H x H'->gT X.K (.name i0) x Y H' fun σ2 H2=>TIS T A X.K (exs T cf d body) { D with nx:=N,ct:=N,bk:=D.nx } σ2 H2):=by
 have hl:=Paired.length rd;refine⟨fun i m Y H=>∃α Z hs,RS A α Z Y/\Rep T A X.K α hs H/\Ext α0 α H0 H/\m+i=kvs.length/\QeT i0 (exs T cf d body) ((kvs.drop i).map (·.1)) Z hs=some (fl,ρ',hs'),⟨kvs.length,α0,ρ0,h0,rs0,R0,Ext.refl,rfl,e0⟩,?_⟩;rintro i m Y H ⟨α,Z,hs,rs,R,E,hm,e⟩;have hzi:=E.fz a ob (.dK kv) hz
 cases m with
 | zero =>
  rw [List.drop_of_length_le (by omega)]at e
  simp only [List.map_nil,QeT]at e;cases e
  exact .inl ⟨⟨hzi,by omega⟩,q α Y H E R rs⟩
 | succ m =>
  have hi:i<kvs.length:=by omega
  rw [List.drop_eq_getElem_cons hi,List.map_cons]at e;simp only [QeT]at e
  refine .inr ⟨⟨hzi,by omega⟩,fun Y' H'=>∃α Z hs,RS A α Z Y'/\Rep T A X.K α hs H'/\Ext α0 α H0 H'/\m+(i+1)=kvs.length/\QeT i0 (exs T cf d body) ((kvs.drop (i+1)).map (·.1)) Z hs=some (fl,ρ',hs'),fun Y' H' z=>⟨m,Nat.lt_succ_self _,z⟩,?_⟩
  rintro x H' ⟨rfl,p,hp,rfl⟩;have rk:RK kvs[i].1 p.1:=QiQ rd (List.getElem?_eq_getElem hi) hp;have rs2:=rs.set i0 (QiO (A:=A) (α:=α) rk);show TIS T A X.K (exs T cf d body) _ _ _;split at e
  ·rename_i ρ2 h2 eb
   exact TIS.run rs2 R eb fun α3 σ3 H3 E3 R3 rs3=>⟨α3,ρ2,h2,rs3,R3,E.trans E3 R3.h,by omega,e⟩
  ·rename_i ρ2 h2 eb
   exact TIS.run rs2 R eb fun α3 σ3 H3 E3 R3 rs3=>⟨α3,ρ2,h2,rs3,R3,E.trans E3 R3.h,by omega,e⟩
  ·rename_i ρ2 h2 eb;cases e;exact TIS.run rs2 R eb fun α3 σ3 H3 E3 R3 rs3=>q α3 σ3 H3 (E.trans E3 R3.h) R3 rs3
  ·rename_i n1 n2 n3
   cases fl with
   | next=>exact absurd e (n1 _ _)
   | cont=>exact absurd e (n2 _ _)
   | brk=>exact absurd e (n3 _ _)
   | ret u=>exact TIS.run rs2 R e fun α3 σ3 H3 E3 R3 rs3=>q α3 σ3 H3 (E.trans E3 R3.h) R3 rs3
theorem QbH{tir:E}{n:Nat}(rs0:RS A α0 ρ0 σ0)(R0:Rep T A X.K α0 h0 H0)
  (e0:Zl (evT T cf d tir) (exs T cf d body) n ρ0 h0=some (fl,ρ',hs'))
  (q:∀α' Y' H',Ext α0 α' H0 H'->Rep T A X.K α' hs' H'->RS A α' ρ' Y'->flE A α' D Y' H' fl):Qfk (TIT T A X.K (evT T cf d tir)) (TIS T A X.K (exs T cf d body)) D σ0 H0:=by
 refine⟨fun m Y H=>∃α Z hs,RS A α Z Y/\Rep T A X.K α hs H/\Ext α0 α H0 H/\Zl (evT T cf d tir) (exs T cf d body) m Z hs=some (fl,ρ',hs'),⟨n,α0,ρ0,h0,rs0,R0,Ext.refl,e0⟩,?_⟩;rintro m Y H ⟨α,Z,hs,rs,R,E,e⟩
 cases m with
 | zero=>cases e
 | succ m =>
  simp only [Zl]at e;split at e
  ·cases e
  ·rename_i h1 et;cases e;exact TIT.run rs R et fun α1 H1 E1 R1 rs1=>q α1 Y H1 (E.trans E1 R1.h) R1 rs1
  ·rename_i h1 et;refine TIT.run rs R et fun α1 H1 E1 R1 rs1=>?_;rw [if_pos rfl];refine⟨fun Y' H'=>∃α Z hs,RS A α Z Y'/\Rep T A X.K α hs H'/\Ext α0 α H0 H'/\Zl (evT T cf d tir) (exs T cf d body) m Z hs=some (fl,ρ',hs'),fun Y' H' z=>⟨m,Nat.lt_succ_self _,z⟩,?_⟩;have E01:=E.trans E1 R1.h;split at e
   ·rename_i ρ2 h2 eb;exact TIS.run rs1 R1 eb fun α3 σ3 H3 E3 R3 rs3=>⟨α3,ρ2,h2,rs3,R3,E01.trans E3 R3.h,e⟩
   ·rename_i ρ2 h2 eb;exact TIS.run rs1 R1 eb fun α3 σ3 H3 E3 R3 rs3=>⟨α3,ρ2,h2,rs3,R3,E01.trans E3 R3.h,e⟩
   ·rename_i ρ2 h2 eb;cases e;exact TIS.run rs1 R1 eb fun α3 σ3 H3 E3 R3 rs3=>q α3 σ3 H3 (E01.trans E3 R3.h) R3 rs3
   ·rename_i n1 n2 n3
    cases fl with
    | next=>exact absurd e (n1 _ _)
    | cont=>exact absurd e (n2 _ _)
    | brk=>exact absurd e (n3 _ _)
    | ret u=>exact TIS.run rs1 R1 e fun α3 σ3 H3 E3 R3 rs3=>q α3 σ3 H3 (E01.trans E3 R3.h) R3 rs3
theorem RF.put{α:List Addr}{x:Str}{i:Nat}{u:U}{v:V}(hk:T.fns'[i]?=some x)(nd:T.fns'.Nodup)(r:RU A α u v):∀{fs:List (Nat×U)} {fv:List (Str×V)},RF T A α fs fv->RF T A α (Zm i u fs) (Jo x v fv)
 | _,_,.nil=>.cons ⟨hk,r⟩ .nil
 | _,_,.cons (a:=p) (b:=q) h t=>by
  obtain⟨pk,pu⟩:=p;obtain⟨qx,qv⟩:=q;simp only [Zm,Jo];by_cases e:pk=i
  ·subst e;have e2:qx=x:=Option.some.inj (h.1.symm.trans hk);subst e2;rw [if_pos rfl,if_pos rfl];exact .cons ⟨hk,r⟩ t
  ·have n2:¬qx=x:=fun z=>by
    subst z;obtain⟨l1,q1⟩:=List.getElem?_eq_some_iff.mp hk;obtain⟨l2,q2⟩:=List.getElem?_eq_some_iff.mp h.1;exact e ((List.getElem_inj nd).mp (q2.trans q1.symm))
   rw [if_neg e,if_neg n2];exact .cons h (RF.put hk nd r t)
theorem RF.length{α:List Addr}{fs:List (Nat×U)}{fv:List (Str×V)}(r:RF T A α fs fv):fs.length=fv.length:=Paired.length r
theorem Qo9(o:Operator):∃ti,PIp X o ti/\∀{α:List Addr} {u w r:U} {x y:V} {H:Hp} {Q:VK},Qh2 o u w=some r->RU A α u x->RU A α w y->(∀z,RU A α r z->Q z H)->ti x y H Q:=by
 have no:∀{o:Operator},(∀u w,Qh2 o u w=none)->∃ti,PIp X o ti/\∀{α:List Addr} {u w r:U} {x y:V} {H:Hp} {Q:VK},Qh2 o u w=some r->RU A α u x->RU A α w y->(∀z,RU A α r z->Q z H)->ti x y H Q:=fun {o} h=>⟨fun _ _ _ _=>False,fun _ _ _ _ _ _ _ _ _ _ _ _ f=>f.elim,fun e _ _ _=>by rw [h]at e;cases e⟩
 have two:∀{f:Int->Int->U} {u w r:U},(match u,w with|.int i 0,.int j 0=>some (f i j)|_,_=>none)=some r->∃i j,u=.int i 0/\w=.int j 0/\r=f i j:=fun {f u w r} h=>by
  split at h
  ·cases h;exact⟨_,_,rfl,rfl,rfl⟩
  ·cases h
 cases o with
 | Add =>
  refine⟨_,Qhk,fun {α u w r x y H Q} e ru rw' k=>?_⟩;obtain⟨i,j,rfl,rfl,rfl⟩:=two (f:=fun i j=>.int (i+j) 0) e;cases Qbz ru;cases Qbz rw';exact⟨i,j,rfl,rfl,k _ ⟨_,rfl,Cg.refl _ _⟩⟩
 | Sub =>
  refine⟨_,Qhj,fun {α u w r x y H Q} e ru rw' k=>?_⟩;obtain⟨i,j,rfl,rfl,rfl⟩:=two (f:=fun i j=>.int (i-j) 0) e;cases Qbz ru;cases Qbz rw';exact⟨i,j,rfl,rfl,k _ ⟨_,rfl,Cg.refl _ _⟩⟩
 | _=>exact no fun _ _=>rfl
structure Bd(X:Cx):Prop where
 stk:X.stack=X.env::X.outer
 frm:X.env.frame=some X.env.locals
 ex:X.ex=[]
 cm:X.calm=true
theorem QiA(bX:Bd X)(F:Fc X T A cf k)(hr:Room k X.A)(hu:X.A.units+1<cLine)(g:GX T A C X)(fl:∀x,X.fn x=true\/X.env.scope.names.lookup x=some .local)(S2:Snd2 T A C X cf m)(SS:SndS T A C X cf m)(d:Nat)(st:Stmt)(ir:Iv.S)(h:ZY (m+1) C st=some ir):PS X st (TIS T A X.K (ex T cf d ir)):=by
 have S:=S2.s;refine Qer fun d=>?_
 cases st with
 | Pass p=>cases h;exact Zy QgC fun D Y H ⟨α,Z,hs,fl,ρ',hs',rs,R,e,q⟩=>by cases e;exact q α Y H Ext.refl R rs
 | Break p=>cases h;exact Zy Qes fun D Y H ⟨α,Z,hs,fl,ρ',hs',rs,R,e,q⟩=>by cases e;exact q α Y H Ext.refl R rs
 | Continue p=>cases h;exact Zy QaG fun D Y H ⟨α,Z,hs,fl,ρ',hs',rs,R,e,q⟩=>by cases e;exact q α Y H Ext.refl R rs
 | Expr e p =>
  unfold ZY at h;try dsimp only at h;split at h
  ·rename_i hd;obtain⟨x,j,q,rfl⟩:=QeU hd;cases h
   exact Zy Qi3 fun D Y H ⟨α,Z,hs,fl,ρ',hs',rs,R,e,q⟩=>by cases e;exact q α Y H Ext.refl R rs
  ·cases h
  ·rename_i hn;simp only [Option.map_eq_some_iff]at h;obtain⟨e',he,rfl⟩:=h
   refine Zy (QgD (S.e d e e' he) (QfC he fun elt gens scope q z=>by subst z;cases hn)) ?_
   rintro D Y H ⟨α,Z,hs,fl,ρ',hs',rs,R,e,q⟩;simp only [ex]at e;obtain⟨u,h1,e1,e⟩:=Qc e;cases e;exact TI.run rs R e1 fun α1 x H1 E1 R1 r1 rs1=>q α1 Y H1 E1 R1 rs1
 | Return v p =>
  cases v with
  | none =>
   cases h
   exact Zy QgB fun D Y H ⟨α,Z,hs,fl,ρ',hs',rs,R,e,q⟩=>by cases e;exact q α Y H Ext.refl R rs .non rfl
  | some e =>
   unfold ZY at h;simp only [Option.map_eq_some_iff]at h;obtain⟨e',he,rfl⟩:=h;refine Zy (Qi1 (S.e d e e' he)) ?_;rintro D Y H ⟨α,Z,hs,fl,ρ',hs',rs,R,e,q⟩;simp only [ex]at e;obtain⟨u,h1,e1,e⟩:=Qc e;cases e;exact TI.run rs R e1 fun α1 x H1 E1 R1 r1 rs1=>q α1 Y H1 E1 R1 rs1 x r1
 | Raise x c p =>
  cases h
  exact QdU fun D Y H ⟨_,_,_,_,_,_,_,_,e,_⟩=>by simp [ex]at e
 | AugAssign t o e p =>
  unfold ZY at h;try dsimp only at h;split at h
  case h_2=>cases h
  rename_i x px;split at h
  case isFalse=>cases h
  rename_i hl;simp only [Option.bind_eq_some_iff]at h;obtain⟨i,hi,e',he,h⟩:=h;cases h;obtain⟨ti,hp,ht⟩:=Qo9 (X:=X) (A:=A) o
  refine Zy (Qi4 (i:=i) g.nd (by rw [g.N];exact Q7 hi) (YW g hl) (S.e d e e' he) hp (fl x)) ?_
  rintro D Y H ⟨α,Z,hs,fl,ρ',hs',rs,R,e,q⟩;simp only [ex]at e;split at e
  case h_2=>cases e
  rename_i u eu;obtain⟨w,h1,e1,e⟩:=Qc e;simp only [Option.map_eq_some_iff]at e;obtain⟨r,e2,e⟩:=e;cases e;obtain⟨v,ev',rv⟩:=rs.val i u eu;refine⟨v,ev',TI.run rs R e1 fun α1 y H1 E1 R1 r1 rs1=>?_⟩;exact ht e2 (rv.mono E1.pre) r1 fun z rz=>q α1 _ H1 E1 R1 (rs1.set i rz)
 | If t a b p =>
  unfold ZY at h;simp only [Option.bind_eq_some_iff]at h;obtain⟨t',ht,a',ha,b',hb,h⟩:=h;cases h;refine Zy (QlF (S.t d t t' ht).1 (SS.ss d a a' ha) (SS.ss d b b' hb)) ?_;rintro D Y H ⟨α,Z,hs,fl,ρ',hs',rs,R,e,q⟩;simp only [ex]at e;split at e
  ·rename_i h1 e1;refine TIT.run rs R e1 fun α1 H1 E1 R1 rs1=>?_;rw [if_pos rfl];exact TIS.run rs1 R1 e fun α2 σ2 H2 E2 R2 rs2=>q α2 σ2 H2 (E1.trans E2 R2.h) R2 rs2
  ·rename_i h1 e1;refine TIT.run rs R e1 fun α1 H1 E1 R1 rs1=>?_;rw [if_neg Bool.false_ne_true];exact TIS.run rs1 R1 e fun α2 σ2 H2 E2 R2 rs2=>q α2 σ2 H2 (E1.trans E2 R2.h) R2 rs2
  ·cases e
 | While t a b p =>
  cases b with
  | cons _ _=>first|exact Znn h|simp [ZY]at h
  | nil =>
   unfold ZY at h;simp only [Option.bind_eq_some_iff]at h;obtain⟨t',ht,a',ha,h⟩:=h;cases h
   refine Zy (Qeq (by rw [g.xe];exact PassesOwn.never) (S.t d t t' ht).1 (SS.ss d a a' ha)) ?_
   rintro D Y H ⟨α,Z,hs,fl,ρ',hs',rs,R,e,q⟩;simp only [ex]at e;exact QbH rs R e q
 | For tg it a b p =>
  cases b with
  | cons _ _=>first|exact Znn h|simp [ZY]at h
  | nil =>
   unfold ZY at h;simp only [Option.bind_eq_some_iff]at h;obtain⟨tg',ht,it',hi,h⟩:=h;split at h
   ·rename_i i0 hk;simp only [Option.bind_eq_some_iff]at h;obtain⟨e',he,a',ha,h⟩:=h;cases h
    have et:tg'=.name i0:=by
     unfold QnJ at hk;split at hk
     case h_2=>cases hk
     split at hk
     case h_2=>cases hk
     split at hk
     case isFalse=>cases hk
     cases hk;rfl
    subst et
    refine Zy (QcT (Qft (by rw [g.xe];exact PassesOwn.never) bX.cm (Qc1 (S.e d it e' he)) (Qnt bX.cm g fl ht) (SS.ss d a a' ha) (Qbp hi))) ?_
    rintro D Y H ⟨α,Z,hs,fl,ρ',hs',rs,R,e,q⟩;simp only [ex]at e;obtain⟨u,h1,e1,e⟩:=Qc e;split at e
    ·rename_i n kvs ed;obtain⟨rfl,⟨k0,hk0⟩,hk1⟩:=QbA ed;unfold Qay at e;split at e
     case h_2=>cases e
     rename_i fl' ρ2 h2 ef;split at e
     case h_2=>cases e
     rename_i kvs' hk2;cases e;obtain⟨a0,ha0,kv0,hH0,rd0⟩:=R.h.adr hk0;refine⟨a0,kv0,hH0,TI.run rs R e1 fun α1 x H1 E1 R1 r1 rs1=>?_⟩;obtain⟨a1,ha1,rfl⟩:=r1
     have ea:a1=a0:=by
      have:=E1.pre n a0 ha0;rw [ha1]at this;exact Option.some.inj this
     subst ea;obtain⟨kv1,hH1,rd1⟩:=R1.h.ob n a1 _ ha1 hk1;refine⟨a1,kv1,rfl,hH1,fun ob=>?_⟩;have R2:Rep T A X.K α1 (h1.set n (.fzd kvs)) (upd H1 a1 (.frz ob (.dK kv1))):=R1.put0 ha1 ⟨kv1,ob,Qi,rd1⟩;have ne:∀b o,H1 b=some o->b∉α1->b≠a1:=fun b o _ hb z=>hb (z▸List.mem_of_getElem? ha1);refine Qdt rs1 R2 Qi rd1 ef fun α3 σ3 H3 E3 R3 rs3=>?_;have z3:=E3.fz a1 ob (.dK kv1) Qi;have ha3:=E3.pre n a1 ha1;obtain⟨kv3,ob3,hH3,rd3⟩:=R3.h.ob n a1 _ ha3 hk2;rw [z3]at hH3;cases hH3;have R4:Rep T A X.K α3 (h2.set n (.dic kvs')) (upd H3 a1 (.dK kv1)):=R3.put0 ha3 ⟨kv1,Qi,rd3⟩
     have E4:Ext α1 α3 H1 (upd H3 a1 (.dK kv1)):=by
      refine⟨E3.pre,fun k b e l=>?_,fun b o e hb=>?_,fun b o kv e=>?_,fun b o e=>?_⟩
      ·have hn:=E3.new k b e l
       have hb:b≠a1:=fun z=>by
        rw [z,Qi]at hn
        rcases hn with q|⟨_,q⟩<;>cases q
       rw [Qe hb]at hn;exact hn
      ·have hb':=ne b o e hb;rw [Qe hb']
       exact E3.keep b o (by rw [Qe hb'];exact e) hb
      ·have hb':b≠a1:=fun z=>by rw [z,hH1]at e;cases e
       rw [Qe hb']
       exact E3.fz b o kv (by rw [Qe hb'];exact e)
      ·by_cases hb':b=a1
       ·subst hb';rw [hH1]at e;cases e;exact⟨_,Qi,fun _=>Iff.rfl⟩
       ·obtain⟨o',q1,q2⟩:=E3.tr b o (by rw [Qe hb'];exact e)
        exact⟨o',by rw [Qe hb'];exact q1,q2⟩
     have fin:=q α3 σ3 _ (E1.trans E4 R4.h) R4 rs3
     cases fl with
     | next=>exact⟨ob,kv1,z3,fin⟩
     | brk=>exact⟨ob,kv1,z3,fin⟩
     | cont=>exact⟨ob,kv1,z3,fin⟩
     | ret u=>exact fun v rv=>⟨ob,kv1,z3,fin v rv⟩
    ·cases e
   split at h
   case isFalse=>cases h
   rename_i ok;simp only [Option.bind_eq_some_iff]at h;obtain⟨a',ha,h⟩:=h;cases h
   refine Zy (Qft (by rw [g.xe];exact PassesOwn.never) bX.cm (S2.w d it _ tg hi (Qim ht ok)) (Qnt bX.cm g fl ht) (SS.ss d a a' ha) (Qbp hi)) ?_
   rintro D Y H ⟨α,Z,hs,fl,ρ',hs',rs,R,e,q⟩;simp only [ex]at e;obtain⟨w,h1,e1,e⟩:=Qc e;refine⟨α,Z,hs,w,h1,rs,R,e1,fun α1 J H1 E1 R1 W1=>?_⟩;exact QeS rfl g.txt (rs.mono E1.pre) R1 W1 e fun α2 σ2 H2 E2 R2 rs2=>q α2 σ2 H2 (E1.trans E2 R2.h) R2 rs2
 | Assign ts e p =>
  unfold ZY at h;try dsimp only at h;split at h
  ·rename_i x ht;obtain⟨px,rfl⟩:=QhN ht;split at h
   case isFalse=>cases h
   rename_i hl;simp only [Option.bind_eq_some_iff]at h;obtain⟨i,hi,e',he,h⟩:=h;cases h
   have fin:∀e' D Y H,TIS T A X.K (ex T cf (d+1) (.set i e')) D Y H->TI T A X.K (ev T cf d e') Y H fun v H1=>D.nx (Y.set i (some v)) H1:=by
    intro e';rintro D Y H ⟨α,Z,hs,fl,ρ',hs',rs,R,e,q⟩;simp only [ex]at e;obtain⟨u,h1,e1,e⟩:=Qc e;cases e;exact TI.run rs R e1 fun α1 x H1 E1 R1 r1 rs1=>q α1 _ H1 E1 R1 (rs1.set i r1)
   by_cases hc:∃elt gens scope q,e=.ListComp elt gens scope q
   ·obtain⟨elt,gens,scope,pc,rfl⟩:=hc;obtain⟨tg,iter,tl,xs,n,wi,gg,tt,te,rfl,ok,hi',hn',hg',ht',he',hf,imp⟩:=S2.c d elt gens scope pc e' he;intro pins s Y H D I hq
    rcases imp Y H _ I.len (fin _ D Y H hq)with w|⟨a,kv,ha,w⟩
    ·exact QcU bX.cm g.nd ok hi' hn' hg' ht' he' hf (by rw [g.N];exact Q7 hi) (YW g hl) (fl x) pins s Y H D I w
    ·exact QcT (QcU bX.cm g.nd ok hi' hn' hg' ht' he' hf (by rw [g.N];exact Q7 hi) (YW g hl) (fl x)) pins s Y H D I ⟨a,kv,ha,w⟩
   ·exact Zy (Qfs (i:=i) g.nd (by rw [g.N];exact Q7 hi) (YW g hl) (S.e d e e' he) (QfC he fun elt gens scope q z=>hc ⟨elt,gens,scope,q,z⟩) (fl x)) (fin _)
  ·rename_i o f ht;obtain⟨pa,rfl⟩:=QhO ht;split at h
   case isFalse=>cases h
   rename_i hn;simp only [Option.bind_eq_some_iff]at h;obtain⟨e',he,o',ho,i,hi,h⟩:=h;cases h
   have hk':T.fns'[i]?=some f:=by rw [<-g.CT];exact Q7 hi
   refine Zy (Qi2 (S.e d o o' ho) (S.e d e e' he) (Qg3 he)) ?_;rintro D Y H ⟨α,Z,hs,fl,ρ',hs',rs,R,e,q⟩;simp only [ex]at e;obtain⟨u,h1,e1,e⟩:=Qc e;obtain⟨u2,h2,e2,e⟩:=Qc e;refine TI.run rs R e1 fun α1 x H1 E1 R1 r1 rs1=>TI.run rs1 R1 e2 fun α2 y H2 E2 R2 r2 rs2=>?_;split at e
   case h_2=>cases e
   rename_i n;split at e
   case h_2=>cases e
   rename_i c fs eo;split at e
   case isFalse=>cases e
   rename_i l;cases e;obtain⟨a,ha,rfl⟩:=r2;obtain⟨dx,fv,q1,rf,lc⟩:=R2.h.ob n a _ ha eo;have cl:=g.txt.cl c _ (List.getElem?_eq_getElem lc)
   refine⟨a,A.c c,dx,fv,rfl,q1,cl.cls,cl.nf f (List.mem_of_getElem? hk'),by rw [<-RF.length rf];omega,?_⟩
   obtain⟨R',E'⟩:=R2.put (o:=.ins c (Zm i u fs)) (ho:=.ins (A.c c) dx (Jo f x fv)) ha ⟨dx,_,Qi,RF.put hk' g.txt.fd (r1.mono E2.pre) rf,lc⟩;exact q α2 Y _ ((E1.trans E2 R2.h).trans E' R'.h) R' rs2
  ·rename_i o i ht;obtain⟨ps,rfl⟩:=Qfa ht;split at h
   case isFalse=>cases h
   rename_i nsl;simp only [Option.bind_eq_some_iff]at h;obtain⟨e',he,o',ho,i',hi,h⟩:=h;cases h;refine Zy (Qfu (S.e d e e' he) (Qi9 (S.e d o o' ho) (S.e d i i' hi) (Qeh hu) (Qck nsl)) (Qg2 he) rfl rfl) ?_;rintro D Y H ⟨α,Z,hs,fl,ρ',hs',rs,R,e,q⟩;simp only [ex]at e;obtain⟨u,h1,e1,e⟩:=Qc e;obtain⟨x,h2,e2,e⟩:=Qc e;obtain⟨k,h3,e3,e⟩:=Qc e;simp only [Option.map_eq_some_iff]at e;obtain⟨h4,e4,e⟩:=e;cases e;refine TI.run rs R e1 fun α1 v H1 E1 R1 r1 rs1=>TI.run rs1 R1 e2 fun α2 y H2 E2 R2 r2 rs2=>TI.run rs2 R2 e3 fun α3 z H3 E3 R3 r3 rs3=>?_;unfold QkM at e4;split at e4
   case h_2=>cases e4
   rename_i n;split at e4
   case h_2=>cases e4
   rename_i oo eo;obtain⟨a,ha,rfl⟩:=r2.mono E3.pre;obtain⟨H',g',R',E'⟩:=Qhw R3 eo ha e4 r3 (r1.mono fun n a e=>E3.pre n a (E2.pre n a e));exact⟨a,H',rfl,g',q α3 Y _ (((E1.trans E2 R2.h).trans E3 R3.h).trans E' R'.h) R' rs3⟩
  ·cases h
  ·rename_i es ht;obtain⟨kt,pt,rfl⟩:=QdR ht;simp only [Option.bind_eq_some_iff]at h;obtain⟨is,his,h⟩:=h;split at h
   case isFalse=>cases h
   rename_i nt;simp only [Option.map_eq_some_iff]at h;obtain⟨e',he,rfl⟩:=h;obtain⟨a1,a2⟩:=Qbq (C:=C) (env:=X.env) his;refine Zy (Qfu (S.e d e e' he) (Qc3 bX.cm (Qc2 g fl his) a1 a2) (Qg1 he) (JX nt) rfl) ?_;rintro D Y H ⟨α,Z,hs,fl,ρ',hs',rs,R,e,q⟩;simp only [ex]at e;obtain⟨u,h1,e1,e⟩:=Qc e;simp only [Option.bind_eq_some_iff,Option.map_eq_some_iff]at e;obtain⟨us,et,ρ2,e2,e⟩:=e;cases e;refine TI.run rs R e1 fun α1 v H1 E1 R1 r1 rs1=>?_
   cases u with
   | ref n =>
    simp only [QkG]at et;split at et
    case h_2=>cases et
    rename_i eo;cases et;obtain⟨a,ha,rfl⟩:=r1;obtain⟨vs,qv,rr⟩:=R1.h.ob n a _ ha eo;obtain⟨w,l⟩:=QfD (Q:=fun σ2 H2=>D.nx σ2 H2) e2 rr rs1 (fun σ2 r2=>q α1 σ2 H1 E1 R1 r2);exact⟨a,vs,rfl,SqT.of qv,l,w⟩
   | _=>exact nomatch (show none=some _ from et)
  ·cases h
 | _=>exact Znn h
theorem Qkm{s0 s':S}(hs:QnS m C st s0=some s')(h:∀d,PS X st (TIS T A X.K (ex T cf d s0)))(d:Nat):PS X st (TIS T A X.K (ex T cf d s')):=by
 cases hs;exact h d
theorem Qgm(SS:SndS T A C X cf m)(d:Nat)(sts:List Stmt)(irs:List S)(h:compSs (m+1) C sts=some irs):PSs X sts (TIS T A X.K (exs T cf d irs)):=by
 cases d with
 | zero=>exact Qfc Qjv
 | succ d =>
  cases sts with
  | nil =>
   cases h
   exact QfV QgA fun D Y H ⟨α,Z,hs,fl,ρ',hs',rs,R,e,q⟩=>by cases e;exact q α Y H Ext.refl R rs
  | cons st r =>
   simp only [compSs,Option.bind_eq_some_iff]at h;obtain⟨s0,hs0,s',hs,r',hr,h⟩:=h;cases h;refine QfV (Qep (Qkm hs (fun d=>SS.s d st s0 hs0) d) (SS.ss d r r' hr)) ?_;rintro D Y H ⟨α,Z,hs,fl,ρ',hs',rs,R,e,q⟩;simp only [exs]at e;split at e
   ·rename_i ρ1 h1 e1;exact TIS.run rs R e1 fun α1 σ1 H1 E1 R1 rs1=>TIS.run rs1 R1 e fun α2 σ2 H2 E2 R2 rs2=>q α2 σ2 H2 (E1.trans E2 R2.h) R2 rs2
   ·rename_i n1;refine TIS.run rs R e fun α1 σ1 H1 E1 R1 rs1=>?_
    cases fl with
    | next=>exact absurd e (n1 _ _)
    | cont=>exact q α1 σ1 H1 E1 R1 rs1
    | brk=>exact q α1 σ1 H1 E1 R1 rs1
    | ret u=>exact q α1 σ1 H1 E1 R1 rs1
theorem Qns(bX:Bd X)(g:GX T A C X)(fl:∀x,X.fn x=true\/X.env.scope.names.lookup x=some .local)(F:Fc X T A cf k)(hr:Room (k+1) X.A):∀m,SndS T A C X cf m
 | 0=>⟨fun d st ir h=>by first|exact Znn h|simp [ZY]at h,fun d sts irs h=>by exact Znn h⟩
 | m+1=>by
  have SS:=Qns bX g fl F hr m;exact⟨QiA bX F (hr.mono (Nat.le_succ k)) (Qme hr) g fl (Qgi m g F (fun _=>hr) hr.units) SS,Qgm SS⟩
end
end
section
structure Top(T:Tbl)(A:Adr)(K:W.Frag)(mg:Str->Option Value)(gl:List (Str×G))(bl:List Str):Prop where
 txt:Txt T A K mg
 gfn:∀x i,gl.lookup x=some (.fn i)->mg x=some (.ref (A.f i))
 gcl:∀x i,gl.lookup x=some (.cls i)->mg x=some (.ref (A.c i))
 gco:∀x k,gl.lookup x=some (.con k)->mg x=some (.ref (A.k k))
 gtx:∀x t,gl.lookup x=some (.txt t)->∃k,mg x=some (.str ⟨t.toArray⟩ k)
 blt:∀x,¬bl.contains x=false->mg x=none
def QbG(T:Tbl)(gl:List (Str×G))(bl:List Str):Prop:=∀(i:Nat) (F:Fn),T.fns[i]?=some F->∃m,compSs m ⟨T,F.N,(Qy F.st).names,gl,bl,F.lc⟩ (Zs F.st)=some F.body
section
variable {P:Program}{w:World}{K:W.Frag}{mg:Str->Option Value}{base:Heap}{T:Tbl}{A:Adr}{gl:List (Str×G)}{bl:List Str}
theorem Qbc{α:List Addr}{us:List U}{vs:List V}{N:List Str}{n:Nat}(r:RUs A α us vs)(hn:N.length=n):RS A α (QkL us n) (L2.start N vs):=by
 unfold QkL L2.start;have l:=r.length
 refine⟨by simp [l,hn],fun i u e=>?_⟩
 by_cases hi:i<us.length
 ·rw [List.getElem?_append_left (by simpa using hi),List.getElem?_map]at e
  rw [List.getElem?_append_left (by simpa [<-l]using hi),List.getElem?_map]
  cases q:us[i]? with
  | none=>rw [q]at e;cases e
  | some x =>
   rw [q]at e;cases e;obtain⟨v,h1,h2⟩:=r.get q
   exact⟨v,by rw [h1];rfl,h2⟩
 ·rw [List.getElem?_append_right (by simpa using Nat.le_of_not_lt hi),List.getElem?_replicate]at e
  split at e<;>cases e
theorem Qcg{n:Nat}:∀f us hs r,Qa T n f us hs=some r->∃F,T.fns[f]?=some F/\us.length=F.np:=by
 intro f us hs r h
 cases n with
 | zero=>cases h
 | succ n =>
  simp only [Qa]at h;split at h
  ·cases h
  ·rename_i F e;split at h
   ·rename_i l;exact⟨F,e,l⟩
   ·cases h
def XOk(P:Program)(w:World)(K:W.Frag)(mg:Str->Option Value)(base:Heap)(T:Tbl)(A:Adr)(r:Nat):Prop:=∀f F,T.fns[f]?=some F->∃fd,FnOk P w K mg base (CXw P w) r (A.f f) fd F.ps (spX T A K T.xf f)/\Binds K fd F.ps []/\W.keepIn K (.ref (A.f f))=true
theorem Qox(tp:Top T A K mg gl bl)(h:T.xf=fun _ _ _=>none):XOk P w K mg base T A 0:=fun f F hF=>by
 obtain⟨fd,fn,b,_⟩:=tp.txt.fn f F hF
 have no:∀vs H Q E,¬spX T A K T.xf f vs H Q E:=fun vs H Q E z=>by
  obtain⟨α,us,hs,u,hs',_,_,e,_⟩:=z;rw [h]at e;cases e
 exact⟨fd,⟨fun vs H Q E h=>absurd h (no vs H Q E),fun A outer s H args us vs Q E _ _ _ _ h=>absurd h (no vs H Q E)⟩,b,fn.kp⟩
theorem Qdu{rm:Nat}(tp:Top T A K mg gl bl)(tab:QaZ P w T A K)(hb:QbG T gl bl)(hX:XOk P w K mg base T A rm):∀n f F,T.fns[f]?=some F->∃fd,FnOk P w K mg base CX0 (rm+2*n) (A.f f) fd F.ps (spC T A K (Qa T n) f)/\Binds K fd F.ps []/\W.keepIn K (.ref (A.f f))=true/\FunD K F.name F.qual F.st (A.f f) fd
 | 0,f,F,hF=>by
  obtain⟨fd,fn,b,_⟩:=tp.txt.fn f F hF
  have no:∀vs H Q E,¬spC T A K (Qa T 0) f vs H Q E:=fun vs H Q E h=>by
   obtain⟨α,us,hs,u,hs',_,_,e,_⟩:=h;cases e
  exact⟨fd,⟨fun vs H Q E h=>absurd h (no vs H Q E),fun A outer s H args us vs Q E _ _ _ _ h=>absurd h (no vs H Q E)⟩,b,fn.kp,fn⟩
 | n+1,f,F,hF=>by
  obtain⟨fd,fn,b,sc,lp,lN⟩:=tp.txt.fn f F hF;obtain⟨m,hm⟩:=hb f F hF;refine⟨fd,?_,b,fn.kp,fn⟩;refine fn.ok (k:=rm+2*n+1) sc (fun vs H Q E h=>?_) (fun cdv A' outer s H vs Q E hr h=>?_)
  ·obtain⟨α,us,hs,u,hs',r,_,_,⟨F',h1,h2⟩,_⟩:=h;rw [hF]at h1;cases h1;rw [<-r.length,h2,lp]
  ·obtain⟨α,us,hs,u,hs',r,R,e,_,q⟩:=h;refine⟨TIS T A K (exs T (Qa T n) dd F.body),?_,?_⟩
   ·have gx:GX T A ⟨T,F.N,(Qy F.st).names,gl,bl,F.lc⟩ (QfO CX0 P w K mg base F.N F.qual (Qy F.st) (A.f f) cdv A' outer s H E).nox :=
     ⟨rfl,rfl,sc.nd,rfl,fun _=>rfl,sc.kind,rfl,tp.gfn,tp.gcl,tp.gco,tp.gtx,tp.blt,tp.txt,tab⟩
    have fc:Fc (QfO CX0 P w K mg base F.N F.qual (Qy F.st) (A.f f) cdv A' outer s H E).nox T A (Qa T n) (rm+2*n):=⟨fun f' F' h'=>by
     obtain⟨fd',G,b',kp,_⟩:=Qdu tp tab hb hX n f' F' h'
     exact⟨fd',G,b',kp⟩,Qcg,fun i D F' hD h'=>by
     obtain⟨fd',G,_,kp,fn'⟩:=Qdu tp tab hb hX n i F' h';obtain⟨fd2,x,q,st,fn2,dk,hp⟩:=tp.txt.df i D hD;have e:=FunD.same fn2 fn';subst e;rw [(hp F' h').1]at G
     exact⟨fd2,G,kp,dk⟩,fun f' F' h'=>by
     obtain⟨fd',G,b',kp⟩:=hX f' F' h'
     exact⟨fd',G.mono (Nat.le_add_right _ _),b',kp⟩⟩
    exact(Qns ⟨rfl,rfl,rfl,rfl⟩ gx (fun _=>.inl rfl) fc hr m).ss dd (Zs F.st) F.body hm
   ·simp only [Qa,hF]at e;split at e
    case isFalse=>cases e
    unfold fin at e;split at e
    ·rename_i u' ρ' h1 e1;cases e;exact TIS.run (Qbc r lN) R e1 fun α1 σ1 H1 E1 R1 rs1 v rv=>q α1 v H1 E1 R1 rv
    ·rename_i ρ' h1 e1;cases e;exact TIS.run (Qbc r lN) R e1 fun α1 σ1 H1 E1 R1 rs1=>q α1 .non H1 E1 R1 rfl
    ·cases e
end
end
section
variable {n:Nat}
inductive AllI{α:Type}(P:Nat->α->Prop):Nat->List α->Prop where
 | nil {n:Nat}:AllI P n []
 | cons {n:Nat} {a:α} {r:List α}:P n a->AllI P (n+1) r->AllI P n (a::r)
theorem AllI.get{α:Type}{P:Nat->α->Prop}:∀{n:Nat} {l:List α},AllI P n l->∀i a,l[i]?=some a->P (n+i) a
 | _,_,.nil,i,a,e=>by simp at e
 | n,_,.cons h t,0,a,e=>by
  simp at e;subst e;exact h
 | n,_,.cons h t,i+1,a,e=>by
  have:=AllI.get t i a (by simpa using e)
  rw [Nat.add_assoc,Nat.add_comm 1 i]at this;exact this
theorem AllI.mem{α:Type}{P:α->Prop}{l:List α}(h:AllI (fun _ a=>P a) n l){a:α}(m:a∈l):P a:=by
 obtain⟨i,e⟩:=List.getElem?_of_mem m;exact AllI.get h i a e
theorem AllI.look{κ β:Type}[BEq κ][LawfulBEq κ]{P:κ->β->Prop}{l:List (κ×β)}(h:AllI (fun _ p=>P p.1 p.2) n l){k:κ}{b:β}(e:l.lookup k=some b):P k b:=AllI.mem (P:=fun p=>P p.1 p.2) h (Zv e)
def gvP(A:Adr)(mg:Str->Option Value)(x:Str):G->Prop
 | .fn i=>mg x=some (.ref (A.f i))
 | .cls i=>mg x=some (.ref (A.c i))
 | .con k=>mg x=some (.ref (A.k k))
 | .txt t=>∃k,mg x=some (.str ⟨t.toArray⟩ k)
section
variable {P:Program}{w:World}{K:W.Frag}{mg:Str->Option Value}{base:Heap}{T:Tbl}{A:Adr}{gl:List (Str×G)}{bl:List Str}
def QnZ(A:Adr)(K:W.Frag)(k:Nat)(c:Co):Prop:=match c with
 | Co.tup xs=>∃vs,RUs A [] xs vs/\∀H,SqT K H (A.k k) vs
 | Co.lst xs=>∃vs,RUs A [] xs vs/\∀H,SqL K H (A.k k) vs
 | Co.tab _=>True
theorem Qii(fns:AllI (fun i (F:Fn)=>∃fd,FunD K F.name F.qual F.st (A.f i) fd/\Binds K fd F.ps []/\FnScope F.N F.ps (Qy F.st)/\F.ps.length=F.np/\F.N.length=F.nN) 0 T.fns)
  (cls:AllI (fun i C=>ClOk T A K i C) 0 T.cls)
  (fm:(T.fns'.all fun x=>!(T.mns.contains x))=true) (fd:T.fns'.Nodup)
  (isi:AllI (fun _ p=>W.kitOne K (tyW A p.1.1) (tyW A p.1.2)=some p.2) 0 T.isi)
  (co:AllI (QnZ A K) 0 T.cons)
  (dfs:AllI (fun _ (p:Nat×Df)=>∃fd x q st,FunD K x q st (A.f p.1) fd/\Qh4 A K fd p.2/\∀F,T.fns[p.1]?=some F->F.ps=p.2.ps/\F.np=p.2.np) 0 T.dfl)
  (g:AllI (fun _ (p:Str×G)=>gvP A mg p.1 p.2) 0 gl)
  (b:AllI (fun _ x=>mg x=none) 0 bl)
  (er : AllI (fun _ c => ErrCls K (A.c c) /\ ((∀ f, T.efl.contains (c, f) = false) /\ W.excIn K (A.c c) Qd5 "ValueError.__new__" = true \/ ∃ f x, T.efl.contains (c, f) = true /\ (∀ f', T.efl.contains (c, f') = true -> f' = f) /\ T.fns'[f]? = some x /\ QdW K mg (A.c c) x)) 0 T.ers)
  (es:AllI (fun _ (p:Nat×Nat)=>W.exmOne K (.ref (A.c p.1)) (.ref (A.c p.2))=some true) 0 T.esb):Top T A K mg gl bl where
 txt:={
  fn:=fun i F e=>by simpa using fns.get i F e
  df:=fun i D e=>AllI.look (P:=fun i (D:Df)=>∃fd x q st,FunD K x q st (A.f i) fd/\Qh4 A K fd D/\∀F,T.fns[i]?=some F->F.ps=D.ps/\F.np=D.np) dfs e
  cl:=fun i C e=>by simpa using cls.get i C e
  fm:=fun x m n=>by
   have:=List.all_eq_true.mp fm x m;simp at this;exact this n
  fd:=fd
  isi:=fun k t b e=>AllI.look (P:=fun(q:Ty×Ty) b=>W.kitOne K (tyW A q.1) (tyW A q.2)=some b) isi e
  co:=fun k c e=>by
   have:=co.get k c e;simp only [Nat.zero_add]at this;exact this
  er:=fun c h=>AllI.mem er (by simpa using h)
  es:=fun c c' h=>AllI.mem (P:=fun(p:Nat×Nat)=>W.exmOne K (.ref (A.c p.1)) (.ref (A.c p.2))=some true) es (a:=(c,c')) (by simpa using h) }
 gfn:=fun x i e=>AllI.look (P:=fun x (q:G)=>gvP A mg x q) g e
 gcl:=fun x i e=>AllI.look (P:=fun x (q:G)=>gvP A mg x q) g e
 gco:=fun x i e=>AllI.look (P:=fun x (q:G)=>gvP A mg x q) g e
 gtx:=fun x i e=>AllI.look (P:=fun x (q:G)=>gvP A mg x q) g e
 blt:=fun x h=>by
  have:bl.contains x=true:=by cases q:bl.contains x with|true=>rfl|false=>exact absurd q h
  exact AllI.mem (P:=fun x=>mg x=none) b (by simpa using this)
theorem QdL(h:AllI (fun _ (F:Fn)=>compSs 100 ⟨T,F.N,(Qy F.st).names,gl,bl,F.lc⟩ (Zs F.st)=some F.body) 0 T.fns):QbG T gl bl:=fun i F e=>⟨100,h.get i F e⟩
theorem tv{x:Str}{y:List Nat}{t:Tok}(h:x.cps.toList=y):∃v,RU A [] (.str y) v/\RelV v (.str x t):=by
 subst h;exact⟨.str x,rfl,⟨t,rfl⟩⟩
theorem tvi{i:Int}{t:Tok}:∃v,RU A [] (.int i 0) v/\RelV v (.int i t):=⟨.int i,⟨i,rfl,Cg.refl i 0⟩,⟨t,rfl⟩⟩
def Qed(K:W.Frag):Sp:=fun vs H Q _=>∃(a:Addr) (ns:List Int),vs=[.ref a]/\SqL K H a (ns.map V.int)/\QkZ H/\ns.length<=63/\∀H',Q (.bl true) H'
def Abs:U->Int->Prop:=fun u i=>∃r m,u=.int r m/\Cg i r m
theorem Abs.rus:∀{s:List U} {ns:List Int},Paired Abs s ns->RUs A [] s (ns.map V.int)
 | _,_,.nil=>.nil
 | _,_,.cons (b:=i) ⟨r,m,e,c⟩ t=>.cons (by subst e;exact⟨i,rfl,c⟩) (Abs.rus t)
theorem QjG{tb:List U->Tbl}{adr:Addr->Adr}{L r:Nat}{F:Fn}{x:Str}{fd:FuncData}(hF:∀s,(tb s).fns[L]?=some F)(hs:∀s,(tb s).scr=s)(hps:F.ps=[x])(hnp:F.np=1)
  (hA:∀a,(adr a).s=a) (hf:∀a,(adr a).f=(adr 0).f)
  (tp:∀s a,Top (tb s) (adr a) K mg gl bl) (tab:∀s a,QaZ P w (tb s) (adr a) K) (hb:∀s,QbG (tb s) gl bl) (hX:∀s a,XOk P w K mg base (tb s) (adr a) r)
  (hfun:FunD K F.name F.qual F.st ((adr 0).f L) fd)
  (comp:∀ns:List Int,ns.length<=63->∃s hs',Paired Abs s ns/\Qa (tb s) n L [.scr] []=some (.bl true,hs')):
  FnOk P w K mg base CX0 (r+2*n) ((adr 0).f L) fd [x] (Qed K):=by
 refine⟨fun vs H Q E ⟨a,ns,h,_⟩=>by rw [h];rfl,fun A0 outer s H args us vs Q E hr e0 hbd rel ⟨a,ns,h,hS,hO,hl,q⟩=>?_⟩
 obtain⟨sc,hs',pr,hc⟩:=comp ns hl;obtain⟨fd',G,_,_,hfun'⟩:=Qdu (base:=base) (tp sc a) (tab sc a) (hb sc) (hX sc a) n L F (hF sc);rw [hf a]at G hfun';have ef:=FunD.same hfun hfun';subst ef;rw [hps]at G;refine G.run A0 outer s H args us vs Q E hr e0 hbd rel ?_;subst h
 refine⟨[],[.scr],[],.bl true,hs',.cons (show V.ref a=V.ref (adr a).s by rw [hA]) .nil,⟨⟨rfl,(fun i j a e _=>by simp at e),fun n b o e _=>by simp at e⟩,ns.map V.int,by rw [hs];exact Abs.rus pr,?_⟩,hc,⟨F,hF sc,hnp.symm⟩,fun α' v H' _ _ rv=>?_⟩
 ·rw [hA]
  rcases hS with(h|⟨o,h⟩)|h
  ·rcases hO a with z|⟨o,xs,z⟩
   ·rw [h]at z;cases z
   ·rw [h]at z;cases z
  ·exact .inl ⟨o,h⟩
  ·exact .inr h
 ·have:v=.bl true:=rv;subst this;exact q H'
end
end
section
noncomputable def Qae(K:W.Frag)(a:Addr):FuncData:=match K.lookup a with
 | some o=>(match o.data with
  | .func fd=>fd
  | _=>default)
 | none=>default
noncomputable def fnT(F:Fn)(fd:FuncData):FuncData:=W.fnOf F.name F.qual (Jz F.st) (Zs F.st) (Qy F.st) fd.defaults fd.kwdefaults fd.doc fd.pyModule fd.annotations fd.code fd.closureTuple
noncomputable def vsN(n:Nat)(v:Nat->Value):List Value:=(List.range n).map v
theorem Qcq(us:List Value):us=vsN us.length fun i=>us.getD i .none:=by
 apply List.ext_getElem?;intro i;simp only [vsN,List.getElem?_map,List.getElem?_range',List.getD_eq_getElem?_getD];by_cases h:i<us.length
 ·rw [List.getElem?_range h];simp [List.getElem?_eq_getElem h]
 ·rw [List.getElem?_eq_none (Nat.le_of_not_lt h),List.getElem?_eq_none (by simpa using Nat.le_of_not_lt h)];rfl
noncomputable def scB(F:Fn)(sc:Scope):Bool:=decide (sc.kind=.function)&&(!sc.isCoroutine&&(!sc.isGenerator&&(decide F.N.Nodup&&(decide (F.N.take F.ps.length=F.ps)&&(F.ps.all (fun x=>decide (sc.names.lookup x=some .local)||decide (sc.names.lookup x=some .cell))&&(sc.names.all (fun y=>decide (y.2≠.free))&&(decide (F.ps.length=F.np)&&decide (F.N.length=F.nN))))))))
noncomputable def fnB(K:W.Frag)(F:Fn)(a:Addr):Bool:=W.fnIn K a&&(W.codeIn K (Qae K a).code F.qual&&scB F (Qy F.st))
section
variable {P:Program}{w:World}{K:W.Frag}{mg:Str->Option Value}{h:Heap}{T:Tbl}{A:Adr}{gl:List (Str×G)}{bl:List Str}{F:Fn}{a:Addr}
theorem Jx(h1:Qae K a=fnT F (Qae K a))(h2:fnB K F a=true):FunD K F.name F.qual F.st a (Qae K a)/\FnScope F.N F.ps (Qy F.st)/\F.ps.length=F.np/\F.N.length=F.nN:=by
 obtain⟨i,c,s⟩:_/\_/\_:=by simpa only [fnB,Bool.and_eq_true]using h2
 obtain⟨s1,s2,s3,s4,s5,s6,s7,s8,s9⟩:_/\_/\_/\_/\_/\_/\_/\_/\_:=by simpa only [scB,Bool.and_eq_true,decide_eq_true_eq,Bool.not_eq_true']using s
 have z:∃oc od sl,K.lookup a=some ⟨oc,od,.func (Qae K a),sl⟩:=by
  unfold W.fnIn at i;split at i
  ·rename_i oc od fd sl e
   exact⟨oc,od,sl,by rw [e];simp [Qae,e]⟩
  ·cases i
 obtain⟨oc,od,sl,e⟩:=z
 refine⟨⟨⟨oc,od,_,_,_,_,_,_,_,sl,h1,e,c⟩,by simp only [W.keepIn,e]⟩,⟨s1,s2,s3,s4,s5,fun x m=>?_,fun y m=>?_⟩,s8,s9⟩
 ·simpa using List.all_eq_true.mp s6 x m
 ·simpa using List.all_eq_true.mp s7 y m
theorem Qe7(n:F.ps.length=F.np)(h3:∀v,bindArgs (Qae K a) ⟨vsN F.np v,[]⟩=pure (F.ps.zip (vsN F.np v))):Binds K (Qae K a) F.ps []:=.all fun us l=>by
 have:=h3 fun i=>us.getD i .none;rwa [<-n,<-l,<-Qcq]at this
theorem ZQ{fd:FuncData}{ps:List Str}{ds:List Value}{m:Nat}(n:ps.length=m+ds.length)(h:∀(s:Shared) (v:Nat->Value),K.In s.heap->BindsTo s fd ⟨vsN m v,[]⟩ (ps.zip (vsN m v++ds))):Binds K fd ps ds:=fun s us X l=>by
 have e:us.length=m:=by rw [List.length_append]at l;omega
 have:=h s (fun i=>us.getD i .none) X;rwa [<-e,<-Qcq]at this
theorem Qe9{fd fd':FuncData}{ps:List Str}{ds:List Value}(e:fd=fd')(h:Binds K fd' ps ds):Binds K fd ps ds:=e▸h
noncomputable def Qh3{α:Type}(f:Nat->α->Bool):Nat->List α->Bool
 | _,[]=>true
 | n,a::r=>f n a&&Qh3 f (n+1) r
theorem Ye{α:Type}{f:Nat->α->Bool}{Q:Nat->α->Prop}(q:∀n a,f n a=true->Q n a):∀{n:Nat} {l:List α},Qh3 f n l=true->AllI Q n l
 | _,[],_=>.nil
 | _,_::_,e=>.cons (q _ _ (Bool.and_eq_true_iff.mp e).1) (Ye q (Bool.and_eq_true_iff.mp e).2)
theorem AllI.imp{α:Type}{Q R:Nat->α->Prop}(q:∀n a,Q n a->R n a):∀{n:Nat} {l:List α},AllI Q n l->AllI R n l
 | _,_,.nil=>.nil
 | _,_,.cons e t=>.cons (q _ _ e) (AllI.imp q t)
noncomputable def bi(x:String):Option (Option Value):=some (some (.builtin x))
noncomputable def clB(K:W.Frag)(T:Tbl)(A:Adr)(i:Nat)(C:Cl):Bool:=W.plainGet K (A.c i) Str.empty&&(W.hasDictIn K (A.c i)&&(W.plainOver K (A.c i)&&(W.findIn K (.ref (A.c i)) "__setattr__"==bi "object.__setattr__"&&(T.fns'.all (fun x=>W.findIn K (.ref (A.c i)) x==some none) &&
 (C.meths.all (fun p=>(T.mns[p.1]?).any fun x=>W.findIn K (.ref (A.c i)) x==some (some (.ref (A.f p.2)))&&(W.isFn K (.ref (A.f p.2))&&W.keepIn K (.ref (A.f p.2)))) &&
 (W.makesIn K (A.c i)&&(W.keepIn K (.ref (A.c i))&&((match C.init with
  | some f=>W.findIn K (.ref (A.c i)) "__init__"==some (some (.ref (A.f f)))&&W.isFn K (.ref (A.f f))
  | none=>W.findIn K (.ref (A.c i)) "__init__"==bi "object.__init__")&&(W.findIn K (.ref (A.c i)) "__class__"==bi "object.__class__"&&W.mroIn K (A.c i) (.type "object")==some true)))))))))
noncomputable def obB(K:W.Frag):Bool:=W.specialIn K (.builtin "object.__class__") "__get__"==bi "getset_descriptor.__get__"&&W.takesIn K (.builtin "object.__class__")==some true
theorem QmB{i:Nat}{C:Cl}(o:obB K=true)(e:clB K T A i C=true):ClOk T A K i C:=by
 obtain⟨o1,o2⟩:_/\_:=by simpa only [obB,bi,Bool.and_eq_true,beq_iff_eq]using o
 obtain⟨e1,e2,e3,e4,e5,e6,e7,e8,e9,e10,e11⟩:_/\_/\_/\_/\_/\_/\_/\_/\_/\_/\_:=by simpa only [clB,bi,Bool.and_eq_true,beq_iff_eq]using e
 have c:Cls K (A.c i):=⟨e1,e2,e3,e4⟩;refine⟨c,fun x m=>beq_iff_eq.mp (List.all_eq_true.mp e5 x m),fun m f q=>?_,e7,e8,?_,fun H a dx fs e=>.ins e c e10 o1 o2 e11⟩
 ·obtain⟨x,h1,h2⟩:=Option.any_eq_true _ _ |>.mp (List.all_eq_true.mp e6 _ (Zv q))
  obtain⟨h2,h3,h4⟩:_/\_/\_:=by simpa only [Bool.and_eq_true,beq_iff_eq]using h2
  exact⟨x,h1,h2,h3,h4⟩
 ·revert e9
  cases C.init with
  | none=>exact fun e=>by simpa using e
  | some f=>exact fun e=>by simpa using e
noncomputable def vB(A:Adr):U->Value->Bool
 | .str x,.str s _=>s.cps.toList==x
 | .int i 0,.int j _=>decide (i=j)
 | _,_=>false
theorem Qid{u:U}{v:Value}(e:vB A u v=true):∃z,RU A [] u z/\RelV z v:=by
 unfold vB at e;split at e
 ·exact tv (beq_iff_eq.mp e)
 ·have:=of_decide_eq_true e;subst this;exact tvi
 ·cases e
noncomputable def vsB(A:Adr):List U->List Value->Bool
 | [],[]=>true
 | u::us,v::vs=>vB A u v&&vsB A us vs
 | _,_=>false
theorem Jd:∀{us:List U} {vs:List Value},vsB A us vs=true->∃zs,RUs A [] us zs/\Vals zs vs
 | [],[],_=>⟨[],.nil,.nil⟩
 | _::_,_::_,e=>by
  obtain⟨z,r1,r2⟩:=Qid (Bool.and_eq_true_iff.mp e).1;obtain⟨zs,h1,h2⟩:=Jd (Bool.and_eq_true_iff.mp e).2;exact⟨z::zs,.cons r1 h1,.cons r2 h2⟩
 | [],_::_,e=>nomatch e
 | _::_,[],e=>nomatch e
noncomputable def QkJ(K:W.Frag)(t:String)(a:Addr):Option (List Value):=match K.lookup a with
 | some o=>if o.cls=.type t/\o.dict=none then(match o.data with
  | .seq its _=>if its.size<=sizeLine then some its.toList else none
  | _=>none)else none
 | none=>none
noncomputable def QhZ(K:W.Frag)(a:Addr):List DictEntry:=match K.lookup a with
 | some o=>(match o.data with
  | .dict es _=>es.toList
  | _=>[])
 | none=>[]
noncomputable def QhY:Value->Key
 | .str s _=>.inr s
 | .int i _=>.inl i
 | _=>.inl 0
noncomputable def Ql7:Value->Bool
 | .str _ _=>true
 | .int _ _=>true
 | _=>false
theorem Qdk:∀{v:Value},Ql7 v=true->Qaa (QhY v) v=true
 | .str s t,_=>J0 s t
 | .int i t,_=>J1 i t
noncomputable def keB:U->Key->Bool
 | .int i 0,.inl j=>decide (i=j)
 | .str x,.inr s=>s.cps.toList==x
 | _,_=>false
theorem QjN{u:U}{k:Key}(e:keB u k=true):Ql6 u k:=by
 unfold keB at e;split at e
 ·exact congrArg Sum.inl (of_decide_eq_true e).symm
 ·rename_i s;have:=beq_iff_eq.mp e;subst this;rfl
 ·cases e
noncomputable def kvB(A:Adr):List (U×U)->List DictEntry->Bool
 | [],[]=>true
 | p::ps,e::es=>Ql7 e.key&&(keB p.1 (QhY e.key)&&(vB A p.2 e.val&&kvB A ps es))
 | _,_=>false
noncomputable def exB(K:W.Frag)(a:Addr):Bool:=match K.lookup a with
 | some o=>decide (o.cls=.type "dict")&&(decide (o.dict=none)&&decide (o.slots=#[]))&&(match o.data with
  | .dict _ _=>true
  | _=>false)
 | none=>false
noncomputable def coB(K:W.Frag)(A:Adr)(a:Addr)(c:Co):Bool:=match c with
 | .tup xs=>(QkJ K "tuple" a).any (vsB A xs)
 | .lst xs=>(QkJ K "list" a).any (vsB A xs)
 | .tab kvs=>exB K a&&(kvB A kvs (QhZ K a)&&(decide (((QhZ K a).map fun e=>QhY e.key).Nodup)&&!(a==sysModules)))
abbrev QmP(K:W.Frag)(w:World)(a:Addr):Prop:=(QhZ K a).map (·.hash)=(QhZ K a).map fun e=>QnK w (QhY e.key)
theorem JN{t:String}{xs:List U}(e:(QkJ K t a).any (vsB A xs)=true):∃(o:Obj) (its:Array Value) (n:Nat),K.lookup a=some o/\o.cls=.type t/\o.dict=none/\o.data=.seq its n/\its.size<=sizeLine/\vsB A xs its.toList=true:=by
 unfold QkJ at e
 cases ho:K.lookup a with
 | none=>rw [ho]at e;cases e
 | some o =>
  simp only [ho]at e;split at e
  ·rename_i hc;split at e
   ·rename_i its n hd;split at e
    ·rename_i hz;exact⟨o,its,n,rfl,hc.1,hc.2,hd,hz,e⟩
    ·cases e
   ·cases e
  ·cases e
theorem QfF:∀{kvs:List (U×U)} {es:List DictEntry},kvB A kvs es=true->(∀e∈es,Ql7 e.key=true)/\Paired (fun(p:U×U) (q:Key×Value)=>Ql6 p.1 q.1/\∃v,RU A [] p.2 v/\RelV v q.2) kvs (es.map fun e=>(QhY e.key,e.val))/\Pairs (Qv P w) es (es.map fun e=>(QhY e.key,e.val))
 | [],[],_=>⟨(fun e m=>nomatch m),.nil,.nil⟩
 | _::_,_::_,z=>by
  obtain⟨h1,h2,h3,h4⟩:_/\_/\_/\_:=by simpa only [kvB,Bool.and_eq_true]using z
  obtain⟨i1,i2,i3⟩:=QfF h4;refine⟨fun e m=>?_,.cons ⟨QjN h2,Qid h3⟩ i2,.cons (Qdk h1) rfl i3⟩
  rcases List.mem_cons.mp m with rfl|m
  ·exact h1
  ·exact i1 e m
 | [],_::_,e=>nomatch e
 | _::_,[],e=>nomatch e
theorem Qmz{k:Nat}{c:Co}(e:coB K A (A.k k) c=true):QnZ A K k c:=by
 cases c with
 | tup xs =>
  obtain⟨o,its,n,h1,h2,_,h3,h4,h5⟩:=JN e;obtain⟨vs,g1,g2⟩:=Jd h5;exact⟨vs,g1,fun H=>.inr ⟨o,its,n,h1,h2,h3,h4,g2⟩⟩
 | lst xs =>
  obtain⟨o,its,n,h1,h2,h0,h3,h4,h5⟩:=JN e;obtain⟨vs,g1,g2⟩:=Jd h5;exact⟨vs,g1,fun H=>.inr ⟨o,its,n,h1,h2,h0,h3,h4,g2⟩⟩
 | tab=>trivial
theorem YV{α β:Type}{f g:α->β}:∀{l:List α},l.map f=l.map g->∀a∈l,f a=g a
 | [],_,a,m=>by cases m
 | x::r,e,a,m=>by
  obtain⟨e1,e2⟩:=List.cons.inj e
  rcases List.mem_cons.mp m with rfl|m
  ·exact e1
  ·exact YV e2 a m
theorem Qin(co:Qh3 (fun k c=>coB K A (A.k k) c) 0 T.cons=true)(hs:AllI (fun k _=>QmP K w (A.k k)) 0 T.cons):QaZ P w T A K:=fun k kvs e=>by
 have c:=(Ye (Q:=fun k c=>coB K A (A.k k) c=true) (fun _ _ q=>q) co).get k _ e;have hh:=hs.get k _ e;simp only [Nat.zero_add]at c hh
 obtain⟨c1,c2,c3,c4⟩:_/\_/\_/\_:=by simpa only [coB,Bool.and_eq_true]using c
 obtain⟨k1,k2,k3⟩:=QfF (P:=P) (w:=w) c2
 refine⟨_,by simpa using c4,?_,k2⟩
 unfold exB at c1
 cases ho:K.lookup (A.k k)with
 | none=>rw [ho]at c1;cases c1
 | some o =>
  simp only [ho]at c1;obtain⟨d1,d2⟩:=Bool.and_eq_true_iff.mp c1;split at d2
  ·rename_i es n hd
   obtain⟨x1,x2,x3⟩:_/\_/\_:=by simpa only [Bool.and_eq_true,decide_eq_true_eq]using d1
   have de:QhZ K (A.k k)=es.toList:=by simp [QhZ,ho,hd]
   unfold QmP at hh;rw [de]at hh k1 k2 k3 c3 ⊢
   exact fun h X=>⟨o,es,n,X _ _ ho,⟨x1,x2,x3⟩,hd,fun e m=>⟨_,Qdk (k1 e (by simpa using m)),YV hh e (by simpa using m)⟩,k3,by rw [List.map_map];exact of_decide_eq_true c3⟩
  ·cases d2
noncomputable def glB(K:W.Frag)(A:Adr)(p:Str×G):Bool:=match p.2 with
 | .fn i=>W.nsIn K mainGlobals p.1==some (some (.ref (A.f i)))
 | .cls i=>W.nsIn K mainGlobals p.1==some (some (.ref (A.c i)))
 | .con i=>W.nsIn K mainGlobals p.1==some (some (.ref (A.k i)))
 | .txt t=>(match W.nsIn K mainGlobals p.1 with
  | some (some (.str s _))=>s.cps.toList==t
  | _=>false)
theorem Qmg(X:K.In h)(G:h.Ns mainGlobals mg){p:Str×Iv.G}(e:glB K A p=true):gvP A mg p.1 p.2:=by
 obtain⟨x,g⟩:=p
 cases g with
 | fn i=>exact W.mg_of X G (by simpa [glB]using e)
 | cls i=>exact W.mg_of X G (by simpa [glB]using e)
 | con i=>exact W.mg_of X G (by simpa [glB]using e)
 | txt t =>
  simp only [glB]at e;split at e
  ·rename_i s k q;have:=beq_iff_eq.mp e;subst this;exact⟨k,W.mg_of X G q⟩
  ·cases e
noncomputable def Qld(K:W.Frag)(T:Tbl)(A:Adr)(gl:List (Str×G))(bl:List Str):Bool:=obB K&&(Qh3 (clB K T A) 0 T.cls&&(T.fns'.all (fun x=>!(T.mns.contains x))&&(decide T.fns'.Nodup&&(T.isi.all (fun p=>W.kitOne K (tyW A p.1.1) (tyW A p.1.2)==some p.2)&&(gl.all (glB K A)&&(bl.all (fun x=>W.nsIn K mainGlobals x==some none)&&T.esb.all (fun p=>W.exmOne K (.ref (A.c p.1)) (.ref (A.c p.2))==some true)))))))
abbrev FnA(K:W.Frag)(A:Adr)(i:Nat)(F:Fn):Prop:=Qae K (A.f i)=fnT F (Qae K (A.f i))/\fnB K F (A.f i)=true/\((∀v,bindArgs (Qae K (A.f i)) ⟨vsN F.np v,[]⟩=pure (F.ps.zip (vsN F.np v)))\/Binds K (Qae K (A.f i)) F.ps [])
theorem YC{α:Type}{Q:α->Prop}:∀{l:List α} {n:Nat},(∀a∈l,Q a)->AllI (fun _ a=>Q a) n l
 | [],_,_=>.nil
 | _::_,_,q=>.cons (q _ List.mem_cons_self) (YC fun a m=>q a (List.mem_cons_of_mem _ m))
theorem FnA.at{i:Nat}(q:FnA K A i F):∃fd,FunD K F.name F.qual F.st (A.f i) fd/\Binds K fd F.ps []/\FnScope F.N F.ps (Qy F.st)/\F.ps.length=F.np/\F.N.length=F.nN:=by
 obtain⟨d,s,l,n⟩:=Jx q.1 q.2.1;exact⟨_,d,q.2.2.elim (Qe7 l) id,s,l,n⟩
theorem Qij(X:K.In h)(G:h.Ns mainGlobals mg)(fns:AllI (FnA K A) 0 T.fns)(co:Qh3 (fun k c=>coB K A (A.k k) c) 0 T.cons=true)(b:Qld K T A gl bl=true)
  (dfs:AllI (fun _ (p:Nat×Df)=>∃fd x q st,FunD K x q st (A.f p.1) fd/\Qh4 A K fd p.2/\∀F,T.fns[p.1]?=some F->F.ps=p.2.ps/\F.np=p.2.np) 0 T.dfl)
  (er : AllI (fun _ c => ErrCls K (A.c c) /\ ((∀ f, T.efl.contains (c, f) = false) /\ W.excIn K (A.c c) Qd5 "ValueError.__new__" = true \/ ∃ f x, T.efl.contains (c, f) = true /\ (∀ f', T.efl.contains (c, f') = true -> f' = f) /\ T.fns'[f]? = some x /\ QdW K mg (A.c c) x)) 0 T.ers) : Top T A K mg gl bl := by
 obtain⟨b1,b2,b3,b4,b5,b6,b7,b8⟩:_/\_/\_/\_/\_/\_/\_/\_:=by simpa only [Qld,Bool.and_eq_true]using b
 exact Qii (fns.imp fun _ _ q=>q.at) (Ye (fun _ _ e=>QmB b1 e) b2) b3 (of_decide_eq_true b4) (YC fun p m=>by simpa using List.all_eq_true.mp b5 p m) (Ye (fun _ _ e=>Qmz e) co) dfs
  (YC fun p m=>Qmg X G (List.all_eq_true.mp b6 p m)) (YC fun x m=>W.mg_none_of X G (by simpa using List.all_eq_true.mp b7 x m)) er (YC fun p m=>by simpa using List.all_eq_true.mp b8 p m)
end
end
end Iv
namespace Iv
open PySem PySem.W PySem.Spec PyProof.Rows
variable {g0:Bool}{c:Code}{loose:List Str}{N n:Nat}{p' pos:Pos}{p q:Program}{Xt:Shared->Bool}{s s':SharedT}{α β Y:Type}
noncomputable def topRunT(tb:String->Option Builtin)(p:Program)(w:World)(n₀:Nat)(ann:Option Value):Nat->SharedT->Thread->Option SharedT
 | 0,_,_=>none
 | n+1,s,t=>match through t with
  | true=>some s
  | false=>match stepOk n₀ ann t with
   | false=>none
   | true=>match stepT (denote tb) p w s t with
    | some (s',t')=>topRunT tb p w n₀ ann n s' t'
    | none=>none
theorem JM{tb:String->Option Builtin}{p:Program}{w:World}{n₀:Nat}{ann:Option Value}:∀{n:Nat} {s s':SharedT} {t:Thread},topRunT tb p w n₀ ann n s t=some s'->topRun tb p w n₀ ann n s.abs t=some s'.abs
 | 0,_,_,_,h=>by cases h
 | n+1,s,s',t,h=>by
  unfold topRunT at h;unfold topRun
  cases he:through t with
  | true=>rw [he]at h;cases h;rfl
  | false =>
   rw [he]at h
   cases hk:stepOk n₀ ann t with
   | false=>rw [hk]at h;cases h
   | true =>
    rw [hk]at h
    cases hs:stepT (denote tb) p w s t with
    | none=>rw [hs]at h;cases h
    | some r=>obtain⟨s₂,t₂⟩:=r;rw [hs]at h;rw [stepT_spec hs];exact JM h
structure BootT where
 t:Params->BT
 n:Nat
 life:Life
noncomputable def BootT.at(B:BootT)(w:World)(os:OsState):SharedT:=⟨B.t w.params,B.n,B.life,Array.mk [],boot_drawn,boot_toks,os⟩
noncomputable abbrev RunT(p q:Program)(loose:List Str)(Xt:Shared->Bool){α:Type}(Yf:Shared->α)(Ya:World->α)(N:Nat)(g0:Bool)(B:BootT)(m₀:Nat)(ann:Option Value)(w:World):Prop :=
 ∀os:OsState,(topRunT treeTable p w m₀ ann N (B.at w os) (topStub p)).map (fun s=>((staticsOk (importedModules p.main.body) (boot_heap w.params) s.abs.heap&&namesBound p s.abs.heap&&gensDone s.abs&&laidKept (boot_heap w.params) s.abs.heap),openSeen q loose (importedModules p.main.body) Xt g0 s.abs,Yf s.abs))=some (true,openGood q loose,Ya w)
theorem QcR{x:Option Y}{f:Y->α}{g:Y->β}{a:α}{b:β}(h1:x.map f=some a)(h2:x.map g=some b):x.map (fun s=>(f s,g s))=some (a,b):=by
 cases x with
 | none=>cases h1
 | some s=>cases h1;cases h2;rfl
section
variable (p q:Program)(loose:List Str)(Xt:Shared->Bool)(N:Nat)(g0:Bool)(B:BootT)(m₀:Nat)(ann:Option Value)
noncomputable abbrev QmM(w:World)(os:OsState):Option SharedT:=topRunT treeTable p w m₀ ann N (B.at w os) (topStub p)
abbrev PC(as:List Addr)(bs:List (Option Obj))(w:World):Prop:=∀os:OsState,(QmM p N B m₀ ann w os).map (fun s=>as.map fun a=>s.abs.heap.get? a)=some bs
variable {p q loose Xt N g0 B m₀ ann}
abbrev PL(p q:Program)(loose:List Str)(Xt:Shared->Bool)(N:Nat)(g0:Bool)(B:BootT)(m₀:Nat)(ann:Option Value)(w:World):Prop:=∀os:OsState,(QmM p N B m₀ ann w os).map (fun s=>((staticsOk (importedModules p.main.body) (boot_heap w.params) s.abs.heap&&namesBound p s.abs.heap&&gensDone s.abs&&laidKept (boot_heap w.params) s.abs.heap),openSeen q loose (importedModules p.main.body) Xt g0 s.abs))=some (true,openGood q loose)
end
abbrev PX(p:Program)(N:Nat)(B:BootT)(m₀:Nat)(ann:Option Value){α:Type}(f:Shared->α)(a:α)(w:World):Prop:=∀os:OsState,(QmM p N B m₀ ann w os).map (fun s=>f s.abs)=some a
noncomputable abbrev f1(q:Program)(s:Shared):=seen ((recsOf q).map (·.name)) (ownsOf q) [] { s with gens:=#[] }
noncomputable abbrev f2(s:Shared):=s.heap.bltView
noncomputable abbrev f3(q:Program)(loose:List Str)(s:Shared):Bool:=s.heap.keysOk (looseW q loose) ((recsOf q).map (·.name)) ((litsOf q).map (·.1)) ((clssOf q (looseW q loose)).map (·.name))
noncomputable abbrev f4(q:Program)(mods:List Str)(Xt:Shared->Bool)(g0:Bool)(s:Shared):Bool:=s.heap.accountedOkI mods&&s.heap.isNs mainGlobals&&s.heap.isNs builtinsNs&&tablesOk q s.heap&&Xt s&&(if g0 then s.gens.size==0 else !leftWithCleanup s.gens)
noncomputable abbrev f5(q:Program)(s:Shared):Bool:=tabsOk q s
noncomputable abbrev f6(q:Program)(loose:List Str)(s:Shared):=(pinSeenD q (drecsOf q) s,plainSeenE q (looseW q loose) s,plainSeenD q loose s)
noncomputable abbrev f7(q:Program)(loose:List Str)(s:Shared):=(wideSeen q s,clsSeenW q loose s)
theorem Qei{mods:List Str}{x:Option SharedT}(y1:x.map (fun s=>f1 q s.abs)=some (expectedOf q))(y2:x.map (fun s=>f2 s.abs)=some bltViewBooted)(y3:x.map (fun s=>f3 q loose s.abs)=some true)
  (y4:x.map (fun s=>f4 q mods Xt g0 s.abs)=some true) (y5:x.map (fun s=>f5 q s.abs)=some true) (y6:x.map (fun s=>f6 q loose s.abs)=some (pinGoodD (drecsOf q),plainGoodE q (looseW q loose),plainGoodD q loose))
  (y7:x.map (fun s=>f7 q loose s.abs)=some (wideGood q,clsGoodW q loose)):x.map (fun s=>openSeen q loose mods Xt g0 s.abs)=some (openGood q loose):=by
 cases x with
 | none=>cases y1
 | some s =>
  have z1:=Option.some.inj y1;have z2:=Option.some.inj y2;have z3:=Option.some.inj y3;have z4:=Option.some.inj y4;have z5:=Option.some.inj y5;have z6:=Prod.ext_iff.mp (Option.some.inj y6);have z6b:=Prod.ext_iff.mp z6.2;have z7:=Prod.ext_iff.mp (Option.some.inj y7);simp only [f4,Bool.and_eq_true]at z4;obtain⟨⟨⟨⟨⟨w1,w2⟩,w3⟩,w4⟩,w5⟩,w6⟩:=z4;have z3':s.abs.heap.keysOk (looseW q loose) ((recsOf q).map (·.name)) ((litsOf q).map (·.1)) ((clssOf q (looseW q loose)).map (·.name))=true:=z3;show some (openSeen q loose mods Xt g0 s.abs)=some (openGood q loose);unfold openSeen openGood;refine congrArg some (Prod.ext z1 (Prod.ext z2 (Prod.ext ?_ (Prod.ext z5 (Prod.ext z6.1 (Prod.ext z6b.1 (Prod.ext z6b.2 (Prod.ext z7.1 z7.2))))))));show(s.abs.heap.keysOk (looseW q loose) ((recsOf q).map (·.name)) ((litsOf q).map (·.1)) ((clssOf q (looseW q loose)).map (·.name))&&s.abs.heap.accountedOkI mods&&s.abs.heap.isNs mainGlobals&&s.abs.heap.isNs builtinsNs&&tablesOk q s.abs.heap&&Xt s.abs&&(if g0 then s.abs.gens.size==0 else !leftWithCleanup s.abs.gens))=true;rw [z3',w1,w2,w3,w4,w5];exact w6
theorem QcP{x:Option Y}{f:Y->α}{g:Y->β}{a:α}{b:β}(h:x.map (fun s=>(f s,g s))=some (a,b)):x.map f=some a:=by
 cases x with
 | none=>cases h
 | some s=>exact congrArg some (Prod.ext_iff.mp (Option.some.inj h)).1
theorem QaD{x:Option Y}{f:Y->α}{g:Y->β}{a:α}{b:β}(h:x.map (fun s=>(f s,g s))=some (a,b)):x.map g=some b:=by
 cases x with
 | none=>cases h
 | some s=>exact congrArg some (Prod.ext_iff.mp (Option.some.inj h)).2
noncomputable abbrev fA(p:Program)(w:World)(s:Shared):Bool:=staticsOk (importedModules p.main.body) (boot_heap w.params) s.heap&&namesBound p s.heap&&gensDone s&&laidKept (boot_heap w.params) s.heap
abbrev Lk1(p q:Program)(N:Nat)(B:BootT)(m₀:Nat)(ann:Option Value)(w:World):Prop:=PX p N B m₀ ann (fun s=>(fA p w s,f1 q s,f2 s)) (true,expectedOf q,bltViewBooted) w
abbrev Lk2(p q:Program)(loose:List Str)(Xt:Shared->Bool)(N:Nat)(g0:Bool)(B:BootT)(m₀:Nat)(ann:Option Value)(w:World):Prop:=PX p N B m₀ ann (fun s=>(f3 q loose s,f4 q (importedModules p.main.body) Xt g0 s,f5 q s,f6 q loose s,f7 q loose s)) (true,true,true,(pinGoodD (drecsOf q),plainGoodE q (looseW q loose),plainGoodD q loose),(wideGood q,clsGoodW q loose)) w
abbrev Lk3(p q:Program)(loose:List Str)(N:Nat)(B:BootT)(m₀:Nat)(ann:Option Value)(w:World):Prop:=PX p N B m₀ ann (fun s=>(f3 q loose s,f5 q s)) (true,true) w
abbrev Lk5(p q:Program)(Xt:Shared->Bool)(N:Nat)(g0:Bool)(B:BootT)(m₀:Nat)(ann:Option Value)(w:World):Prop:=PX p N B m₀ ann (f4 q (importedModules p.main.body) Xt g0) true w
abbrev Lk4(p q:Program)(loose:List Str)(N:Nat)(B:BootT)(m₀:Nat)(ann:Option Value)(w:World):Prop:=PX p N B m₀ ann (fun s=>(f6 q loose s,f7 q loose s)) ((pinGoodD (drecsOf q),plainGoodE q (looseW q loose),plainGoodD q loose),(wideGood q,clsGoodW q loose)) w
noncomputable def segRunT(tb:String->Option Builtin)(p:Program)(w:World)(n₀:Nat)(ann:Option Value)(b:Nat):Nat->SharedT->Thread->Option (Flow×SharedT×Code×Pos)
 | 0,_,_=>none
 | n+1,s,t=>match endAt b t with
  | some f=>some (f,s,t.code,t.pos)
  | none=>match stepOk n₀ ann t with
   | false=>none
   | true=>match stepT (denote tb) p w s t with
    | some (s',t')=>segRunT tb p w n₀ ann b n s' t'
    | none=>none
theorem Yo{tb:String->Option Builtin}{p:Program}{w:World}{n₀:Nat}{ann:Option Value}{b:Nat}:∀{n:Nat} {s s':SharedT} {t:Thread} {f:Flow} {c:Code} {q:Pos},segRunT tb p w n₀ ann b n s t=some (f,s',c,q)->segRun tb p w n₀ ann b n s.abs t=some (f,s'.abs,c,q)
 | 0,_,_,_,_,_,_,h=>by cases h
 | n+1,s,s',t,f,c,q,h=>by
  unfold segRunT at h;unfold segRun
  cases he:endAt b t with
  | some g=>rw [he]at h;cases h;rfl
  | none =>
   rw [he]at h
   cases hk:stepOk n₀ ann t with
   | false=>rw [hk]at h;cases h
   | true =>
    rw [hk]at h
    cases hs:stepT (denote tb) p w s t with
    | none=>rw [hs]at h;cases h
    | some r=>obtain⟨s₂,t₂⟩:=r;rw [hs]at h;rw [stepT_spec hs];exact Yo h
noncomputable def topGoT(tb:String->Option Builtin)(p:Program)(w:World)(n₀:Nat)(ann:Option Value):Nat->SharedT->Thread->Option (SharedT×Thread)
 | 0,s,t=>some (s,t)
 | n+1,s,t=>match through t with
  | true=>none
  | false=>match stepOk n₀ ann t with
   | false=>none
   | true=>match stepT (denote tb) p w s t with
    | some (s',t')=>topGoT tb p w n₀ ann n s' t'
    | none=>none
theorem Qa9{tb:String->Option Builtin}{p:Program}{w:World}{n₀:Nat}{ann:Option Value}:∀{n:Nat} {s s':SharedT} {t t':Thread},topGoT tb p w n₀ ann n s t=some (s',t')->topGo tb p w n₀ ann n s.abs t=some (s'.abs,t')
 | 0,_,_,_,_,h=>by cases h;rfl
 | n+1,s,s',t,t',h=>by
  unfold topGoT at h;unfold topGo
  cases he:through t with
  | true=>rw [he]at h;cases h
  | false =>
   rw [he]at h
   cases hk:stepOk n₀ ann t with
   | false=>rw [hk]at h;cases h
   | true =>
    rw [hk]at h
    cases hs:stepT (denote tb) p w s t with
    | none=>rw [hs]at h;cases h
    | some r=>obtain⟨s₂,t₂⟩:=r;rw [hs]at h;rw [stepT_spec hs];exact Qa9 h
def Gl2(p:Program)(w:World)(m₀:Nat)(ann:Option Value){α:Type}(F:Shared->α)(a:α)(N:Nat)(s:SharedT)(t:Thread):Prop:=∃r:SharedT,topRun treeTable p w m₀ ann N s.abs t=some r.abs/\F r.abs=a
section
variable {w:World}{m₀:Nat}{ann:Option Value}{F:Shared->α}{a:α}{env:Env}{q:Pos}
theorem ch_fin{t:Thread}(h:(topRunT treeTable p w m₀ ann N s t).map (fun s=>F s.abs)=some a):Gl2 p w m₀ ann F a N s t:=by
 obtain⟨r,e,l⟩:=Option.map_eq_some_iff.mp h;exact⟨r,JM e,l⟩
theorem Qkg{l rest:List Stmt}(h:segRunT treeTable p w m₀ ann 1 n s (piecesOf l env c pos [topFrame q])=some (.next,s',c,p'))
  (k:Gl2 p w m₀ ann F a N s' (restOf rest env c p' [topFrame q])):Gl2 p w m₀ ann F a (n+N) s (restOf (l++rest) env c pos [topFrame q]):=by
 obtain⟨r,e,l⟩:=k;exact⟨r,piece_app (Yo h) e,l⟩
theorem ch_cut(m:Nat){b:List Stmt}(h:segRunT treeTable p w m₀ ann 1 n s (piecesOf (b.take m) env c pos [topFrame q])=some (.next,s',c,p'))
  (k:Gl2 p w m₀ ann F a N s' (restOf (b.drop m) env c p' [topFrame q])):Gl2 p w m₀ ann F a (n+N) s (restOf b env c pos [topFrame q]):=by
 have z:=Qkg h k;rwa [List.take_append_drop]at z
theorem ch_blk{b:List Stmt}(h:segRunT treeTable p w m₀ ann 1 n s (blockOf b env c pos [topFrame q])=some (.next,s',c,p'))
  (k:Gl2 p w m₀ ann F a N s' (restOf b env c p' [topFrame q])):Gl2 p w m₀ ann F a (n+N) s ⟨denote treeTable (.body b env),c,pos,[topFrame q]⟩:=by
 obtain⟨r,e,l⟩:=k;exact⟨r,piece_block (Yo h) e,l⟩
theorem ch_pre{t t':Thread}(h:topGoT treeTable p w m₀ ann n s t=some (s',t'))(k:Gl2 p w m₀ ann F a N s' t'):Gl2 p w m₀ ann F a (n+N) s t:=by
 obtain⟨r,e,l⟩:=k;exact⟨r,go_top (Qa9 h) e,l⟩
end
noncomputable abbrev seenAll(p q:Program)(loose:List Str)(Xt:Shared->Bool){α:Type}(Yf:Shared->α)(g0:Bool)(w:World)(s:Shared):=((staticsOk (importedModules p.main.body) (boot_heap w.params) s.heap&&namesBound p s.heap&&gensDone s&&laidKept (boot_heap w.params) s.heap),openSeen q loose (importedModules p.main.body) Xt g0 s,Yf s)
theorem left_pieces{Yf:Shared->α}{Ya:World->α}{B:BootT}{m₀:Nat}{ann:Option Value}
  (op:opening p=plainProg p.main.scope.names) (hN:Nat.ble 600 N=true) (fm:∀s,fenceModules? p s=some s)
  (hB:∀w:World,absHeap (B.t w.params) B.n B.life=boot_heap w.params)
  (size:∀w:World,((boot_heap w.params).isNs mainGlobals,(boot_heap w.params).objs.size,(boot_heap w.params).nsMap mainGlobals "__annotations__")=(true,m₀,ann))
  (run:∀w os,Gl2 p w m₀ ann (seenAll p q loose Xt Yf g0 w) (true,openGood q loose,Ya w) N (B.at w os) (topStub p)):LeftO p q loose Xt Yf Ya N g0:=fun w=>by
 obtain⟨⟨h,gs,d,k,os⟩,e,e'⟩:=Option.map_eq_some_iff.mp (boot_open (N:=N) op hN fm w)
 obtain⟨rfl,rfl,rfl,rfl⟩:h=boot_heap w.params/\gs=Array.mk []/\d=boot_drawn/\k=boot_toks:=by simpa using e'
 obtain⟨z1,z2,z3⟩:_/\_/\_:=by simpa only [Prod.mk.injEq]using size w
 obtain⟨s1,r,l⟩:=run w os
 obtain⟨l1,l2,l3⟩:_/\_/\_:=by simpa only [Prod.mk.injEq]using l
 have ab:(B.at w os).abs=⟨boot_heap w.params,Array.mk [],boot_drawn,boot_toks,os⟩:=by
  unfold BootT.at SharedT.abs;rw [hB w]
 rw [ab]at r
 have t:topFrom treeTable p w N ⟨boot_heap w.params,Array.mk [],boot_drawn,boot_toks,os⟩=some s1.abs:=by
  unfold topFrom;dsimp only;rw [z1,z2,z3,r]
  show(match staticsOk (importedModules p.main.body) (boot_heap w.params) s1.abs.heap&&namesBound p s1.abs.heap&&gensDone s1.abs&&laidKept (boot_heap w.params) s1.abs.heap with|true=>_|false=>_)=_
  rw [l1]
 unfold openEnds;rw [e];show(topFrom treeTable p w N _).map _=_;rw [t];exact congrArg some (Prod.ext l2 l3)
noncomputable abbrev vF(p q:Program)(w:World)(s:SharedT):=(fA p w s.abs,f1 q s.abs,f2 s.abs)
noncomputable abbrev gF(q:Program):=(true,expectedOf q,bltViewBooted)
noncomputable abbrev vK(p q:Program)(loose:List Str)(Xt:Shared->Bool)(g0:Bool)(s:SharedT):=(f3 q loose s.abs,f4 q (importedModules p.main.body) Xt g0 s.abs,f5 q s.abs)
noncomputable abbrev vL(q:Program)(loose:List Str)(s:SharedT):=(f6 q loose s.abs,f7 q loose s.abs)
noncomputable abbrev gL(q:Program)(loose:List Str):=((pinGoodD (drecsOf q),plainGoodE q (looseW q loose),plainGoodD q loose),(wideGood q,clsGoodW q loose))
theorem looks3{Yf:Shared->α}{Yyy:α}{w:World}{x:Option SharedT}(l1:x.map (vF p q w)=some (gF q))
  (l2:x.map (vK p q loose Xt g0)=some (true,true,true)) (l4:x.map (vL q loose)=some (gL q loose))
  (c:x.map (fun s=>Yf s.abs)=some Yyy):x.map (fun s=>seenAll p q loose Xt Yf g0 w s.abs)=some (true,openGood q loose,Yyy):=
 QcR (QcP l1) (QcR (Qei (QcP (QaD l1)) (QaD (QaD l1)) (QcP l2) (QcP (QaD l2)) (QaD (QaD l2)) (QcP l4) (QaD l4)) c)
end Iv
namespace Iv
open PySem
variable {a b e:E}{es:List E}{f i:Nat}
section
variable {T:Tbl}{cf:Cf}{d:Nat}{Z:Rho}{hs h1:Hs}{α β:Type}
theorem Qh{a:α}{f:α->Hs->Option β}:bd (some (a,h1)) f=f a h1:=rfl
theorem Qs:exs T cf (d+1) [] Z hs=some (.next,Z,hs):=rfl
theorem Qd{s:S}{r:List S}:exs T cf (d+1) (s::r) Z hs=(match ex T cf d s Z hs with
   | some (.next,ρ1,h1)=>exs T cf d r ρ1 h1
   | x=>x):=rfl
theorem Ze:ex T cf (d+1) (.expr e) Z hs=bd (ev T cf d e Z hs) fun _ h1=>some (.next,Z,h1):=rfl
theorem QX:ex T cf (d+1) (.set i e) Z hs=bd (ev T cf d e Z hs) fun u h1=>some (.next,Z.set i (some u),h1):=rfl
theorem QN:ex T cf (d+1) (.ret e) Z hs=bd (ev T cf d e Z hs) fun u h1=>some (.ret u,Z,h1):=rfl
theorem QC{t:E}{a b:List S}:ex T cf (d+1) (.ite t a b) Z hs=bd (evT T cf d t Z hs) fun c h1=>if c=true then exs T cf d a Z h1 else exs T cf d b Z h1:=by
 rw [ex]
 cases h:evT T cf d t Z hs with
 | none=>rfl
 | some p=>obtain⟨c,h1⟩:=p;cases c<;>rfl
theorem Qa2{t:Tg}{s:Src}{body:List S}:ex T cf (d+1) (.loop t s body) Z hs=bd (Zi T (ev T cf d) Z s hs) fun w h1=>Qds T w t (exs T cf d body) (Zg T w h1) 0 Z h1:=rfl
theorem Qk0{o i:E}:ex T cf (d+1) (.put o i e) Z hs=bd (ev T cf d e Z hs) fun u h1=>bd (ev T cf d o Z h1) fun x h2=>bd (ev T cf d i Z h2) fun k h3=>(QkM x k u h3).map fun h4=>(.next,Z,h4):=rfl
theorem y_c{u:U}:ev T cf (d+1) (.c u) Z hs=some (u,hs):=rfl
theorem Qk3{k:Nat}:ev T cf (d+1) (.con k) Z hs=some (.con k,hs):=rfl
theorem Qq:ev T cf (d+1) (.var i) Z hs=(match Z[i]? with|some (some u)=>some (u,hs)|_=>none):=rfl
theorem ZC{o:Operator}:ev T cf (d+1) (.op o a b) Z hs=bd (ev T cf d a Z hs) fun u h1=>bd (ev T cf d b Z h1) fun w h2=>opU o u w h2:=rfl
theorem Yg:ev T cf (d+1) (.neg a) Z hs=bd (ev T cf d a Z hs) fun u h1=>(match u with|.int i m=>some (.int (-i) m,h1)|_=>none):=rfl
theorem QG{o:CmpOp}:ev T cf (d+1) (.cmp o a b) Z hs=bd (ev T cf d a Z hs) fun u h1=>bd (ev T cf d b Z h1) fun w h2=>(ZP T o u w h2).map fun c=>(.bl c,h2):=rfl
theorem Qh6:ev T cf (d+1) (.not a) Z hs=bd (ev T cf d a Z hs) fun u h1=>(Yl T u h1).map fun c=>(.bl (!c),h1):=rfl
theorem JH{t:E}:ev T cf (d+1) (.ife t a b) Z hs=bd (evT T cf d t Z hs) fun c h1=>if c=true then ev T cf d a Z h1 else ev T cf d b Z h1:=rfl
theorem QY:ev T cf (d+1) (.tup es) Z hs=bd (evs (ev T cf d) Z es hs) fun us h1=>some (.ref h1.length,h1++[.tup us]):=rfl
theorem Zd:ev T cf (d+1) (.lst es) Z hs=bd (evs (ev T cf d) Z es hs) fun us h1=>some (.ref h1.length,h1++[.lst us]):=rfl
theorem Qcm:ev T cf (d+1) (.ix a b) Z hs=bd (ev T cf d a Z hs) fun u h1=>bd (ev T cf d b Z h1) fun w h2=>(Q9 T u w h2).map fun x=>(x,h2):=rfl
theorem Qn3{lo hi:Option E}:ev T cf (d+1) (.sl a lo hi) Z hs=bd (ev T cf d a Z hs) fun u h1=>bd (evO (ev T cf d) Z lo h1) fun l h2=>bd (evO (ev T cf d) Z hi h2) fun r h3=>slU T u l r h3:=rfl
theorem Qcn:ev T cf (d+1) (.call f es) Z hs=bd (evs (ev T cf d) Z es hs) fun us h1=>cf f us h1:=rfl
theorem Qfe{b:Bi}:ev T cf (d+1) (.bi b es) Z hs=bd (evs (ev T cf d) Z es hs) fun us h1=>biU T b us h1:=rfl
theorem JG{t:Ty}:ev T cf (d+1) (.isi a t) Z hs=bd (ev T cf d a Z hs) fun u h1=>(YG T t u h1).map fun b=>(.bl b,h1):=rfl
theorem QhS{b:Bm}{o:E}:ev T cf (d+1) (.bm b o es) Z hs=bd (ev T cf d o Z hs) fun u h1=>if QbV b u h1=true then bd (evs (ev T cf d) Z es h1) fun us h2=>bmU T b u us h2 else none:=rfl
theorem JI{s:Src}{b:Bool}{t:Option E}{el:E}:ev T cf (d+1) (.comp s b t el) Z hs=bd (Zi T (ev T cf d) Z s hs) fun w h1=>bd (Zn T (ev T cf d) (Qaf (evT T cf d) t) w b el Z (Zg T w h1) 0 [] h1) fun us h2=>some (.ref h2.length,h2++[.lst us]):=rfl
theorem Qh7:ev T cf (d+1) (.and a b) Z hs=bd (ev T cf d a Z hs) fun u h1=>(match u with|.bl true=>ev T cf d b Z h1|.bl false=>some (.bl false,h1)|_=>none):=rfl
theorem Qk4{o:Operator}:ex T cf (d+1) (.aug i o e) Z hs=(match Z[i]? with
   | some (some u)=>bd (ev T cf d e Z hs) fun w h1=>(Qh2 o u w).map fun r=>(.next,Z.set i (some r),h1)
   | _=>none):=rfl
theorem Qa3:ev T cf (d+1) .dnew Z hs=some (.ref hs.length,hs++[.dic []]):=rfl
theorem Qa4:evT T cf (d+1) (.not a) Z hs=bd (evT T cf d a Z hs) fun c h1=>some (!c,h1):=rfl
theorem YO:evT T cf (d+1) (.and a b) Z hs=bd (evT T cf d a Z hs) fun c h1=>if c=true then evT T cf d b Z h1 else some (false,h1):=rfl
theorem QfW:evT T cf (d+1) (.or a b) Z hs=bd (evT T cf d a Z hs) fun c h1=>if c=true then some (true,h1)else evT T cf d b Z h1:=rfl
theorem Qr{o:CmpOp}:evT T cf (d+1) (.cmp o a b) Z hs=bd (ev T cf d (.cmp o a b) Z hs) fun u h1=>(Yl T u h1).map fun c=>(c,h1):=rfl
theorem Z1{t:Ty}:evT T cf (d+1) (.isi a t) Z hs=bd (ev T cf d (.isi a t) Z hs) fun u h1=>(Yl T u h1).map fun c=>(c,h1):=rfl
theorem Qco:evT T cf (d+1) (.call f es) Z hs=bd (ev T cf d (.call f es) Z hs) fun u h1=>(Yl T u h1).map fun c=>(c,h1):=rfl
theorem Qk{n:Nat}{us:List U}(F:Fn)(hF:T.fns[f]?=some F)(hl:us.length=F.np):Qa T (n+1) f us hs=fin (exs T (Qa T n) dd F.body (QkL us F.nN) hs):=by simp [Qa,hF,hl]
end
end Iv
namespace K21
open PySem Iv L2
variable {B:Bool}{cf:Cf}{C:Cl}{e e' el t:E}{g g1 h h' h0 h2 h3 hs:Hs}{l x:Int}{kvs:List (U×U)}{es:List E}{ps:List Int}{ks w y:List Nat}{body:List S}{s ts us ws xs ys zs:List U}{L N P R a b c cs d f i j kk m n p pq q r rp st tp:Nat}{Q:Nat->Prop}{o:O}{u0 u1 u11 u2 u3 u4 u5 u6 u7 u8:Option U}{Z ρ2:Rho}{T:Tbl}{α:Type}{u v:U}
noncomputable def top(i:Nat):Stmt:=PySem.Challenge.pw_stitchroom_k21_one_row.main.body.getD i (.Pass ⟨0,0,0,0⟩)
noncomputable def QoL:List Str:=["side","many","way","first","second","keeper","front","left","right","rows","kept","off","names","supply","loops","put"]
noncomputable def Qoy:List Str:=["ties","ends","takes","gives","mark","mirrored","turned","work","web","lying_on","refuse_misfit","work_stitch","seen","in_order","make_ready"]
noncomputable def glo:List (Str×G):=([("KEEPERS",.con 0),("Stitch",.cls 0),("Plain",.cls 1),("Slip",.cls 2),("Over",.cls 3),("Lean",.cls 4),("Grow",.cls 5),("Cross",.cls 6),("Off",.cls 7),("Keep",.cls 8),("Needles",.cls 9),("Course",.cls 10),("new_names",.fn 33),("new_many",.fn 34),("fetches_of",.fn 35),("_law_cell_at",.fn 36),("_law_stitch",.fn 37),("_law_row",.fn 38),("_law_wired",.fn 39),("_law_same",.fn 40)]:List (Str×G))++([("law",.fn 41)]:List (Str×G))
noncomputable def QmI:List Str:=["len","int","str","tuple","list","bool","dict","isinstance","range","zip","reversed","sum","sorted"]
noncomputable def QoX:List Co:=[.tup [.str [119],.str [120],.str [121],.str [122]]]
noncomputable def QoZ:List Cl:=[⟨"Stitch",none,[(0,0),(1,1)],[0]⟩,⟨"Plain",some 2,[(0,4),(1,1),(2,3)],[1,0]⟩,⟨"Slip",none,[(0,6),(1,1),(2,5)],[2,0]⟩,⟨"Over",none,[(0,8),(1,1),(2,7)],[3,0]⟩,⟨"Lean",some 9,[(0,11),(1,1),(2,10)],[4,0]⟩,⟨"Grow",some 12,[(0,14),(1,1),(2,13)],[5,0]⟩,⟨"Cross",some 15,[(0,17),(1,1),(2,16)],[6,0]⟩,⟨"Off",none,[(0,0),(1,19),(2,18)],[7,0]⟩,⟨"Keep",some 20,[(0,0),(1,22),(2,21)],[8,0]⟩,⟨"Needles",some 23,[(7,24),(8,25),(9,26),(10,27),(11,28),(12,29),(13,30),(14,31)],[9]⟩,⟨"Course",some 32,[],[10]⟩]
noncomputable def QoB:List ((Ty×Ty)×Bool):=[]
noncomputable abbrev st0:Stmt:=Qm (top 6) 0
noncomputable def N0:List Str:=["self"]
noncomputable abbrev st1:Stmt:=Qm (top 6) 1
noncomputable def N1:List Str:=["self"]
noncomputable abbrev st2:Stmt:=Qm (top 7) 0
noncomputable def N2:List Str:=["self","side"]
noncomputable abbrev st3:Stmt:=Qm (top 7) 1
noncomputable def N3:List Str:=["self"]
noncomputable abbrev st4:Stmt:=Qm (top 7) 3
noncomputable def N4:List Str:=["self"]
noncomputable abbrev st5:Stmt:=Qm (top 8) 0
noncomputable def N5:List Str:=["self"]
noncomputable abbrev st6:Stmt:=Qm (top 8) 2
noncomputable def N6:List Str:=["self"]
noncomputable abbrev st7:Stmt:=Qm (top 9) 0
noncomputable def N7:List Str:=["self"]
noncomputable abbrev st8:Stmt:=Qm (top 9) 2
noncomputable def N8:List Str:=["self"]
noncomputable abbrev st9:Stmt:=Qm (top 10) 0
noncomputable def N9:List Str:=["self","many","way","side"]
noncomputable abbrev Qnq:Stmt:=Qm (top 10) 1
noncomputable def N10:List Str:=["self"]
noncomputable abbrev Qnp:Stmt:=Qm (top 10) 3
noncomputable def N11:List Str:=["self","parents"]
noncomputable abbrev Qno:Stmt:=Qm (top 11) 0
noncomputable def N12:List Str:=["self","many","side"]
noncomputable abbrev Qnn:Stmt:=Qm (top 11) 1
noncomputable def N13:List Str:=["self"]
noncomputable abbrev Qnm:Stmt:=Qm (top 11) 3
noncomputable def N14:List Str:=["self"]
noncomputable abbrev Qnl:Stmt:=Qm (top 12) 0
noncomputable def N15:List Str:=["self","first","second","way","side"]
noncomputable abbrev Qnk:Stmt:=Qm (top 12) 1
noncomputable def N16:List Str:=["self"]
noncomputable abbrev Qnj:Stmt:=Qm (top 12) 3
noncomputable def N17:List Str:=["self","lift","later","former"]
noncomputable abbrev Qni:Stmt:=Qm (top 13) 0
noncomputable def N18:List Str:=["self"]
noncomputable abbrev Qnh:Stmt:=Qm (top 13) 2
noncomputable def N19:List Str:=["self"]
noncomputable abbrev Qng:Stmt:=Qm (top 14) 0
noncomputable def N20:List Str:=["self","keeper"]
noncomputable abbrev Qnf:Stmt:=Qm (top 14) 1
noncomputable def N21:List Str:=["self"]
noncomputable abbrev Qne:Stmt:=Qm (top 14) 3
noncomputable def N22:List Str:=["self"]
noncomputable abbrev Qnd:Stmt:=Qm (top 16) 0
noncomputable def N23:List Str:=["self","way","cast","web","names"]
noncomputable abbrev Qnc:Stmt:=Qm (top 16) 1
noncomputable def N24:List Str:=["self","stitches","turn","fetches","names","supply","course","stitch","keeper"]
noncomputable abbrev Qnb:Stmt:=Qm (top 16) 2
noncomputable def N25:List Str:=["self","rows","lying","kept"]
noncomputable abbrev Qna:Stmt:=Qm (top 16) 3
noncomputable def N26:List Str:=["self","keeper"]
noncomputable abbrev Qm9:Stmt:=Qm (top 16) 4
noncomputable def N27:List Str:=["self","stitches","turn","fetches","number","lies","takes","keeper"]
noncomputable abbrev Qm8:Stmt:=Qm (top 16) 5
noncomputable def N28:List Str:=["self","stitch","course","taken","tie","place","word","pile"]
noncomputable abbrev Qm7:Stmt:=Qm (top 16) 6
noncomputable def N29:List Str:=["self","tie","taken","parents","sign"]
noncomputable abbrev Qm6:Stmt:=Qm (top 16) 7
noncomputable def N30:List Str:=["self","some"]
noncomputable abbrev Qm5:Stmt:=Qm (top 16) 8
noncomputable def N31:List Str:=["self","not_taken"]
noncomputable abbrev Qm4:Stmt:=Qm (top 17) 0
noncomputable def N32:List Str:=["self","names","supply"]
noncomputable abbrev Qm3:Stmt:=top 18
noncomputable def N33:List Str:=["row","many"]
noncomputable abbrev Qm2:Stmt:=top 19
noncomputable def N34:List Str:=["stitches","many","stitch"]
noncomputable abbrev Qm1:Stmt:=top 20
noncomputable def N35:List Str:=["stitches","fetches","stitch","tie","place","word"]
noncomputable abbrev Qm0:Stmt:=top 22
noncomputable def N36:List Str:=["_law_script","_law_k"]
noncomputable abbrev QmZ:Stmt:=top 23
noncomputable def N37:List Str:=["_law_cell","_law_keepers","_law_number","_law_side"]
noncomputable abbrev QmY:Stmt:=top 24
noncomputable def N38:List Str:=["_law_cells","_law_many","_law_keepers","_law_row_here","_law_left","_law_cell","_law_one"]
noncomputable abbrev QmX:Stmt:=top 25
noncomputable def N39:List Str:=["_law_row_here","_law_line","_law_number","_law_stock","_law_given","_law_loops","_law_gone","_law_put","_law_at","_law_one","_law_taken","_law_tie","_law_p","_law_word"]
noncomputable abbrev QmW:Stmt:=top 26
noncomputable def N40:List Str:=["_law_found","_law_due","_law_one","_law_other"]
noncomputable abbrev QkI:Stmt:=top 27
noncomputable def N41:List Str:=["_law_script","_law_many","_law_needles","_law_line","_law_cast","_law_first","_law_keepers","_law_row_here","_law_handed","_law_given","_law_loops","_law_gone","_law_put","_law_found","_law_due","_law_keeper","_law_names"]
noncomputable def dflL:List (Nat×Df):=[(23,⟨["self","way","cast","web","names"],5,"names",[.non,.non]⟩),(24,⟨["self","stitches","turn"],3,"turn",[.bl false]⟩)]
noncomputable def QoQ:List Str:=[]
noncomputable def Qn1:List Str:=[]
noncomputable def QoN:List Nat:=[]
noncomputable def QoM:List (Nat×Nat):=[]
noncomputable def Qot:List Nat:=[]
noncomputable def QoP:List (Nat×Nat):=[]
noncomputable def QoR:List Str:=["fetches","supply","_law_put"]
noncomputable def Z2:List Nat:=[110,101,119]
noncomputable def Jc:List Nat:=[115,97,109,101]
noncomputable def ZA:List Nat:=[111,102,102]
noncomputable def elG:E:=.tup [.c (.str Z2),.tup [.c (.int 0 0)],.ife (.cmp .Eq (.op .Mod (.var 1) (.c (.int 2 0))) (.c (.int 0 0))) (.fld (.var 0) 0) (.neg (.fld (.var 0) 0)),.c (.int 0 0)]
noncomputable def elC(L:E):E:=.tup [.c (.str Z2),.tup [.var 4],.fld (.var 0) 0,L]
noncomputable def Qfr:List S:=[.set 3 (.op .Sub (.c (.int 1 0)) (.op .Mult (.op .Mod (.var 2) (.c (.int 2 0))) (.c (.int 2 0)))),.ite (.cmp .Lt (.var 2) (.c (.int 76 0))) [.ret (.make 4 [.op .Add (.c (.int 2 0)) (.op .FloorDiv (.op .Sub (.var 2) (.c (.int 64 0))) (.c (.int 4 0))),.ix (.c (.str [114,108])) (.op .Mod (.op .FloorDiv (.var 2) (.c (.int 2 0))) (.c (.int 2 0))),.var 3])] [],.ite (.cmp .Lt (.var 2) (.c (.int 82 0))) [.ret (.make 5 [.op .Add (.c (.int 2 0)) (.op .FloorDiv (.op .Sub (.var 2) (.c (.int 76 0))) (.c (.int 2 0))),.var 3])] [],.ite (.cmp .Lt (.var 2) (.c (.int 84 0))) [.ret (.make 1 [.var 3])] [],.ret (.ix (.lst [.make 2 [],.make 3 [],.make 7 []]) (.op .Sub (.var 2) (.c (.int 84 0))))]
noncomputable def r37:List S:=.ite (.cmp .Lt (.var 2) (.c (.int 64 0))) [.ret (.make 6 [.op .Add (.c (.int 1 0)) (.op .Mod (.var 2) (.c (.int 4 0))),.op .Add (.c (.int 1 0)) (.op .Mod (.op .FloorDiv (.var 2) (.c (.int 4 0))) (.c (.int 4 0))),.ix (.c (.str [102,98])) (.op .Mod (.op .FloorDiv (.var 2) (.c (.int 16 0))) (.c (.int 2 0))),.var 3])] []::Qfr
noncomputable def Qh1:List S:=[.set 6 (.call 37 [.var 5,.var 2]),.ite (.cmp .LtE (.meth 2 (.var 6) []) (.var 4)) [.expr (.bm .append (.var 3) [.var 6]),.set 4 (.op .Sub (.var 4) (.meth 2 (.var 6) []))] []]
noncomputable def QhT:List S:=[.ite (.and (.cmp .Gt (.var 1) (.c (.int 20 0))) (.cmp .Gt (.var 4) (.c (.int 3 0)))) [.expr (.bm .append (.var 3) [.make 4 [.c (.int 4 0),.c (.str [108]),.neg (.c (.int 1 0))]]),.set 4 (.op .Sub (.var 4) (.c (.int 4 0)))] [.expr (.bm .append (.var 3) [.make 1 [.op .Sub (.c (.int 1 0)) (.op .Mult (.op .Mod (.var 4) (.c (.int 2 0))) (.c (.int 2 0)))]]),.set 4 (.op .Sub (.var 4) (.c (.int 1 0)))]]
noncomputable def QkQ:S:=.loop (.pair 2 3) (.zip (.var 0) (.var 1)) [.ite (.not (.call 40 [.var 2,.var 3])) [.ret (.c (.bl false))] []]
noncomputable def r40:List S:=[.ite (.cmp .NotEq (.bi .len [.var 0]) (.bi .len [.var 1])) [.ret (.c (.bl false))] [],QkQ,.ret (.c (.bl true))]
noncomputable def Qcp:List Nat:=[102,114,111,109]
noncomputable def QmA:E:=.comp (.seq (.ix (.var 11) (.c (.int 1 0)))) false none (.ix (.var 10) (.var 14))
noncomputable def QlU:List S:=[.expr (.bm .append (.var 4) [.tup [.var 2,.bi .len [.var 5]]]),.expr (.bm .append (.var 5) [.tup [.bi .tuple [QmA],.ix (.var 11) (.c (.int 2 0)),.ix (.var 11) (.c (.int 3 0))]])]
noncomputable def QoI:List S:=[.expr (.bm .append (.var 4) [.bm .pop (.ix (.var 3) (.ix (.var 11) (.c (.int 1 0)))) [.c (.int 0 0)]])]
noncomputable def Qax:List S:=[.ite (.cmp .Eq (.ix (.var 11) (.c (.int 0 0))) (.c (.str Jc))) [.expr (.bm .append (.var 4) [.ix (.var 10) (.ix (.var 11) (.c (.int 1 0)))])] [.ite (.cmp .Eq (.ix (.var 11) (.c (.int 0 0))) (.c (.str Qcp))) QoI QlU]]
noncomputable def Qag:List S:=[.ite (.cmp .Eq (.var 13) (.c (.str ZA))) [.expr (.bm .append (.var 6) [.ix (.var 10) (.var 12)])] [.expr (.bm .append (.bm .setdef (.var 7) [.var 13,.lst []]) [.ix (.var 10) (.var 12)])]]
noncomputable def QhL:List S:=[.set 10 (.sl (.var 1) (some (.var 8)) (some (.op .Add (.var 8) (.meth 2 (.var 9) [])))),.set 8 (.op .Add (.var 8) (.meth 2 (.var 9) [])),.loop (.name 11) (.seq (.meth 0 (.var 9) [])) Qax,.loop (.pair 12 13) (.seq (.meth 1 (.var 9) [])) Qag]
noncomputable def QkS:E:=.comp (.seq (.meth 0 (.var 2) [])) false (some (.cmp .Eq (.ix (.var 3) (.c (.int 0 0))) (.c (.str Z2)))) (.var 3)
noncomputable def QmK:List S:=[.aug 1 .Add (.bi .len [QkS])]
noncomputable def Qlg:List S:=[.ite (.cmp .Eq (.ix (.var 3) (.c (.int 0 0))) (.c (.str Qcp))) [.put (.var 1) (.ix (.var 3) (.c (.int 1 0))) (.op .Add (.bm .get (.var 1) [.ix (.var 3) (.c (.int 1 0)),.c (.int 0 0)]) (.c (.int 1 0)))] []]
noncomputable def QkT:List S:=[.ite (.cmp .NotEq (.var 5) (.c (.str ZA))) [.put (.var 1) (.var 5) (.bm .get (.var 1) [.var 5,.c (.int 0 0)])] []]
noncomputable def QnV:List S:=[.loop (.name 3) (.seq (.meth 0 (.var 2) [])) Qlg,.loop (.pair 4 5) (.seq (.meth 1 (.var 2) [])) QkT]
noncomputable def QnI:List S:=[.set 5 (.bi .len [.meth 9 (.var 0) [.var 7]]),.ite (.and (.cmp .In (.var 7) (.var 3)) (.cmp .NotEq (.ix (.var 3) (.var 7)) (.var 5))) [.bad] []]
noncomputable def cmS:E:=.comp (.seq (.ix (.var 1) (.c (.int 1 0)))) false none (.ix (.var 2) (.var 5))
noncomputable def QnD:List S:=[.expr (.bm .append (.fld (.var 0) 8) [.ix (.fld (.var 2) 12) (.bi .len [.fld (.var 2) 14])]),.expr (.bm .append (.fld (.var 2) 14) [.meth 12 (.var 0) [.var 4,.var 3]])]
noncomputable def QoJ:List S:=[.expr (.bm .append (.fld (.var 0) 8) [.bm .pop (.ix (.fld (.var 2) 13) (.ix (.var 4) (.c (.int 1 0)))) [.c (.int 0 0)]])]
noncomputable def Qea:List S:=[.ite (.cmp .Eq (.ix (.var 4) (.c (.int 0 0))) (.c (.str Jc))) [.expr (.bm .append (.fld (.var 0) 8) [.ix (.var 3) (.ix (.var 4) (.c (.int 1 0)))])] [.ite (.cmp .Eq (.ix (.var 4) (.c (.int 0 0))) (.c (.str Qcp))) QoJ QnD]]
noncomputable def Qdx:List S:=[.set 7 (.ife (.cmp .Eq (.var 6) (.c (.str ZA))) (.fld (.var 0) 11) (.ix (.fld (.var 2) 15) (.var 6))),.expr (.bm .append (.var 7) [.ix (.var 3) (.var 5)])]
noncomputable def QnG:S:=.loop (.name 7) (.seq (.var 1)) [.expr (.meth 11 (.var 0) [.var 7,.var 6])]
noncomputable def elK:E:=.tup [.var 4,.bi .list [.ix (.fld (.var 0) 10) (.var 4)]]
noncomputable def Ql4:E:=.comp (.seq (.con 0)) false (some (.meth 9 (.var 0) [.var 4])) elK
noncomputable def Ql0:S:=.loopK 8 (.var 3) [.put (.fld (.var 0) 10) (.var 8) (.meth 13 (.var 0) [.ix (.fld (.var 6) 15) (.var 8)])]
noncomputable def QnW:S:=.expr (.bm .append (.fld (.var 0) 9) [.meth 13 (.var 0) [.fld (.var 6) 14]])
noncomputable def Qmp:E:=.tup [.var 9,.meth 13 (.var 0) [.meth 9 (.var 0) [.var 9]]]
noncomputable def Qnv:List S:=[QnG,QnW,Ql0,.expr (.meth 14 (.var 0) []),.ret (.op .Add (.bi .len [.fld (.var 0) 7]) (.bi .len [.fld (.var 0) 8]))]
noncomputable def elL:E:=.tup [.tup [],.c (.int 0 0),.c (.int 0 0)]
noncomputable def QkU(j:Nat):E:=.comp (.rng (.var j)) false none elL
noncomputable def Qn6:List S:=[.fld (.var 0) 9 (.lst [QkU 2]),.fld (.var 0) 10 .dnew,.fld (.var 0) 11 (.lst [])]
noncomputable def ck0:E:=.call 40 [.var 5,.tup [.lst [.var 4],.var 3,.lst [],.lst []]]
noncomputable def Qmq:E:=.tup [.lst [.var 4,.var 10],.var 9,.thw 12 (.comp (.key (.var 12)) false none (.tup [.var 17,.ix (.var 12) (.var 17)])),.bi .sorted [.var 11]]
noncomputable def t9:E:=.tup [.c (.int 9 0),.c (.int 9 0)]
noncomputable def QnF:List S:=[.expr (.bm .append (.ix (.var 13) (.c (.int 0 0))) [.lst []]),.expr (.bm .append (.ix (.ix (.var 13) (.c (.int 0 0))) (.c (.int 1 0))) [elL]),.expr (.bm .append (.ix (.var 13) (.c (.int 1 0))) [t9]),.expr (.bm .append (.ix (.var 13) (.c (.int 3 0))) [t9]),.loop (.pair 15 16) (.seq (.ix (.var 13) (.c (.int 2 0)))) [.expr (.bm .append (.var 16) [t9])],.ret (.call 40 [.meth 8 (.var 2) [],.var 14])]
noncomputable def Qly:List S:=.unpN [9,10,11,12] (.call 39 [.var 7,.var 3,.c (.int 1 0),.dnew])::.ite (.or (.not (.call 40 [.meth 7 (.var 2) [.var 8],.bi .len [.var 9]])) (.cmp .NotEq (.var 8) (.var 7))) [.ret (.c (.bl false))] []::.set 13 (.meth 8 (.var 2) [])::.set 14 Qmq::.ite (.or (.not (.call 40 [.var 13,.var 14])) (.not ck0)) [.ret (.c (.bl false))] []::QnF
noncomputable def kE:E:=.ix (.lst [.c (.str []),.ix (.c (.str [119,120,121,122])) (.op .Mod (.op .FloorDiv (.call 36 [.var 0,.c (.int 1 0)]) (.c (.int 4 0))) (.c (.int 4 0)))]) (.op .Mod (.op .FloorDiv (.call 36 [.var 0,.c (.int 1 0)]) (.c (.int 2 0))) (.c (.int 2 0)))
noncomputable def b0:List S:=[.ret (.lst [])]
noncomputable def b1:List S:=[.ret (.lst [])]
noncomputable def b2:List S:=[.fld (.var 0) 0 (.var 1)]
noncomputable def b3:List S:=[.ret (.c (.int 1 0))]
noncomputable def b4:List S:=[.ret (.lst [.tup [.c (.str [110,101,119]),.tup [.c (.int 0 0)],.fld (.var 0) 0,.c (.int 0 0)]])]
noncomputable def b5:List S:=[.ret (.c (.int 1 0))]
noncomputable def b6:List S:=[.ret (.lst [.tup [.c (.str [115,97,109,101]),.c (.int 0 0)]])]
noncomputable def b7:List S:=[.ret (.c (.int 0 0))]
noncomputable def b8:List S:=[.ret (.lst [.tup [.c (.str [110,101,119]),.tup [],.c (.int 0 0),.c (.int 0 0)]])]
noncomputable def b9:List S:=[.fld (.var 0) 1 (.var 1),.fld (.var 0) 2 (.var 2),.fld (.var 0) 0 (.var 3)]
noncomputable def b10:List S:=[.ret (.fld (.var 0) 1)]
noncomputable def b11:List S:=[.ite (.cmp .Eq (.fld (.var 0) 2) (.c (.str [114]))) [.set 1 (.tupR [.op .Sub (.fld (.var 0) 1) (.c (.int 1 0)),.neg (.c (.int 1 0)),.neg (.c (.int 1 0))])] [.set 1 (.tupR [.fld (.var 0) 1])],.ret (.lst [.tup [.c (.str [110,101,119]),.var 1,.fld (.var 0) 0,.c (.int 0 0)]])]
noncomputable def b12:List S:=[.fld (.var 0) 1 (.var 1),.fld (.var 0) 0 (.var 2)]
noncomputable def b13:List S:=[.ret (.c (.int 1 0))]
noncomputable def b14:List S:=[.ret (.comp (.rng (.fld (.var 0) 1)) false none (.tup [.c (.str [110,101,119]),.tup [.c (.int 0 0)],.ife (.cmp .Eq (.op .Mod (.var 1) (.c (.int 2 0))) (.c (.int 0 0))) (.fld (.var 0) 0) (.neg (.fld (.var 0) 0)),.c (.int 0 0)]))]
noncomputable def b15:List S:=[.fld (.var 0) 3 (.var 1),.fld (.var 0) 4 (.var 2),.fld (.var 0) 2 (.var 3),.fld (.var 0) 0 (.var 4)]
noncomputable def b16:List S:=[.ret (.op .Add (.fld (.var 0) 3) (.fld (.var 0) 4))]
noncomputable def b17:List S:=[.set 1 (.ife (.cmp .Eq (.fld (.var 0) 2) (.c (.str [102]))) (.c (.int 1 0)) (.neg (.c (.int 1 0)))),.set 2 (.comp (.rng2 (.fld (.var 0) 3) (.op .Add (.fld (.var 0) 3) (.fld (.var 0) 4))) false none (.tup [.c (.str [110,101,119]),.tup [.var 4],.fld (.var 0) 0,.neg (.var 1)])),.set 3 (.comp (.rng (.fld (.var 0) 3)) false none (.tup [.c (.str [110,101,119]),.tup [.var 4],.fld (.var 0) 0,.var 1])),.ret (.op .Add (.var 2) (.var 3))]
noncomputable def b18:List S:=[.ret (.c (.int 1 0))]
noncomputable def b19:List S:=[.ret (.lst [.tup [.c (.int 0 0),.c (.str [111,102,102])]])]
noncomputable def b20:List S:=[.fld (.var 0) 5 (.var 1)]
noncomputable def b21:List S:=[.ret (.c (.int 1 0))]
noncomputable def b22:List S:=[.ret (.lst [.tup [.c (.int 0 0),.fld (.var 0) 5]])]
noncomputable def b23:List S:=[.fld (.var 0) 2 (.var 1),.fld (.var 0) 6 (.c (.bl true)),.ite (.cmp .Is (.var 3) (.c .non)) [.fld (.var 0) 9 (.lst [.comp (.rng (.var 2)) false none (.tup [.tup [],.c (.int 0 0),.c (.int 0 0)])]),.fld (.var 0) 10 .dnew,.fld (.var 0) 11 (.lst [])] [.fld (.var 0) 9 (.op .Add (.comp (.seq (.ix (.var 3) (.c (.int 0 0)))) false none (.bi .list [.var 5])) (.lst [.comp (.seq (.var 4)) false none (.tup [.tup [.var 5],.c (.int 1 0),.c (.int 0 0)])])),.fld (.var 0) 10 (.bi .dictS [.comp (.seq (.ix (.var 3) (.c (.int 2 0)))) true none (.tup [.var 5,.bi .list [.var 6]])]),.fld (.var 0) 11 (.bi .list [.ix (.var 3) (.c (.int 3 0))])],.fld (.var 0) 7 (.rev (.call 33 [.op .Sub (.bi .len [.fld (.var 0) 9]) (.c (.int 1 0)),.bi .len [.ix (.fld (.var 0) 9) (.neg (.c (.int 1 0)))]])),.fld (.var 0) 8 (.lst [])]
noncomputable def b24:List S:=.set 3 (.call 35 [.var 1])::.expr (.meth 10 (.var 0) [.var 1,.var 2,.var 3])::.set 4 (.meth 13 (.var 0) [.call 33 [.bi .len [.fld (.var 0) 9],.call 34 [.var 1]]])::.set 5 (.bi .dictS [.thw 3 (.comp (.key (.var 3)) false none Qmp)])::.set 6 (.make 10 [.var 4,.var 5])::Qnv
noncomputable def b25:List S:=[.set 1 (.comp (.seq (.fld (.var 0) 9)) false none (.bi .list [.var 4])),.set 2 (.meth 13 (.var 0) [.op .Add (.fld (.var 0) 8) (.rev (.fld (.var 0) 7))]),.set 3 Ql4,.ret (.tup [.var 1,.var 2,.var 3,.bi .sorted [.fld (.var 0) 11]])]
noncomputable def b26:List S:=[.ret (.bm .get (.fld (.var 0) 10) [.var 1,.lst []])]
noncomputable def b27:List S:=[.set 4 (.bi .len [.fld (.var 0) 9]),.set 5 (.bi .len [.fld (.var 0) 7]),.set 6 (.bi .sum [.comp (.seq (.var 1)) false none (.meth 2 (.var 8) [])]),.ite (.or (.cmp .Gt (.var 6) (.var 5)) (.and (.cmp .Lt (.var 6) (.var 5)) (.not (.var 2)))) [.bad] [],.loop (.name 7) (.seq (.con 0)) QnI]
noncomputable def b28:List S:=[.set 3 (.comp (.rng (.meth 2 (.var 1) [])) false none (.bm .pop (.fld (.var 0) 7) [])),.loop (.name 4) (.seq (.meth 0 (.var 1) [])) Qea,.loop (.pair 5 6) (.seq (.meth 1 (.var 1) [])) Qdx]
noncomputable def b29:List S:=[.set 3 (.meth 13 (.var 0) [cmS]),.set 4 (.ife (.fld (.var 0) 6) (.c (.int 1 0)) (.neg (.c (.int 1 0)))),.ret (.tup [.bi .tuple [.var 3],.op .Mult (.var 4) (.ix (.var 1) (.c (.int 2 0))),.op .Mult (.var 4) (.ix (.var 1) (.c (.int 3 0)))])]
noncomputable def b30:List S:=[.ret (.ife (.fld (.var 0) 6) (.bi .list [.var 1]) (.rev (.var 1)))]
noncomputable def b31:List S:=[.ite (.cmp .Eq (.fld (.var 0) 2) (.c (.str [114,111,117,110,100]))) [.fld (.var 0) 7 (.rev (.fld (.var 0) 8)),.fld (.var 0) 8 (.lst [])] [.set 1 (.fld (.var 0) 7),.fld (.var 0) 7 (.fld (.var 0) 8),.fld (.var 0) 8 (.var 1),.fld (.var 0) 6 (.not (.fld (.var 0) 6))]]
noncomputable def b32:List S:=[.fld (.var 0) 12 (.var 1),.fld (.var 0) 13 (.var 2),.fld (.var 0) 14 (.lst []),.fld (.var 0) 15 (.bi .dictS [.thw 2 (.comp (.key (.var 2)) false none (.tup [.var 3,.lst []]))])]
noncomputable def b33:List S:=[.ret (.comp (.rng (.var 1)) false none (.tup [.var 0,.var 2]))]
noncomputable def b34:List S:=[.set 1 (.c (.int 0 0)),.loop (.name 2) (.seq (.var 0)) QmK,.ret (.var 1)]
noncomputable def b35:List S:=[.set 1 .dnew,.loop (.name 2) (.seq (.var 0)) QnV,.ret (.var 1)]
noncomputable def b36:List S:=[.ite (.cmp .Lt (.var 1) (.bi .len [.var 0])) [.ret (.ix (.var 0) (.var 1))] [],.ret (.c (.int 0 0))]
noncomputable def b37:List S:=[.ite (.and (.cmp .NotEq (.var 1) (.c (.str []))) (.cmp .Eq (.op .Mod (.var 0) (.c (.int 4 0))) (.c (.int 1 0)))) [.ret (.make 8 [.ix (.var 1) (.op .Mod (.op .FloorDiv (.var 0) (.c (.int 4 0))) (.bi .len [.var 1]))])] [],.set 2 (.op .Mod (.op .Mult (.var 0) (.c (.int 37 0))) (.c (.int 87 0))),.set 3 (.op .Sub (.c (.int 1 0)) (.op .Mult (.op .FloorDiv (.var 2) (.c (.int 32 0))) (.c (.int 2 0))))]++r37
noncomputable def b38:List S:=[.set 3 (.lst []),.set 4 (.var 1),.loop (.name 5) (.seq (.var 0)) Qh1,.while (.cmp .Gt (.var 4) (.c (.int 0 0))) QhT,.ret (.var 3)]
noncomputable def b39:List S:=[.set 4 (.lst []),.set 5 (.lst []),.set 6 (.lst []),.set 7 .dnew,.set 8 (.c (.int 0 0)),.loop (.name 9) (.seq (.var 0)) QhL,.ret (.tup [.var 4,.var 5,.var 6,.var 7])]
noncomputable def b40:List S:=[.ite (.isi (.var 1) .str) [.ret (.and (.isi (.var 0) .str) (.cmp .Eq (.var 0) (.var 1)))] [],.ite (.isi (.var 1) .int) [.ret (.and (.isi (.var 0) .int) (.and (.not (.isi (.var 0) .bool)) (.cmp .Eq (.var 0) (.var 1))))] [],.ite (.isi (.var 1) .tuple) [.ite (.not (.isi (.var 0) .tuple)) [.ret (.c (.bl false))] []] [.ite (.not (.isi (.var 0) .list)) [.ret (.c (.bl false))] []]]++r40
noncomputable def b41:List S:=.set 1 (.op .Mod (.call 36 [.var 0,.c (.int 0 0)]) (.c (.int 21 0)))::.set 2 (.make 9 [.ix (.lst [.c (.str [102,108,97,116]),.c (.str [114,111,117,110,100])]) (.op .Mod (.call 36 [.var 0,.c (.int 1 0)]) (.c (.int 2 0))),.var 1])::.set 3 (.comp (.rng (.var 1)) false none (.tup [.c (.int 0 0),.var 17]))::.set 4 (QkU 1)::.set 5 (.meth 8 (.var 2) [])::.ite (.not ck0) [.ret (.c (.bl false))] []::.set 6 kE::.set 7 (.call 38 [.sl (.var 0) (some (.c (.int 2 0))) (some (.c (.int 34 0))),.var 1,.var 6])::.set 8 (.bi .list [.var 7])::Qly
noncomputable def fnL:List Fn:=[⟨"ties","Stitch.ties",st0,["self"],N0,1,1,false,b0⟩,
 ⟨"ends","Stitch.ends",st1,["self"],N1,1,1,false,b1⟩,
 ⟨"__init__","Plain.__init__",st2,["self","side"],N2,2,2,false,b2⟩,
 ⟨"takes","Plain.takes",st3,["self"],N3,1,1,false,b3⟩,
 ⟨"ties","Plain.ties",st4,["self"],N4,1,1,false,b4⟩,
 ⟨"takes","Slip.takes",st5,["self"],N5,1,1,false,b5⟩,
 ⟨"ties","Slip.ties",st6,["self"],N6,1,1,false,b6⟩,
 ⟨"takes","Over.takes",st7,["self"],N7,1,1,false,b7⟩,
 ⟨"ties","Over.ties",st8,["self"],N8,1,1,false,b8⟩,
 ⟨"__init__","Lean.__init__",st9,["self","many","way","side"],N9,4,4,false,b9⟩,
 ⟨"takes","Lean.takes",Qnq,["self"],N10,1,1,false,b10⟩,
 ⟨"ties","Lean.ties",Qnp,["self"],N11,1,2,false,b11⟩,
 ⟨"__init__","Grow.__init__",Qno,["self","many","side"],N12,3,3,false,b12⟩,
 ⟨"takes","Grow.takes",Qnn,["self"],N13,1,1,false,b13⟩,
 ⟨"ties","Grow.ties",Qnm,["self"],N14,1,1,false,b14⟩,
 ⟨"__init__","Cross.__init__",Qnl,["self","first","second","way","side"],N15,5,5,false,b15⟩,
 ⟨"takes","Cross.takes",Qnk,["self"],N16,1,1,false,b16⟩,
 ⟨"ties","Cross.ties",Qnj,["self"],N17,1,4,false,b17⟩,
 ⟨"takes","Off.takes",Qni,["self"],N18,1,1,false,b18⟩,
 ⟨"ends","Off.ends",Qnh,["self"],N19,1,1,false,b19⟩,
 ⟨"__init__","Keep.__init__",Qng,["self","keeper"],N20,2,2,false,b20⟩,
 ⟨"takes","Keep.takes",Qnf,["self"],N21,1,1,false,b21⟩,
 ⟨"ends","Keep.ends",Qne,["self"],N22,1,1,false,b22⟩,
 ⟨"__init__","Needles.__init__",Qnd,["self","way","cast","web","names"],N23,5,5,false,b23⟩,
 ⟨"work","Needles.work",Qnc,["self","stitches","turn"],N24,3,9,false,b24⟩,
 ⟨"web","Needles.web",Qnb,["self"],N25,1,4,false,b25⟩,
 ⟨"lying_on","Needles.lying_on",Qna,["self","keeper"],N26,2,2,false,b26⟩,
 ⟨"refuse_misfit","Needles.refuse_misfit",Qm9,["self","stitches","turn","fetches"],N27,4,8,false,b27⟩,
 ⟨"work_stitch","Needles.work_stitch",Qm8,["self","stitch","course"],N28,3,8,false,b28⟩,
 ⟨"seen","Needles.seen",Qm7,["self","tie","taken"],N29,3,5,false,b29⟩,
 ⟨"in_order","Needles.in_order",Qm6,["self","some"],N30,2,2,false,b30⟩,
 ⟨"make_ready","Needles.make_ready",Qm5,["self"],N31,1,2,false,b31⟩,
 ⟨"__init__","Course.__init__",Qm4,["self","names","supply"],N32,3,3,false,b32⟩,
 ⟨"new_names","new_names",Qm3,["row","many"],N33,2,2,false,b33⟩,
 ⟨"new_many","new_many",Qm2,["stitches"],N34,1,3,false,b34⟩,
 ⟨"fetches_of","fetches_of",Qm1,["stitches"],N35,1,6,false,b35⟩,
 ⟨"_law_cell_at","_law_cell_at",Qm0,["_law_script","_law_k"],N36,2,2,false,b36⟩,
 ⟨"_law_stitch","_law_stitch",QmZ,["_law_cell","_law_keepers"],N37,2,4,false,b37⟩,
 ⟨"_law_row","_law_row",QmY,["_law_cells","_law_many","_law_keepers"],N38,3,7,false,b38⟩,
 ⟨"_law_wired","_law_wired",QmX,["_law_row_here","_law_line","_law_number","_law_stock"],N39,4,14,false,b39⟩,
 ⟨"_law_same","_law_same",QmW,["_law_found","_law_due"],N40,2,4,false,b40⟩,
 ⟨"law","law",QkI,["_law_script"],N41,1,17,true,b41⟩]
noncomputable def tb(s:List U):Tbl:=⟨fnL,QoZ,QoX,QoL,Qoy,s,QoB,dflL,QoQ,Qn1,false,QoN,QoM,Qot,QoP,QoR,fun _ _ _=>none⟩
noncomputable abbrev so(x:String):Str:=Str.ofString x
noncomputable abbrev rf(a:Addr):Value:=.ref a
noncomputable abbrev sv(x:String)(n:Nat):Value:=.str (Str.ofString x) n
noncomputable abbrev dk(P:Params)(x:String)(n:Nat)(v:Value):DictEntry:=DictEntry.mk (PyData.keyHash P (Str.ofString x)) (.str (Str.ofString x) n) v
noncomputable abbrev tu(xs:Array Value)(n:Nat):Obj:=Obj.mk (.type "tuple") none (Data.seq xs n) #[]
noncomputable abbrev ob(c:String)(d:Data):Obj:=Obj.mk (.type c) none d #[]
noncomputable abbrev en(P:Params)(x:Str)(k v:Value):DictEntry:=DictEntry.mk (PyData.keyHash P x) k v
noncomputable abbrev de(P:Params)(x:Str)(n:Nat)(v:Value):DictEntry:=DictEntry.mk (PyData.keyHash P x) (.str x n) v
noncomputable abbrev fo(x q:String)(s:Stmt)(d:Value)(m:String)(n c:Nat):Obj:=⟨.type "function",none,.func (W.fnOf (so x) (so q) (Jz s) (Zs s) (Qy s) d .none .none (sv m n) none (rf c) .none),#[]⟩
noncomputable abbrev z0:Value:=.int 0 0
noncomputable abbrev i0(n:Int):Value:=.int n 0
noncomputable abbrev hF:Value:=.bool false
noncomputable abbrev hT:Value:=.bool true
noncomputable abbrev sr(a:Addr):Option Value:=some (.ref a)
noncomputable abbrev hC(n:Nat):Value:=.str (Str.ofString "/claim/cut.py") n
noncomputable abbrev oc(d:Array Value):Obj:=Obj.mk (.type "code") none (Data.fields d) #[]
noncomputable abbrev cO(x q:String)(a l:Nat)(n r s u v y t:Value)(m d:Nat):Obj:=oc (#[sv x a,sv q (a+1),hC (a+2),i0 l,n,z0,z0,i0 3,r,hT,i0 181,s,u,v,y,t,i0 m,i0 l,hC d])
noncomputable abbrev dm(P:Params)(n:Nat)(x:String)(m:Nat):DictEntry:=dk P "__module__" n (sv x m)
noncomputable abbrev dq(P:Params)(n:Nat)(x:String)(m:Nat):DictEntry:=dk P "__qualname__" n (sv x m)
noncomputable abbrev hD(P:Params)(n:Nat):DictEntry:=dk P "__doc__" n .none
noncomputable abbrev dl(P:Params)(n:Nat)(x:Int)(m:Nat):DictEntry:=dk P "__firstlineno__" n (.int x m)
noncomputable abbrev ds(P:Params)(n:Nat)(a:Addr):DictEntry:=dk P "__static_attributes__" n (.ref a)
noncomputable abbrev dR(P:Params)(x:String)(n:Nat)(a:Addr):DictEntry:=dk P x n (.ref a)
noncomputable abbrev hp:Program:=PySem.Challenge.pw_stitchroom_k21_one_row
noncomputable abbrev hr:W.RowW:=(PySem.Challenge.rw_stitchroom_k21_one_row).row.toRowW
noncomputable def hB:Iv.BootT:=⟨fun P=>(.node (W.boot_o_0 P) (.node (W.boot_o_1 P) (.node (W.boot_o_3 P) (.node (W.boot_o_7 P) .nil .nil) .nil) (.node (W.boot_o_5 P) (.node (W.boot_o_9 P) .nil .nil) .nil)) (.node (W.boot_o_2 P) (.node (W.boot_o_4 P) (.node (W.boot_o_8 P) .nil .nil) .nil) (.node (W.boot_o_6 P) (.node (W.boot_o_10 P) .nil .nil) .nil))),11,{}⟩
noncomputable def hq:Program:=W.view hp [0,2,3,5,6,7,8,9,10,11,12,13,14,16,17,18,19,20,22,23,24,25,26,27]
noncomputable abbrev hlo:List Str:=[]
noncomputable def K:Params->W.Frag:=fun P =>
 (2,(Obj.mk .none none (Data.dict #[] 0) #[]))::
 (3,(ob "dict" (Data.dict #[(dk P "__name__" 165 (sv "law_stitchroom_k21_one_row" 951)),(hD P 166),(dk P "__package__" 167 .none),(dk P "__loader__" 168 (.builtin "__main__.__loader__#opaque")),(dk P "__spec__" 169 .none),(dR P "__annotations__" 170 6),(dR P "__builtins__" 171 4),(dk P "__file__" 173 (hC 172)),(dk P "__cached__" 174 .none),(dR P "_wall" 193 21),(dR P "StitchError" 213 31),(dR P "Miscount" 246 51),(dR P "KEEPERS" 253 54),(dR P "Stitch" 287 78),(dR P "Plain" 354 141),(dR P "Slip" 412 195),(dR P "Over" 470 249),(dR P "Lean" 542 310),(dR P "Grow" 610 369),(dR P "Cross" 682 428),(dR P "Off" 740 482),(dR P "Keep" 807 543),(dR P "Needles" 896 608),(dR P "Course" 926 627),(dR P "new_names" 932 636),(dR P "new_many" 938 641),(dR P "fetches_of" 950 648),(dR P "_law_cell_at" 960 655),(dR P "_law_stitch" 970 662),(dR P "_law_row" 983 669),(dR P "_law_wired" 989 674),(dR P "_law_same" 999 681),(dR P "law" 1005 686)] 33)))::
 (30,(ob "dict" (Data.dict #[(dm P 203 "stitchroom.errors" 194),(dl P 207 5 206),(ds P 208 29),(dR P "__weakref__" 210 32),(hD P 211)] 3)))::
 (31,(Obj.mk (.type "type") none (Data.cls (ClassData.mk (so "StitchError") [(.type "ValueError")] [(rf 31),(.type "ValueError"),(.type "Exception"),(.type "BaseException"),(.type "object")] 30 (so "StitchError") true [] [(rf 51)] false none false)) #[(sr 22),none,(some (sv "StitchError" 196)),(some (sv "StitchError" 204)),(some (.builtin "ValueError.__new__")),(some hT)]))::
 (32,(ob "getset_descriptor" (Data.fields #[(sv "__weakref__" 209),(rf 31),(.builtin "ExceptionGroup.__weakref__"),.none])))::
 (50,(ob "dict" (Data.dict #[(dm P 221 "stitchroom.errors" 194),(dl P 225 7 224),(dR P "__init__" 237 48),(ds P 243 49),(hD P 244)] 2)))::
 (51,(Obj.mk (.type "type") none (Data.cls (ClassData.mk (so "Miscount") [(rf 31)] [(rf 51),(rf 31),(.type "ValueError"),(.type "Exception"),(.type "BaseException"),(.type "object")] 50 (so "Miscount") true [] [] false none false)) #[(sr 35),none,(some (sv "Miscount" 214)),(some (sv "Miscount" 222)),(some (.builtin "ValueError.__new__")),(some hT)]))::
 (54,(tu #[(sv "w" 249),(sv "x" 250),(sv "y" 251),(sv "z" 252)] 0))::
 (67,(cO "ties" "Stitch.ties" 266 20 (i0 1) (rf 62) (rf 63) .none (rf 64) (rf 65) (rf 66) 270 271))::
 (68,(fo "ties" "Stitch.ties" st0 .none "stitchroom.stitches" 247 67))::
 (74,(cO "ends" "Stitch.ends" 273 23 (i0 1) (rf 69) (rf 70) .none (rf 71) (rf 72) (rf 73) 277 278))::
 (75,(fo "ends" "Stitch.ends" st1 .none "stitchroom.stitches" 247 74))::
 (77,(ob "dict" (Data.dict #[(dm P 261 "stitchroom.stitches" 247),(dl P 265 18 264),(dR P "ties" 272 68),(dR P "ends" 279 75),(ds P 280 76),(dR P "__dict__" 282 79),(dR P "__weakref__" 284 80),(hD P 285)] 4)))::
 (78,(Obj.mk (.type "type") none (Data.cls (ClassData.mk (so "Stitch") [(.type "object")] [(rf 78),(.type "object")] 77 (so "Stitch") true [] [(rf 141),(rf 195),(rf 249),(rf 310),(rf 369),(rf 428),(rf 482),(rf 543)] false none false)) #[none,none,(some (sv "Stitch" 254)),(some (sv "Stitch" 262)),(some (.builtin "object.__new__")),(some hT)]))::
 (79,(ob "getset_descriptor" (Data.fields #[(sv "__dict__" 281),(rf 78),(.builtin "function.__dict__"),(.builtin "function.__dict__#set")])))::
 (80,(ob "getset_descriptor" (Data.fields #[(sv "__weakref__" 283),(rf 78),(.builtin "ExceptionGroup.__weakref__"),.none])))::
 (95,(cO "__init__" "Plain.__init__" 300 27 (i0 2) (rf 90) (rf 91) .none (rf 92) (rf 93) (rf 94) 305 306))::
 (96,(fo "__init__" "Plain.__init__" st2 .none "stitchroom.stitches" 247 95))::
 (102,(cO "takes" "Plain.takes" 308 30 (i0 1) (rf 97) (rf 98) .none (rf 99) (rf 100) (rf 101) 312 313))::
 (103,(fo "takes" "Plain.takes" st3 .none "stitchroom.stitches" 247 102))::
 (116,(cO "ties" "Plain.ties" 322 36 (i0 1) (rf 111) (rf 112) .none (rf 113) (rf 114) (rf 115) 326 327))::
 (117,(fo "ties" "Plain.ties" st4 .none "stitchroom.stitches" 247 116))::
 (140,(ob "dict" (Data.dict #[(dm P 295 "stitchroom.stitches" 247),(dl P 299 25 298),(dR P "__init__" 307 96),(dR P "takes" 314 103),(dR P "gives" 321 110),(dR P "ties" 328 117),(dR P "mark" 335 124),(dR P "mirrored" 342 131),(dR P "turned" 349 138),(ds P 351 139),(hD P 352)] 2)))::
 (141,(Obj.mk (.type "type") none (Data.cls (ClassData.mk (so "Plain") [(rf 78)] [(rf 141),(rf 78),(.type "object")] 140 (so "Plain") true [] [] false none false)) #[(sr 83),none,(some (sv "Plain" 288)),(some (sv "Plain" 296)),(some (.builtin "object.__new__")),(some hT)]))::
 (156,(cO "takes" "Slip.takes" 367 49 (i0 1) (rf 151) (rf 152) .none (rf 153) (rf 154) (rf 155) 371 372))::
 (157,(fo "takes" "Slip.takes" st5 .none "stitchroom.stitches" 247 156))::
 (170,(cO "ties" "Slip.ties" 381 55 (i0 1) (rf 165) (rf 166) .none (rf 167) (rf 168) (rf 169) 385 386))::
 (171,(fo "ties" "Slip.ties" st6 .none "stitchroom.stitches" 247 170))::
 (194,(ob "dict" (Data.dict #[(dm P 362 "stitchroom.stitches" 247),(dl P 366 47 365),(dR P "takes" 373 157),(dR P "gives" 380 164),(dR P "ties" 387 171),(dR P "mark" 394 178),(dR P "mirrored" 401 185),(dR P "turned" 408 192),(ds P 409 193),(hD P 410)] 2)))::
 (195,(Obj.mk (.type "type") none (Data.cls (ClassData.mk (so "Slip") [(rf 78)] [(rf 195),(rf 78),(.type "object")] 194 (so "Slip") true [] [] false none false)) #[(sr 144),none,(some (sv "Slip" 355)),(some (sv "Slip" 363)),(some (.builtin "object.__new__")),(some hT)]))::
 (210,(cO "takes" "Over.takes" 425 68 (i0 1) (rf 205) (rf 206) .none (rf 207) (rf 208) (rf 209) 429 430))::
 (211,(fo "takes" "Over.takes" st7 .none "stitchroom.stitches" 247 210))::
 (224,(cO "ties" "Over.ties" 439 74 (i0 1) (rf 219) (rf 220) .none (rf 221) (rf 222) (rf 223) 443 444))::
 (225,(fo "ties" "Over.ties" st8 .none "stitchroom.stitches" 247 224))::
 (248,(ob "dict" (Data.dict #[(dm P 420 "stitchroom.stitches" 247),(dl P 424 66 423),(dR P "takes" 431 211),(dR P "gives" 438 218),(dR P "ties" 445 225),(dR P "mark" 452 232),(dR P "mirrored" 459 239),(dR P "turned" 466 246),(ds P 467 247),(hD P 468)] 2)))::
 (249,(Obj.mk (.type "type") none (Data.cls (ClassData.mk (so "Over") [(rf 78)] [(rf 249),(rf 78),(.type "object")] 248 (so "Over") true [] [] false none false)) #[(sr 198),none,(some (sv "Over" 413)),(some (sv "Over" 421)),(some (.builtin "object.__new__")),(some hT)]))::
 (264,(cO "__init__" "Lean.__init__" 483 87 (i0 4) (rf 259) (rf 260) .none (rf 261) (rf 262) (rf 263) 490 491))::
 (265,(fo "__init__" "Lean.__init__" st9 .none "stitchroom.stitches" 247 264))::
 (271,(cO "takes" "Lean.takes" 493 92 (i0 1) (rf 266) (rf 267) .none (rf 268) (rf 269) (rf 270) 497 498))::
 (272,(fo "takes" "Lean.takes" Qnq .none "stitchroom.stitches" 247 271))::
 (285,(cO "ties" "Lean.ties" 507 98 (i0 1) (rf 280) (rf 281) .none (rf 282) (rf 283) (rf 284) 512 513))::
 (286,(fo "ties" "Lean.ties" Qnp .none "stitchroom.stitches" 247 285))::
 (309,(ob "dict" (Data.dict #[(dm P 478 "stitchroom.stitches" 247),(dl P 482 85 481),(dR P "__init__" 492 265),(dR P "takes" 499 272),(dR P "gives" 506 279),(dR P "ties" 514 286),(dR P "mark" 521 293),(dR P "mirrored" 528 300),(dR P "turned" 535 307),(ds P 539 308),(hD P 540)] 2)))::
 (310,(Obj.mk (.type "type") none (Data.cls (ClassData.mk (so "Lean") [(rf 78)] [(rf 310),(rf 78),(.type "object")] 309 (so "Lean") true [] [] false none false)) #[(sr 252),none,(some (sv "Lean" 471)),(some (sv "Lean" 479)),(some (.builtin "object.__new__")),(some hT)]))::
 (325,(cO "__init__" "Grow.__init__" 555 115 (i0 3) (rf 320) (rf 321) .none (rf 322) (rf 323) (rf 324) 561 562))::
 (326,(fo "__init__" "Grow.__init__" Qno .none "stitchroom.stitches" 247 325))::
 (332,(cO "takes" "Grow.takes" 564 119 (i0 1) (rf 327) (rf 328) .none (rf 329) (rf 330) (rf 331) 568 569))::
 (333,(fo "takes" "Grow.takes" Qnn .none "stitchroom.stitches" 247 332))::
 (344,(cO "ties" "Grow.ties" 578 125 (i0 1) (rf 341) (rf 342) .none .none .none (rf 343) 581 582))::
 (345,(fo "ties" "Grow.ties" Qnm .none "stitchroom.stitches" 247 344))::
 (368,(ob "dict" (Data.dict #[(dm P 550 "stitchroom.stitches" 247),(dl P 554 113 553),(dR P "__init__" 563 326),(dR P "takes" 570 333),(dR P "gives" 577 340),(dR P "ties" 583 345),(dR P "mark" 590 352),(dR P "mirrored" 597 359),(dR P "turned" 604 366),(ds P 607 367),(hD P 608)] 2)))::
 (369,(Obj.mk (.type "type") none (Data.cls (ClassData.mk (so "Grow") [(rf 78)] [(rf 369),(rf 78),(.type "object")] 368 (so "Grow") true [] [] false none false)) #[(sr 313),none,(some (sv "Grow" 543)),(some (sv "Grow" 551)),(some (.builtin "object.__new__")),(some hT)]))::
 (384,(cO "__init__" "Cross.__init__" 623 138 (i0 5) (rf 379) (rf 380) .none (rf 381) (rf 382) (rf 383) 631 632))::
 (385,(fo "__init__" "Cross.__init__" Qnl .none "stitchroom.stitches" 247 384))::
 (391,(cO "takes" "Cross.takes" 634 144 (i0 1) (rf 386) (rf 387) .none (rf 388) (rf 389) (rf 390) 638 639))::
 (392,(fo "takes" "Cross.takes" Qnk .none "stitchroom.stitches" 247 391))::
 (403,(cO "ties" "Cross.ties" 648 150 (i0 1) (rf 400) (rf 401) .none .none .none (rf 402) 651 652))::
 (404,(fo "ties" "Cross.ties" Qnj .none "stitchroom.stitches" 247 403))::
 (427,(ob "dict" (Data.dict #[(dm P 618 "stitchroom.stitches" 247),(dl P 622 136 621),(dR P "__init__" 633 385),(dR P "takes" 640 392),(dR P "gives" 647 399),(dR P "ties" 653 404),(dR P "mark" 660 411),(dR P "mirrored" 667 418),(dR P "turned" 674 425),(ds P 679 426),(hD P 680)] 2)))::
 (428,(Obj.mk (.type "type") none (Data.cls (ClassData.mk (so "Cross") [(rf 78)] [(rf 428),(rf 78),(.type "object")] 427 (so "Cross") true [] [] false none false)) #[(sr 372),none,(some (sv "Cross" 611)),(some (sv "Cross" 619)),(some (.builtin "object.__new__")),(some hT)]))::
 (443,(cO "takes" "Off.takes" 695 166 (i0 1) (rf 438) (rf 439) .none (rf 440) (rf 441) (rf 442) 699 700))::
 (444,(fo "takes" "Off.takes" Qni .none "stitchroom.stitches" 247 443))::
 (457,(cO "ends" "Off.ends" 709 172 (i0 1) (rf 452) (rf 453) .none (rf 454) (rf 455) (rf 456) 713 714))::
 (458,(fo "ends" "Off.ends" Qnh .none "stitchroom.stitches" 247 457))::
 (481,(ob "dict" (Data.dict #[(dm P 690 "stitchroom.stitches" 247),(dl P 694 164 693),(dR P "takes" 701 444),(dR P "gives" 708 451),(dR P "ends" 715 458),(dR P "mark" 722 465),(dR P "mirrored" 729 472),(dR P "turned" 736 479),(ds P 737 480),(hD P 738)] 2)))::
 (482,(Obj.mk (.type "type") none (Data.cls (ClassData.mk (so "Off") [(rf 78)] [(rf 482),(rf 78),(.type "object")] 481 (so "Off") true [] [] false none false)) #[(sr 431),none,(some (sv "Off" 683)),(some (sv "Off" 691)),(some (.builtin "object.__new__")),(some hT)]))::
 (497,(cO "__init__" "Keep.__init__" 753 185 (i0 2) (rf 492) (rf 493) .none (rf 494) (rf 495) (rf 496) 758 759))::
 (498,(fo "__init__" "Keep.__init__" Qng .none "stitchroom.stitches" 247 497))::
 (504,(cO "takes" "Keep.takes" 761 188 (i0 1) (rf 499) (rf 500) .none (rf 501) (rf 502) (rf 503) 765 766))::
 (505,(fo "takes" "Keep.takes" Qnf .none "stitchroom.stitches" 247 504))::
 (518,(cO "ends" "Keep.ends" 775 194 (i0 1) (rf 513) (rf 514) .none (rf 515) (rf 516) (rf 517) 779 780))::
 (519,(fo "ends" "Keep.ends" Qne .none "stitchroom.stitches" 247 518))::
 (542,(ob "dict" (Data.dict #[(dm P 748 "stitchroom.stitches" 247),(dl P 752 183 751),(dR P "__init__" 760 498),(dR P "takes" 767 505),(dR P "gives" 774 512),(dR P "ends" 781 519),(dR P "mark" 788 526),(dR P "mirrored" 795 533),(dR P "turned" 802 540),(ds P 804 541),(hD P 805)] 2)))::
 (543,(Obj.mk (.type "type") none (Data.cls (ClassData.mk (so "Keep") [(rf 78)] [(rf 543),(rf 78),(.type "object")] 542 (so "Keep") true [] [] false none false)) #[(sr 485),none,(some (sv "Keep" 741)),(some (sv "Keep" 749)),(some (.builtin "object.__new__")),(some hT)]))::
 (553,(tu #[.none,.none] 0))::
 (557,(cO "__init__" "Needles.__init__" 822 208 (i0 5) (rf 554) (rf 555) .none .none .none (rf 556) 825 826))::
 (558,(fo "__init__" "Needles.__init__" Qnd (rf 553) "stitchroom.needles" 808 557))::
 (559,(tu #[hF] 0))::
 (563,(cO "work" "Needles.work" 828 222 (i0 3) (rf 560) (rf 561) .none .none .none (rf 562) 831 832))::
 (564,(fo "work" "Needles.work" Qnc (rf 559) "stitchroom.needles" 808 563))::
 (568,(cO "web" "Needles.web" 834 236 (i0 1) (rf 565) (rf 566) .none .none .none (rf 567) 837 838))::
 (569,(fo "web" "Needles.web" Qnb .none "stitchroom.needles" 808 568))::
 (575,(cO "lying_on" "Needles.lying_on" 840 242 (i0 2) (rf 570) (rf 571) .none (rf 572) (rf 573) (rf 574) 845 846))::
 (576,(fo "lying_on" "Needles.lying_on" Qna .none "stitchroom.needles" 808 575))::
 (580,(cO "refuse_misfit" "Needles.refuse_misfit" 848 245 (i0 4) (rf 577) (rf 578) .none .none .none (rf 579) 851 852))::
 (581,(fo "refuse_misfit" "Needles.refuse_misfit" Qm9 .none "stitchroom.needles" 808 580))::
 (585,(cO "work_stitch" "Needles.work_stitch" 854 256 (i0 3) (rf 582) (rf 583) .none .none .none (rf 584) 857 858))::
 (586,(fo "work_stitch" "Needles.work_stitch" Qm8 .none "stitchroom.needles" 808 585))::
 (590,(cO "seen" "Needles.seen" 860 270 (i0 3) (rf 587) (rf 588) .none .none .none (rf 589) 863 864))::
 (591,(fo "seen" "Needles.seen" Qm7 .none "stitchroom.needles" 808 590))::
 (597,(cO "in_order" "Needles.in_order" 866 275 (i0 2) (rf 592) (rf 593) .none (rf 594) (rf 595) (rf 596) 871 872))::
 (598,(fo "in_order" "Needles.in_order" Qm6 .none "stitchroom.needles" 808 597))::
 (604,(cO "make_ready" "Needles.make_ready" 874 278 (i0 1) (rf 599) (rf 600) .none (rf 601) (rf 602) (rf 603) 879 880))::
 (605,(fo "make_ready" "Needles.make_ready" Qm5 .none "stitchroom.needles" 808 604))::
 (607,(ob "dict" (Data.dict #[(dm P 817 "stitchroom.needles" 808),(dl P 821 206 820),(dR P "__init__" 827 558),(dR P "work" 833 564),(dR P "web" 839 569),(dR P "lying_on" 847 576),(dR P "refuse_misfit" 853 581),(dR P "work_stitch" 859 586),(dR P "seen" 865 591),(dR P "in_order" 873 598),(dR P "make_ready" 881 605),(ds P 889 606),(dR P "__dict__" 891 609),(dR P "__weakref__" 893 610),(hD P 894)] 4)))::
 (608,(Obj.mk (.type "type") none (Data.cls (ClassData.mk (so "Needles") [(.type "object")] [(rf 608),(.type "object")] 607 (so "Needles") true [] [] false none false)) #[none,none,(some (sv "Needles" 810)),(some (sv "Needles" 818)),(some (.builtin "object.__new__")),(some hT)]))::
 (609,(ob "getset_descriptor" (Data.fields #[(sv "__dict__" 890),(rf 608),(.builtin "function.__dict__"),(.builtin "function.__dict__#set")])))::
 (610,(ob "getset_descriptor" (Data.fields #[(sv "__weakref__" 892),(rf 608),(.builtin "ExceptionGroup.__weakref__"),.none])))::
 (623,(cO "__init__" "Course.__init__" 909 289 (i0 3) (rf 620) (rf 621) .none .none .none (rf 622) 912 913))::
 (624,(fo "__init__" "Course.__init__" Qm4 .none "stitchroom.needles" 808 623))::
 (626,(ob "dict" (Data.dict #[(dm P 904 "stitchroom.needles" 808),(dl P 908 287 907),(dR P "__init__" 914 624),(ds P 919 625),(dR P "__dict__" 921 628),(dR P "__weakref__" 923 629),(hD P 924)] 4)))::
 (627,(Obj.mk (.type "type") none (Data.cls (ClassData.mk (so "Course") [(.type "object")] [(rf 627),(.type "object")] 626 (so "Course") true [] [] false none false)) #[none,none,(some (sv "Course" 897)),(some (sv "Course" 905)),(some (.builtin "object.__new__")),(some hT)]))::
 (628,(ob "getset_descriptor" (Data.fields #[(sv "__dict__" 920),(rf 627),(.builtin "function.__dict__"),(.builtin "function.__dict__#set")])))::
 (629,(ob "getset_descriptor" (Data.fields #[(sv "__weakref__" 922),(rf 627),(.builtin "ExceptionGroup.__weakref__"),.none])))::
 (635,(cO "new_names" "new_names" 927 294 (i0 2) (rf 632) (rf 633) .none .none .none (rf 634) 930 931))::
 (636,(fo "new_names" "new_names" Qm3 .none "stitchroom.needles" 808 635))::
 (640,(cO "new_many" "new_many" 933 296 (i0 1) (rf 637) (rf 638) .none .none .none (rf 639) 936 937))::
 (641,(fo "new_many" "new_many" Qm2 .none "stitchroom.needles" 808 640))::
 (647,(cO "fetches_of" "fetches_of" 939 301 (i0 1) (rf 642) (rf 643) .none (rf 644) (rf 645) (rf 646) 948 949))::
 (648,(fo "fetches_of" "fetches_of" Qm1 .none "stitchroom.needles" 808 647))::
 (654,(cO "_law_cell_at" "_law_cell_at" 953 312 (i0 2) (rf 649) (rf 650) .none (rf 651) (rf 652) (rf 653) 958 959))::
 (655,(fo "_law_cell_at" "_law_cell_at" Qm0 .none "law_stitchroom_k21_one_row" 951 654))::
 (661,(cO "_law_stitch" "_law_stitch" 961 316 (i0 2) (rf 656) (rf 657) .none (rf 658) (rf 659) (rf 660) 968 969))::
 (662,(fo "_law_stitch" "_law_stitch" QmZ .none "law_stitchroom_k21_one_row" 951 661))::
 (668,(cO "_law_row" "_law_row" 971 331 (i0 3) (rf 663) (rf 664) .none (rf 665) (rf 666) (rf 667) 981 982))::
 (669,(fo "_law_row" "_law_row" QmY .none "law_stitchroom_k21_one_row" 951 668))::
 (673,(cO "_law_wired" "_law_wired" 984 347 (i0 4) (rf 670) (rf 671) .none .none .none (rf 672) 987 988))::
 (674,(fo "_law_wired" "_law_wired" QmX .none "law_stitchroom_k21_one_row" 951 673))::
 (680,(cO "_law_same" "_law_same" 990 370 (i0 2) (rf 675) (rf 676) .none (rf 677) (rf 678) (rf 679) 997 998))::
 (681,(fo "_law_same" "_law_same" QmW .none "law_stitchroom_k21_one_row" 951 680))::
 (685,(cO "law" "law" 1000 386 (i0 1) (rf 682) (rf 683) .none .none .none (rf 684) 1003 1004))::
 (686,(fo "law" "law" QkI .none "law_stitchroom_k21_one_row" 951 685))::[]
noncomputable def KA:List Addr:=[2,3,30,31,32,50,51,54,67,68,74,75,77,78,79,80,95,96,102,103,116,117,140,141,156,157,170,171,194,195,210,211,224,225,248,249,264,265,271,272,285,286,309,310,325,326,332,333,344,345,368,369,384,385,391,392,403,404,427,428,443,444,457,458,481,482,497,498,504,505,518,519,542,543,553,557,558,559,563,564,568,569,575,576,580,581,585,586,590,591,597,598,604,605,607,608,609,610,623,624,626,627,628,629,635,636,640,641,647,648,654,655,661,662,668,669,673,674,680,681,685,686]
theorem hKA:∀P,KA=(K P).map (·.1):=fun _=>by kernel_rfl
noncomputable abbrev hXt:Shared->Bool:=fun s=>W.xlAt hq [] s&&W.recOk (W.RowW.records hr) s
theorem hop:W.opening hp=W.plainProg hp.main.scope.names:=by kernel_rfl
theorem hfm:∀s,PySem.fenceModules? hp s=some s:=fun s=>by kernel_rfl
theorem hbo:∀w:World,W.absHeap (hB.t w.params) hB.n hB.life=W.boot_heap w.params:=fun w=>by kernel_rfl
theorem hsz:∀w:World,((W.boot_heap w.params).isNs mainGlobals,(W.boot_heap w.params).objs.size,(W.boot_heap w.params).nsMap mainGlobals "__annotations__")=(true,11,some (.ref 6)):=fun w=>by kernel_rfl
noncomputable abbrev hYf:Shared->List (Option Obj):=fun s=>KA.map s.heap.get?
noncomputable abbrev hYa:World->List (Option Obj):=fun w=>(K w.params).map fun p=>some p.2
noncomputable abbrev hN:Nat:=10276
noncomputable abbrev hn6:Option Value:=some (.ref 6)
abbrev hS(w:World):Prop:=Iv.RunT hp hq hlo hXt hYf hYa 10276 true hB 11 (some (.ref 6)) w
noncomputable abbrev fr(x q:Str)(s:Stmt)(d k:Value):Obj:=⟨.none,none,.func ⟨x,q,Jz s,.stmts (Zs s),Qy s,0,[],d,k,.none,.none,none,.none,.none,0⟩,#[]⟩
noncomputable abbrev hbd:List Stmt:=W.behindTheImports hp
noncomputable def eV:Env:={ scope:=hp.main.scope,locals:=mainNs,globals:=mainNs,cells:=[],code:=(Value.ref 13),frame:=some 14 }
noncomputable abbrev hcd:Code:=.body hbd eV
noncomputable abbrev hqp:Pos:=(Pos.mk 0 0 0 0)
noncomputable abbrev nd(v:Obj)(l r:W.BT):W.BT:=.node v l r
noncomputable abbrev nl(v:Obj):W.BT:=.node v .nil .nil
noncomputable def n0(P:Params):Obj:=(Obj.mk .none none (Data.fields #[]) #[])
noncomputable def n1(P:Params):Obj:=(oc (#[(sv "<module>" 182),(sv "<module>" 183),(hC 184),(i0 1),z0,z0,z0,z0,(rf 11),hF,(i0 181),(rf 12),.none,.none,.none,.none,(i0 185),(i0 1),(hC 186)]))
noncomputable def n2(P:Params):Obj:=(Obj.mk (.type "frame") none Data.plain #[(sr 13),(sr 3),(sr 3),none,(some (sv "__main__" 164)),none,(sr 0)])
noncomputable def Ta(P:Params):W.BT:=(nd (W.boot_o_0 P) (nd (W.boot_o_1 P) (nd (W.boot_o_3 P) (nl (W.boot_o_7 P)) (nl (tu #[] 0))) (nd (W.boot_o_5 P) (nl (W.boot_o_9 P)) (nl (n1 P)))) (nd (W.boot_o_2 P) (nd (W.boot_o_4 P) (nl (W.boot_o_8 P)) (nl (n0 P))) (nd (W.boot_o_6 P) (nl (W.boot_o_10 P)) (nl (n2 P)))))
noncomputable abbrev Sa(w:World)(os:OsState):W.SharedT:=⟨Ta w.params,15,(Life.mk [] [] [] 0 [] [] Bool.false #[] [] 0 Bool.false Bool.false Bool.false 0 [2000,10,10] Bool.false 0 Bool.true [] [] 0 Bool.false),Array.mk [],(Drawn.mk 0 0 0 0),187,os⟩
noncomputable def Tb(P:Params):W.BT:=(nd (W.boot_o_0 P) (nd (W.boot_o_1 P) (nd (W.boot_o_3 P) (nl (W.boot_o_7 P)) (nl (tu #[] 0))) (nd (W.boot_o_5 P) (nl (W.boot_o_9 P)) (nl (n1 P)))) (nd (W.boot_o_2 P) (nd (W.boot_o_4 P) (nl (W.boot_o_8 P)) (nl (n0 P))) (nd (W.boot_o_6 P) (nl (W.boot_o_10 P)) (nl (n2 P)))))
noncomputable abbrev Sb(w:World)(os:OsState):W.SharedT:=⟨Tb w.params,15,(Life.mk [] [] [] 0 [] [] Bool.false #[] [] 0 Bool.false Bool.false Bool.false 0 [2000,10,10] Bool.false 0 Bool.true [] [] 0 Bool.false),Array.mk [],(Drawn.mk 0 0 0 0),187,os⟩
noncomputable def n3(P:Params):Obj:=(ob "builtin_function_or_method" (Data.fields #[(.builtin "type.__prepare__"),(.type "type")]))
noncomputable def T1(P:Params):W.BT:=(nd (W.boot_o_0 P) (nd (W.boot_o_1 P) (nd (ob "dict" (Data.dict #[(dk P "__name__" 165 (sv "stitchroom.stitches" 247)),(hD P 166),(dk P "__package__" 167 .none),(dk P "__loader__" 168 (.builtin "__main__.__loader__#opaque")),(dk P "__spec__" 169 .none),(dR P "__annotations__" 170 6),(dR P "__builtins__" 171 4),(dk P "__file__" 173 (hC 172)),(dk P "__cached__" 174 .none),(dR P "_wall" 193 21),(dR P "StitchError" 213 31),(dR P "Miscount" 246 51),(dR P "KEEPERS" 253 54),(dR P "Stitch" 287 78)] 14)) (nd (W.boot_o_7 P) (nd (tu #[] 0) (nd (Obj.mk (.type "type") none (Data.cls (ClassData.mk (so "StitchError") [(.type "ValueError")] [(rf 31),(.type "ValueError"),(.type "Exception"),(.type "BaseException"),(.type "object")] 30 (so "StitchError") true [] [(rf 51)] false none false)) #[(sr 22),none,(some (sv "StitchError" 196)),(some (sv "StitchError" 204)),(some (.builtin "ValueError.__new__")),(some hT)]) (nl (n0 P)) .nil) (nd (cO "__init__" "Miscount.__init__" 226 9 (i0 6) (rf 42) (rf 43) .none (rf 44) (rf 45) (rf 46) 235 236) (nl (ob "getset_descriptor" (Data.fields #[(sv "__dict__" 281),(rf 78),(.builtin "function.__dict__"),(.builtin "function.__dict__#set")]))) .nil)) (nd (n3 P) (nd (Obj.mk .none none (Data.fields #[(i0 9),(i0 4),(rf 47)]) #[]) (nl (tu #[(sv "self" 276)] 0)) .nil) (nl (tu #[] 0)))) (nd (tu #[] 0) (nd (fr (so "_wall") (so "_wall") (top 0) .none .none) (nd (tu #[(rf 31)] 0) (nl (cO "ties" "Stitch.ties" 266 20 (i0 1) (rf 62) (rf 63) .none (rf 64) (rf 65) (rf 66) 270 271)) .nil) (nl (Obj.mk (.type "type") none (Data.cls (ClassData.mk (so "Miscount") [(rf 31)] [(rf 51),(rf 31),(.type "ValueError"),(.type "Exception"),(.type "BaseException"),(.type "object")] 50 (so "Miscount") true [] [] false none false)) #[(sr 35),none,(some (sv "Miscount" 214)),(some (sv "Miscount" 222)),(some (.builtin "ValueError.__new__")),(some hT)]))) (nd (oc (#[(sv "StitchError" 198),(sv "StitchError" 199),(hC 200),(i0 5),z0,z0,z0,z0,(rf 25),hF,(i0 181),(rf 26),.none,.none,.none,.none,(i0 201),(i0 5),(hC 202)])) (nd (n0 P) (nl (fo "ends" "Stitch.ends" st1 .none "stitchroom.stitches" 247 74)) .nil) (nl (Obj.mk .none none (Data.fields #[(i0 20),(i0 4),(rf 67),(i0 23),(i0 4),(rf 74)]) #[]))))) (nd (W.boot_o_5 P) (nd (W.boot_o_9 P) (nd (tu #[(sv "k" 190)] 0) (nd (ob "super" (Data.fields #[(rf 31),(rf 31),(rf 31)])) (nl (tu #[] 0)) .nil) (nd (tu #[(sv "asked" 238),(sv "choice" 239),(sv "lies" 240),(sv "place" 241),(sv "row" 242)] 0) (nl (ob "super" (Data.fields #[(rf 78),(rf 78),(rf 78)]))) .nil)) (nd (tu #[] 0) (nd (Obj.mk (.type "frame") none Data.plain #[(sr 40),(sr 3),(sr 37),none,(some (sv "stitchroom.errors" 194)),none,(sr 0)]) (nl (fr (so "ends") (so "Stitch.ends") st1 .none .none)) .nil) (nl (ob "dict" (Data.dict #[(dm P 261 "stitchroom.stitches" 247),(dq P 263 "Stitch" 262),(dl P 265 18 264),(dR P "ties" 272 68),(dR P "ends" 279 75),(ds P 280 76)] 6))))) (nd (n1 P) (nd (fo "_wall" "_wall" (top 0) .none "__main__" 164 20) (nd (ob "dict" (Data.dict #[(dm P 221 "stitchroom.errors" 194),(dq P 223 "Miscount" 222),(dl P 225 7 224),(dR P "__init__" 237 48),(ds P 243 49)] 5)) (nl (tu #[] 0)) .nil) (nl (ob "builtin_function_or_method" (Data.fields #[(.builtin "object.__init_subclass__"),(rf 51)])))) (nd (tu #[] 0) (nd (tu #[] 0) (nl (ob "dict" (Data.dict #[(dm P 261 "stitchroom.stitches" 247),(dl P 265 18 264),(dR P "ties" 272 68),(dR P "ends" 279 75),(ds P 280 76),(dR P "__dict__" 282 79),(dR P "__weakref__" 284 80),(hD P 285)] 4))) .nil) (nl (Obj.mk (.type "frame") none Data.plain #[(sr 60),(sr 3),(sr 57),none,(some (sv "stitchroom.stitches" 247)),none,(sr 0)])))))) (nd (W.boot_o_2 P) (nd (W.boot_o_4 P) (nd (W.boot_o_8 P) (nd (n0 P) (nd (ob "getset_descriptor" (Data.fields #[(sv "__weakref__" 209),(rf 31),(.builtin "ExceptionGroup.__weakref__"),.none])) (nl (tu #[(sv "self" 269)] 0)) .nil) (nd (fo "__init__" "Miscount.__init__" (Qm (top 3) 0) .none "stitchroom.errors" 194 47) (nl (ob "getset_descriptor" (Data.fields #[(sv "__weakref__" 283),(rf 78),(.builtin "ExceptionGroup.__weakref__"),.none]))) .nil)) (nd (ob "dict" (Data.dict #[(dm P 203 "stitchroom.errors" 194),(dq P 205 "StitchError" 204),(dl P 207 5 206),(ds P 208 29)] 4)) (nd (oc (#[(sv "Miscount" 216),(sv "Miscount" 217),(hC 218),(i0 7),z0,z0,z0,z0,(rf 38),hF,(i0 181),(rf 39),.none,.none,.none,.none,(i0 219),(i0 7),(hC 220)])) (nl (tu #[] 0)) .nil) (nl (n3 P)))) (nd (Obj.mk .none none (Data.fields #[(i0 1),z0,(rf 20),(i0 5),z0,(rf 27),(i0 7),z0,(rf 40),(i0 18),z0,(rf 60)]) #[]) (nd (cO "_wall" "_wall" 187 1 (i0 1) (rf 15) (rf 16) .none (rf 17) (rf 18) (rf 19) 191 192) (nd (n3 P) (nl (fo "ties" "Stitch.ties" st0 .none "stitchroom.stitches" 247 67)) .nil) (nl (ob "super" (Data.fields #[(rf 51),(rf 51),(rf 51)])))) (nd (Obj.mk (.type "frame") none Data.plain #[(sr 27),(sr 3),(sr 24),none,(some (sv "stitchroom.errors" 194)),none,(sr 0)]) (nd (tu #[(sv "self" 229),(sv "row" 230),(sv "place" 231),(sv "choice" 232),(sv "lies" 233),(sv "asked" 234)] 0) (nl (tu #[] 0)) .nil) (nl (oc (#[(sv "Stitch" 256),(sv "Stitch" 257),(hC 258),(i0 18),z0,z0,z0,z0,(rf 58),hF,(i0 181),(rf 59),.none,.none,.none,.none,(i0 259),(i0 18),(hC 260)])))))) (nd (W.boot_o_6 P) (nd (W.boot_o_10 P) (nd (tu #[] 0) (nd (ob "builtin_function_or_method" (Data.fields #[(.builtin "object.__init_subclass__"),(rf 31)])) (nl (fr (so "ties") (so "Stitch.ties") st0 .none .none)) .nil) (nd (ob "dict" (Data.dict #[(dm P 221 "stitchroom.errors" 194),(dl P 225 7 224),(dR P "__init__" 237 48),(ds P 243 49),(hD P 244)] 2)) (nl (ob "builtin_function_or_method" (Data.fields #[(.builtin "object.__init_subclass__"),(rf 78)]))) .nil)) (nd (n0 P) (nd (tu #[] 0) (nl (cO "ends" "Stitch.ends" 273 23 (i0 1) (rf 69) (rf 70) .none (rf 71) (rf 72) (rf 73) 277 278)) .nil) (nl (tu #[] 0)))) (nd (n2 P) (nd (tu #[(.type "ValueError")] 0) (nd (tu #[] 0) (nl (n0 P)) .nil) (nl (tu #[(sv "w" 249),(sv "x" 250),(sv "y" 251),(sv "z" 252)] 0))) (nd (ob "dict" (Data.dict #[(dm P 203 "stitchroom.errors" 194),(dl P 207 5 206),(ds P 208 29),(dR P "__weakref__" 210 32),(hD P 211)] 3)) (nd (fr (so "__init__") (so "Miscount.__init__") (Qm (top 3) 0) .none .none) (nl (Obj.mk (.type "type") none (Data.cls (ClassData.mk (so "Stitch") [(.type "object")] [(rf 78),(.type "object")] 77 (so "Stitch") true [] [] false none false)) #[none,none,(some (sv "Stitch" 254)),(some (sv "Stitch" 262)),(some (.builtin "object.__new__")),(some hT)])) .nil) (nl (tu #[] 0)))))))
noncomputable abbrev S1(w:World)(os:OsState):W.SharedT:=⟨T1 w.params,83,(Life.mk [] [] [] 0 [] [] Bool.false #[] [] 0 Bool.false Bool.false Bool.false 0 [2000,10,10] Bool.false 0 Bool.true [] [] 0 Bool.false),Array.mk [],(Drawn.mk 0 0 0 0),288,os⟩
abbrev PA(w:World):Prop:=∀os:OsState,Iv.topGoT treeTable hp w 11 hn6 12 (hB.at w os) (W.topStub hp)=some (Sa w os,⟨denote treeTable hcd,hcd,(Pos.mk 0 0 0 0),[W.topFrame hqp]⟩)
theorem Qj0:∀w,PA w:=fun w os=>by kernel_rfl
abbrev PB(w:World):Prop:=∀os:OsState,Iv.segRunT treeTable hp w 11 hn6 1 1 (Sa w os) (W.blockOf hbd eV hcd (Pos.mk 0 0 0 0) [W.topFrame hqp])=some (.next,Sb w os,hcd,(Pos.mk 0 0 0 0))
theorem QjZ:∀w,PB w:=fun w os=>by kernel_rfl
abbrev PC1(w:World):Prop:=∀os:OsState,Iv.segRunT treeTable hp w 11 hn6 1 752 (Sb w os) (W.piecesOf (hbd.take 7) eV hcd (Pos.mk 0 0 0 0) [W.topFrame hqp])=some (.next,S1 w os,hcd,(Pos.mk 18 0 24 17))
theorem Qhl:∀w,PC1 w:=fun w os=>by kernel_rfl
abbrev PF(w:World):Prop:=∀os:OsState,(Iv.topRunT treeTable hp w 11 hn6 9511 (S1 w os) (W.restOf (hbd.drop 7) eV hcd (Pos.mk 18 0 24 17) [W.topFrame hqp])).map (Iv.vF hp hq w)=some (Iv.gF hq)
theorem QjY:∀w,PF w:=fun w os=>by kernel_rfl
abbrev PK(w:World):Prop:=∀os:OsState,(Iv.topRunT treeTable hp w 11 hn6 9511 (S1 w os) (W.restOf (hbd.drop 7) eV hcd (Pos.mk 18 0 24 17) [W.topFrame hqp])).map (Iv.vK hp hq hlo hXt true)=some (true,true,true)
theorem QjW:∀w,PK w:=fun w os=>by kernel_rfl
abbrev PL(w:World):Prop:=∀os:OsState,(Iv.topRunT treeTable hp w 11 hn6 9511 (S1 w os) (W.restOf (hbd.drop 7) eV hcd (Pos.mk 18 0 24 17) [W.topFrame hqp])).map (Iv.vL hq hlo)=some (Iv.gL hq hlo)
theorem QjV:∀w,PL w:=fun w os=>by kernel_rfl
abbrev PG(w:World):Prop:=∀os:OsState,(Iv.topRunT treeTable hp w 11 hn6 9511 (S1 w os) (W.restOf (hbd.drop 7) eV hcd (Pos.mk 18 0 24 17) [W.topFrame hqp])).map (fun s=>hYf s.abs)=some (hYa w)
theorem QjX:∀w,PG w:=fun w os=>by kernel_rfl
theorem QoF(w:World)(os:OsState):Iv.Gl2 hp w 11 hn6 (Iv.seenAll hp hq hlo hXt hYf true w) (true,W.openGood hq hlo,hYa w) 10276 (hB.at w os) (W.topStub hp):=by
 have f:=Iv.ch_fin (F:=Iv.seenAll hp hq hlo hXt hYf true w) (a:=(true,W.openGood hq hlo,hYa w)) (Iv.looks3 (QjY w os) (QjW w os) (QjV w os) (QjX w os));have f:=Iv.ch_cut 7 (Qhl w os) f;exact Iv.ch_pre (Qj0 w os) (Iv.ch_blk (QjZ w os) f)
theorem hleft:W.LeftO hp hq hlo hXt hYf hYa 10276 true:=Iv.left_pieces hop (by decide) hfm hbo hsz QoF
theorem ltS{l:List α}{x:α}(e:l[p]?=some x):p<l.length:=(List.getElem?_eq_some_iff.mp e).1
theorem QdY{l:Hs}{x:O}(e:p<l.length):(l.set p x)[p]?=some x:=List.getElem?_set_self e
theorem at0{a:O}{r:Hs}:(hs++a::r)[hs.length]?=some a:=by rw [List.getElem?_append_right (Nat.le_refl _),Nat.sub_self];rfl
theorem JS{a c:O}{r:Hs}:(hs++a::r).set hs.length c=hs++c::r:=by rw [List.set_append_right _ _ (Nat.le_refl _),Nat.sub_self];rfl
section
variable {a o:E}
theorem eq_int{i j:Int}:eqA T (.int i 0) (.int j 0) hs=some (decide (i=j)):=rfl
theorem eq_str{x:List Nat}:eqA T (.str x) (.str y) hs=some (decide (x=y)):=rfl
theorem QK{b:Bool}:Yl T (.bl b) hs=some b:=rfl
theorem QmT:ex T cf (d+1) (.fld o f e) Z hs=bd (ev T cf d e Z hs) fun u h1=>bd (ev T cf d o Z h1) fun x h2=>match x with
   | .ref n=>match h2[n]? with
    | some (.ins c fs)=>if fs.length<500 then some (.next,Z,h2.set n (.ins c (Zm f u fs)))else none
    | _=>none
   | _=>none:=rfl
theorem Qk2:ev T cf (d+1) (.fld a f) Z hs=bd (ev T cf d a Z hs) fun u h1=>match u with
   | .ref n=>match h1[n]? with
    | some (.ins _ fs)=>(fs.lookup f).map fun x=>(x,h1)
    | _=>none
   | _=>none:=rfl
theorem Qd3:ev T cf (d+1) (.make c es) Z hs=bd (evs (ev T cf d) Z es hs) fun us h1=>Q5 T cf c us h1:=rfl
theorem Qk1:ev T cf (d+1) (.meth m o es) Z hs=bd (ev T cf d o Z hs) fun u h1=>match Z5 T m u h1 with
   | some f=>bd (evs (ev T cf d) Z es h1) fun us h2=>cf f (u::(us++QaL T f (us.length+1))) h2
   | none=>none:=rfl
theorem QmS:ev T cf (d+1) (.tupR es) Z hs=bd (evs (ev T cf d) Z es hs) fun us h1=>match Qfp us with|some xs=>some (.ref h1.length,h1++[.tup xs])|none=>none:=rfl
theorem QkF:ev T cf (d+1) (.rev a) Z hs=bd (ev T cf d a Z hs) fun u h1=>match QU T u h1 with|some xs=>some (.ref h1.length,h1++[.lst xs.reverse])|none=>none:=rfl
end
theorem Qdh{T:Tbl}{w:Wk}{t:Tg}{body:Ex}(I:Nat->Rho->Hs->Prop){n:Nat}
  (st:∀i,i<n->∀Z hs,I i Z hs->∃x ρ' ρ2 h2,itm T w i hs=some (some x)/\tgt t x Z hs=some ρ'/\body ρ' hs=some (.next,ρ2,h2)/\I (i+1) ρ2 h2)
  (en:∀Z hs,I n Z hs->itm T w n hs=some none):
  ∀(m i k:Nat) (Z:Rho) (hs:Hs),n=i+m->m<k->I i Z hs->∃ρ2 h2,Qds T w t body k i Z hs=some (.next,ρ2,h2)/\I n ρ2 h2
 | m,i,0,Z,hs,e,l,h=>by lia
 | 0,i,k+1,Z,hs,e,l,h=>by
  have e':n=i:=by lia
  subst e'
  exact⟨Z,hs,by simp only [Qds,en Z hs h],h⟩
 | m+1,i,k+1,Z,hs,e,l,h=>by
  obtain⟨x,ρ',ρ1,h1,a,b,c,d⟩:=st i (by lia) Z hs h
  obtain⟨ρ2,h2,g1,g2⟩:=Qdh I st en m (i+1) k ρ1 h1 (by lia) (by lia) d
  exact⟨ρ2,h2,by simp only [Qds,a,b,c,g1],g2⟩
theorem Qhz{T:Tbl}{f:Ev}{ft:Rho->Hs->Option (Bool×Hs)}{w:Wk}{el:E}{Z:Rho}(I:Nat->List U->Hs->Prop){n:Nat}
  (st:∀i,i<n->∀acc hs,I i acc hs->acc.length<1000000/\∃x u h2,itm T w i hs=some (some (.one x))/\ft ((Z++[none]).set Z.length (some x)) hs=some (true,hs)/\f el ((Z++[none]).set Z.length (some x)) hs=some (u,h2)/\I (i+1) (acc++[u]) h2)
  (en:∀acc hs,I n acc hs->itm T w n hs=some none):
  ∀(m i k:Nat) (acc:List U) (hs:Hs),n=i+m->m<k->I i acc hs->∃us h2,Zn T f ft w false el Z k i acc hs=some (us,h2)/\I n us h2
 | m,i,0,acc,hs,e,l,h=>by lia
 | 0,i,k+1,acc,hs,e,l,h=>by
  have e':n=i:=by lia
  subst e'
  exact⟨acc,hs,by simp only [Zn,en acc hs h],h⟩
 | m+1,i,k+1,acc,hs,e,l,h=>by
  obtain⟨la,x,u,h1,a,b,c,d⟩:=st i (by lia) acc hs h
  obtain⟨us,h2,g1,g2⟩:=Qhz I st en m (i+1) k _ h1 (by lia) (by lia) d
  refine⟨us,h2,?_,g2⟩;rw [Zn];simp only [a,tgt,tgN,Qey,Bool.false_eq_true,if_false,la,if_true,b,Qh,c,g1]
theorem Jq{α β:Type}{P:α->β->Prop}:∀{l:List α} {r:List β},Paired P l r->∀{i:Nat} {b:β},r[i]?=some b->∃a,l[i]?=some a/\P a b
 | _,_,.nil,i,b,h=>by simp at h
 | _,_,.cons h t,0,b,e=>by
  simp only [List.getElem?_cons_zero,Option.some.injEq]at e ⊢;subst e;exact⟨_,rfl,h⟩
 | _,_,.cons h t,i+1,b,e=>by
  simp only [List.getElem?_cons_succ]at e ⊢;exact Jq t e
noncomputable abbrev Gt:=Nat->Option O
def Ge(g g':Gt):Prop:=∀p o,g p=some o->g' p=some o
noncomputable abbrev Hg(hs:Hs):Gt:=fun p=>hs[p]?
def Kp(hs hs':Hs):Prop:=Ge (Hg hs) (Hg hs')
theorem Qo{r:Hs}(h:hs[p]?=some o):(hs++r)[p]?=some o:=by
 rw [List.getElem?_append_left (ltS h)];exact h
theorem Kp.refl(hs:Hs):Kp hs hs:=fun _ _ h=>h
theorem Kp.app(hs r:Hs):Kp hs (hs++r):=fun _ _ h=>Qo h
theorem Kp.trans{a b c:Hs}(h:Kp a b)(h':Kp b c):Kp a c:=fun p o e=>h' p o (h p o e)
theorem Kp.put{a b:Hs}(h:Kp a b)(hj:a.length<=j):Kp a (b.set j o):=fun p x e=>by
 have lt:=(ltS e);show(b.set j o)[p]?=_
 rw [List.getElem?_set_ne (by lia)]
 exact h p x e
theorem Qj{α β:Type}{P Q:α->β->Prop}(h:∀a b,P a b->Q a b):∀{l:List α} {r:List β},Paired P l r->Paired Q l r
 | _,_,.nil=>.nil
 | _,_,.cons a t=>.cons (h _ _ a) (Qj h t)
theorem Qf{α β:Type}{P:α->β->Prop}:∀{l:List α} {r:List β},Paired P l r->l.length=r.length
 | _,_,.nil=>rfl
 | _,_,.cons _ t=>congrArg (· + 1) (Qf t)
theorem QH{l:List α}{a:α}(h:l[i]?=some a):l.take (i+1)=l.take i++[a]:=by
 rw [List.take_add_one,h];rfl
theorem Jb{k:Nat}(I:Nat->Rho->Hs->Prop)(hv:ev T cf (d+1) e Z h0=some (.ref p,hs))(hp:hs[p]?=some (.lst us))(kp:∀i Z h,I i Z h->h[p]?=some (.lst us))
  (st:∀i u,us[i]?=some u->∀Z h,I i Z h->∃ρ2 h2,exs T cf (d+1) body (Z.set k (some u)) h=some (.next,ρ2,h2)/\I (i+1) ρ2 h2) (z0:I 0 Z hs):
  ∃ρ2 h2,ex T cf (d+2) (.loop (.name k) (.seq e) body) Z h0=some (.next,ρ2,h2)/\I us.length ρ2 h2:=by
 obtain⟨ρ2,h2,e2,i2⟩:=Qdh (T:=T) (w:=.seqL (.ref p)) (t:=.name k) (body:=exs T cf (d+1) body) I (n:=us.length)
  (fun i hi Z h z=>by
   obtain⟨ρ2,h2,e,z2⟩:=st i us[i] (List.getElem?_eq_getElem hi) Z h z
   exact⟨.one us[i],_,ρ2,h2,by simp [itm,QU,kp _ _ _ z,hi],rfl,e,z2⟩)
  (fun Z h z=>by simp [itm,QU,kp _ _ _ z]) us.length 0 (us.length+1) Z hs (by lia) (by lia) z0
 refine⟨ρ2,h2,?_,i2⟩;rw [Qa2]
 have sr:Zi T (ev T cf (d+1)) Z (.seq e) h0=some (.seqL (.ref p),hs):=by simp only [Zi,hv,Qh,wkS,QU,hp,Option.map_some]
 have tn:Zg T (.seqL (.ref p)) hs=us.length+1:=by simp only [Zg,QU,hp,Option.getD_some]
 rw [sr,Qh,tn];exact e2
theorem Yj{k:Nat}(I:Nat->Rho->Hs->Prop)(hv:Z[j]?=some (some (.ref p)))(hp:hs[p]?=some (.lst us))(kp:∀i Z h,I i Z h->h[p]?=some (.lst us))
  (st:∀i u,us[i]?=some u->∀Z h,I i Z h->∃ρ2 h2,exs T cf (d+1) body (Z.set k (some u)) h=some (.next,ρ2,h2)/\I (i+1) ρ2 h2) (h0:I 0 Z hs):
  ∃ρ2 h2,ex T cf (d+2) (.loop (.name k) (.seq (.var j)) body) Z hs=some (.next,ρ2,h2)/\I us.length ρ2 h2:=Jb I (by rw [Qq,hv]) hp kp st h0
theorem Qct{w:Wk}(I:Nat->List U->Hs->Prop)(hv:ev T cf (d+1) e Z h0=some (.ref p,hs))(hw:wkS T (.ref p) hs=some w)(ht:Zg T w hs=us.length+1)(hl:us.length<=1000000)(kp:∀i acc h,I i acc h->(∀j,itm T w j h=some ((us[j]?).map .one))/\acc.length<=i)
  (st:∀i u,us[i]?=some u->∀acc h,I i acc h->∃v h2,ev T cf (d+1) el (Z++[some u]) h=some (v,h2)/\I (i+1) (acc++[v]) h2) (z0:I 0 [] hs):
  ∃vs h2,ev T cf (d+2) (.comp (.seq e) false none el) Z h0=some (.ref h2.length,h2++[.lst vs])/\I us.length vs h2:=by
 have sx:∀x:U,(Z++[none]).set Z.length (some x)=Z++[some x]:=fun x=>by
  rw [List.set_append_right _ _ (Nat.le_refl _),Nat.sub_self];rfl
 obtain⟨vs,h2,e2,i2⟩:=Qhz (T:=T) (f:=ev T cf (d+1)) (ft:=Qaf (evT T cf (d+1)) none) (w:=w) (el:=el) (Z:=Z) I (n:=us.length)
  (fun i hi acc h z=>by
   obtain⟨v,h2,e,z2⟩:=st i us[i] (List.getElem?_eq_getElem hi) acc h z
   refine⟨by have:=(kp _ _ _ z).2;lia,us[i],v,h2,by rw [(kp _ _ _ z).1,List.getElem?_eq_getElem hi];rfl,rfl,?_,z2⟩
   rw [sx]
   exact e)
  (fun acc h z=>by rw [(kp _ _ _ z).1];simp) us.length 0 (us.length+1) [] hs (by lia) (by lia) z0
 refine⟨vs,h2,?_,i2⟩;rw [JI];simp only [Zi,hv,Qh,hw,Option.map_some,ht,e2]
theorem Qf4(I:Nat->List U->Hs->Prop)(hv:ev T cf (d+1) e Z h0=some (.ref p,hs))(hp:hs[p]?=some (.lst us))(hl:us.length<=1000000)(kp:∀i acc h,I i acc h->h[p]?=some (.lst us)/\acc.length<=i)
  (st:∀i u,us[i]?=some u->∀acc h,I i acc h->∃v h2,ev T cf (d+1) el (Z++[some u]) h=some (v,h2)/\I (i+1) (acc++[v]) h2) (z0:I 0 [] hs):
  ∃vs h2,ev T cf (d+2) (.comp (.seq e) false none el) Z h0=some (.ref h2.length,h2++[.lst vs])/\I us.length vs h2 :=
 Qct I hv (w:=.seqL (.ref p)) (by simp only [wkS,QU,hp]) (by simp only [Zg,QU,hp,Option.getD_some]) hl (fun i acc h z=>⟨fun j=>by simp only [itm,QU,(kp i acc h z).1,Option.map_some],(kp i acc h z).2⟩) st z0
theorem Qf3(I:Nat->List U->Hs->Prop)(hv:ev T cf (d+1) e Z h0=some (.ref p,hs))(hp:hs[p]?=some (.tup us))(hl:us.length<=1000000)(kp:∀i acc h,I i acc h->h[p]?=some (.tup us)/\acc.length<=i)
  (st:∀i u,us[i]?=some u->∀acc h,I i acc h->∃v h2,ev T cf (d+1) el (Z++[some u]) h=some (v,h2)/\I (i+1) (acc++[v]) h2) (z0:I 0 [] hs):
  ∃vs h2,ev T cf (d+2) (.comp (.seq e) false none el) Z h0=some (.ref h2.length,h2++[.lst vs])/\I us.length vs h2 :=
 Qct I hv (w:=.seqT (.ref p)) (by simp only [wkS,QU,Qas,hp]) (by simp only [Zg,Qas,hp,Option.getD_some]) hl (fun i acc h z=>⟨fun j=>by simp only [itm,Qas,(kp i acc h z).1,Option.map_some],(kp i acc h z).2⟩) st z0
theorem Q0{α β:Type}{P:α->β->Prop}:∀{l:List α} {r:List β},Paired P l r->∀{i:Nat} {a:α},l[i]?=some a->∃b,r[i]?=some b/\P a b
 | _,_,.nil,i,b,h=>by simp at h
 | _,_,.cons h t,0,b,e=>by
  simp only [List.getElem?_cons_zero,Option.some.injEq]at e ⊢;subst e;exact⟨_,rfl,h⟩
 | _,_,.cons h t,i+1,b,e=>by
  simp only [List.getElem?_cons_succ]at e ⊢;exact Q0 t e
theorem QR{α β:Type}{P:α->β->Prop}:∀{l:List α} {r:List β} {a:α} {b:β},Paired P l r->P a b->Paired P (l++[a]) (r++[b])
 | _,_,_,_,.nil,h=>.cons h .nil
 | _,_,_,_,.cons a t,h=>.cons a (QR t h)
theorem Qcu{lo:Int}{src:Src}(I:Nat->List U->Hs->Prop)(sr:Zi T (ev T cf (d+1)) Z src h0=some (.rng lo n,hs))(kp:∀i acc h,I i acc h->acc.length<1000000)
  (st:∀i,i<n->∀acc h,I i acc h->∃v h2,ev T cf (d+1) el (Z++[some (.int (lo+i) 0)]) h=some (v,h2)/\I (i+1) (acc++[v]) h2) (z0:I 0 [] hs):
  ∃vs h2,ev T cf (d+2) (.comp src false none el) Z h0=some (.ref h2.length,h2++[.lst vs])/\I n vs h2:=by
 have sx:∀x:U,(Z++[none]).set Z.length (some x)=Z++[some x]:=fun x=>by
  rw [List.set_append_right _ _ (Nat.le_refl _),Nat.sub_self];rfl
 obtain⟨vs,h2,e2,i2⟩:=Qhz (T:=T) (f:=ev T cf (d+1)) (ft:=Qaf (evT T cf (d+1)) none) (w:=.rng lo n) (el:=el) (Z:=Z) I (n:=n)
  (fun i hi acc h z=>by
   obtain⟨v,h2,e,z2⟩:=st i hi acc h z
   refine⟨kp _ _ _ z,.int (lo+i) 0,v,h2,by simp [itm,hi],rfl,?_,z2⟩
   rw [sx]
   exact e)
  (fun acc h z=>by simp [itm]) n 0 (n+1) [] hs (by lia) (by lia) z0
 refine⟨vs,h2,?_,i2⟩;rw [JI,sr,Qh];show bd (Zn _ _ _ _ _ _ _ (n+1) 0 [] hs) _=_;rw [e2,Qh]
section
variable {lo:Int}{src:Src}{D:Gt->U->α->Prop}{xs:List α}
theorem ZT(mo:∀g g' u x,Ge g g'->D g u x->D g' u x)(sr:Zi T (ev T cf (d+1)) Z src h0=some (.rng lo n,hs))(hn:xs.length=n)(hl:n<1000000)
  (st:∀(i:Nat) x,xs[i]?=some x->∀h,Kp hs h->∃v h2,ev T cf (d+1) el (Z++[some (.int (lo+i) 0)]) h=some (v,h2)/\Kp h h2/\D (Hg h2) v x):
  ∃vs h2,ev T cf (d+2) (.comp src false none el) Z h0=some (.ref h2.length,h2++[.lst vs])/\Kp hs h2/\Paired (D (Hg h2)) vs xs:=by
 obtain⟨vs,h2,e,k,i,p⟩:=Qcu (T:=T) (cf:=cf) (d:=d) (el:=el) (Z:=Z) (h0:=h0) (fun i acc h=>Kp hs h/\i<=n/\Paired (D (Hg h)) acc (xs.take i)) sr
  (fun i acc h z=>by have:=Qf z.2.2;simp at this;lia)
  (fun i hi acc h z=>by
   have hx:xs[i]?=some xs[i]:=List.getElem?_eq_getElem (by lia)
   obtain⟨v,h2,e,k,p⟩:=st i _ hx h z.1
   exact⟨v,h2,e,z.1.trans k,hi,by rw [QH hx];exact QR (Qj (fun _ _ q=>mo _ _ _ _ k q) z.2.2) p⟩)
  ⟨Kp.refl hs,Nat.zero_le _,.nil⟩
 rw [<-hn,List.take_length]at p;exact⟨vs,h2,e,k,p⟩
theorem Qcv(mo:∀g g' u x,Ge g g'->D g u x->D g' u x)(hv:ev T cf (d+1) e Z h0=some (.ref p,hs))(hp:hs[p]?=some (.lst us))(hn:us.length=xs.length)(hl:us.length<1000000)
  (st:∀(i:Nat) u x,us[i]?=some u->xs[i]?=some x->∀h,Kp hs h->∃v h2,ev T cf (d+1) el (Z++[some u]) h=some (v,h2)/\Kp h h2/\D (Hg h2) v x):
  ∃vs h2,ev T cf (d+2) (.comp (.seq e) false none el) Z h0=some (.ref h2.length,h2++[.lst vs])/\Kp hs h2/\Paired (D (Hg h2)) vs xs:=by
 obtain⟨vs,h2,e,k,i,p⟩:=Qf4 (T:=T) (cf:=cf) (d:=d) (el:=el) (Z:=Z) (h0:=h0) (fun i acc h=>Kp hs h/\i<=us.length/\Paired (D (Hg h)) acc (xs.take i)) hv hp (Nat.le_of_lt hl)
  (fun i acc h z=>⟨z.1 _ _ hp,by have:=Qf z.2.2;simp at this;lia⟩)
  (fun i u hu acc h z=>by
   have hi:=(ltS hu)
   have hx:xs[i]?=some xs[i]:=List.getElem?_eq_getElem (by lia)
   obtain⟨v,h2,e,k,p⟩:=st i u _ hu hx h z.1
   exact⟨v,h2,e,z.1.trans k,hi,by rw [QH hx];exact QR (Qj (fun _ _ q=>mo _ _ _ _ k q) z.2.2) p⟩)
  ⟨Kp.refl hs,Nat.zero_le _,.nil⟩
 rw [hn,List.take_length]at p;exact⟨vs,h2,e,k,p⟩
end
inductive Ti where
 | nw (ps:List Int) (s l:Int)|sm
def DTi(g:Gt)(u:U):Ti->Prop
 | .nw ps s l=>∃p q,u=.ref p/\g p=some (.tup [.str Z2,.ref q,.int s 0,.int l 0])/\g q=some (.tup (ps.map fun i=>.int i 0))
 | .sm=>∃p,u=.ref p/\g p=some (.tup [.str Jc,.int 0 0])
def DEn(g:Gt)(u:U)(w:List Nat):Prop:=∃p,u=.ref p/\g p=some (.tup [.int 0 0,.str w])
structure Sp where
 tk:Nat
 ts:List Ti
 es:List (List Nat)
theorem DTi.mono{g g':Gt}(h:Ge g g'){t:Ti}(z:DTi g u t):DTi g' u t:=by
 cases t with
 | nw ps s l=>obtain⟨p,q,e,e1,e2⟩:=z;exact⟨p,q,e,h _ _ e1,h _ _ e2⟩
 | sm=>obtain⟨p,e,e1⟩:=z;exact⟨p,e,h _ _ e1⟩
def Qfd{α:Type}(s:List U)(f:Nat)(D:Gt->U->α->Prop)(o:O)(xs:List α):Prop:=∀n p h,h[p]?=some o->∃h' us,Qa (tb s) (n+1) f [.ref p] h=some (.ref h'.length,h'++[.lst us])/\Kp h h'/\Paired (D (Hg h')) us xs
def St(s:List U)(o:O)(sp:Sp):Prop:=∃c fs C f0 f1 f2,o=.ins c fs/\(tb s).cls[c]?=some C/\C.meths.lookup 0=some f0/\C.meths.lookup 1=some f1/\C.meths.lookup 2=some f2/\(f0<23/\f1<23/\f2<23) /\
 Qfd s f0 DTi o sp.ts/\Qfd s f1 DEn o sp.es/\∀n p h,h[p]?=some o->Qa (tb s) (n+1) f2 [.ref p] h=some (.int sp.tk 0,h)
section

theorem Qac{D:Gt->U->α->Prop}:Qfd s 0 D o []/\Qfd s 1 D o []:=⟨fun n p h e=>⟨h,[],by
  rw [Qk fnL[0] rfl rfl]
  rfl,Kp.refl h,.nil⟩,fun n p h e=>⟨h,[],by
  rw [Qk fnL[1] rfl rfl]
  rfl,Kp.refl h,.nil⟩⟩
theorem QcC{F:Fn}(hF:(tb s).fns[f]?=some F)(hp:F.np=1)(hb:F.body=[.ret (.c (.int 1 0))]):∀n p h,h[p]?=some o->Qa (tb s) (n+1) f [.ref p] h=some (.int 1 0,h):=fun n p h e=>by
 rw [Qk F hF (show [U.ref p].length=F.np from hp.symm),hb];rfl
theorem Qbd:St s (.ins 1 [(0,.int x 0)]) ⟨1,[.nw [0] x 0],[]⟩:=by
 refine⟨1,_,_,4,1,3,rfl,rfl,rfl,rfl,rfl,(by decide),fun n p h e=>⟨h++[.tup [.int 0 0]]++[.tup [.str Z2,.ref h.length,.int x 0,.int 0 0]],_,?_,(Kp.app _ _).trans (Kp.app _ _),.cons ⟨h.length+1,h.length,rfl,?_,?_⟩ .nil⟩,Qac.2,QcC (F:=fnL[3]) rfl rfl rfl⟩
 ·rw [Qk fnL[4] rfl rfl];show fin (exs (tb s) (Qa (tb s) n) 100 b4 [some (.ref p)] h)=_;generalize Qa (tb s) n=cf;generalize tb s=T;simp [b4,Qd,Qs,QN,QX,Ze,QC,Qr,QG,y_c,Qq,Qh,ZP,eq_str,eq_int,QK,evs,ZC,Yg,opU,Zd,QY,fin,Qk2,Qo e,Z2]
 ·simp [Hg]
 ·simp [Hg]
theorem Qgc:St s (.ins 2 []) ⟨1,[.sm],[]⟩:=by
 refine⟨2,_,_,6,1,5,rfl,rfl,rfl,rfl,rfl,(by decide),fun n p h e=>⟨h++[.tup [.str Jc,.int 0 0]],_,?_,Kp.app _ _,.cons ⟨h.length,rfl,by simp [Hg]⟩ .nil⟩,Qac.2,QcC (F:=fnL[5]) rfl rfl rfl⟩
 rw [Qk fnL[6] rfl rfl];rfl
theorem Qgd:St s (.ins 3 []) ⟨0,[.nw [] 0 0],[]⟩:=by
 refine⟨3,_,_,8,1,7,rfl,rfl,rfl,rfl,rfl,(by decide),fun n p h e=>⟨h++[.tup []]++[.tup [.str Z2,.ref h.length,.int 0 0,.int 0 0]],_,?_,(Kp.app _ _).trans (Kp.app _ _),.cons ⟨h.length+1,h.length,rfl,?_,?_⟩ .nil⟩,Qac.2,fun n p h e=>?_⟩
 ·rw [Qk fnL[8] rfl rfl];show fin (exs (tb s) (Qa (tb s) n) 100 b8 [some (.ref p)] h)=_;generalize Qa (tb s) n=cf;generalize tb s=T;simp [b8,Qd,Qs,QN,QX,Ze,QC,Qr,QG,y_c,Qq,Qh,ZP,eq_str,eq_int,QK,evs,ZC,Yg,opU,Zd,QY,fin,Z2]
 ·simp [Hg]
 ·simp [Hg]
 ·rw [Qk fnL[7] rfl rfl];rfl
theorem Qis:St s (.ins 7 []) ⟨1,[],[ZA]⟩:=by
 refine⟨7,_,_,0,19,18,rfl,rfl,rfl,rfl,rfl,(by decide),Qac.1,fun n p h e=>⟨h++[.tup [.int 0 0,.str ZA]],_,?_,Kp.app _ _,.cons ⟨h.length,rfl,by simp [Hg]⟩ .nil⟩,QcC (F:=fnL[18]) rfl rfl rfl⟩
 rw [Qk fnL[19] rfl rfl];rfl
theorem Qgf:St s (.ins 8 [(5,.str w)]) ⟨1,[],[w]⟩:=by
 refine⟨8,_,_,0,22,21,rfl,rfl,rfl,rfl,rfl,(by decide),Qac.1,fun n p h e=>⟨h++[.tup [.int 0 0,.str w]],_,?_,Kp.app _ _,.cons ⟨h.length,rfl,by simp [Hg]⟩ .nil⟩,QcC (F:=fnL[21]) rfl rfl rfl⟩
 rw [Qk fnL[22] rfl rfl];show fin (exs (tb s) (Qa (tb s) n) 100 b22 [some (.ref p)] h)=_;generalize Qa (tb s) n=cf;generalize tb s=T;simp [b22,Qd,Qs,QN,QX,Ze,QC,Qr,QG,y_c,Qq,Qh,ZP,eq_str,eq_int,QK,evs,ZC,Yg,opU,Zd,QY,fin,Qk2,e]
end
theorem Zo{a:E}{fs:List (Nat×U)}(ha:ev T cf d a Z h0=some (.ref n,hs))(hn:hs[n]?=some (.ins c fs))(hl:fs.lookup f=some u):ev T cf (d+1) (.fld a f) Z h0=some (u,hs):=by
 rw [Qk2,ha,Qh];simp only [hn,hl,Option.map_some]
noncomputable def lnP(m w:Nat):List Int:=if w=114 then((List.range m).map fun i:Nat=>(i:Int)).reverse else(List.range m).map fun i:Nat=>(i:Int)
theorem Qlz(h:m∈[2,3,4]):Qfp [.int ((m:Int) - 1) 0,.int (-1) 0,.int (-1) 0]=some ((lnP m 114).map fun i=>.int i 0)/\Qfp [.int m 0]=some ((lnP m 108).map fun i=>.int i 0):=by
 simp only [List.mem_cons,List.not_mem_nil,or_false]at h
 rcases h with rfl|rfl|rfl<;>exact⟨rfl,rfl⟩
section
variable {m:Int}
theorem QjE(e:h[p]?=some (.ins 4 [(1,.int m 0),(2,.str [114]),(0,.int x 0)]))(r1:Qfp [.int (m-1) 0,.int (-1) 0,.int (-1) 0]=some zs):
  exs T cf (d+12) b11 [some (.ref p),none] h=some (.ret (.ref (h.length+2)),[some (.ref p),some (.ref h.length)],h++[.tup zs]++[.tup [.str Z2,.ref h.length,.int x 0,.int 0 0]]++[.lst [.ref (h.length+1)]]):=by
 have f2:∀d,ev T cf (d+2) (.fld (.var 0) 2) [some (.ref p),none] h=some (.str [114],h):=fun d=>Zo rfl e rfl;have f1:∀d,ev T cf (d+2) (.fld (.var 0) 1) [some (.ref p),none] h=some (.int m 0,h):=fun d=>Zo rfl e rfl;have f0:∀d u,ev T cf (d+2) (.fld (.var 0) 0) [some (.ref p),some u] (h++[.tup zs])=some (.int x 0,h++[.tup zs]):=fun d u=>Zo rfl (Qo e) rfl;simp [b11,Qd,Qs,QN,QX,Ze,QC,Qr,QG,y_c,Qq,Qh,ZP,eq_str,eq_int,QK,evs,ZC,Yg,opU,Zd,QY,f2,f1,f0,QmS,Qlp,gz,r1,Z2]
theorem QjF(e:h[p]?=some (.ins 4 [(1,.int m 0),(2,.str [108]),(0,.int x 0)]))(r1:Qfp [.int m 0]=some zs):
  exs T cf (d+12) b11 [some (.ref p),none] h=some (.ret (.ref (h.length+2)),[some (.ref p),some (.ref h.length)],h++[.tup zs]++[.tup [.str Z2,.ref h.length,.int x 0,.int 0 0]]++[.lst [.ref (h.length+1)]]):=by
 have f2:∀d,ev T cf (d+2) (.fld (.var 0) 2) [some (.ref p),none] h=some (.str [108],h):=fun d=>Zo rfl e rfl;have f1:∀d,ev T cf (d+2) (.fld (.var 0) 1) [some (.ref p),none] h=some (.int m 0,h):=fun d=>Zo rfl e rfl;have f0:∀d u,ev T cf (d+2) (.fld (.var 0) 0) [some (.ref p),some u] (h++[.tup zs])=some (.int x 0,h++[.tup zs]):=fun d u=>Zo rfl (Qo e) rfl;simp [b11,Qd,Qs,QN,QX,Ze,QC,Qr,QG,y_c,Qq,Qh,ZP,eq_str,eq_int,QK,evs,ZC,Yg,opU,Zd,QY,f2,f1,f0,QmS,r1,Z2]
end
section

theorem Qge{w:Nat}(hm:m∈[2,3,4])(hw:w=114\/w=108):St s (.ins 4 [(1,.int m 0),(2,.str [w]),(0,.int x 0)]) ⟨m,[.nw (lnP m w) x 0],[]⟩:=by
 refine⟨4,_,_,11,1,10,rfl,rfl,rfl,rfl,rfl,(by decide),fun n p h e=>⟨h++[.tup ((lnP m w).map fun i=>.int i 0)]++[.tup [.str Z2,.ref h.length,.int x 0,.int 0 0]],[.ref (h.length+1)],?_,(Kp.app _ _).trans (Kp.app _ _),.cons ⟨h.length+1,h.length,rfl,?_,?_⟩ .nil⟩,Qac.2,fun n p h e=>?_⟩
 ·rw [Qk fnL[11] rfl rfl];show fin (exs (tb s) (Qa (tb s) n) (88+12) b11 [some (.ref p),none] h)=_;obtain⟨r1,r2⟩:=Qlz hm
  rcases hw with rfl|rfl
  ·rw [QjE e r1];simp [fin]
  ·rw [QjF e r2];simp [fin]
 ·simp [Hg]
 ·simp [Hg]
 ·rw [Qk fnL[10] rfl rfl];show fin (exs (tb s) (Qa (tb s) n) (88+12) b10 [some (.ref p)] h)=_;rw [show b10=[.ret (.fld (.var 0) 1)]from rfl,Qd,QN,Zo rfl e rfl,Qh];rfl
noncomputable def grT(m:Nat)(x:Int):List Ti:=(List.range m).map fun i:Nat=>.nw [0] (if(i:Int) % 2=0 then x else -x) 0
theorem Qnr{i:Int}(hs:QE (i*4)=true)(he:ev T cf d e Z h=some (.int i 0,h')):Zi T (ev T cf d) Z (.rng e) h=some (.rng 0 i.toNat,h'):=by
 simp only [Zi,he,Qh,hs,if_true]
theorem sm4{i:Int}(h0:0<=i)(h1:i<100000):QE (i*4)=true:=by
 simp only [QE,Bool.and_eq_true,decide_eq_true_eq];constructor
 ·have:(0:Int)<=i*4:=by lia
  exact Int.lt_of_lt_of_le (by decide) this
 ·have:i*4<400000:=by lia
  exact Int.lt_trans this (by decide)
theorem Qit(hm:m<1000)(he:ev T cf d e Z h=some (.int m 0,h')):Zi T (ev T cf d) Z (.rng e) h=some (.rng 0 m,h'):=Qnr (sm4 (Int.natCast_nonneg m) (by lia)) he
theorem Qj7{i:Int}{fs:List (Nat×U)}(e:h[p]?=some (.ins 5 fs))(l:fs.lookup 0=some (.int x 0)):
  ev T cf (d+8) elG [some (.ref p),some (.int i 0)] h=some (.ref (h.length+1),h++[.tup [.int 0 0]]++[.tup [.str Z2,.ref h.length,.int (if i % 2=0 then x else -x) 0,.int 0 0]]):=by
 have f0:∀d,ev T cf (d+2) (.fld (.var 0) 0) [some (.ref p),some (.int i 0)] (h++[.tup [.int 0 0]])=some (.int x 0,h++[.tup [.int 0 0]]):=fun d=>Zo rfl (Qo e) l;by_cases c:i % 2=0
 ·simp [elG,Qd,Qs,QN,QX,Ze,QC,Qr,QG,y_c,Qq,Qh,ZP,eq_str,eq_int,QK,evs,ZC,Yg,opU,Zd,QY,f0,JH,QjB,c]
 ·simp [elG,Qd,Qs,QN,QX,Ze,QC,Qr,QG,y_c,Qq,Qh,ZP,eq_str,eq_int,QK,evs,ZC,Yg,opU,Zd,QY,f0,JH,QjB,c]
theorem Qgg(hm:m∈[2,3,4]):St s (.ins 5 [(1,.int m 0),(0,.int x 0)]) ⟨1,grT m x,[]⟩:=by
 have hb:m<=4:=by
  simp only [List.mem_cons,List.not_mem_nil,or_false]at hm;lia
 refine⟨5,_,_,14,1,13,rfl,rfl,rfl,rfl,rfl,(by decide),fun n p h e=>?_,Qac.2,QcC (F:=fnL[13]) rfl rfl rfl⟩
 rw [Qk fnL[14] rfl rfl];show ∃h' us,fin (exs (tb s) (Qa (tb s) n) (88+12) b14 [some (.ref p)] h)=_/\_;generalize Qa (tb s) n=cf;generalize tb s=T
 obtain⟨vs,h2,e2,k,pr⟩:=ZT (T:=T) (cf:=cf) (d:=96) (lo:=0) (n:=m) (src:=.rng (.fld (.var 0) 1)) (Z:=[some (.ref p)]) (h0:=h) (hs:=h) (D:=DTi) (xs:=grT m x) (el:=elG)
  (fun _ _ _ _ g z=>z.mono g) (Qit (by lia) (Zo rfl e rfl)) (by simp [grT]) (by lia) fun i t hi h1 k1=>by
   simp only [grT,List.getElem?_map,Option.map_eq_some_iff]at hi;obtain⟨j,hj,rfl⟩:=hi;obtain⟨l,rfl⟩:=List.getElem?_eq_some_iff.mp hj;have e1:h1[p]?=some (.ins 5 [(1,.int m 0),(0,.int x 0)]):=k1 _ _ e
   refine⟨_,_,Qj7 (d:=89) e1 rfl,(Kp.app _ _).trans (Kp.app _ _),h1.length+1,h1.length,rfl,by simp [Hg],by simp [Hg]⟩
 exact⟨h2,vs,by rw [show b14=[.ret (.comp (.rng (.fld (.var 0) 1)) false none elG)]from rfl,Qd,QN,e2,Qh];rfl,k,pr⟩
end
noncomputable def crA(a b:Nat)(x l:Int):List Ti:=(List.range b).map fun i:Nat=>.nw [(a:Int)+i] x (-l)
noncomputable def crB(a:Nat)(x l:Int):List Ti:=(List.range a).map fun i:Nat=>.nw [0+(i:Int)] x l
noncomputable def lf(w:Nat):Int:=if w=102 then 1 else -1
theorem Qlr{i j:Int}(hi:QE (i*4)=true)(hj:QE (j*4)=true)(he:ev T cf d e Z h=some (.int i 0,h'))(he':ev T cf d e' Z h'=some (.int j 0,h2)):Zi T (ev T cf d) Z (.rng2 e e') h=some (.rng i (j-i).toNat,h2):=by
 simp only [Zi,he,he',Qh,hi,hj,Bool.and_self,if_true]
theorem QfK{li i:Int}{L:E}{fs:List (Nat×U)}(e:h[p]?=some (.ins 6 fs))(l0:fs.lookup 0=some (.int x 0))
  (hL:∀h,ev T cf (d+7) L [some (.ref p),some (.int li 0),u2,u3,some (.int i 0)] h=some (.int l 0,h)):
  ev T cf (d+8) (elC L) [some (.ref p),some (.int li 0),u2,u3,some (.int i 0)] h=some (.ref (h.length+1),h++[.tup [.int i 0]]++[.tup [.str Z2,.ref h.length,.int x 0,.int l 0]]):=by
 have f0:∀d,ev T cf (d+2) (.fld (.var 0) 0) [some (.ref p),some (.int li 0),u2,u3,some (.int i 0)] (h++[.tup [.int i 0]])=some (.int x 0,h++[.tup [.int i 0]]):=fun d=>Zo rfl (Qo e) l0;simp [elC,Qd,Qs,QN,QX,Ze,QC,Qr,QG,y_c,Qq,Qh,ZP,eq_str,eq_int,QK,evs,ZC,Yg,opU,Zd,QY,f0,hL]
theorem Qj2{f:Nat->Ti}{t:Ti}(h:((List.range b).map f)[i]?=some t):t=f i:=by
 simp only [List.getElem?_map,Option.map_eq_some_iff]at h;obtain⟨j,hj,rfl⟩:=h;obtain⟨l,rfl⟩:=List.getElem?_eq_some_iff.mp hj;simp
theorem Qkl(ha:hs[a]?=some (.lst xs))(hb:hs[b]?=some (.lst ys))(l:xs.length+ys.length<=1000000):QhP (.ref a) (.ref b) hs=some (.ref hs.length,hs++[.lst (xs++ys)]):=by
 simp only [QhP,ha,hb,QmC,l,if_true]
theorem QcX{α β:Type}{P:α->β->Prop}:∀{l l':List α} {r r':List β},Paired P l r->Paired P l' r'->Paired P (l++l') (r++r')
 | _,_,_,_,.nil,h=>h
 | _,_,_,_,.cons a t,h=>.cons a (QcX t h)
theorem Qec{w:Nat}(ha:a<=4)(hb:b<=4)(hw:w=102\/w=98):St s (.ins 6 [(3,.int a 0),(4,.int b 0),(2,.str [w]),(0,.int x 0)]) ⟨a+b,crA a b x (lf w)++crB a x (lf w),[]⟩:=by
 refine⟨6,_,_,17,1,16,rfl,rfl,rfl,rfl,rfl,(by decide),fun n p h e=>?_,Qac.2,fun n p h e=>?_⟩
 ·rw [Qk fnL[17] rfl rfl];show ∃h' us,fin (exs (tb s) (Qa (tb s) n) (88+12) b17 [some (.ref p),none,none,none] h)=_/\_;generalize Qa (tb s) n=cf;generalize tb s=T;generalize hl:lf w=li
  have e1:∀d,ev T cf (d+5) (.ife (.cmp .Eq (.fld (.var 0) 2) (.c (.str [102]))) (.c (.int 1 0)) (.neg (.c (.int 1 0)))) [some (.ref p),none,none,none] h=some (.int li 0,h):=fun d=>by
   have f2:∀d,ev T cf (d+2) (.fld (.var 0) 2) [some (.ref p),none,none,none] h=some (.str [w],h):=fun d=>Zo rfl e rfl;subst hl
   rcases hw with rfl|rfl
   ·simp [Qd,Qs,QN,QX,Ze,QC,Qr,QG,y_c,Qq,Qh,ZP,eq_str,eq_int,QK,evs,ZC,Yg,opU,Zd,QY,f2,JH,lf]
   ·simp [Qd,Qs,QN,QX,Ze,QC,Qr,QG,y_c,Qq,Qh,ZP,eq_str,eq_int,QK,evs,ZC,Yg,opU,Zd,QY,f2,JH,lf]
  have f3:∀d u u' u'' (g:Hs),Kp h g->ev T cf (d+2) (.fld (.var 0) 3) [some (.ref p),u,u',u''] g=some (.int a 0,g):=fun d u u' u'' g k=>Zo rfl (k _ _ e) rfl;have f4:∀d u u' u'' (g:Hs),Kp h g->ev T cf (d+2) (.fld (.var 0) 4) [some (.ref p),u,u',u''] g=some (.int b 0,g):=fun d u u' u'' g k=>Zo rfl (k _ _ e) rfl
  obtain⟨v1,h1,e2,k1,p1⟩:=ZT (T:=T) (cf:=cf) (d:=95) (lo:=a) (n:=b) (src:=.rng2 (.fld (.var 0) 3) (.op .Add (.fld (.var 0) 3) (.fld (.var 0) 4))) (Z:=[some (.ref p),some (.int li 0),none,none]) (h0:=h) (hs:=h) (D:=DTi) (xs:=crA a b x li) (el:=elC (.neg (.var 1)))
   (fun _ _ _ _ g z=>z.mono g) (by
    have:=Qlr (T:=T) (cf:=cf) (d:=96) (Z:=[some (.ref p),some (.int li 0),none,none]) (e:=.fld (.var 0) 3) (e':=.op .Add (.fld (.var 0) 3) (.fld (.var 0) 4)) (i:=a) (j:=(a:Int)+b) (sm4 (by lia) (by lia)) (sm4 (by lia) (by lia)) (f3 94 _ _ _ h (Kp.refl h)) (h2:=h) (by rw [ZC,f3 93 _ _ _ h (Kp.refl h),Qh,f4 93 _ _ _ h (Kp.refl h),Qh];rfl)
    rw [show((a:Int)+b-a).toNat=b by lia]at this
    exact this) (by simp [crA]) (by lia) fun i t hi h1 k1=>by
    cases Qj2 hi
    exact⟨_,_,QfK (d:=88) (l:=-li) (k1 _ _ e) rfl (fun h=>rfl),(Kp.app _ _).trans (Kp.app _ _),h1.length+1,h1.length,rfl,by simp [Hg],by simp [Hg]⟩
  have k1':Kp h (h1++[.lst v1]):=k1.trans (Kp.app _ _)
  obtain⟨v2,h2,e3,k2,p2⟩:=ZT (T:=T) (cf:=cf) (d:=94) (lo:=0) (n:=a) (src:=.rng (.fld (.var 0) 3)) (Z:=[some (.ref p),some (.int li 0),some (.ref h1.length),none]) (h0:=h1++[.lst v1]) (hs:=h1++[.lst v1]) (D:=DTi) (xs:=crB a x li) (el:=elC (.var 1))
   (fun _ _ _ _ g z=>z.mono g) (Qit (by lia) (f3 93 _ _ _ _ k1')) (by simp [crB]) (by lia) fun i t hi h1 k1=>by
    cases Qj2 hi
    exact⟨_,_,QfK (d:=87) (l:=li) (k1 _ _ (k1' _ _ e)) rfl (fun h=>rfl),(Kp.app _ _).trans (Kp.app _ _),h1.length+1,h1.length,rfl,by simp [Hg],by simp [Hg]⟩
  have l1:=Qf p1;have l2:=Qf p2;simp only [crA,crB,List.length_map,List.length_range]at l1 l2;have q1:(h2++[.lst v2])[h1.length]?=some (.lst v1):=Qo (k2 _ _ (show(h1++[.lst v1])[h1.length]?=_ from at0));have q2:(h2++[O.lst v2])[h2.length]?=some (.lst v2):=at0;have K:Kp h (h2++[.lst v2]):=(k1'.trans k2).trans (Kp.app _ _);refine⟨h2++[.lst v2],v1++v2,?_,K,QcX (Qj (fun _ _ z=>z.mono (((Kp.app _ _).trans k2).trans (Kp.app _ _))) p1) (Qj (fun _ _ z=>z.mono (Kp.app _ _)) p2)⟩;rw [show b17=[.set 1 (.ife (.cmp .Eq (.fld (.var 0) 2) (.c (.str [102]))) (.c (.int 1 0)) (.neg (.c (.int 1 0)))),.set 2 (.comp (.rng2 (.fld (.var 0) 3) (.op .Add (.fld (.var 0) 3) (.fld (.var 0) 4))) false none (elC (.neg (.var 1)))),.set 3 (.comp (.rng (.fld (.var 0) 3)) false none (elC (.var 1))),.ret (.op .Add (.var 2) (.var 3))]from rfl];rw [Qd,QX,e1,Qh]
  show fin (match some (Fl.next,[some (.ref p),some (.int li 0),none,none],h)with|some (.next,ρ1,h1)=>exs T cf (87+12) _ ρ1 h1|r=>r)=_
  show fin (exs T cf (87+12) _ [some (.ref p),some (.int li 0),none,none] h)=_;rw [Qd,QX,e2,Qh];show fin (exs T cf (86+12) _ [some (.ref p),some (.int li 0),some (.ref h1.length),none] (h1++[.lst v1]))=_;rw [Qd,QX,e3,Qh];show fin (exs T cf (85+12) _ [some (.ref p),some (.int li 0),some (.ref h1.length),some (.ref h2.length)] (h2++[.lst v2]))=_
  have ca:=Qkl q1 q2 (by lia)
  simp only [Qd,QN,ZC,Qq,List.getElem?_cons_succ,List.getElem?_cons_zero,Qh,opU,ca,fin]
 ·rw [Qk fnL[16] rfl rfl];show fin (exs (tb s) (Qa (tb s) n) (88+12) b16 [some (.ref p)] h)=_;rw [show b16=[.ret (.op .Add (.fld (.var 0) 3) (.fld (.var 0) 4))]from rfl,Qd,QN,ZC,Zo rfl e rfl,Qh,Zo rfl e rfl,Qh];simp [opU,QhP,gz,Qh,fin]
section
variable {i j:Int}
theorem Qda:opU .Add (.int i 0) (.int j 0) hs=some (.int (i+j) 0,hs):=rfl
theorem Jt:opU .Sub (.int i 0) (.int j 0) hs=some (.int (i-j) 0,hs):=rfl
theorem Qjt(h:QE j=true):opU .Mult (.int i 0) (.int j 0) hs=some (.int (i*j) 0,hs):=by
 simp only [opU,Qjz,h,Bool.or_true,Bool.true_or,if_true,Option.map_some]
theorem QeC(h:(decide (0<j)&&decide (j<1606938044258990275541962092341162602522202993782792835301376))=true):opU .FloorDiv (.int i 0) (.int j 0) hs=some (.int (i / j) 0,hs):=by
 simp only [opU,Qmt,h,if_true,Option.map_some]
theorem Qc9(h:0<j):opU .Mod (.int i 0) (.int j 0) hs=some (.int (i % j) 0,hs):=by
 simp only [opU,QjB,h,if_true,Option.map_some]
theorem d2:opU .FloorDiv (.int i 0) (.int 2 0) hs=some (.int (i / 2) 0,hs):=QeC (by decide)
theorem d4:opU .FloorDiv (.int i 0) (.int 4 0) hs=some (.int (i / 4) 0,hs):=QeC (by decide)
theorem d16:opU .FloorDiv (.int i 0) (.int 16 0) hs=some (.int (i / 16) 0,hs):=QeC (by decide)
theorem d32:opU .FloorDiv (.int i 0) (.int 32 0) hs=some (.int (i / 32) 0,hs):=QeC (by decide)
theorem m1:opU .Mod (.int i 0) (.int 1 0) hs=some (.int (i % 1) 0,hs):=Qc9 (by decide)
theorem m2:opU .Mod (.int i 0) (.int 2 0) hs=some (.int (i % 2) 0,hs):=Qc9 (by decide)
theorem m4:opU .Mod (.int i 0) (.int 4 0) hs=some (.int (i % 4) 0,hs):=Qc9 (by decide)
theorem m87:opU .Mod (.int i 0) (.int 87 0) hs=some (.int (i % 87) 0,hs):=Qc9 (by decide)
theorem x2:opU .Mult (.int i 0) (.int 2 0) hs=some (.int (i*2) 0,hs):=Qjt (by decide)
theorem x37:opU .Mult (.int i 0) (.int 37 0) hs=some (.int (i*37) 0,hs):=Qjt (by decide)
theorem Qe5:ZP T .Lt (.int i 0) (.int j 0) hs=some (decide (i<j)):=rfl
theorem QmG:ZP T .Gt (.int i 0) (.int j 0) hs=some (decide (j<i)):=rfl
theorem QnT:ZP T .LtE (.int i 0) (.int j 0) hs=some (decide (i<=j)):=rfl
theorem QmH:ZP T .Eq (.int i 0) (.int j 0) hs=some (decide (i=j)):=rfl
theorem QdK{x:List Nat}:ZP T .Eq (.str x) (.str y) hs=some (decide (x=y)):=rfl
theorem Qe3{x:List Nat}:ZP T .NotEq (.str x) (.str y) hs=some (!decide (x=y)):=rfl
theorem Qlw{x:List Nat}(hl:x.length<=1000000)(h:atU x i=some c):Q9 T (.str x) (.int i 0) hs=some (.str [c]):=by
 simp only [Q9,hl,if_true,h,Option.map_some]
end
section

theorem QhX(hC:(tb s).cls[c]?=some C)(hi:C.init=some f)(hz:QaL (tb s) f (us.length+1)=[])(hc:Qa (tb s) n f (.ref h.length::us) (h++[.ins c []])=some (.non,h2)):Q5 (tb s) (Qa (tb s) n) c us h=some (.ref h.length,h2):=by
 simp only [Q5,hC,hi,hz,List.append_nil,hc]
theorem QlZ(hC:(tb s).cls[c]?=some C)(hi:C.init=none):Q5 (tb s) (Qa (tb s) n) c [] h=some (.ref h.length,h++[.ins c []]):=by
 simp only [Q5,hC,hi,if_true]
theorem Zp{f c:Nat}{fs:List (Nat×U)}{r:List S}{h:Hs}(h0:Z[0]?=some (some (.ref p)))(hi:Z[i]?=some (some u))(hp:h[p]?=some (.ins c fs))(hl:fs.length<500):exs T cf (d+3) (.fld (.var 0) f (.var i)::r) Z h=exs T cf (d+2) r Z (h.set p (.ins c (Zm f u fs))):=by
 rw [Qd,QmT,Qq,hi,Qh,Qq];simp only [h0,Qh,hp,hl,if_true]
theorem Qbr:Q5 (tb s) (Qa (tb s) (n+1)) 1 [u] h=some (.ref h.length,h++[.ins 1 [(0,u)]]):=by
 refine QhX rfl rfl rfl ?_;rw [Qk fnL[2] rfl rfl];show fin (exs (tb s) (Qa (tb s) n) (97+3) [.fld (.var 0) 0 (.var 1)] [some (.ref h.length),some u] (h++[.ins 1 []]))=_
 rw [Zp rfl rfl at0 (by decide),JS,Qs]
 rfl
theorem Qg7:Q5 (tb s) (Qa (tb s) (n+1)) 8 [u] h=some (.ref h.length,h++[.ins 8 [(5,u)]]):=by
 refine QhX rfl rfl rfl ?_;rw [Qk fnL[20] rfl rfl];show fin (exs (tb s) (Qa (tb s) n) (97+3) [.fld (.var 0) 5 (.var 1)] [some (.ref h.length),some u] (h++[.ins 8 []]))=_
 rw [Zp rfl rfl at0 (by decide),JS,Qs]
 rfl
theorem Qg8{w:U}:Q5 (tb s) (Qa (tb s) (n+1)) 5 [u,w] h=some (.ref h.length,h++[.ins 5 [(1,u),(0,w)]]):=by
 refine QhX rfl rfl rfl ?_;rw [Qk fnL[12] rfl rfl];show fin (exs (tb s) (Qa (tb s) n) (97+3) [.fld (.var 0) 1 (.var 1),.fld (.var 0) 0 (.var 2)] [some (.ref h.length),some u,some w] (h++[.ins 5 []]))=_
 rw [Zp rfl rfl at0 (by decide),JS,Zp (d:=96) rfl rfl at0 (by simp [Zm]),JS,Qs]
 rfl
theorem Qg6{w x:U}:Q5 (tb s) (Qa (tb s) (n+1)) 4 [u,w,x] h=some (.ref h.length,h++[.ins 4 [(1,u),(2,w),(0,x)]]):=by
 refine QhX rfl rfl rfl ?_;rw [Qk fnL[9] rfl rfl];show fin (exs (tb s) (Qa (tb s) n) (97+3) [.fld (.var 0) 1 (.var 1),.fld (.var 0) 2 (.var 2),.fld (.var 0) 0 (.var 3)] [some (.ref h.length),some u,some w,some x] (h++[.ins 4 []]))=_
 rw [Zp rfl rfl at0 (by decide),JS,Zp (d:=96) rfl rfl at0 (by simp [Zm]),JS,Zp (d:=95) rfl rfl at0 (by simp [Zm]),JS,Qs]
 rfl
theorem QeE{w x y:U}:Q5 (tb s) (Qa (tb s) (n+1)) 6 [u,w,x,y] h=some (.ref h.length,h++[.ins 6 [(3,u),(4,w),(2,x),(0,y)]]):=by
 refine QhX rfl rfl rfl ?_;rw [Qk fnL[15] rfl rfl];show fin (exs (tb s) (Qa (tb s) n) (97+3) [.fld (.var 0) 3 (.var 1),.fld (.var 0) 4 (.var 2),.fld (.var 0) 2 (.var 3),.fld (.var 0) 0 (.var 4)] [some (.ref h.length),some u,some w,some x,some y] (h++[.ins 6 []]))=_
 rw [Zp rfl rfl at0 (by decide),JS,Zp (d:=96) rfl rfl at0 (by simp [Zm]),JS,Zp (d:=95) rfl rfl at0 (by simp [Zm]),JS,Zp (d:=94) rfl rfl at0 (by simp [Zm]),JS,Qs]
 rfl
end
def OkT(k:Nat):Ti->Prop
 | .nw ps _ _=>ps.length<=8/\∀i∈ps,0<=i/\i<k
 | .sm=>0<k
def Gd(ks:List Nat)(sp:Sp):Prop:=sp.tk<=8/\sp.ts.length<=8/\(∀t∈sp.ts,OkT sp.tk t)/\sp.es.length<=1/\∀w∈sp.es,0<sp.tk/\(w=ZA\/w=ks/\ks≠[])
theorem QeQ(ha:a<=4)(hb:b<=4):Gd ks ⟨a+b,crA a b x l++crB a x l,[]⟩:=by
 refine⟨by show a+b<=8;lia,by simp [crA,crB];lia,fun t m=>?_,by simp,fun w m=>by simp at m⟩
 simp only [List.mem_append,crA,crB,List.mem_map,List.mem_range]at m
 rcases m with⟨i,hi,rfl⟩|⟨i,hi,rfl⟩<;>(refine⟨by simp,fun j hj=>?_⟩;simp at hj;subst hj;show _/\_<((a+b:Nat):Int);constructor<;>lia)
theorem Qhp{w:Nat}(hm:m∈[2,3,4]):Gd ks ⟨m,[.nw (lnP m w) x 0],[]⟩:=by
 have hb:m<=8:=by
  simp only [List.mem_cons,List.not_mem_nil,or_false]at hm;lia
 refine⟨hb,by simp,fun t mt=>?_,by simp,fun w m=>by simp at m⟩
 simp only [List.mem_singleton]at mt;subst mt
 refine⟨by unfold lnP;split<;>simp<;>lia,fun i hi=>?_⟩
 have:i∈(List.range m).map fun i:Nat=>(i:Int):=by
  unfold lnP at hi;split at hi
  ·exact List.mem_reverse.mp hi
  ·exact hi
 simp only [List.mem_map,List.mem_range]at this;obtain⟨j,hj,rfl⟩:=this;show _/\_<(m:Int);constructor<;>lia
theorem Qhr(hm:m∈[2,3,4]):Gd ks ⟨1,grT m x,[]⟩:=by
 have hb:m<=8:=by
  simp only [List.mem_cons,List.not_mem_nil,or_false]at hm;lia
 refine⟨by show 1<=8;lia,by simp [grT];lia,fun t mt=>?_,by simp,fun w m=>by simp at m⟩
 simp only [grT,List.mem_map]at mt;obtain⟨i,_,rfl⟩:=mt
 refine⟨by simp,fun j hj=>?_⟩
 simp at hj;subst hj
 exact⟨Int.le_refl _,show(0:Int) < ((1:Nat):Int) by decide⟩
theorem Qby:Gd ks ⟨1,[.nw [0] x 0],[]⟩:=⟨by show 1<=8;lia,by simp,fun t m=>by
 simp only [List.mem_singleton]at m;subst m
 refine⟨by simp,fun j hj=>?_⟩
 simp at hj;subst hj
 exact⟨Int.le_refl _,show(0:Int) < ((1:Nat):Int) by decide⟩,by simp,fun w m=>by simp at m⟩
theorem Qhn:Gd ks ⟨1,[.sm],[]⟩:=⟨by show 1<=8;lia,by simp,fun t m=>by
 simp only [List.mem_singleton]at m;subst m
 exact Nat.one_pos,by simp,fun w m=>by simp at m⟩
theorem Qho:Gd ks ⟨0,[.nw [] 0 0],[]⟩:=⟨by show 0<=8;lia,by simp,fun t m=>by
 simp only [List.mem_singleton]at m;subst m
 refine⟨by simp,fun j hj=>?_⟩
 simp at hj,by simp,fun w m=>by simp at m⟩
theorem Qj1:Gd ks ⟨1,[],[ZA]⟩:=⟨by show 1<=8;lia,by simp,fun t m=>by simp at m,by simp,fun w m=>by
 simp only [List.mem_singleton]at m
 exact⟨Nat.one_pos,.inl m⟩⟩
theorem Qhq:Gd [c] ⟨1,[],[[c]]⟩:=⟨by show 1<=8;lia,by simp,fun t m=>by simp at m,by simp,fun w m=>by
 simp only [List.mem_singleton]at m
 exact⟨Nat.one_pos,.inr ⟨m,by simp⟩⟩⟩
def Mks(s:List U)(ks:List Nat)(h:Hs)(r:Option (U×Hs)):Prop:=∃p h' o sp,r=some (.ref p,h')/\Kp h h'/\h'[p]?=some o/\St s o sp/\Gd ks sp
theorem Mks.new{sp:Sp}(a:St s o sp)(b:Gd ks sp):Mks s ks h (some (.ref h.length,h++[o])):=⟨_,_,o,sp,rfl,Kp.app _ _,at0,a,b⟩
theorem at2{a b:α}{i:Int}(h0:0<=i)(h1:i<2):atU [a,b] i=some (if i=0 then a else b):=by
 rcases (show i=0\/i=1 by lia)with rfl|rfl<;>rfl
theorem at3{a b c:α}{i:Int}(h0:0<=i)(h1:i<3):atU [a,b,c] i=some (if i=0 then a else if i=1 then b else c):=by
 rcases (show i=0\/i=1\/i=2 by lia)with rfl|rfl|rfl<;>rfl
theorem QmV{i:Int}(h0:0<=i)(h1:i<2):Q9 T (.str [a,b]) (.int i 0) hs=some (.str [if i=0 then a else b]):=Qlw (show 2<=1000000 by decide) (at2 h0 h1)
section
variable {v y:Int}
theorem Qgx(h0:64<=v)(h1:v<87):Mks s ks h (fin (exs (tb s) (Qa (tb s) (n+1)) (d+20) Qfr [u0,u1,some (.int v 0),some (.int y 0)] h)):=by
 by_cases c1:v<76
 ·have e:=QmV (T:=tb s) (hs:=h) (a:=114) (b:=108) (i:=v / 2 % 2) (by lia) (by lia)
  have:=Mks.new (s:=s) (ks:=ks) (h:=h) (Qge (s:=s) (m:=(2+(v-64) / 4).toNat) (w:=if v / 2 % 2=0 then 114 else 108) (x:=1-v % 2*2) (by
   have:(2+(v-64) / 4).toNat=2\/(2+(v-64) / 4).toNat=3\/(2+(v-64) / 4).toNat=4:=by lia
   simpa using this) (by split;exact .inl rfl;exact .inr rfl)) (Qhp (by
   have:(2+(v-64) / 4).toNat=2\/(2+(v-64) / 4).toNat=3\/(2+(v-64) / 4).toNat=4:=by lia
   simpa using this))
  rw [show((2+(v-64) / 4).toNat:Int)=2+(v-64) / 4 by lia]at this
  simp [Qfr,Qd,QX,QN,QC,Qr,QG,y_c,Qq,Qh,ZC,Qcm,Qd3,evs,Qe5,QK,Qda,Jt,d2,d4,m2,x2,c1,e,Qg6,fin];simpa using this
 ·by_cases c2:v<82
  ·have hm:(2+(v-76) / 2).toNat∈[2,3,4]:=by
    have:(2+(v-76) / 2).toNat=2\/(2+(v-76) / 2).toNat=3\/(2+(v-76) / 2).toNat=4:=by lia
    simpa using this
   have:=Mks.new (s:=s) (ks:=ks) (h:=h) (Qgg (s:=s) (x:=1-v % 2*2) hm) (Qhr hm)
   rw [show((2+(v-76) / 2).toNat:Int)=2+(v-76) / 2 by lia]at this
   simp [Qfr,Qd,Qs,QX,QN,QC,Qr,QG,y_c,Qq,Qh,ZC,Qd3,evs,Qe5,QK,Qda,Jt,d2,m2,x2,c1,c2,Qg8,fin];simpa using this
  ·by_cases c3:v<84
   ·have:=Mks.new (s:=s) (ks:=ks) (h:=h) (Qbd (s:=s) (x:=1-v % 2*2)) Qby;simp [Qfr,Qd,Qs,QX,QN,QC,Qr,QG,y_c,Qq,Qh,ZC,Qd3,evs,Qe5,QK,Jt,m2,x2,c1,c2,c3,Qbr,fin];simpa using this
   ·have a2:∀g:Hs,Q5 (tb s) (Qa (tb s) (n+1)) 2 [] g=some (.ref g.length,g++[.ins 2 []]):=fun g=>QlZ rfl rfl;have a3:∀g:Hs,Q5 (tb s) (Qa (tb s) (n+1)) 3 [] g=some (.ref g.length,g++[.ins 3 []]):=fun g=>QlZ rfl rfl;have a7:∀g:Hs,Q5 (tb s) (Qa (tb s) (n+1)) 7 [] g=some (.ref g.length,g++[.ins 7 []]):=fun g=>QlZ rfl rfl
    have e:=at3 (a:=U.ref h.length) (b:=U.ref (h.length+1)) (c:=U.ref (h.length+1+1)) (i:=v-84) (by lia) (by lia)
    have l:(h++[O.ins 2 []]++[O.ins 3 []]++[O.ins 7 []]).length=h.length+3:=by simp
    have sb:Q9 (tb s) (.ref (h.length+3)) (.int (v-84) 0) (h++[O.ins 2 []]++[O.ins 3 []]++[O.ins 7 []]++[.lst [.ref h.length,.ref (h.length+1),.ref (h.length+1+1)]])=atU [U.ref h.length,.ref (h.length+1),.ref (h.length+1+1)] (v-84):=by
     rw [<-l];simp only [Q9,at0]
    have r:fin (exs (tb s) (Qa (tb s) (n+1)) (d+20) Qfr [u0,u1,some (.int v 0),some (.int y 0)] h)=some (if v-84=0 then U.ref h.length else if v-84=1 then .ref (h.length+1)else .ref (h.length+1+1),h++[O.ins 2 []]++[O.ins 3 []]++[O.ins 7 []]++[.lst [.ref h.length,.ref (h.length+1),.ref (h.length+1+1)]]):=by
     simp only [Qfr,Qd,Qs,QX,QN,QC,Qr,QG,y_c,Qq,Qh,ZC,Qcm,Zd,Qd3,evs,Qe5,QK,Jt,m2,x2,c1,c2,c3,a2,a3,a7,List.length_append,List.length_singleton,List.getElem?_cons_zero,List.getElem?_cons_succ,List.set_cons_zero,List.set_cons_succ,decide_false,Option.map_some,sb,e,fin,Bool.false_eq_true,if_false]
    rw [r];have K:∀q:Hs,Kp h (h++[O.ins 2 []]++[O.ins 3 []]++[O.ins 7 []]++q):=fun q=>(((Kp.app _ _).trans (Kp.app _ _)).trans (Kp.app _ _)).trans (Kp.app _ _)
    rcases (show v-84=0\/v-84=1\/v-84=2 by lia)with q|q|q
    ·rw [if_pos q]
     exact⟨_,_,_,_,rfl,K _,by simp,Qgc,Qhn⟩
    ·rw [if_neg (by lia),if_pos q]
     exact⟨_,_,_,_,rfl,K _,by simp,Qgd,Qho⟩
    ·rw [if_neg (by lia),if_neg (by lia)]
     exact⟨_,_,_,_,rfl,K _,(by rw [show h.length+1+1=(h++[O.ins 2 []]++[O.ins 3 []]).length by simp];exact Qo at0),Qis,Qj1⟩
theorem QiU(h0:0<=v)(h1:v<87):Mks s ks h (fin (exs (tb s) (Qa (tb s) (n+1)) (d+21) r37 [u0,u1,some (.int v 0),some (.int y 0)] h)):=by
 by_cases c1:v<64
 ·have e:=QmV (T:=tb s) (hs:=h) (a:=102) (b:=98) (i:=v / 16 % 2) (by lia) (by lia)
  have:=Mks.new (s:=s) (ks:=ks) (h:=h) (Qec (s:=s) (a:=(1+v % 4).toNat) (b:=(1+v / 4 % 4).toNat) (w:=if v / 16 % 2=0 then 102 else 98) (x:=y) (by lia) (by lia) (by split;exact .inl rfl;exact .inr rfl)) (QeQ (by lia) (by lia))
  rw [show((1+v % 4).toNat:Int)=1+v % 4 by lia,show((1+v / 4 % 4).toNat:Int)=1+v / 4 % 4 by lia]at this
  simp [r37,Qd,QN,QC,Qr,QG,y_c,Qq,Qh,ZC,Qcm,Qd3,evs,Qe5,QK,Qda,d4,d16,m4,m2,c1,e,QeE,fin];simpa using this
 ·have:=Qgx (s:=s) (ks:=ks) (h:=h) (n:=n) (d:=d) (u0:=u0) (u1:=u1) (y:=y) (v:=v) (by lia) h1
  have z:exs (tb s) (Qa (tb s) (n+1)) (d+21) r37 [u0,u1,some (.int v 0),some (.int y 0)] h=exs (tb s) (Qa (tb s) (n+1)) (d+20) Qfr [u0,u1,some (.int v 0),some (.int y 0)] h:=by
   rw [r37,Qd];simp only [QC,Qr,QG,y_c,Qq,Qh,Qe5,QK,c1,decide_false,List.getElem?_cons_zero,List.getElem?_cons_succ,Option.map_some,Bool.false_eq_true,if_false,Qs]
  rw [z];exact this
theorem Qe0(hk:ks=[]\/∃c,ks=[c]):Mks s ks h (Qa (tb s) (n+2) 37 [.int x 0,.str ks] h):=by
 rw [Qk fnL[37] rfl rfl];show Mks s ks h (fin (exs (tb s) (Qa (tb s) (n+1)) (88+12) b37 [some (.int x 0),some (.str ks),none,none] h));unfold b37
 have key:Mks s ks h (fin (exs (tb s) (Qa (tb s) (n+1)) (76+21) r37 [some (.int x 0),some (.str ks),some (.int (x*37 % 87) 0),some (.int (1-x*37 % 87 / 32*2) 0)] h)):=QiU (by lia) (by lia)
 have nx:∀(Z:Rho),Z=[some (U.int x 0),some (.str ks),none,none]->fin (exs (tb s) (Qa (tb s) (n+1)) 99 ([.set 2 (.op .Mod (.op .Mult (.var 0) (.c (.int 37 0))) (.c (.int 87 0))),.set 3 (.op .Sub (.c (.int 1 0)) (.op .Mult (.op .FloorDiv (.var 2) (.c (.int 32 0))) (.c (.int 2 0))))]++r37) Z h)=fin (exs (tb s) (Qa (tb s) (n+1)) (76+21) r37 [some (.int x 0),some (.str ks),some (.int (x*37 % 87) 0),some (.int (1-x*37 % 87 / 32*2) 0)] h):=fun Z e=>by
  subst e;simp only [List.cons_append,List.nil_append,Qd,QX,ZC,Qq,y_c,Qh,x37,m87,d32,x2,Jt,List.getElem?_cons_zero,List.getElem?_cons_succ,List.set_cons_zero,List.set_cons_succ]
 rcases hk with rfl|⟨c,rfl⟩
 ·rw [List.cons_append,Qd];simp only [QC,YO,Qr,QG,y_c,Qq,Qh,Qe3,QK,decide_true,Bool.not_true,List.getElem?_cons_zero,List.getElem?_cons_succ,Option.map_some,Bool.false_eq_true,if_false,Qs];rw [nx _ rfl];exact key
 ·by_cases c1:x % 4=1
  ·have:=Mks.new (s:=s) (ks:=[c]) (h:=h) (Qgf (s:=s) (w:=[c])) Qhq
   have e:Q9 (tb s) (.str [c]) (.int 0 0) h=some (.str [c]):=Qlw (show 1<=1000000 by decide) rfl
   have bl:biU (tb s) .len [.str [c]] h=some (.int 1 0,h):=rfl;rw [List.cons_append,Qd];simp [Qd,QN,QC,YO,Qr,QG,y_c,Qq,Qh,ZC,Qcm,Qfe,Qd3,evs,Qe3,QmH,QK,d4,m4,m1,c1,bl,e,Qg7,fin];simpa using this
  ·rw [List.cons_append,Qd];simp only [QC,YO,Qr,QG,y_c,Qq,ZC,Qh,Qe3,QmH,m4,c1,QK,decide_true,decide_false,Bool.not_true,Bool.not_false,List.getElem?_cons_zero,List.getElem?_cons_succ,Option.map_some,Bool.false_eq_true,if_false,if_true,Qs,List.cons_ne_nil];rw [nx _ rfl];exact key
end
theorem pz(h:f<23):QaL (tb s) f n=[]:=by
 have:dflL.lookup f=none:=by
  simp only [dflL,List.lookup]
  rw [show(f==23)=false by simp;lia,show(f==24)=false by simp;lia]
 unfold QaL
 show(match dflL.lookup f with|none=>_|some D=>_)=_
 rw [this]
section
variable {sp:Sp}
theorem Qla(hi:Z[i]?=some (some (.ref q)))(hm:Z5 T m (.ref q) h=some f)(hz:QaL T f 1=[]):ev T cf (d+2) (.meth m (.var i) []) Z h=cf f [.ref q] h:=by
 rw [Qk1,Qq,hi,Qh];simp only [hm,evs,Qh,List.length_nil,Nat.zero_add,hz,List.append_nil]
theorem Qha{fs:List (Nat×U)}(hq:h[q]?=some (.ins c fs))(hC:(tb s).cls[c]?=some C)(hf:C.meths.lookup m=some f):Z5 (tb s) m (.ref q) h=some f:=by
 unfold Z5;simp only [hq,hC,hf]
theorem St.takes(z:St s o sp)(hq:h[q]?=some o)(hi:Z[i]?=some (some (.ref q))):ev (tb s) (Qa (tb s) (n+1)) (d+2) (.meth 2 (.var i) []) Z h=some (.int sp.tk 0,h):=by
 obtain⟨c,fs,C,f0,f1,f2,rfl,hC,h0,h1,h2,b,t0,t1,t2⟩:=z;rw [Qla hi (Qha hq hC h2) (pz b.2.2)];exact t2 n q h hq
theorem St.ties(z:St s o sp)(hq:h[q]?=some o)(hi:Z[i]?=some (some (.ref q))):∃h' us,ev (tb s) (Qa (tb s) (n+1)) (d+2) (.meth 0 (.var i) []) Z h=some (.ref h'.length,h'++[.lst us])/\Kp h h'/\Paired (DTi (Hg h')) us sp.ts:=by
 obtain⟨c,fs,C,f0,f1,f2,rfl,hC,h0,h1,h2,b,t0,t1,t2⟩:=z;rw [Qla hi (Qha hq hC h0) (pz b.1)];exact t0 n q h hq
theorem St.ends(z:St s o sp)(hq:h[q]?=some o)(hi:Z[i]?=some (some (.ref q))):∃h' us,ev (tb s) (Qa (tb s) (n+1)) (d+2) (.meth 1 (.var i) []) Z h=some (.ref h'.length,h'++[.lst us])/\Kp h h'/\Paired (DEn (Hg h')) us sp.es:=by
 obtain⟨c,fs,C,f0,f1,f2,rfl,hC,h0,h1,h2,b,t0,t1,t2⟩:=z;rw [Qla hi (Qha hq hC h1) (pz b.2.1)];exact t1 n q h hq
end
noncomputable def Vx(r:Nat)(h:Hs):Gt:=fun q=>if q=r then none else h[q]?
theorem Vx.ge:Ge (Vx r h) (Hg h):=fun p o e=>by
 unfold Vx at e;split at e
 ·cases e
 ·exact e
theorem Vx.kp(k:Kp h h'):Ge (Vx r h) (Vx r h'):=fun p o e=>by
 unfold Vx at e ⊢;split at e
 ·cases e
 ·rename_i n;rw [if_neg n];exact k p o e
theorem Vx.set{x:O}:Ge (Vx r h) (Vx r (h.set r x)):=fun p o e=>by
 unfold Vx at e ⊢;split at e
 ·cases e
 ·rename_i n;rw [if_neg n,List.getElem?_set_ne (fun z=>n z.symm)];exact e
theorem Vx.at(n:q≠r)(e:h[q]?=some o):Vx r h q=some o:=by
 unfold Vx;rw [if_neg n];exact e
def SO(s:List U)(ks:List Nat)(g:Gt)(u:U)(sp:Sp):Prop:=∃q o,u=.ref q/\g q=some o/\St s o sp/\Gd ks sp
theorem SO.mono{g g':Gt}(h:Ge g g'){sp:Sp}(z:SO s ks g u sp):SO s ks g' u sp:=by
 obtain⟨q,o,e,e1,e2⟩:=z;exact⟨q,o,e,h _ _ e1,e2⟩
noncomputable def tks(sps:List Sp):Nat:=(sps.map (·.tk)).sum
theorem Jg{sps:List Sp}{sp:Sp}:tks (sps++[sp])=tks sps+sp.tk:=by simp [tks]
theorem Qff{test:Rho->Hs->Option (Bool×Hs)}{body:Ex}(I:Nat->Rho->Hs->Prop)
  (st:∀m Z h,I (m+1) Z h->test Z h=some (true,h)/\∃ρ2 h2,body Z h=some (.next,ρ2,h2)/\I m ρ2 h2) (en:∀Z h,I 0 Z h->test Z h=some (false,h)):
  ∀k m Z h,m<k->I m Z h->∃ρ2 h2,Zl test body k Z h=some (.next,ρ2,h2)/\I 0 ρ2 h2
 | 0,m,Z,h,l,_=>by lia
 | k+1,0,Z,h,l,z=>⟨Z,h,by simp only [Zl,en Z h z],z⟩
 | k+1,m+1,Z,h,l,z=>by
  obtain⟨t,ρ2,h2,b,z2⟩:=st m Z h z
  obtain⟨ρ3,h3,e,z3⟩:=Qff I st en k m ρ2 h2 (by lia) z2
  exact⟨ρ3,h3,by simp only [Zl,t,b,e],z3⟩
noncomputable def rg(p:Nat)(many:Int)(ks:List Nat)(r:Nat)(lf:Int)(u5 u6:Option U):Rho:=[some (.ref p),some (.int many 0),some (.str ks),some (.ref r),some (.int lf 0),u5,u6]
def RW(s:List U)(ks:List Nat)(h:Hs)(p r:Nat)(many lf:Nat)(k:Nat)(Z:Rho)(g:Hs):Prop:=∃us sps u5 u6,Z=rg p many ks r lf u5 u6/\Kp h g/\g[r]?=some (.lst us)/\Paired (SO s ks (Vx r g)) us sps/\tks sps+lf=many/\us.length<=k
section
variable {many lf k:Nat}
theorem Yy(hi:Z[i]?=some (some (.ref r)))(hr0:g[r]?=some (.lst us))(he:ev T cf (d+2) e Z g=some (u,g1))(hr:g1[r]?=some (.lst us))(hl:us.length<1000000):ex T cf (d+4) (.expr (.bm .append (.var i) [e])) Z g=some (.next,Z,g1.set r (.lst (us++[u]))):=by
 rw [Ze,QhS,Qq,hi,Qh];simp only [QbV,hr0,bL,if_true,evs,he,Qh,bmU,hr,bmL,hl]
theorem Kp.set{h g:Hs}{r:Nat}(k:Kp h g)(hr:h.length<=r):Kp h (g.set r o):=Kp.put k hr
theorem Qej(hk:ks=[]\/∃c,ks=[c])(hr:h.length<=r)(hb:k<1000)(z:RW s ks h p r many lf k Z g):∃ρ2 g2 lf2,exs (tb s) (Qa (tb s) (n+2)) (d+12) Qh1 (Z.set 5 (some (.int x 0))) g=some (.next,ρ2,g2)/\RW s ks h p r many lf2 (k+1) ρ2 g2:=by
 obtain⟨us,sps,u5,u6,rfl,kp,er,pr,tk,lu⟩:=z;obtain⟨q,g1,o,sp,e1,k1,eo,st,gd⟩:=Qe0 (s:=s) (ks:=ks) (n:=n) (h:=g) (x:=x) hk;have er1:g1[r]?=some (.lst us):=k1 _ _ er
 have qr:q≠r:=fun w=>by
  rw [w,er1]at eo;obtain⟨c,fs,_,_,_,_,rfl,_⟩:=st;cases eo
 have ta:∀d (lf:Int) (g:Hs),g[q]?=some o->ev (tb s) (Qa (tb s) (n+2)) (d+2) (.meth 2 (.var 6) []) (rg p many ks r lf (some (.int x 0)) (some (.ref q))) g=some (.int sp.tk 0,g):=fun d lf g e=>st.takes e rfl
 have c1:exs (tb s) (Qa (tb s) (n+2)) (d+12) Qh1 ((rg p many ks r lf u5 u6).set 5 (some (.int x 0))) g=exs (tb s) (Qa (tb s) (n+2)) (d+11) [.ite (.cmp .LtE (.meth 2 (.var 6) []) (.var 4)) [.expr (.bm .append (.var 3) [.var 6]),.set 4 (.op .Sub (.var 4) (.meth 2 (.var 6) []))] []] (rg p many ks r lf (some (.int x 0)) (some (.ref q))) g1:=by
  rw [Qh1,Qd,QX,Qcn];simp only [rg,evs,Qq,List.set_cons_succ,List.set_cons_zero,List.getElem?_cons_succ,List.getElem?_cons_zero,Qh,e1]
 rw [c1];by_cases c:sp.tk<=lf
 ·refine⟨rg p many ks r (lf-sp.tk:Nat) (some (.int x 0)) (some (.ref q)),g1.set r (.lst (us++[.ref q])),lf-sp.tk,?_,us++[.ref q],sps++[sp],_,_,rfl,(kp.trans k1).put hr,QdY (ltS er1),QR (Qj (fun _ _ z=>z.mono (fun p o e=>Vx.set _ _ (Vx.kp k1 _ _ e))) pr) ⟨q,o,rfl,Vx.set _ _ (Vx.at qr eo),st,gd⟩,by rw [Jg];lia,by simp;lia⟩
  have eo2:(g1.set r (.lst (us++[.ref q])))[q]?=some o:=by rw [List.getElem?_set_ne (Ne.symm qr)];exact eo
  have t1:evT (tb s) (Qa (tb s) (n+2)) (d+9) (.cmp .LtE (.meth 2 (.var 6) []) (.var 4)) (rg p many ks r lf (some (.int x 0)) (some (.ref q))) g1=some (true,g1):=by
   rw [Qr,QG,ta (d+5) lf g1 eo,Qh,Qq];simp [rg,Qh,QnT,QK,c]
  rw [Qd,QC,t1]
  show(match exs _ _ _ [.expr (.bm .append (.var 3) [.var 6]),.set 4 (.op .Sub (.var 4) (.meth 2 (.var 6) []))] _ _ with|some (.next,ρ1,h1)=>exs _ _ _ [] ρ1 h1|r=>r)=_
  rw [Qd,Yy (d:=d+4) (i:=3) rfl er1 (show ev _ _ (d+6) (.var 6) _ _=some (.ref q,g1)from rfl) er1 (by lia)]
  show(match exs _ _ _ [.set 4 (.op .Sub (.var 4) (.meth 2 (.var 6) []))] _ _ with|some (.next,ρ1,h1)=>exs _ _ _ [] ρ1 h1|r=>r)=_
  rw [Qd,QX,ZC,Qq,show(rg p many ks r lf (some (.int x 0)) (some (.ref q)))[4]?=some (some (.int lf 0))from rfl,Qh,ta _ lf _ eo2,Qh,Jt,Qh];simp only [Qs,rg,List.set_cons_succ,List.set_cons_zero]
  rw [show((lf:Int) - sp.tk)=((lf-sp.tk:Nat):Int) by lia]
 ·refine⟨rg p many ks r lf (some (.int x 0)) (some (.ref q)),g1,lf,?_,us,sps,_,_,rfl,kp.trans k1,er1,Qj (fun _ _ z=>z.mono (Vx.kp k1)) pr,tk,by lia⟩
  have t1:evT (tb s) (Qa (tb s) (n+2)) (d+9) (.cmp .LtE (.meth 2 (.var 6) []) (.var 4)) (rg p many ks r lf (some (.int x 0)) (some (.ref q))) g1=some (false,g1):=by
   rw [Qr,QG,ta (d+5) lf g1 eo,Qh,Qq];simp [rg,Qh,QnT,QK,c]
  rw [Qd,QC,t1];simp only [Qh,Qs,Bool.false_eq_true,if_false]
theorem QoG{a b:Int}(h:Z[i]?=some (some (.int a 0)))(l:b<a):evT T cf (d+3) (.cmp .Gt (.var i) (.c (.int b 0))) Z g=some (true,g):=by
 rw [Qr,QG,Qq,h,Qh,y_c,Qh,QmG,decide_eq_true l];rfl
theorem QnN{a b:Int}(h:Z[i]?=some (some (.int a 0)))(l:¬b<a):evT T cf (d+3) (.cmp .Gt (.var i) (.c (.int b 0))) Z g=some (false,g):=by
 rw [Qr,QG,Qq,h,Qh,y_c,Qh,QmG,decide_eq_false l];rfl
theorem QfZ{mi li:Int}(hm:¬20<mi)(er:g[r]?=some (.lst us))(hl:us.length<1000000):exs (tb s) (Qa (tb s) (n+2)) (d+12) QhT (rg p mi ks r li u5 u6) g=some (.next,rg p mi ks r (li-1) u5 u6,(g++[O.ins 1 [(0,U.int (1-li % 2*2) 0)]]).set r (.lst (us++[U.ref g.length]))):=by
 have a1:evT (tb s) (Qa (tb s) (n+2)) (d+10) (.and (.cmp .Gt (.var 1) (.c (.int 20 0))) (.cmp .Gt (.var 4) (.c (.int 3 0)))) (rg p mi ks r li u5 u6) g=some (false,g):=by
  rw [YO,QnN (a:=mi) rfl hm,Qh];rfl
 have m1:ev (tb s) (Qa (tb s) (n+2)) (d+7) (.make 1 [.op .Sub (.c (.int 1 0)) (.op .Mult (.op .Mod (.var 4) (.c (.int 2 0))) (.c (.int 2 0)))]) (rg p mi ks r li u5 u6) g=some (.ref g.length,g++[.ins 1 [(0,.int (1-li % 2*2) 0)]]):=by
  rw [Qd3];simp only [evs,ZC,y_c,Qq,rg,List.getElem?_cons_succ,List.getElem?_cons_zero,Qh,m2,x2,Jt,Qbr]
 rw [QhT,Qd,QC,a1];simp only [Qh,Bool.false_eq_true,if_false];rw [Qd,Yy (d:=d+5) (i:=3) rfl er m1 (Qo er) hl];simp only [Qd,QX,ZC,Qq,y_c,rg,List.getElem?_cons_succ,List.getElem?_cons_zero,Qh,Jt,Qs,List.set_cons_succ,List.set_cons_zero]
theorem Qa6(hr:h.length<=r)(hm:many<=20)(hb:k<1000)(z:RW s ks h p r many (lf+1) k Z g):evT (tb s) (Qa (tb s) (n+2)) (d+3) (.cmp .Gt (.var 4) (.c (.int 0 0))) Z g=some (true,g)/\∃ρ2 g2,exs (tb s) (Qa (tb s) (n+2)) (d+12) QhT Z g=some (.next,ρ2,g2)/\RW s ks h p r many lf (k+1) ρ2 g2:=by
 obtain⟨us,sps,u5,u6,rfl,kp,er,pr,tk,lu⟩:=z;have lr:=(ltS er)
 refine⟨QoG (a:=((lf+1:Nat):Int)) rfl (by lia),_,_,QfZ (by lia) er (by lia),us++[U.ref g.length],sps++[⟨1,[.nw [0] (1-((lf+1:Nat):Int) % 2*2) 0],[]⟩],u5,u6,?_,(kp.trans (Kp.app _ _)).put hr,?_,QR (Qj (fun _ _ z=>z.mono (fun p o e=>Vx.set _ _ (Vx.kp (Kp.app _ _) _ _ e))) pr) ⟨g.length,_,rfl,Vx.set _ _ (Vx.at (Nat.ne_of_gt lr) at0),Qbd,Qby⟩,?_,?_⟩
 ·rw [show(((lf+1:Nat):Int) - 1)=(lf:Int) by lia]
 ·exact List.getElem?_set_self (by simp;lia)
 ·rw [Jg];show tks sps+1+lf=many;lia
 ·simp;lia
end
section
variable {many:Nat}{cs:List Int}
theorem Qn2:ex T cf (d+1) (.while t body) Z hs=Zl (evT T cf d t) (exs T cf d body) 1000000 Z hs:=rfl
theorem QmD(hk:ks=[]\/∃c,ks=[c])(hp:h[p]?=some (.lst (cs.map fun i=>U.int i 0)))(hc:cs.length<=32)(hm:many<=20):
  ∃g us sps,Qa (tb s) (n+3) 38 [.ref p,.int many 0,.str ks] h=some (.ref h.length,g)/\Kp h g/\g[h.length]?=some (.lst us)/\Paired (SO s ks (Vx h.length g)) us sps/\tks sps=many/\us.length<=60:=by
 have z0:RW s ks h p h.length many many 0 (rg p many ks h.length many none none) (h++[.lst []]):=⟨[],[],none,none,rfl,Kp.app _ _,at0,.nil,by simp [tks],Nat.le_refl _⟩
 obtain⟨ρ1,g1,e1,lf,z1⟩:=Yj (T:=tb s) (cf:=Qa (tb s) (n+2)) (d:=95) (j:=0) (k:=5) (p:=p) (us:=cs.map fun i=>U.int i 0) (body:=Qh1) (Z:=rg p many ks h.length many none none) (hs:=h++[.lst []]) (fun i Z g=>∃lf,i<=cs.length/\RW s ks h p h.length many lf i Z g) rfl (Qo hp)
  (fun i Z g z=>by
   obtain⟨lf,li,us,sps,u5,u6,e,k,r⟩:=z
   exact k _ _ hp)
  (fun i u hu Z g z=>by
   obtain⟨lf,li,z⟩:=z;simp only [List.getElem?_map,Option.map_eq_some_iff]at hu;obtain⟨x,hx,rfl⟩:=hu;have:=(ltS hx)
   obtain⟨ρ2,g2,lf2,a,b⟩:=Qej (s:=s) (n:=n) (d:=84) (x:=x) hk (Nat.le_refl _) (by lia) z
   exact⟨ρ2,g2,a,lf2,by lia,b⟩) ⟨many,Nat.zero_le _,z0⟩
 rw [List.length_map]at z1
 have hl:lf<=20:=by
  obtain⟨_,us,sps,u5,u6,_,_,_,_,t,_⟩:=z1;lia
 obtain⟨ρ2,g2,e2,k,hk2,z2⟩:=Qff (test:=evT (tb s) (Qa (tb s) (n+2)) (92+3) (.cmp .Gt (.var 4) (.c (.int 0 0)))) (body:=exs (tb s) (Qa (tb s) (n+2)) (83+12) QhT) (fun m Z g=>∃k,k+m<=52/\RW s ks h p h.length many m k Z g)
  (fun m Z g z=>by
   obtain⟨k,l,z⟩:=z
   obtain⟨a,ρ2,g2,b,c⟩:=Qa6 (s:=s) (n:=n) (d:=92) (Nat.le_refl _) hm (by lia) z
   obtain⟨_,ρ3,g3,b',c'⟩:=Qa6 (s:=s) (n:=n) (d:=83) (Nat.le_refl _) hm (by lia) z
   exact⟨a,ρ3,g3,b',k+1,by lia,c'⟩)
  (fun Z g z=>by
   obtain⟨k,l,us,sps,u5,u6,e,r⟩:=z;subst e
   exact QnN (a:=((0:Nat):Int)) rfl (by decide)) 1000000 lf ρ1 g1 (by lia) ⟨cs.length,by lia,z1.2⟩
 obtain⟨us,sps,u5,u6,rfl,kp,er,pr,tk,lu⟩:=z2
 refine⟨g2,us,sps,?_,kp,er,pr,by lia,by lia⟩
 rw [Qk fnL[38] rfl rfl];show fin (exs (tb s) (Qa (tb s) (n+2)) (88+12) b38 [some (.ref p),some (.int many 0),some (.str ks),none,none,none,none] h)=_;unfold b38;rw [Qd,QX,Zd];simp only [evs,Qh,List.set_cons_succ,List.set_cons_zero];rw [Qd,QX,Qq];simp only [List.getElem?_cons_succ,List.getElem?_cons_zero,Qh,List.set_cons_succ,List.set_cons_zero];rw [Qd,show [some (U.ref p),some (.int many 0),some (.str ks),some (.ref h.length),some (.int many 0),none,none]=rg p many ks h.length many none none from rfl];rw [show ex (tb s) (Qa (tb s) (n+2)) 97 (.loop (.name 5) (.seq (.var 0)) Qh1) (rg p many ks h.length many none none) (h++[.lst []])=some (.next,ρ1,g1)from e1];dsimp only;rw [Qd,Qn2,show Zl (evT (tb s) (Qa (tb s) (n+2)) 95 (.cmp .Gt (.var 4) (.c (.int 0 0)))) (exs (tb s) (Qa (tb s) (n+2)) 95 QhT) 1000000 ρ1 g1=_ from e2];dsimp only;rw [Qd,QN,Qq];rfl
end
def Sm(g:Gt):Nat->U->U->Prop
 | 0,_,_=>False
 | d+1,u,w=>(∃i,u=.int i 0/\w=.int i 0)\/(∃x,u=.str x/\w=.str x)\/∃p q us ws,u=.ref p/\w=.ref q/\us.length<1000000/\Paired (Sm g d) us ws/\((g p=some (.tup us)/\g q=some (.tup ws))\/(g p=some (.lst us)/\g q=some (.lst ws)))
theorem Sm.mono{g g':Gt}(k:Ge g g'):∀{d:Nat} {u w:U},Sm g d u w->Sm g' d u w
 | 0,_,_,z=>z
 | d+1,u,w,z=>by
  rcases z with z|z|⟨p,q,us,ws,e1,e2,l,pr,h⟩
  ·exact .inl z
  ·exact .inr (.inl z)
  ·exact .inr (.inr ⟨p,q,us,ws,e1,e2,l,Qj (fun _ _ z=>Sm.mono k z) pr,h.elim (fun h=>.inl ⟨k _ _ h.1,k _ _ h.2⟩) (fun h=>.inr ⟨k _ _ h.1,k _ _ h.2⟩)⟩)
section
variable {w:U}{b:Bool}
theorem QjO(e:h[p]?=some (.tup us)):YG T .str (.ref p) h=some false/\YG T .int (.ref p) h=some false/\YG T .tuple (.ref p) h=some true/\biU T .len [.ref p] h=some (.int us.length 0,h):=by
 refine⟨?_,?_,?_,?_⟩
 ·simp only [YG,Yv,e];rfl
 ·simp only [YG,Yv,e];rfl
 ·simp only [YG,Yv,e];rfl
 ·unfold biU;simp only [ZR,e]
theorem QjP(e:h[p]?=some (.lst us)):YG T .str (.ref p) h=some false/\YG T .int (.ref p) h=some false/\YG T .tuple (.ref p) h=some false/\YG T .list (.ref p) h=some true/\biU T .len [.ref p] h=some (.int us.length 0,h):=by
 refine⟨?_,?_,?_,?_,?_⟩
 ·simp only [YG,Yv,e];rfl
 ·simp only [YG,Yv,e];rfl
 ·simp only [YG,Yv,e];rfl
 ·simp only [YG,Yv,e];rfl
 ·unfold biU;simp only [ZR,e]
theorem Qhb(hu:sqU T b (.ref p) h=some us)(hw:sqU T b (.ref q) h=some ws)(hb:(QU T (.ref p) h).isSome=b)(hb':(QU T (.ref q) h).isSome=b)(ll:us.length=ws.length)
  (st:∀(i:Nat) x y,us[i]?=some x->ws[i]?=some y->cf 40 [x,y] h=some (.bl true,h)) (u2 u3:Option U):∃v2 v3,ex T cf (d+9) QkQ [some (.ref p),some (.ref q),u2,u3] h=some (.next,[some (.ref p),some (.ref q),v2,v3],h):=by
 obtain⟨ρ2,h2,e,v2,v3,rfl,rfl⟩:=Qdh (T:=T) (w:=.zipB b b (.ref p) (.ref q)) (t:=.pair 2 3) (body:=exs T cf (d+8) [.ite (.not (.call 40 [.var 2,.var 3])) [.ret (.c (.bl false))] []])
  (fun _ Z g=>∃v2 v3,Z=[some (.ref p),some (.ref q),v2,v3]/\g=h) (n:=us.length)
  (fun i hi Z g z=>by
   obtain⟨v2,v3,e1,e2⟩:=z;subst e1 e2;have hx:us[i]?=some us[i]:=List.getElem?_eq_getElem hi
   have hy:ws[i]?=some ws[i]:=List.getElem?_eq_getElem (by lia)
   refine⟨.two us[i] ws[i],[some (.ref p),some (.ref q),some us[i],some ws[i]],[some (.ref p),some (.ref q),some us[i],some ws[i]],g,by simp only [itm,hu,hw,two,hx,hy],rfl,?_,_,_,rfl,rfl⟩
   rw [Qd,QC,Qa4,Qco,Qcn]
   simp only [evs,Qq,List.getElem?_cons_succ,List.getElem?_cons_zero,Qh,st i _ _ hx hy,QK,Option.map_some,Bool.not_true,Bool.false_eq_true,if_false,Qs])
  (fun Z g z=>by
   obtain⟨v2,v3,e1,e2⟩:=z;subst e2
   simp [itm,hu,hw,two]) us.length 0 (us.length+1) [some (.ref p),some (.ref q),u2,u3] h (by lia) (by lia) ⟨u2,u3,rfl,rfl⟩
 refine⟨v2,v3,?_⟩;rw [QkQ,Qa2];simp only [Zi,Qq,List.getElem?_cons_succ,List.getElem?_cons_zero,Qh,wkZ,hb,hb',hu,hw,Option.isSome_some,Bool.and_self,if_true,Option.map_some,Zg,Option.getD_some];exact e
end
theorem Ja{s:List U}{h:Hs}:∀{d n:Nat} {u w:U},Sm (Hg h) d u w->Qa (tb s) (n+d) 40 [u,w] h=some (.bl true,h)
 | 0,_,_,_,z=>z.elim
 | d+1,n,u,w,z=>by
  rw [show n+(d+1)=(n+d)+1 from rfl,Qk fnL[40] rfl rfl];show fin (exs (tb s) (Qa (tb s) (n+d)) (88+12) b40 [some u,some w,none,none] h)=_;unfold b40
  rcases z with⟨i,rfl,rfl⟩|⟨x,rfl,rfl⟩|⟨p,q,us,ws,rfl,rfl,l,pr,hh⟩
  ·generalize Qa (tb s) (n+d)=cf;generalize tb s=T;have a1:YG T .str (.int i 0) h=some false:=rfl;have a2:YG T .int (.int i 0) h=some true:=rfl;have a3:YG T .bool (.int i 0) h=some false:=rfl;simp [Qd,QC,Z1,JG,Qq,Qh,a1,a2,a3,QK,Qs,QN,Qh7,Qh6,QG,QmH,fin]
  ·generalize Qa (tb s) (n+d)=cf;generalize tb s=T;have a1:YG T .str (.str x) h=some true:=rfl;simp [Qd,QC,Z1,JG,Qq,Qh,a1,QK,QN,Qh7,QG,QdK,fin]
  ·have st:∀(i:Nat) x y,us[i]?=some x->ws[i]?=some y->Qa (tb s) (n+d) 40 [x,y] h=some (.bl true,h):=fun i x y hx hy=>by
    obtain⟨y',hy',z⟩:=Q0 pr hx;rw [hy]at hy';cases hy';exact Ja z
   have ll:=Qf pr
   revert st
   generalize Qa (tb s) (n+d)=cf;generalize tb s=T;intro st
   have fin3:∀b,sqU T b (.ref p) h=some us->sqU T b (.ref q) h=some ws->(QU T (.ref p) h).isSome=b->(QU T (.ref q) h).isSome=b->biU T .len [.ref p] h=some (.int us.length 0,h)->biU T .len [.ref q] h=some (.int ws.length 0,h)->fin (exs T cf 97 r40 [some (.ref p),some (.ref q),none,none] h)=some (.bl true,h):=fun b a1 a2 a3 a4 a5 a6=>by
    obtain⟨v2,v3,e⟩:=Qhb (cf:=cf) (d:=86) a1 a2 a3 a4 ll st none none
    have ne:ZP T .NotEq (.int us.length 0) (.int ws.length 0) h=some false:=by
     show some (!decide ((us.length:Int)=ws.length))=_
     rw [decide_eq_true (by lia)]
     rfl
    rw [r40,Qd];simp only [QC,Qr,QG,Qfe,evs,Qq,List.getElem?_cons_succ,List.getElem?_cons_zero,Qh,a5,a6,ne,Option.map_some,QK,Bool.false_eq_true,if_false,Qs];rw [Qd,show ex T cf 95 QkQ [some (.ref p),some (.ref q),none,none] h=_ from e];simp only [Qd,QN,y_c,Qh,fin]
   rcases hh with⟨e1,e2⟩|⟨e1,e2⟩
   ·have e1:h[p]?=some (.tup us):=e1;have e2:h[q]?=some (.tup ws):=e2;obtain⟨a1,a2,a3,a4⟩:=QjO (T:=T) e2;obtain⟨b1,b2,b3,b4⟩:=QjO (T:=T) e1
    have f:=fin3 false (by simp only [sqU,Qas,e1];rfl) (by simp only [sqU,Qas,e2];rfl) (by simp only [QU,e1];rfl) (by simp only [QU,e2];rfl) b4 a4
    rw [List.cons_append,Qd];simp only [QC,Z1,JG,Qq,List.getElem?_cons_succ,List.getElem?_cons_zero,Qh,a1,Option.map_some,QK,Bool.false_eq_true,if_false,Qs];rw [List.cons_append,Qd];simp only [QC,Z1,JG,Qq,List.getElem?_cons_succ,List.getElem?_cons_zero,Qh,a2,Option.map_some,QK,Bool.false_eq_true,if_false,Qs];rw [List.cons_append,Qd];simp only [QC,Z1,Qa4,JG,Qq,List.getElem?_cons_succ,List.getElem?_cons_zero,Qh,a3,b3,Option.map_some,QK,Bool.false_eq_true,if_false,if_true,Qd,Bool.not_true,Qs,List.nil_append];exact f
   ·have e1:h[p]?=some (.lst us):=e1;have e2:h[q]?=some (.lst ws):=e2;obtain⟨a1,a2,a3,a0,a4⟩:=QjP (T:=T) e2;obtain⟨b1,b2,b3,b0,b4⟩:=QjP (T:=T) e1
    have f:=fin3 true (by simp only [sqU,QU,e1];rfl) (by simp only [sqU,QU,e2];rfl) (by simp only [QU,e1];rfl) (by simp only [QU,e2];rfl) b4 a4
    rw [List.cons_append,Qd];simp only [QC,Z1,JG,Qq,List.getElem?_cons_succ,List.getElem?_cons_zero,Qh,a1,Option.map_some,QK,Bool.false_eq_true,if_false,Qs];rw [List.cons_append,Qd];simp only [QC,Z1,JG,Qq,List.getElem?_cons_succ,List.getElem?_cons_zero,Qh,a2,Option.map_some,QK,Bool.false_eq_true,if_false,Qs];rw [List.cons_append,Qd];simp only [QC,Z1,Qa4,JG,Qq,List.getElem?_cons_succ,List.getElem?_cons_zero,Qh,a3,b0,Option.map_some,QK,Bool.false_eq_true,if_false,Qd,Bool.not_true,Qs,List.nil_append];exact f
noncomputable abbrev Nm:=Int×Int
def DN(g:Gt)(u:U)(a:Nm):Prop:=∃p,u=.ref p/\g p=some (.tup [.int a.1 0,.int a.2 0])
structure Lp where
 ps:List Nm
 sd:Int
 lt:Int
def DL(g:Gt)(u:U)(L:Lp):Prop:=∃p q us,u=.ref p/\g p=some (.tup [.ref q,.int L.sd 0,.int L.lt 0])/\g q=some (.tup us)/\Paired (DN g) us L.ps
theorem DN.mono{g g':Gt}(k:Ge g g'){a:Nm}(z:DN g u a):DN g' u a:=by
 obtain⟨p,e,e1⟩:=z;exact⟨p,e,k _ _ e1⟩
theorem DL.mono{g g':Gt}(k:Ge g g'){L:Lp}(z:DL g u L):DL g' u L:=by
 obtain⟨p,q,us,e,e1,e2,e3⟩:=z;exact⟨p,q,us,e,k _ _ e1,k _ _ e2,Qj (fun _ _ z=>z.mono k) e3⟩
theorem DNs.mono{g g':Gt}(k:Ge g g'){as:List Nm}(z:Paired (DN g) us as):Paired (DN g') us as:=Qj (fun _ _ z=>z.mono k) z
theorem DLs.mono{g g':Gt}(k:Ge g g'){as:List Lp}(z:Paired (DL g) us as):Paired (DL g') us as:=Qj (fun _ _ z=>z.mono k) z
noncomputable def Vw(M:List Nat)(h:Hs):Gt:=fun q=>if q∈M then none else h[q]?
theorem Ge.refl{g:Gt}:Ge g g:=fun _ _ e=>e
theorem Ge.trans{a b c:Gt}(k:Ge a b)(k':Ge b c):Ge a c:=fun p o e=>k' p o (k p o e)
section
variable {M:List Nat}{x:O}
theorem Qb(e:Vw M h q=some o):q∉M/\h[q]?=some o:=by
 unfold Vw at e;split at e
 ·cases e
 ·exact⟨by assumption,e⟩
theorem Vw.at(n:q∉M)(e:h[q]?=some o):Vw M h q=some o:=by
 unfold Vw;rw [if_neg n];exact e
theorem Vw.ge:Ge (Vw M h) (Hg h):=fun _ _ e=>(Qb e).2
theorem Vw.kp(k:Kp h h'):Ge (Vw M h) (Vw M h'):=fun _ _ e=>Vw.at (Qb e).1 (k _ _ (Qb e).2)
theorem Vw.set(m:r∈M):Ge (Vw M h) (Vw M (h.set r x)):=fun p o e=>Vw.at (Qb e).1 (by
 rw [List.getElem?_set_ne (fun z:r=p=>(Qb e).1 (z▸m))]
 exact(Qb e).2)
theorem Vw.more(m:∀p∈M,p<h.length):Ge (Vw M h) (Vw (M++[h.length]) (h++[x])):=fun p o e=>Vw.at (fun z=>by
 rcases List.mem_append.mp z with z|z
 ·exact(Qb e).1 z
 ·have:=(ltS (Qb e).2);simp at z
  lia) (Qo (Qb e).2)
end
def NT(M:List Nat)(h:Hs):Prop:=∀m∈M,m<h.length/\∀us,h[m]?≠some (.tup us)
theorem NT.kp{M:List Nat}(z:NT M h)(k:Kp h h'):NT M h':=fun m hm=>by
 obtain⟨l,n⟩:=z m hm;have e:=k m h[m] (List.getElem?_eq_getElem l);refine⟨(ltS (show h'[m]?=some h[m]from e)),fun us w=>n us ?_⟩;rw [show h'[m]?=some h[m]from e]at w;rw [List.getElem?_eq_getElem l];exact w
theorem NT.set{M:List Nat}(z:NT M h):NT M (h.set r (.lst xs)):=fun m hm=>by
 obtain⟨l,n⟩:=z m hm
 refine⟨by simpa using l,fun us w=>?_⟩
 by_cases e:r=m
 ·subst e;rw [List.getElem?_set_self l]at w;cases w
 ·rw [List.getElem?_set_ne e]at w;exact n us w
theorem NT.tup{M:List Nat}(z:NT M h)(e:h[p]?=some (.tup us)):Vw M h p=some (.tup us):=Vw.at (fun m=>(z p m).2 us e) e
theorem DTi.vw{M:List Nat}(z:NT M h){t:Ti}(e:DTi (Hg h) u t):DTi (Vw M h) u t:=by
 cases t with
 | nw ps s l=>obtain⟨p,q,e0,e1,e2⟩:=e;exact⟨p,q,e0,z.tup e1,z.tup e2⟩
 | sm=>obtain⟨p,e0,e1⟩:=e;exact⟨p,e0,z.tup e1⟩
theorem DEn.vw{M:List Nat}(z:NT M h)(e:DEn (Hg h) u w):DEn (Vw M h) u w:=by
 obtain⟨p,e0,e1⟩:=e;exact⟨p,e0,z.tup e1⟩
theorem DEn.mono{g g':Gt}(k:Ge g g')(z:DEn g u w):DEn g' u w:=by
 obtain⟨p,e,e1⟩:=z;exact⟨p,e,k _ _ e1⟩
structure Wr where
 gv:List Nm
 lp:List Lp
 gn:List Nm
 pt:List Nm
noncomputable def YF(tk:List Nm)(W:Wr):Ti->Wr
 | .sm=>{ W with gv:=W.gv++[tk.getD 0 (0,0)] }
 | .nw ps s l=>{ W with gv:=W.gv++[(1,(W.lp.length:Int))],lp:=W.lp++[⟨ps.map fun i=>tk.getD i.toNat (0,0),s,l⟩] }
noncomputable def ZO(tk:List Nm)(W:Wr)(w:List Nat):Wr:=if w=ZA then { W with gn:=W.gn++[tk.getD 0 (0,0)] }else { W with pt:=W.pt++[tk.getD 0 (0,0)] }
noncomputable def stW(tk:List Nm)(W:Wr)(sp:Sp):Wr:=sp.es.foldl (ZO tk) (sp.ts.foldl (YF tk) W)
noncomputable def stp(x:List Nm×Wr)(sp:Sp):List Nm×Wr:=(x.1.drop sp.tk,stW (x.1.take sp.tk) x.2 sp)
theorem QbX{g:Gt}{as:List Nm}{i:Int}(e:h[p]?=some (.lst us))(pr:Paired (DN g) us as)(h0:0<=i)(h1:i<as.length):∃u,Q9 T (.ref p) (.int i 0) h=some u/\DN g u (as.getD i.toNat (0,0)):=by
 have ha:as[i.toNat]?=some as[i.toNat]:=List.getElem?_eq_getElem (by lia)
 obtain⟨u,hu,z⟩:=Jq pr ha;refine⟨u,?_,?_⟩
 ·have:=Qf pr;simp only [Q9,e,atU,ixU,h0,if_true]
  rw [if_pos (by lia)]
  exact hu
 ·rw [List.getD_eq_getElem?_getD,ha];exact z
structure Pw where
 g:Nat
 l:Nat
 o:Nat
 d:Nat
 k:Option Nat
noncomputable def Pw.M(q:Pw):List Nat:=[q.g,q.l,q.o,q.d]++q.k.toList
structure WH(ks:List Nat)(h:Hs)(q:Pw)(W:Wr):Prop where
 nd:q.M.Nodup
 nt:NT q.M h
 gs:∃us,h[q.g]?=some (.lst us)/\Paired (DN (Vw q.M h)) us W.gv
 ls:∃us,h[q.l]?=some (.lst us)/\Paired (DL (Vw q.M h)) us W.lp
 os:∃us,h[q.o]?=some (.lst us)/\Paired (DN (Vw q.M h)) us W.gn
 ds:match q.k with
  | none=>h[q.d]?=some (.dic [])/\W.pt=[]
  | some k=>h[q.d]?=some (.dic [(.str ks,.ref k)])/\∃us,h[k]?=some (.lst us)/\Paired (DN (Vw q.M h)) us W.pt
def WK(q:Pw)(W:Wr):Prop:=q.k.isSome=true->W.pt≠[]
section
variable {q:Pw}{W:Wr}
theorem WH.kp(z:WH ks h q W)(k:Kp h h'):WH ks h' q W:=by
 obtain⟨nd,nt,⟨us,g1,g2⟩,⟨vs,l1,l2⟩,⟨ws,o1,o2⟩,ds⟩:=z;refine⟨nd,nt.kp k,⟨us,k _ _ g1,DNs.mono (Vw.kp k) g2⟩,⟨vs,k _ _ l1,DLs.mono (Vw.kp k) l2⟩,⟨ws,k _ _ o1,DNs.mono (Vw.kp k) o2⟩,?_⟩
 revert ds
 cases q.k with
 | none=>exact fun d=>⟨k _ _ d.1,d.2⟩
 | some j =>
  intro d;obtain⟨d1,us,d2,d3⟩:=d;exact⟨k _ _ d1,us,k _ _ d2,DNs.mono (Vw.kp k) d3⟩
theorem Qn{x y:O}(n:a≠b)(e:h[b]?=some y):(h.set a x)[b]?=some y:=by
 rw [List.getElem?_set_ne n];exact e
theorem WH.addG{a:Nm}(z:WH ks h q W)(e:h[q.g]?=some (.lst us))(pr:Paired (DN (Vw q.M h)) us W.gv)(hu:DN (Vw q.M h) u a):WH ks (h.set q.g (.lst (us++[u]))) q { W with gv:=W.gv++[a] }:=by
 obtain⟨nd,nt,_,⟨vs,l1,l2⟩,⟨ws,o1,o2⟩,ds⟩:=z
 have v:=Vw.set (M:=q.M) (h:=h) (r:=q.g) (x:=.lst (us++[u])) (by simp [Pw.M])
 have n:=nd;simp only [Pw.M,List.cons_append,List.nil_append,List.nodup_cons,List.mem_cons,not_or]at n;obtain⟨⟨n1,n2,n3,n4⟩,_⟩:=n;refine⟨nd,nt.set,⟨_,QdY (ltS e),QR (DNs.mono v pr) (hu.mono v)⟩,⟨vs,Qn n1 l1,DLs.mono v l2⟩,⟨ws,Qn n2 o1,DNs.mono v o2⟩,?_⟩
 revert ds n4
 cases q.k with
 | none=>exact fun d _=>⟨Qn n3 d.1,d.2⟩
 | some j =>
  intro d n4;obtain⟨d1,us,d2,d3⟩:=d
  exact⟨Qn n3 d1,us,Qn (fun z=>n4 (by simp [z])) d2,DNs.mono v d3⟩
theorem WH.addL{a:Lp}(z:WH ks h q W)(e:h[q.l]?=some (.lst us))(pr:Paired (DL (Vw q.M h)) us W.lp)(hu:DL (Vw q.M h) u a):WH ks (h.set q.l (.lst (us++[u]))) q { W with lp:=W.lp++[a] }:=by
 obtain⟨nd,nt,⟨vs,g1,g2⟩,_,⟨ws,o1,o2⟩,ds⟩:=z
 have v:=Vw.set (M:=q.M) (h:=h) (r:=q.l) (x:=.lst (us++[u])) (by simp [Pw.M])
 have n:=nd;simp only [Pw.M,List.cons_append,List.nil_append,List.nodup_cons,List.mem_cons,not_or]at n;obtain⟨⟨n1,_⟩,⟨n2,n3,n4⟩,_⟩:=n;refine⟨nd,nt.set,⟨vs,Qn (Ne.symm n1) g1,DNs.mono v g2⟩,⟨_,QdY (ltS e),QR (DLs.mono v pr) (hu.mono v)⟩,⟨ws,Qn n2 o1,DNs.mono v o2⟩,?_⟩
 revert ds n4
 cases q.k with
 | none=>exact fun d _=>⟨Qn n3 d.1,d.2⟩
 | some j =>
  intro d n4;obtain⟨d1,us,d2,d3⟩:=d
  exact⟨Qn n3 d1,us,Qn (fun z=>n4 (by simp [z])) d2,DNs.mono v d3⟩
theorem WH.addO{a:Nm}(z:WH ks h q W)(e:h[q.o]?=some (.lst us))(pr:Paired (DN (Vw q.M h)) us W.gn)(hu:DN (Vw q.M h) u a):WH ks (h.set q.o (.lst (us++[u]))) q { W with gn:=W.gn++[a] }:=by
 obtain⟨nd,nt,⟨vs,g1,g2⟩,⟨ws,l1,l2⟩,_,ds⟩:=z
 have v:=Vw.set (M:=q.M) (h:=h) (r:=q.o) (x:=.lst (us++[u])) (by simp [Pw.M])
 have n:=nd;simp only [Pw.M,List.cons_append,List.nil_append,List.nodup_cons,List.mem_cons,not_or]at n;obtain⟨⟨_,n1,_⟩,⟨n2,_⟩,⟨n3,n4⟩,_⟩:=n;refine⟨nd,nt.set,⟨vs,Qn (Ne.symm n1) g1,DNs.mono v g2⟩,⟨ws,Qn (Ne.symm n2) l1,DLs.mono v l2⟩,⟨_,QdY (ltS e),QR (DNs.mono v pr) (hu.mono v)⟩,?_⟩
 revert ds n4
 cases q.k with
 | none=>exact fun d _=>⟨Qn n3 d.1,d.2⟩
 | some j =>
  intro d n4;obtain⟨d1,us,d2,d3⟩:=d
  exact⟨Qn n3 d1,us,Qn (fun z=>n4 (by simp [z])) d2,DNs.mono v d3⟩
end
section
variable {x:U}{i:Int}{a b:E}
theorem Qcs(ea:ev T cf d a Z h=some (.ref p,h))(eb:ev T cf d b Z h=some (.int i 0,h))(hs:Q9 T (.ref p) (.int i 0) h=some x):ev T cf (d+1) (.ix a b) Z h=some (x,h):=by
 rw [Qcm,ea,Qh,eb,Qh,hs];rfl
theorem Qlo(e:h[p]?=some (.tup xs))(hx:atU xs i=some x):Q9 T (.ref p) (.int i 0) h=some x:=by
 simp only [Q9,e,hx]
theorem QbI{i:Int}(hj:Z[j]?=some (some (.ref p)))(e:h[p]?=some (.tup xs))(hx:atU xs i=some x):ev T cf (d+2) (.ix (.var j) (.c (.int i 0))) Z h=some (x,h):=Qcs (by rw [Qq,hj]) (y_c) (Qlo e hx)
theorem Qt(hj:Z[j]?=some (some u)):ev T cf (d+1) (.var j) Z h=some (u,h):=by rw [Qq,hj]
end
section
variable {tk:List Nm}
theorem QdG{M:List Nat}{ja jb jk:Nat}{s:Int}(r10:Z[jb]?=some (some (.ref tp)))(r11:Z[ja]?=some (some (.ref p)))(rl:Z.length=jk)(e1:h[p]?=some (.tup [.str w,.ref pq,.int s 0,.int l 0]))(e2:h[pq]?=some (.tup (ps.map fun i=>.int i 0)))
  (ht:h[tp]?=some (.lst ts)) (pt:Paired (DN (Vw M h)) ts tk) (ok:∀i∈ps,0<=i/\i<(tk.length:Int)) (lp:ps.length<=1000):
  ∃vs,ev T cf (d+5) (.comp (.seq (.ix (.var ja) (.c (.int 1 0)))) false none (.ix (.var jb) (.var jk))) Z h=some (.ref h.length,h++[.lst vs])/\Paired (DN (Vw M h)) vs (ps.map fun i=>tk.getD i.toNat (0,0)):=by
 obtain⟨vs,h2,e,rfl,_,pr⟩:=Qf3 (T:=T) (cf:=cf) (d:=d+3) (e:=.ix (.var ja) (.c (.int 1 0))) (el:=.ix (.var jb) (.var jk)) (Z:=Z) (h0:=h) (hs:=h) (us:=ps.map fun i=>U.int i 0) (fun i acc g=>g=h/\i<=ps.length/\Paired (DN (Vw M h)) acc ((ps.map fun i=>tk.getD i.toNat (0,0)).take i))
  (QbI r11 e1 rfl) e2 (by simp;lia) (fun i acc g z=>by
   obtain⟨z1,z2,z3⟩:=z;subst z1;refine⟨e2,?_⟩;have:=Qf z3;simp at this
   lia)
  (fun i u hu acc g z=>by
   obtain⟨z1,z2,z3⟩:=z;subst z1;simp only [List.getElem?_map,Option.map_eq_some_iff]at hu;obtain⟨x,hx,rfl⟩:=hu;have hi:=(ltS hx);obtain⟨o0,o1⟩:=ok x (List.mem_of_getElem? hx);obtain⟨v,hv,dv⟩:=QbX (T:=T) ht pt o0 o1
   refine⟨v,g,Qcs (Qt (by rw [List.getElem?_append_left (ltS r10)];exact r10)) (Qt (by rw [List.getElem?_append_right (Nat.le_of_eq rl),rl,Nat.sub_self];rfl)) hv,rfl,hi,?_⟩
   rw [QH (a:=tk.getD x.toNat (0,0)) (by rw [List.getElem?_map,hx];rfl)]
   exact QR z3 dv) ⟨rfl,Nat.zero_le _,.nil⟩
 refine⟨vs,e,?_⟩
 have:(ps.map fun i=>U.int i 0).length=(ps.map fun i=>tk.getD i.toNat ((0,0):Nm)).length:=by simp
 rw [this,List.take_length]at pr;exact pr
end
section
variable {q:Pw}{W:Wr}{tk:List Nm}{t:Ti}
theorem Pw.g_mem:q.g∈q.M:=by simp [Pw.M]
theorem Pw.l_mem:q.l∈q.M:=by simp [Pw.M]
theorem Pw.o_mem:q.o∈q.M:=by simp [Pw.M]
theorem YI{T:Tbl}{cf:Cf}{Z:Rho}{x:List Nat}(rj:Z[j]?=some (some (.ref p)))(e:h[p]?=some (.tup xs))(hx:atU xs 0=some (.str x)):evT T cf (d+4) (.cmp .Eq (.ix (.var j) (.c (.int 0 0))) (.c (.str y))) Z h=some (decide (x=y),h):=by
 rw [Qr,QG,QbI rj e hx,Qh,y_c,Qh,QdK];rfl
theorem QnH{l:Nat}(e:h[l]?=some (.lst us)):biU T .len [.ref l] h=some (.int us.length 0,h):=by
 unfold biU;simp only [ZR,e]
theorem QgZ{s:Int}(r2:Z[2]?=some (some (.int 1 0)))(r4:Z[4]?=some (some (.ref q.g)))(r5:Z[5]?=some (some (.ref q.l)))(r10:Z[10]?=some (some (.ref tp)))(r11:Z[11]?=some (some (.ref p)))(rl:Z.length=14)
  (z:WH ks h q W) (ht:Vw q.M h tp=some (.lst ts)) (pt:Paired (DN (Vw q.M h)) ts tk) (e1:Vw q.M h p=some (.tup [.str Z2,.ref pq,.int s 0,.int l 0])) (e2:Vw q.M h pq=some (.tup (ps.map fun i=>.int i 0))) (ok:∀i∈ps,0<=i/\i<(tk.length:Int)) (lp:ps.length<=1000)
  (b1:W.gv.length<900000) (b2:W.lp.length<900000):∃h2,exs T cf (d+12) QlU Z h=some (.next,Z,h2)/\WH ks h2 q (YF tk W (.nw ps s l))/\Ge (Vw q.M h) (Vw q.M h2):=by
 obtain⟨us,g1,g2⟩:=z.gs;obtain⟨vs,l1,l2⟩:=z.ls;have lu:=Qf g2;have lv:=Qf l2;have out:∀{g:Hs},NT q.M g->g.length∉q.M:=fun nt m=>Nat.lt_irrefl _ (nt _ m).1;have ez:WH ks (h++[.tup [.int 1 0,.int vs.length 0]]) q W:=z.kp (Kp.app _ _);have g1':(h++[.tup [.int 1 0,.int vs.length 0]])[q.g]?=some (.lst us):=Qo g1;have k1:Ge (Vw q.M h) (Vw q.M (h++[.tup [.int 1 0,.int vs.length 0]])):=Vw.kp (Kp.app _ _)
 have z1:=ez.addG (u:=.ref h.length) (a:=(1,(W.lp.length:Int))) g1' (DNs.mono k1 g2) ⟨h.length,rfl,Vw.at (out z.nt) (by rw [<-lv];exact at0)⟩
 have c1:ex T cf (d+11) (.expr (.bm .append (.var 4) [.tup [.var 2,.bi .len [.var 5]]])) Z h=some (.next,Z,(h++[O.tup [U.int 1 0,U.int vs.length 0]]).set q.g (O.lst (us++[U.ref h.length]))):=Yy (d:=d+7) r4 g1 (by
  rw [QY]
  simp only [evs,Qq,r2,Qh,Qfe,r5,QnH l1]) g1' (by lia)
 generalize hh:(h++[O.tup [U.int 1 0,U.int vs.length 0]]).set q.g (O.lst (us++[U.ref h.length]))=hA at z1 c1;have k2:Ge (Vw q.M h) (Vw q.M hA):=hh▸k1.trans (Vw.set Pw.g_mem);obtain⟨vs',m1,m2⟩:=z1.ls;have lv':=Qf m2;have e1A:=(Qb (k2 _ _ e1)).2;obtain⟨ws,f1,f2⟩:=QdG (T:=T) (cf:=cf) (d:=d+1) r10 r11 rl e1A (Qb (k2 _ _ e2)).2 (Qb (k2 _ _ ht)).2 (DNs.mono k2 pt) ok lp
 have ev1:ev T cf (d+8) (.tup [.bi .tuple [QmA],.ix (.var 11) (.c (.int 2 0)),.ix (.var 11) (.c (.int 3 0))]) Z hA=some (.ref (hA++[O.lst ws]++[O.tup ws]).length,hA++[.lst ws]++[.tup ws]++[.tup [.ref (hA++[O.lst ws]).length,.int s 0,.int l 0]]):=by
  have bt:biU T .tuple [.ref hA.length] (hA++[.lst ws])=some (.ref (hA++[O.lst ws]).length,hA++[.lst ws]++[.tup ws]):=by
   unfold biU;simp only [at0]
  have x2:ev T cf (d+7) (.ix (.var 11) (.c (.int 2 0))) Z (hA++[.lst ws]++[.tup ws])=some (.int s 0,hA++[.lst ws]++[.tup ws]):=QbI r11 (Qo (Qo e1A)) rfl;have x3:ev T cf (d+7) (.ix (.var 11) (.c (.int 3 0))) Z (hA++[.lst ws]++[.tup ws])=some (.int l 0,hA++[.lst ws]++[.tup ws]):=QbI r11 (Qo (Qo e1A)) rfl;rw [QY];simp only [evs,Qfe,show ev T cf (d+6) QmA Z hA=_ from f1,Qh,bt,x2,x3]
 have K:Kp hA (hA++[.lst ws]++[.tup ws]++[.tup [.ref (hA++[O.lst ws]).length,.int s 0,.int l 0]]):=((Kp.app _ _).trans (Kp.app _ _)).trans (Kp.app _ _);have zB:=z1.kp K;have n1:NT q.M (hA++[.lst ws]):=z1.nt.kp (Kp.app _ _);have n2:NT q.M (hA++[.lst ws]++[.tup ws]):=n1.kp (Kp.app _ _);have z2:=zB.addL (u:=U.ref (hA++[O.lst ws]++[O.tup ws]).length) (a:=⟨ps.map fun i=>tk.getD i.toNat (0,0),s,l⟩) (K _ _ m1) (DLs.mono (Vw.kp K) m2) ⟨_,(hA++[O.lst ws]).length,ws,rfl,Vw.at (out n2) at0,Vw.at (out n1) (Qo at0),DNs.mono (Vw.kp K) f2⟩;refine⟨_,?_,z2,k2.trans ((Vw.kp K).trans (Vw.set Pw.l_mem))⟩;rw [QlU,Qd,c1];dsimp only
 rw [Qd,Yy (d:=d+6) r5 m1 ev1 (K _ _ m1) (by
  have:W.lp.length<900000:=b2;have q:vs'.length=W.lp.length:=lv'
  lia)]
 dsimp only;rw [Qs]
theorem Qd9(r2:Z[2]?=some (some (.int 1 0)))(r4:Z[4]?=some (some (.ref q.g)))(r5:Z[5]?=some (some (.ref q.l)))(r10:Z[10]?=some (some (.ref tp)))(r11:Z[11]?=some (some u))(rl:Z.length=14)
  (z:WH ks h q W) (ht:Vw q.M h tp=some (.lst ts)) (pt:Paired (DN (Vw q.M h)) ts tk) (dt:DTi (Vw q.M h) u t) (ok:OkT tk.length t)
  (b1:W.gv.length<900000) (b2:W.lp.length<900000):∃h2,exs T cf (d+16) Qax Z h=some (.next,Z,h2)/\WH ks h2 q (YF tk W t)/\Ge (Vw q.M h) (Vw q.M h2):=by
 cases t with
 | nw ps s l =>
  obtain⟨p,pq,rfl,e1,e2⟩:=dt
  obtain⟨h2,c,w,k⟩:=QgZ (T:=T) (cf:=cf) (d:=d) r2 r4 r5 r10 r11 rl z ht pt e1 e2 ok.2 (Nat.le_trans ok.1 (by decide)) b1 b2
  refine⟨h2,?_,w,k⟩;have e1':=(Qb e1).2;rw [Qax,Qd,QC,YI (d:=d+10) (x:=Z2) r11 e1' rfl,Qh];simp only [show decide (Z2=Jc)=false from rfl,Bool.false_eq_true,if_false];rw [Qd,QC,YI (d:=d+8) (x:=Z2) r11 e1' rfl,Qh];simp only [show decide (Z2=Qcp)=false from rfl,Bool.false_eq_true,if_false,Qs];rw [c]
 | sm =>
  obtain⟨p,rfl,e1⟩:=dt;have e1':=(Qb e1).2;obtain⟨us,g1,g2⟩:=z.gs;have lu:=Qf g2
  obtain⟨v,hv,dv⟩:=QbX (T:=T) (i:=0) (Qb ht).2 pt (Int.le_refl 0) (by have:0<tk.length:=ok;lia)
  have a:=Yy (T:=T) (cf:=cf) (d:=d+9) (i:=4) (e:=.ix (.var 10) (.ix (.var 11) (.c (.int 1 0)))) r4 g1 (Qcs (Qt r10) (QbI r11 e1' rfl) hv) g1 (by lia)
  refine⟨_,?_,z.addG g1 g2 dv,Vw.set Pw.g_mem⟩;rw [Qax,Qd,QC,YI (d:=d+10) (x:=Jc) r11 e1' rfl,Qh];rw [show decide (Jc=Jc)=true from rfl,if_pos rfl];rw [Qd];rw [show ex T cf (d+13) (.expr (.bm .append (.var 4) [.ix (.var 10) (.ix (.var 11) (.c (.int 1 0)))])) Z h=_ from a];simp only [Qs]
end
section
variable {q:Pw}{W:Wr}{a:Nm}
theorem WH.newK(z:WH ks h q W)(hn:q.k=none)(hv:DN (Vw q.M h) v a):WH ks (((h++[O.lst []]).set q.d (.dic [(.str ks,.ref h.length)])).set h.length (.lst [v])) { q with k:=some h.length } { W with pt:=[a] }/\W.pt=[] /\
  Ge (Vw q.M h) (Vw ({ q with k:=some h.length }:Pw).M (((h++[O.lst []]).set q.d (.dic [(.str ks,.ref h.length)])).set h.length (.lst [v]))):=by
 obtain⟨nd,nt,⟨us,g1,g2⟩,⟨vs,l1,l2⟩,⟨ws,o1,o2⟩,ds⟩:=z;rw [hn]at ds;obtain⟨d1,d2⟩:=ds;have lt:∀{p:Nat} {x:O},h[p]?=some x->p<h.length:=fun e=>(ltS e)
 have M1:q.M=[q.g,q.l,q.o,q.d]:=by simp [Pw.M,hn]
 have M2:({ q with k:=some h.length }:Pw).M=[q.g,q.l,q.o,q.d,h.length]:=by simp [Pw.M]
 have n:=nd;rw [M1]at n;simp only [List.nodup_cons,List.mem_cons,List.not_mem_nil,or_false,not_or,not_false_eq_true,and_true,List.nodup_nil]at n;obtain⟨⟨n1,n2,n3⟩,⟨n4,n5⟩,n6⟩:=n
 have at_:∀{p:Nat} {x:O},p≠q.d->h[p]?=some x->(((h++[O.lst []]).set q.d (.dic [(.str ks,.ref h.length)])).set h.length (.lst [v]))[p]?=some x:=fun {p x} np e=>by
  rw [List.getElem?_set_ne (Nat.ne_of_gt (lt e)),List.getElem?_set_ne (Ne.symm np)];exact Qo e
 have atd:(((h++[O.lst []]).set q.d (.dic [(.str ks,.ref h.length)])).set h.length (.lst [v]))[q.d]?=some (.dic [(.str ks,.ref h.length)]):=by
  rw [List.getElem?_set_ne (Nat.ne_of_gt (lt d1)),List.getElem?_set_self (by have:=lt d1;simp;lia)]
 have atk:(((h++[O.lst []]).set q.d (.dic [(.str ks,.ref h.length)])).set h.length (.lst [v]))[h.length]?=some (.lst [v]):=List.getElem?_set_self (by simp)
 have ge:Ge (Vw q.M h) (Vw ({ q with k:=some h.length }:Pw).M (((h++[O.lst []]).set q.d (.dic [(.str ks,.ref h.length)])).set h.length (.lst [v]))):=fun p o e=>by
  obtain⟨np,eo⟩:=Qb e;rw [M1]at np;simp only [List.mem_cons,List.not_mem_nil,or_false,not_or]at np;refine Vw.at ?_ (at_ np.2.2.2 eo);rw [M2];simp only [List.mem_cons,List.not_mem_nil,or_false,not_or];exact⟨np.1,np.2.1,np.2.2.1,np.2.2.2,Nat.ne_of_lt (lt eo)⟩
 refine⟨⟨?_,?_,⟨us,at_ n3 g1,DNs.mono ge g2⟩,⟨vs,at_ n5 l1,DLs.mono ge l2⟩,⟨ws,at_ n6 o1,DNs.mono ge o2⟩,⟨atd,[v],atk,.cons (hv.mono ge) .nil⟩⟩,d2,ge⟩
 ·rw [M2];have a1:=lt g1;have a2:=lt l1;have a3:=lt o1;have a4:=lt d1;simp only [List.nodup_cons,List.mem_cons,List.not_mem_nil,or_false,not_or,not_false_eq_true,and_true,List.nodup_nil];exact⟨⟨n1,n2,n3,Nat.ne_of_lt a1⟩,⟨n4,n5,Nat.ne_of_lt a2⟩,⟨n6,Nat.ne_of_lt a3⟩,Nat.ne_of_lt a4⟩
 ·rw [M2];intro m hm;simp only [List.mem_cons,List.not_mem_nil,or_false]at hm;have key:∀{x:O},(((h++[O.lst []]).set q.d (.dic [(.str ks,.ref h.length)])).set h.length (.lst [v]))[m]?=some x->(∀us,x≠.tup us)->m<(((h++[O.lst []]).set q.d (.dic [(.str ks,.ref h.length)])).set h.length (.lst [v])).length/\∀us,(((h++[O.lst []]).set q.d (.dic [(.str ks,.ref h.length)])).set h.length (.lst [v]))[m]?≠some (.tup us):=fun e n=>⟨(ltS e),fun us z=>n us (Option.some.inj (e.symm.trans z))⟩
  rcases hm with rfl|rfl|rfl|rfl|rfl
  ·exact key (at_ n3 g1) fun _ z=>nomatch z
  ·exact key (at_ n5 l1) fun _ z=>nomatch z
  ·exact key (at_ n6 o1) fun _ z=>nomatch z
  ·exact key atd fun _ z=>nomatch z
  ·exact key atk fun _ z=>nomatch z
theorem WH.addK{k:Nat}(z:WH ks h q W)(hk:q.k=some k)(e:h[k]?=some (.lst us))(pr:Paired (DN (Vw q.M h)) us W.pt)(hu:DN (Vw q.M h) v a):WH ks (h.set k (.lst (us++[v]))) q { W with pt:=W.pt++[a] }:=by
 obtain⟨nd,nt,⟨us',g1,g2⟩,⟨vs,l1,l2⟩,⟨ws,o1,o2⟩,ds⟩:=z
 have mk:k∈q.M:=by simp [Pw.M,hk]
 have v:=Vw.set (M:=q.M) (h:=h) (r:=k) (x:=.lst (us++[v])) mk;have n:=nd;simp only [Pw.M,hk,Option.toList_some,List.cons_append,List.nil_append,List.nodup_cons,List.mem_cons,List.not_mem_nil,or_false,not_or]at n;obtain⟨⟨_,_,_,n1⟩,⟨_,_,n2⟩,⟨_,n3⟩,n4,_⟩:=n;refine⟨nd,nt.set,⟨us',Qn (Ne.symm n1) g1,DNs.mono v g2⟩,⟨vs,Qn (Ne.symm n2) l1,DLs.mono v l2⟩,⟨ws,Qn (Ne.symm n3) o1,DNs.mono v o2⟩,?_⟩;rw [hk]at ds ⊢;exact⟨Qn (Ne.symm n4) ds.1,_,QdY (ltS e),QR (DNs.mono v pr) (hu.mono v)⟩
end
section
variable {q:Pw}{W:Wr}{tk:List Nm}
theorem ZE{o:E}{g2:Hs}(ho:ev T cf (d+2) o Z h=some (.ref r,g1))(hr:g1[r]?=some (.lst us))(he:ev T cf (d+2) e Z g1=some (u,g2))(hr2:g2[r]?=some (.lst us))(hl:us.length<1000000):ex T cf (d+4) (.expr (.bm .append o [e])) Z h=some (.next,Z,g2.set r (.lst (us++[u]))):=by
 rw [Ze,QhS,ho,Qh];simp only [QbV,hr,bL,if_true,evs,he,Qh,bmU,hr2,bmL,hl]
theorem Qix(r7:Z[7]?=some (some (.ref q.d)))(r13:Z[13]?=some (some (.str ks)))(e:h[q.d]?=some (.dic [])):ev T cf (d+3) (.bm .setdef (.var 7) [.var 13,.lst []]) Z h=some (.ref h.length,(h++[O.lst []]).set q.d (.dic [(.str ks,.ref h.length)])):=by
 have e':(h++[O.lst []])[q.d]?=some (.dic []):=Qo e;rw [QhS,Qq,r7,Qh];simp only [QbV,e,bD,if_true,evs,Qq,r13,Qh,Zd,bmU,e',bmD,JF,List.length_nil,Qb4,List.nil_append,true_and]
 rw [if_pos (by decide)]
theorem Qiw{k:Nat}(r7:Z[7]?=some (some (.ref q.d)))(r13:Z[13]?=some (some (.str ks)))(e:h[q.d]?=some (.dic [(.str ks,.ref k)])):ev T cf (d+3) (.bm .setdef (.var 7) [.var 13,.lst []]) Z h=some (.ref k,h++[O.lst []]):=by
 have e':(h++[O.lst []])[q.d]?=some (.dic [(.str ks,.ref k)]):=Qo e;rw [QhS,Qq,r7,Qh];simp only [QbV,e,bD,if_true,evs,Qq,r13,Qh,Zd,bmU,e',bmD,JF,List.length_singleton,Qb4,true_and]
 rw [if_pos (by decide)]
theorem QeV(r6:Z[6]?=some (some (.ref q.o)))(r7:Z[7]?=some (some (.ref q.d)))(r10:Z[10]?=some (some (.ref tp)))(r12:Z[12]?=some (some (.int 0 0)))(r13:Z[13]?=some (some (.str w)))
  (z:WH ks h q W) (wk:WK q W) (ht:Vw q.M h tp=some (.lst ts)) (pt:Paired (DN (Vw q.M h)) ts tk) (hw:w=ZA\/w=ks/\ks≠ZA) (ok:0<tk.length) (b1:W.gn.length<900000) (b2:W.pt.length<900000):
  ∃h2 q',exs T cf (d+12) Qag Z h=some (.next,Z,h2)/\q'.g=q.g/\q'.l=q.l/\q'.o=q.o/\q'.d=q.d/\WH ks h2 q' (ZO tk W w)/\WK q' (ZO tk W w)/\Ge (Vw q.M h) (Vw q'.M h2):=by
 have tst:∀y:List Nat,evT T cf (d+10) (.cmp .Eq (.var 13) (.c (.str y))) Z h=some (decide (w=y),h):=fun y=>by
  rw [Qr,QG,Qt r13,Qh,y_c,Qh,QdK];rfl
 obtain⟨v,hv,dv⟩:=QbX (T:=T) (i:=0) (Qb ht).2 pt (Int.le_refl 0) (by lia)
 by_cases c:w=ZA
 ·obtain⟨us,o1,o2⟩:=z.os;have lu:=Qf o2
  have a:=Yy (T:=T) (cf:=cf) (d:=d+5) (i:=6) (e:=.ix (.var 10) (.var 12)) r6 o1 (Qcs (Qt r10) (Qt r12) hv) o1 (by lia)
  refine⟨_,q,?_,rfl,rfl,rfl,rfl,by unfold ZO;rw [if_pos c];exact z.addO o1 o2 dv,by unfold ZO;rw [if_pos c];exact wk,Vw.set Pw.o_mem⟩
  rw [Qag,Qd,QC,tst,Qh,decide_eq_true c,if_pos rfl,Qd,show ex T cf (d+9) (.expr (.bm .append (.var 6) [.ix (.var 10) (.var 12)])) Z h=_ from a];simp only [Qs]
 ·obtain⟨rfl,_⟩:=hw.resolve_left c;have ds:=z.ds
  have nk:∀{q':Pw},WK q' (ZO tk W w):=fun {q'} _=>by
   unfold ZO;rw [if_neg c];simp
  cases hk:q.k with
  | none =>
   rw [hk]at ds;obtain⟨w1,w2,w3⟩:=z.newK hk dv;have o1:=Qix (T:=T) (cf:=cf) (d:=d+4) r7 r13 ds.1
   have tpn:tp≠q.d:=fun e=>(Qb ht).1 (by rw [e];simp [Pw.M])
   have t1:((h++[O.lst []]).set q.d (.dic [(.str w,.ref h.length)]))[tp]?=some (.lst ts):=by
    rw [List.getElem?_set_ne (Ne.symm tpn)];exact Qo (Qb ht).2
   have dl:=(ltS ds.1)
   have kk:((h++[O.lst []]).set q.d (.dic [(.str w,.ref h.length)]))[h.length]?=some (.lst []):=by
    rw [List.getElem?_set_ne (Nat.ne_of_lt dl)];exact at0
   have hv1:Q9 T (.ref tp) (.int 0 0) ((h++[O.lst []]).set q.d (.dic [(.str w,.ref h.length)]))=some v:=by
    have:=hv;simp only [Q9,(Qb ht).2]at this;simp only [Q9,t1];exact this
   have a:=ZE (T:=T) (cf:=cf) (d:=d+5) (e:=.ix (.var 10) (.var 12)) o1 kk (Qcs (Qt r10) (Qt r12) hv1) kk (by simp)
   refine⟨((h++[O.lst []]).set q.d (O.dic [(U.str w,U.ref h.length)])).set h.length (O.lst [v]),{ q with k:=some h.length },?_,rfl,rfl,rfl,rfl,?_,nk,w3⟩
   ·rw [Qag,Qd,QC,tst,Qh,decide_eq_false c];simp only [Bool.false_eq_true,if_false];rw [Qd,show ex T cf (d+9) (.expr (.bm .append (.bm .setdef (.var 7) [.var 13,.lst []]) [.ix (.var 10) (.var 12)])) Z h=_ from a];simp only [Qs,List.nil_append]
   ·unfold ZO;rw [if_neg c,w2];exact w1
  | some k =>
   rw [hk]at ds;obtain⟨d1,us,d2,d3⟩:=ds;have lu:=Qf d3;have o1:=Qiw (T:=T) (cf:=cf) (d:=d+4) r7 r13 d1;have K:Kp h (h++[O.lst []]):=Kp.app _ _
   have hv1:Q9 T (.ref tp) (.int 0 0) (h++[O.lst []])=some v:=by
    have:=hv;simp only [Q9,(Qb ht).2]at this;simp only [Q9,show(h++[O.lst []])[tp]?=some (.lst ts)from K _ _ (Qb ht).2];exact this
   have a:=ZE (T:=T) (cf:=cf) (d:=d+5) (e:=.ix (.var 10) (.var 12)) o1 (K _ _ d2) (Qcs (Qt r10) (Qt r12) hv1) (K _ _ d2) (by lia)
   have mk:k∈q.M:=by simp [Pw.M,hk]
   refine⟨(h++[O.lst []]).set k (O.lst (us++[v])),q,?_,rfl,rfl,rfl,rfl,?_,nk,(Vw.kp K).trans (Vw.set mk)⟩
   ·rw [Qag,Qd,QC,tst,Qh,decide_eq_false c];simp only [Bool.false_eq_true,if_false];rw [Qd,show ex T cf (d+9) (.expr (.bm .append (.bm .setdef (.var 7) [.var 13,.lst []]) [.ix (.var 10) (.var 12)])) Z h=_ from a];simp only [Qs]
   ·unfold ZO;rw [if_neg c];exact(z.kp K).addK hk (K _ _ d2) (DNs.mono (Vw.kp K) d3) (dv.mono (Vw.kp K))
end
theorem Z7{k:Nat}(I:Nat->Rho->Hs->Prop)(hv:ev T cf (d+1) e Z h0=some (.ref p,hs))(hp:hs[p]?=some (.lst us))(kp:∀i Z h,I i Z h->h[p]?=some (.lst us))
  (st:∀i u,us[i]?=some u->∀Z h,I i Z h->∃r a b,u=.ref r/\h[r]?=some (.tup [a,b])/\∃ρ2 h2,exs T cf (d+1) body ((Z.set j (some a)).set k (some b)) h=some (.next,ρ2,h2)/\I (i+1) ρ2 h2) (z0:I 0 Z hs):
  ∃ρ2 h2,ex T cf (d+2) (.loop (.pair j k) (.seq e) body) Z h0=some (.next,ρ2,h2)/\I us.length ρ2 h2:=by
 obtain⟨ρ2,h2,e2,i2⟩:=Qdh (T:=T) (w:=.seqL (.ref p)) (t:=.pair j k) (body:=exs T cf (d+1) body) I (n:=us.length)
  (fun i hi Z h z=>by
   obtain⟨r,a,b,eu,er,ρ2,h2,e,z2⟩:=st i us[i] (List.getElem?_eq_getElem hi) Z h z
   exact⟨.one us[i],_,ρ2,h2,by simp [itm,QU,kp _ _ _ z,hi],by rw [eu];simp only [tgt,er],e,z2⟩)
  (fun Z h z=>by simp [itm,QU,kp _ _ _ z]) us.length 0 (us.length+1) Z hs (by lia) (by lia) z0
 refine⟨ρ2,h2,?_,i2⟩;rw [Qa2]
 have sr:Zi T (ev T cf (d+1)) Z (.seq e) h0=some (.seqL (.ref p),hs):=by simp only [Zi,hv,Qh,wkS,QU,hp,Option.map_some]
 have tn:Zg T (.seqL (.ref p)) hs=us.length+1:=by simp only [Zg,QU,hp,Option.getD_some]
 rw [sr,Qh,tn];exact e2
noncomputable def ZU(a b c dd:Option U)(q:Pw)(at_:Int)(one tkn tie p w:Option U):Rho:=[a,b,some (.int 1 0),c,some (.ref q.g),some (.ref q.l),some (.ref q.o),some (.ref q.d),some (.int at_ 0),one,tkn,tie,p,w]
theorem QZ{β:Type}{f:β->α->β}{b:β}{xs:List α}{x:α}(h:xs[i]?=some x):(xs.take (i+1)).foldl f b=f ((xs.take i).foldl f b) x:=by
 rw [QH h,List.foldl_append];rfl
theorem Q1{tk:List Nm}:∀{ts:List Ti} {W:Wr},(ts.foldl (YF tk) W).gv.length=W.gv.length+ts.length/\(ts.foldl (YF tk) W).lp.length<=W.lp.length+ts.length/\(ts.foldl (YF tk) W).gn=W.gn/\(ts.foldl (YF tk) W).pt=W.pt
 | [],W=>by simp
 | t::r,W=>by
  have ih:=Q1 (tk:=tk) (ts:=r) (W:=YF tk W t);simp only [List.foldl_cons,List.length_cons]
  cases t with
  | nw ps s l=>simp only [YF,List.length_append,List.length_singleton]at ih ⊢;refine⟨by lia,by lia,ih.2.2.1,ih.2.2.2⟩
  | sm=>simp only [YF,List.length_append,List.length_singleton]at ih ⊢;refine⟨by lia,by lia,ih.2.2.1,ih.2.2.2⟩
section
variable {one:Nat}{a b c dd p w:Option U}{at_:Int}{q:Pw}{W:Wr}{tk:List Nm}{sp:Sp}
theorem Qik(z:WH ks h q W)(st:St s o sp)(gd:Gd ks sp)(lt:tk.length=sp.tk)(ho:Vw q.M h one=some o)(ht:Vw q.M h tp=some (.lst ts))(pt:Paired (DN (Vw q.M h)) ts tk)(b1:W.gv.length<800000)(b2:W.lp.length<800000):
  ∃h2 u',ex (tb s) (Qa (tb s) (n+1)) (d+20) (.loop (.name 11) (.seq (.meth 0 (.var 9) [])) Qax) (ZU a b c dd q at_ (some (.ref one)) (some (.ref tp)) u11 p w) h=some (.next,ZU a b c dd q at_ (some (.ref one)) (some (.ref tp)) u' p w,h2)/\WH ks h2 q (sp.ts.foldl (YF tk) W)/\Ge (Vw q.M h) (Vw q.M h2):=by
 obtain⟨h',us,e1,k1,pr⟩:=st.ties (n:=n) (d:=d+17) (i:=9) (Z:=ZU a b c dd q at_ (some (.ref one)) (some (.ref tp)) u11 p w) (Qb ho).2 rfl;have K:Kp h (h'++[.lst us]):=k1.trans (Kp.app _ _);have z1:=z.kp K;have nl:h'.length∉q.M:=fun m=>Nat.lt_irrefl _ ((z.nt.kp k1) _ m).1;have lu:=Qf pr;have prv:Paired (DTi (Vw q.M (h'++[.lst us]))) us sp.ts:=Qj (fun _ _ y=>(y.mono (Kp.app _ _)).vw z1.nt) pr
 obtain⟨ρ2,h2,e2,u',rfl,_,w2,g2⟩:=Jb (T:=tb s) (cf:=Qa (tb s) (n+1)) (d:=d+18) (k:=11) (body:=Qax) (I:=fun i Z g=>∃u',Z=ZU a b c dd q at_ (some (.ref one)) (some (.ref tp)) u' p w/\i<=us.length/\WH ks g q ((sp.ts.take i).foldl (YF tk) W)/\Ge (Vw q.M (h'++[.lst us])) (Vw q.M g)) e1 at0
  (fun i Z g z=>by
   obtain⟨u',_,_,_,k⟩:=z
   exact(Qb (k _ _ (Vw.at nl at0))).2)
  (fun i u hu Z g z=>by
   obtain⟨u',e,li,w1,k⟩:=z;subst e;obtain⟨t,hx,dt⟩:=Q0 prv hu;have hi:=(ltS hu);have mt:=List.mem_of_getElem? hx;have l8:=gd.2.1;have bl:=Q1 (tk:=tk) (ts:=sp.ts.take i) (W:=W);simp only [List.length_take]at bl
   obtain⟨g2,c,w2,k2⟩:=Qd9 (T:=tb s) (cf:=Qa (tb s) (n+1)) (d:=d+3) (Z:=ZU a b c dd q at_ (some (.ref one)) (some (.ref tp)) (some u) p w) (t:=t) rfl rfl rfl rfl rfl rfl w1 (k _ _ (Vw.kp K _ _ ht)) (DNs.mono k (DNs.mono (Vw.kp K) pt)) (dt.mono k) (by rw [lt];exact gd.2.2.1 t mt) (by lia) (by lia)
   exact⟨_,g2,c,some u,rfl,hi,by rw [QZ hx];exact w2,k.trans k2⟩)
  ⟨u11,rfl,Nat.zero_le _,z1,Ge.refl⟩
 rw [lu,List.take_length]at w2;exact⟨h2,u',e2,w2,(Vw.kp K).trans g2⟩
end
theorem Zk{tk:List Nm}:∀{es:List (List Nat)} {W:Wr},(es.foldl (ZO tk) W).gn.length<=W.gn.length+es.length/\(es.foldl (ZO tk) W).pt.length<=W.pt.length+es.length/\(es.foldl (ZO tk) W).gv=W.gv/\(es.foldl (ZO tk) W).lp=W.lp
 | [],W=>by simp
 | w::r,W=>by
  have ih:=Zk (tk:=tk) (es:=r) (W:=ZO tk W w);simp only [List.foldl_cons,List.length_cons];unfold ZO at ih ⊢;split at ih
  ·rename_i c;simp only [c,if_true,List.length_append,List.length_singleton]at ih ⊢
   exact⟨by lia,by lia,ih.2.2.1,ih.2.2.2⟩
  ·rename_i c;simp only [c,if_false,List.length_append,List.length_singleton]at ih ⊢
   exact⟨by lia,by lia,ih.2.2.1,ih.2.2.2⟩
section
variable {one:Nat}{a b c dd p w:Option U}{at_:Int}{q:Pw}{W:Wr}{tk:List Nm}{sp:Sp}
def Qfb(q q':Pw):Prop:=q'.g=q.g/\q'.l=q.l/\q'.o=q.o/\q'.d=q.d
theorem Qj8(hko:ks≠ZA)(z:WH ks h q W)(wk:WK q W)(st:St s o sp)(gd:Gd ks sp)(lt:tk.length=sp.tk)(ho:Vw q.M h one=some o)(ht:Vw q.M h tp=some (.lst ts))(pt:Paired (DN (Vw q.M h)) ts tk)(b1:W.gn.length<800000)(b2:W.pt.length<800000):
  ∃h2 q' p' w',ex (tb s) (Qa (tb s) (n+1)) (d+20) (.loop (.pair 12 13) (.seq (.meth 1 (.var 9) [])) Qag) (ZU a b c dd q at_ (some (.ref one)) (some (.ref tp)) u11 p w) h=some (.next,ZU a b c dd q at_ (some (.ref one)) (some (.ref tp)) u11 p' w',h2)/\Qfb q q'/\WH ks h2 q' (sp.es.foldl (ZO tk) W)/\WK q' (sp.es.foldl (ZO tk) W)/\Ge (Vw q.M h) (Vw q'.M h2):=by
 obtain⟨h',us,e1,k1,pr⟩:=st.ends (n:=n) (d:=d+17) (i:=9) (Z:=ZU a b c dd q at_ (some (.ref one)) (some (.ref tp)) u11 p w) (Qb ho).2 rfl;have K:Kp h (h'++[.lst us]):=k1.trans (Kp.app _ _);have z1:=z.kp K;have nl:h'.length∉q.M:=fun m=>Nat.lt_irrefl _ ((z.nt.kp k1) _ m).1;have lu:=Qf pr;have prv:Paired (DEn (Vw q.M (h'++[.lst us]))) us sp.es:=Qj (fun _ _ y=>(y.mono (Kp.app _ _)).vw z1.nt) pr
 obtain⟨ρ2,h2,e2,q',p',w',sq,rfl,_,w2,wk2,g2⟩:=Z7 (T:=tb s) (cf:=Qa (tb s) (n+1)) (d:=d+18) (j:=12) (k:=13) (body:=Qag) (I:=fun i Z g=>∃q' p' w',Qfb q q'/\Z=ZU a b c dd q at_ (some (.ref one)) (some (.ref tp)) u11 p' w'/\i<=us.length/\WH ks g q' ((sp.es.take i).foldl (ZO tk) W)/\WK q' ((sp.es.take i).foldl (ZO tk) W)/\Ge (Vw q.M (h'++[.lst us])) (Vw q'.M g)) e1 at0
  (fun i Z g z=>by
   obtain⟨q',p',w',_,_,_,_,_,k⟩:=z
   exact(Qb (k _ _ (Vw.at nl at0))).2)
  (fun i u hu Z g z=>by
   obtain⟨q',p',w',sq,e,li,w1,wk1,k⟩:=z;subst e;obtain⟨x,hx,dt⟩:=Q0 prv hu;obtain⟨r,rfl,er⟩:=dt;have hi:=(ltS hu);have mt:=List.mem_of_getElem? hx;obtain⟨g1,g2,g3,g4,g5⟩:=gd;obtain⟨t0,tw⟩:=g5 x mt;have bl:=Zk (tk:=tk) (es:=sp.es.take i) (W:=W);simp only [List.length_take]at bl;obtain⟨s1,s2,s3,s4⟩:=sq
   obtain⟨h2,q2,c,a1,a2,a3,a4,w2,wk2,k2⟩:=QeV (T:=tb s) (cf:=Qa (tb s) (n+1)) (d:=d+7) (q:=q') (Z:=ZU a b c dd q at_ (some (.ref one)) (some (.ref tp)) u11 (some (.int 0 0)) (some (.str x))) (w:=x) (by rw [s3];rfl) (by rw [s4];rfl) rfl rfl rfl w1 wk1 (k _ _ (Vw.kp K _ _ ht)) (DNs.mono k (DNs.mono (Vw.kp K) pt)) (tw.imp id fun y=>⟨y.1,hko⟩) (by lia) (by lia) (by lia)
   exact⟨r,_,_,rfl,(Qb (k _ _ er)).2,_,h2,c,q2,_,_,⟨a1.trans s1,a2.trans s2,a3.trans s3,a4.trans s4⟩,rfl,hi,by rw [QZ hx];exact w2,by rw [QZ hx];exact wk2,k.trans k2⟩)
  ⟨q,p,w,⟨rfl,rfl,rfl,rfl⟩,rfl,Nat.zero_le _,z1,wk,Ge.refl⟩
 rw [lu,List.take_length]at w2 wk2;exact⟨h2,q',p',w',e2,sq,w2,wk2,(Vw.kp K).trans g2⟩
end
theorem Qkd{xs:List α}{t:Nat}(h:a+t<=xs.length):Qah xs (some (a:Int)) (some ((a:Int)+t))=(xs.drop a).take t:=by
 have n1:¬(a:Int) < 0:=by lia
 have n2:¬(a:Int)+t<0:=by lia
 unfold Qah;simp only [Qcc,if_neg n1,if_neg n2]
 rw [show((a:Int)).toNat=a by lia,show((a:Int)+t).toNat=a+t by lia,Nat.min_eq_left h,Nat.min_eq_left (show a<=xs.length by lia),Nat.add_sub_cancel_left]
theorem ZV{α β:Type}{P:α->β->Prop}:∀{l:List α} {r:List β},Paired P l r->∀a t,Paired P ((l.drop a).take t) ((r.drop a).take t)
 | _,_,.nil,a,t=>by simp;exact .nil
 | x::l,y::r,.cons z w,0,0=>.nil
 | x::l,y::r,.cons z w,0,t+1=>.cons z (ZV w 0 t)
 | x::l,y::r,.cons z w,a+1,t=>ZV w a t
section
variable {lp one at_:Nat}{a c dd u10 p w:Option U}{q:Pw}{W:Wr}{line:List Nm}{sp:Sp}
theorem Qh5{lo hi:E}{r:Int}{res:Option (U×Hs)}(e1:ev T cf d e Z h=some (u,h))(e2:ev T cf d lo Z h=some (.int l 0,h))(e3:ev T cf d hi Z h=some (.int r 0,h))(e4:slU T u (some l) (some r) h=res):ev T cf (d+1) (.sl e (some lo) (some hi)) Z h=res:=by
 rw [Qn3,e1,Qh];simp only [evO,e2,Qh,e3,e4]
theorem Qlq(hko:ks≠ZA)(z:WH ks h q W)(wk:WK q W)(st:St s o sp)(gd:Gd ks sp)(ho:Vw q.M h one=some o)(hl:Vw q.M h lp=some (.lst xs))(pl:Paired (DN (Vw q.M h)) xs line)(le:at_+sp.tk<=line.length)
  (b1:W.gv.length<700000) (b2:W.lp.length<700000) (b3:W.gn.length<700000) (b4:W.pt.length<700000):
  ∃h2 q' u10' u11' p' w',exs (tb s) (Qa (tb s) (n+1)) (d+26) QhL (ZU a (some (.ref lp)) c dd q at_ (some (.ref one)) u10 u11 p w) h=some (.next,ZU a (some (.ref lp)) c dd q' ((at_+sp.tk:Nat):Int) (some (.ref one)) u10' u11' p' w',h2)/\Qfb q q'/\WH ks h2 q' (stW ((line.drop at_).take sp.tk) W sp)/\WK q' (stW ((line.drop at_).take sp.tk) W sp)/\Ge (Vw q.M h) (Vw q'.M h2):=by
 have lx:=Qf pl;have hlp:=(Qb hl).2;have hon:=(Qb ho).2
 have ta:∀(d:Nat) (i:Int) (u10:Option U) (g:Hs),g[one]?=some o->ev (tb s) (Qa (tb s) (n+1)) (d+3) (.op .Add (.var 8) (.meth 2 (.var 9) [])) (ZU a (some (.ref lp)) c dd q i (some (.ref one)) u10 u11 p w) g=some (.int (i+sp.tk) 0,g):=fun d i u10 g e=>by
  rw [ZC,Qt (u:=.int i 0) rfl,Qh,st.takes (n:=n) (d:=d) (i:=9) (Z:=ZU a (some (.ref lp)) c dd q i (some (.ref one)) u10 u11 p w) e rfl,Qh,Qda]
 have c1:ev (tb s) (Qa (tb s) (n+1)) (d+24) (.sl (.var 1) (some (.var 8)) (some (.op .Add (.var 8) (.meth 2 (.var 9) [])))) (ZU a (some (.ref lp)) c dd q at_ (some (.ref one)) u10 u11 p w) h=some (.ref h.length,h++[.lst ((xs.drop at_).take sp.tk)]):=by
  refine Qh5 (l:=at_) (r:=(at_:Int)+sp.tk) (u:=.ref lp) (Qt rfl) (Qt rfl) (ta (d+20) at_ u10 h hon) ?_;simp only [slU,hlp]
  rw [Qkd (by lia)]
 have K:Kp h (h++[.lst ((xs.drop at_).take sp.tk)]):=Kp.app _ _;have z1:=z.kp K;have nl:h.length∉q.M:=fun m=>Nat.lt_irrefl _ (z.nt _ m).1
 have lt:((line.drop at_).take sp.tk).length=sp.tk:=by simp;lia
 obtain⟨h1,u1,e1,w1,g1⟩:=Qik (s:=s) (n:=n) (d:=d+3) (a:=a) (b:=some (.ref lp)) (c:=c) (dd:=dd) (p:=p) (w:=w) (u11:=u11) (at_:=((at_+sp.tk:Nat):Int)) (tp:=h.length) z1 st gd lt (Vw.kp K _ _ ho) (Vw.at nl at0) (DNs.mono (Vw.kp K) (ZV pl at_ sp.tk)) (by lia) (by lia)
 have bl:=Q1 (tk:=(line.drop at_).take sp.tk) (ts:=sp.ts) (W:=W)
 obtain⟨h2,q',p',w',e2,sq,w2,wk2,g2⟩:=Qj8 (s:=s) (n:=n) (d:=d+2) (a:=a) (b:=some (.ref lp)) (c:=c) (dd:=dd) (p:=p) (w:=w) (u11:=u1) (at_:=((at_+sp.tk:Nat):Int)) (tp:=h.length) hko w1 (by unfold WK;rw [bl.2.2.2];exact wk) st gd lt (g1 _ _ (Vw.kp K _ _ ho)) (g1 _ _ (Vw.at nl at0)) (DNs.mono g1 (DNs.mono (Vw.kp K) (ZV pl at_ sp.tk))) (by rw [bl.2.2.1];lia) (by rw [bl.2.2.2];lia)
 have rs:∀(i:Int) (x y u v:Option U),ZU a (some (.ref lp)) c dd q i x y u p' v=ZU a (some (.ref lp)) c dd q' i x y u p' v:=fun i x y u v=>by
  obtain⟨s1,s2,s3,s4⟩:=sq;unfold ZU;rw [s1,s2,s3,s4]
 refine⟨h2,q',some (.ref h.length),u1,p',w',?_,sq,w2,wk2,((Vw.kp K).trans g1).trans g2⟩;rw [QhL,Qd,QX,c1,Qh];dsimp only;rw [show(ZU a (some (.ref lp)) c dd q at_ (some (.ref one)) u10 u11 p w).set 10 (some (.ref h.length))=ZU a (some (.ref lp)) c dd q at_ (some (.ref one)) (some (.ref h.length)) u11 p w from rfl,Qd,QX,ta (d+20) at_ (some (.ref h.length)) _ (K _ _ hon),Qh];dsimp only
 rw [show(ZU a (some (.ref lp)) c dd q at_ (some (.ref one)) (some (.ref h.length)) u11 p w).set 8 (some (.int ((at_:Int)+sp.tk) 0))=ZU a (some (.ref lp)) c dd q ((at_+sp.tk:Nat):Int) (some (.ref one)) (some (.ref h.length)) u11 p w by
  unfold ZU;simp only [List.set_cons_succ,List.set_cons_zero]
  rw [show(at_:Int)+sp.tk=((at_+sp.tk:Nat):Int) by lia]]
 rw [Qd,show ex (tb s) (Qa (tb s) (n+1)) (d+23) (.loop (.name 11) (.seq (.meth 0 (.var 9) [])) Qax) _ _=_ from e1];dsimp only;rw [Qd,show ex (tb s) (Qa (tb s) (n+1)) (d+22) (.loop (.pair 12 13) (.seq (.meth 1 (.var 9) [])) Qag) _ _=_ from e2];simp only [Qs,rs]
end
noncomputable def W0:Wr:=⟨[],[],[],[]⟩
theorem Yb:∀{sps:List Sp} {line:List Nm} {W:Wr},(sps.foldl stp (line,W)).1=line.drop (tks sps)
 | [],line,W=>by simp [tks]
 | sp::r,line,W=>by
  rw [List.foldl_cons];show(r.foldl stp (line.drop sp.tk,_)).1=_;rw [Yb,List.drop_drop];simp [tks]
theorem Qgh{tk:List Nm}{W:Wr}{sp:Sp}(gd:Gd ks sp):(stW tk W sp).gv.length<=W.gv.length+8/\(stW tk W sp).lp.length<=W.lp.length+8/\(stW tk W sp).gn.length<=W.gn.length+8/\(stW tk W sp).pt.length<=W.pt.length+8:=by
 obtain⟨_,g2,_,g4,_⟩:=gd;obtain⟨a1,a2,a3,a4⟩:=Q1 (tk:=tk) (ts:=sp.ts) (W:=W);obtain⟨b1,b2,b3,b4⟩:=Zk (tk:=tk) (es:=sp.es) (W:=sp.ts.foldl (YF tk) W);unfold stW;rw [b3,b4];rw [a3]at b1;rw [a4]at b2;lia
theorem Ym{ks:List Nat}:∀{sps:List Sp} {line:List Nm} {W:Wr} {k:Nat},(∀sp∈sps,Gd ks sp)->W.gv.length<=k->W.lp.length<=k->W.gn.length<=k->W.pt.length<=k->(sps.foldl stp (line,W)).2.gv.length<=k+8*sps.length/\(sps.foldl stp (line,W)).2.lp.length<=k+8*sps.length/\(sps.foldl stp (line,W)).2.gn.length<=k+8*sps.length/\(sps.foldl stp (line,W)).2.pt.length<=k+8*sps.length
 | [],line,W,k,_,a,b,c,d=>⟨a,b,c,d⟩
 | sp::r,line,W,k,g,a,b,c,d=>by
  obtain⟨e1,e2,e3,e4⟩:=Qgh (tk:=line.take sp.tk) (W:=W) (g sp List.mem_cons_self)
  have:=Ym (ks:=ks) (sps:=r) (line:=line.drop sp.tk) (W:=stW (line.take sp.tk) W sp) (k:=k+8) (fun x m=>g x (List.mem_cons_of_mem _ m)) (by lia) (by lia) (by lia) (by lia)
  simp only [List.foldl_cons,List.length_cons];obtain⟨t1,t2,t3,t4⟩:=this;show(r.foldl stp (line.drop sp.tk,stW (line.take sp.tk) W sp)).2.gv.length<=_/\(r.foldl stp (line.drop sp.tk,stW (line.take sp.tk) W sp)).2.lp.length<=_/\(r.foldl stp (line.drop sp.tk,stW (line.take sp.tk) W sp)).2.gn.length<=_/\(r.foldl stp (line.drop sp.tk,stW (line.take sp.tk) W sp)).2.pt.length<=_;lia
theorem Qba{sps:List Sp}{sp:Sp}(h:sps[i]?=some sp):tks (sps.take (i+1))=tks (sps.take i)+sp.tk/\tks (sps.take (i+1))<=tks sps:=by
 refine⟨by rw [QH h,Jg],?_⟩
 have:tks (sps.take (i+1)++sps.drop (i+1))=tks (sps.take (i+1))+tks (sps.drop (i+1)):=by
  unfold tks;rw [List.map_append,List.sum_append]
 rw [List.take_append_drop]at this;lia
theorem Qh9:WH ks (h++[.lst [],.lst [],.lst [],.dic []]) ⟨h.length,h.length+1,h.length+2,h.length+3,none⟩ W0/\Ge (Hg h) (Vw (Pw.M ⟨h.length,h.length+1,h.length+2,h.length+3,none⟩) (h++[.lst [],.lst [],.lst [],.dic []])):=by
 have a:∀k,(h++[O.lst [],.lst [],.lst [],.dic []])[h.length+k]?=[O.lst [],.lst [],.lst [],.dic []][k]?:=fun k=>by rw [List.getElem?_append_right (Nat.le_add_right _ _),Nat.add_sub_cancel_left]
 have M1:Pw.M ⟨h.length,h.length+1,h.length+2,h.length+3,none⟩=[h.length,h.length+1,h.length+2,h.length+3]:=rfl;refine⟨⟨?_,?_,⟨[],a 0,.nil⟩,⟨[],a 1,.nil⟩,⟨[],a 2,.nil⟩,⟨a 3,rfl⟩⟩,fun p o e=>?_⟩
 ·rw [M1];simp
 ·rw [M1];intro m hm;simp only [List.mem_cons,List.not_mem_nil,or_false]at hm
  rcases hm with rfl|rfl|rfl|rfl
  ·exact⟨by simp,fun us w=>by rw [show(h++[O.lst [],.lst [],.lst [],.dic []])[h.length]?=_ from a 0]at w;cases w⟩
  ·exact⟨by simp,fun us w=>by rw [a 1]at w;cases w⟩
  ·exact⟨by simp,fun us w=>by rw [a 2]at w;cases w⟩
  ·exact⟨by simp,fun us w=>by rw [a 3]at w;cases w⟩
 ·have lp:=(ltS (show h[p]?=some o from e));refine Vw.at ?_ (Qo e);rw [M1];simp only [List.mem_cons,List.not_mem_nil,or_false];lia
section
variable {lp:Nat}{u3:U}{sps:List Sp}{line:List Nm}
theorem QhB(hko:ks≠ZA)(hr:h[rp]?=some (.lst us))(pr:Paired (SO s ks (Hg h)) us sps)(hl:h[lp]?=some (.lst xs))(px:Paired (DN (Hg h)) xs line)(le:tks sps<=line.length)(lu:us.length<=60):
  ∃g q,Qa (tb s) (n+2) 39 [.ref rp,.ref lp,.int 1 0,u3] h=some (.ref g.length,g++[.tup [.ref q.g,.ref q.l,.ref q.o,.ref q.d]])/\WH ks g q (sps.foldl stp (line,W0)).2/\WK q (sps.foldl stp (line,W0)).2/\Ge (Hg h) (Vw q.M g):=by
 obtain⟨z0,v0⟩:=Qh9 (ks:=ks) (h:=h);generalize hq:(⟨h.length,h.length+1,h.length+2,h.length+3,none⟩:Pw)=q0 at z0 v0;generalize hh:h++[O.lst [],.lst [],.lst [],.dic []]=g0 at z0 v0;have ls:=Qf pr
 obtain⟨ρ2,g2,e2,q',u9,u10,u11,p,w,sq,rfl,_,w2,wk2,k2⟩:=Yj (T:=tb s) (cf:=Qa (tb s) (n+1)) (d:=92) (j:=0) (k:=9) (p:=rp) (us:=us) (body:=QhL) (Z:=ZU (some (.ref rp)) (some (.ref lp)) (some u3) none q0 0 none none none none none) (hs:=g0)
  (fun i Z g=>∃q' u9 u10 u11 p w,Qfb q0 q'/\Z=ZU (some (.ref rp)) (some (.ref lp)) (some u3) none q' ((tks (sps.take i):Nat):Int) u9 u10 u11 p w/\i<=us.length/\WH ks g q' ((sps.take i).foldl stp (line,W0)).2/\WK q' ((sps.take i).foldl stp (line,W0)).2/\Ge (Vw q0.M g0) (Vw q'.M g)) rfl (Qb (v0 _ _ hr)).2
  (fun i Z g z=>by
   obtain⟨q',u9,u10,u11,p,w,_,_,_,_,_,k⟩:=z
   exact(Qb (k _ _ (v0 _ _ hr))).2)
  (fun i u hu Z g z=>by
   obtain⟨q',u9,u10,u11,p,w,sq,e,li,w1,wk1,k⟩:=z;subst e;obtain⟨sp,hx,one,o,rfl,eo,st,gd⟩:=Q0 pr hu;have hi:=(ltS hu);obtain⟨t1,t2⟩:=Qba hx
   have gds:∀x∈sps.take i,Gd ks x:=fun x m=>by
    obtain⟨j,hj⟩:=List.getElem?_of_mem (List.mem_of_mem_take m);obtain⟨_,_,_,_,_,_,_,g⟩:=Jq pr hj;exact g
   obtain⟨c1,c2,c3,c4⟩:=Ym (ks:=ks) (sps:=sps.take i) (line:=line) (W:=W0) (k:=0) gds (by simp [W0]) (by simp [W0]) (by simp [W0]) (by simp [W0])
   simp only [List.length_take]at c1 c2 c3 c4
   obtain⟨h2,q2,a1,a2,a3,a4,c,sq2,w2,wk2,k2⟩:=Qlq (s:=s) (n:=n) (d:=67) (a:=some (.ref rp)) (c:=some u3) (dd:=none) (u10:=u10) (u11:=u11) (p:=p) (w:=w) (at_:=tks (sps.take i)) hko w1 wk1 st gd (k _ _ (v0 _ _ eo)) (k _ _ (v0 _ _ hl)) (DNs.mono k (DNs.mono v0 px)) (by lia) (by lia) (by lia) (by lia) (by lia)
   refine⟨_,h2,c,q2,_,a1,a2,a3,a4,⟨sq2.1.trans sq.1,sq2.2.1.trans sq.2.1,sq2.2.2.1.trans sq.2.2.1,sq2.2.2.2.trans sq.2.2.2⟩,by rw [t1],hi,?_,?_,k.trans k2⟩
   ·rw [QZ hx];show WH ks h2 q2 (stW (((sps.take i).foldl stp (line,W0)).1.take sp.tk) ((sps.take i).foldl stp (line,W0)).2 sp);rw [Yb];exact w2
   ·rw [QZ hx];show WK q2 (stW (((sps.take i).foldl stp (line,W0)).1.take sp.tk) ((sps.take i).foldl stp (line,W0)).2 sp);rw [Yb]
    exact wk2)
  ⟨q0,none,none,none,none,none,⟨rfl,rfl,rfl,rfl⟩,by simp [tks],Nat.zero_le _,z0,(fun y=>by rw [<-hq]at y;cases y),Ge.refl⟩
 rw [ls,List.take_length]at w2 wk2;refine⟨g2,q',?_,w2,wk2,v0.trans k2⟩;rw [Qk fnL[39] rfl rfl];show fin (exs (tb s) (Qa (tb s) (n+1)) (88+12) b39 [some (.ref rp),some (.ref lp),some (.int 1 0),some u3,none,none,none,none,none,none,none,none,none,none] h)=_;unfold b39
 have i1:exs (tb s) (Qa (tb s) (n+1)) (88+12) [.set 4 (.lst []),.set 5 (.lst []),.set 6 (.lst []),.set 7 .dnew,.set 8 (.c (.int 0 0)),.loop (.name 9) (.seq (.var 0)) QhL,.ret (.tup [.var 4,.var 5,.var 6,.var 7])] [some (.ref rp),some (.ref lp),some (.int 1 0),some u3,none,none,none,none,none,none,none,none,none,none] h=exs (tb s) (Qa (tb s) (n+1)) 95 [.loop (.name 9) (.seq (.var 0)) QhL,.ret (.tup [.var 4,.var 5,.var 6,.var 7])] (ZU (some (.ref rp)) (some (.ref lp)) (some u3) none q0 0 none none none none none) g0:=by
  subst hq hh;simp only [Qd,QX,Zd,Qa3,y_c,evs,Qh,List.set_cons_succ,List.set_cons_zero,List.append_assoc,List.cons_append,List.nil_append,List.length_append,List.length_cons,List.length_nil];rfl
 rw [i1,Qd,show ex (tb s) (Qa (tb s) (n+1)) 94 (.loop (.name 9) (.seq (.var 0)) QhL) _ _=_ from e2];simp only [Qd,QN,QY,evs,Qq,ZU,List.getElem?_cons_succ,List.getElem?_cons_zero,Qh,fin]
end
section
variable {k:Nat}{r:Int}{ns:List Int}
theorem Qkt(hk:k<=63):∃x:Int,Qa (tb (ns.map fun i=>U.int i 0)) (n+1) 36 [.scr,.int k 0] h=some (.int x 0,h):=by
 rw [Qk fnL[36] rfl rfl];show ∃x:Int,fin (exs (tb (ns.map fun i=>U.int i 0)) (Qa (tb (ns.map fun i=>U.int i 0)) n) (88+12) [.ite (.cmp .Lt (.var 1) (.bi .len [.var 0])) [.ret (.ix (.var 0) (.var 1))] [],.ret (.c (.int 0 0))] [some .scr,some (.int k 0)] h)=_;have hb:biU (tb (ns.map fun i=>U.int i 0)) .len [.scr] h=some (.int (ns.map fun i=>U.int i 0).length 0,h):=rfl;rw [List.length_map]at hb;generalize hT:tb (ns.map fun i=>U.int i 0)=T at hb ⊢
 have hs:T.scr=ns.map fun i=>U.int i 0:=by rw [<-hT];rfl
 generalize Qa T n=cf;by_cases c:(k:Int) < ns.length
 ·have hk:k<ns.length:=by lia
  refine⟨ns[k],?_⟩
  have e:Q9 T .scr (.int k 0) h=some (.int ns[k] 0):=by
   simp only [Q9,ZR,hs,atU,ixU,List.length_map];rw [if_pos (Int.natCast_nonneg k),if_pos c];simp [hk]
  simp only [Qd,QC,Qr,QG,Qfe,Qq,evs,Qh,List.getElem?_cons_succ,List.getElem?_cons_zero,hb,Qe5,c,decide_true,Option.map_some,QK,if_true,QN,Qcm,e,fin]
 ·refine⟨0,?_⟩;simp only [Qd,QC,Qr,QG,Qfe,Qq,evs,Qh,List.getElem?_cons_succ,List.getElem?_cons_zero,hb,Qe5,c,decide_false,Option.map_some,QK,Bool.false_eq_true,if_false,Qs,QN,y_c,fin]
noncomputable def nmR(r:Int)(m:Nat):List Nm:=(List.range m).map fun i:Nat=>(r,0+(i:Int))
theorem QdJ{i:Int}(i0:0<=i)(i1:i<1000):∃h' us,Qa (tb s) (n+1) 33 [.int r 0,.int i 0] h=some (.ref h'.length,h'++[.lst us])/\Kp h h'/\Paired (DN (Hg h')) us (nmR r i.toNat):=by
 rw [Qk fnL[33] rfl rfl];show ∃h' us,fin (exs (tb s) (Qa (tb s) n) (88+12) [.ret (.comp (.rng (.var 1)) false none (.tup [.var 0,.var 2]))] [some (.int r 0),some (.int i 0)] h)=_/\_;generalize Qa (tb s) n=cf;generalize tb s=T
 obtain⟨vs,h2,e2,k,pr⟩:=ZT (T:=T) (cf:=cf) (d:=96) (lo:=0) (n:=i.toNat) (src:=.rng (.var 1)) (Z:=[some (.int r 0),some (.int i 0)]) (h0:=h) (hs:=h) (D:=DN) (xs:=nmR r i.toNat) (el:=.tup [.var 0,.var 2])
  (fun _ _ _ _ g z=>z.mono g) (Qnr (sm4 i0 (by lia)) (Qt rfl)) (by simp [nmR]) (by lia) fun k t hi h1 k1=>by
   simp only [nmR,List.getElem?_map,Option.map_eq_some_iff]at hi;obtain⟨j,hj,rfl⟩:=hi;obtain⟨l,rfl⟩:=List.getElem?_eq_some_iff.mp hj
   refine⟨.ref h1.length,h1++[.tup [.int r 0,.int (0+(k:Int)) 0]],?_,Kp.app _ _,h1.length,rfl,by simp [Hg]⟩
   rw [QY];simp only [evs,Qq,List.cons_append,List.nil_append,List.getElem?_cons_succ,List.getElem?_cons_zero,Qh]
 exact⟨h2,vs,by rw [Qd,QN,e2,Qh];rfl,k,pr⟩
end
section
noncomputable def Qav:Ti->Bool
 | .nw _ _ _=>true
 | .sm=>false
theorem Qkq{nd:Nat}{fs:List (Nat×U)}{b:Bool}(e:h[nd]?=some (.ins c fs))(f:fs.lookup 6=some (.bl b))(hp:h[p]?=some (.lst us)):Qa (tb s) (n+1) 30 [.ref nd,.ref p] h=some (.ref h.length,h++[.lst (if b then us else us.reverse)]):=by
 rw [Qk fnL[30] rfl rfl];show fin (exs (tb s) (Qa (tb s) n) (88+12) [.ret (.ife (.fld (.var 0) 6) (.bi .list [.var 1]) (.rev (.var 1)))] [some (.ref nd),some (.ref p)] h)=_;generalize Qa (tb s) n=cf;generalize tb s=T
 have a:∀d,evT T cf (d+3) (.fld (.var 0) 6) [some (.ref nd),some (.ref p)] h=some (b,h):=fun d=>by
  have:evT T cf (d+3) (.fld (.var 0) 6) [some (.ref nd),some (.ref p)] h=bd (ev T cf (d+2) (.fld (.var 0) 6) [some (.ref nd),some (.ref p)] h) fun u h1=>(Yl T u h1).map fun b=>(b,h1):=rfl;rw [this,Zo rfl e f,Qh];rfl
 have l:biU T .list [.ref p] h=some (.ref h.length,h++[.lst us]):=by
  unfold biU;simp only [ZR,hp]
 rw [Qd,QN,JH,a,Qh];cases b
 ·rw [if_neg (by decide),QkF]
  simp only [Qq,List.getElem?_cons_succ,List.getElem?_cons_zero,Qh,QU,hp,fin];rfl
 ·rw [if_pos rfl,Qfe];simp only [evs,Qq,List.getElem?_cons_succ,List.getElem?_cons_zero,Qh,l,fin];rfl
theorem YB{nd:Nat}{fs:List (Nat×U)}(e:h[nd]?=some (.ins c fs))(f:fs.lookup 6=some (.bl true))(hp:h[p]?=some (.lst us)):Qa (tb s) (n+1) 30 [.ref nd,.ref p] h=some (.ref h.length,h++[.lst us]):=Qkq e f hp
end
noncomputable def nI(w:List Nat)(b:Bool)(R K o L r:Nat):O:=.ins 9 [(2,.str w),(6,.bl b),(9,.ref R),(10,.ref K),(11,.ref o),(7,.ref L),(8,.ref r)]
noncomputable def cI(N S C P:Nat):O:=.ins 10 [(12,.ref N),(13,.ref S),(14,.ref C),(15,.ref P)]
section
variable {fs:List (Nat×U)}
theorem ZF(hi:Z[i]?=some (some (.ref q)))(hq:h[q]?=some (.ins c fs))(hf:fs.lookup f=some u):ev T cf (d+2) (.fld (.var i) f) Z h=some (u,h):=Zo (Qt hi) hq hf
theorem Qar(hi:Z[i]?=some (some (.ref q)))(hq:h[q]?=some (.ins c fs))(hC:T.cls[c]?=some C)(hf:C.meths.lookup m=some f)(ha:evs (ev T cf (d+1)) Z es h=some (us,h2))(hz:QaL T f (us.length+1)=[]):ev T cf (d+2) (.meth m (.var i) es) Z h=cf f (.ref q::us) h2:=by
 have e:Z5 T m (.ref q) h=some f:=by
  unfold Z5;simp only [hq,hC,hf]
 rw [Qk1,Qq,hi,Qh];simp only [e,ha,Qh,hz,List.append_nil]
theorem e_1{f:Ev}(h1:f e Z h=some (u,h2)):evs f Z [e] h=some ([u],h2):=by
 simp only [evs,h1,Qh]
theorem e_2{f:Ev}{u':U}(h1:f e Z h=some (u,h2))(h2':f e' Z h2=some (u',h3)):evs f Z [e,e'] h=some ([u,u'],h3):=by
 simp only [evs,h1,h2',Qh]
theorem e_3{e2:E}{f:Ev}{u' u2:U}{h4:Hs}(h1:f e Z h=some (u,h2))(h2':f e' Z h2=some (u',h3))(h3':f e2 Z h3=some (u2,h4)):evs f Z [e,e',e2] h=some ([u,u',u2],h4):=by
 simp only [evs,h1,h2',h3',Qh]
theorem QdX{b:Bi}{r:Option (U×Hs)}(ha:evs (ev T cf d) Z es h=some (us,h2))(hb:biU T b us h2=r):ev T cf (d+1) (.bi b es) Z h=r:=by
 rw [Qfe,ha,Qh,hb]
theorem Yk(he:ev T cf d e Z h=some (.ref p,h2))(hp:h2[p]?=some (.lst xs)):ev T cf (d+1) (.bi .len [e]) Z h=some (.int xs.length 0,h2):=QdX (e_1 he) (QnH hp)
theorem ZH{r:Option (U×Hs)}(ha:evs (ev T cf d) Z es h=some (us,h2))(hb:cf f us h2=r):ev T cf (d+1) (.call f es) Z h=r:=by
 rw [Qcn,ha,Qh,hb]
theorem QV{r:List S}(he:ev T cf (d+1) e Z h=some (u,h2)):exs T cf (d+3) (.set i e::r) Z h=exs T cf (d+2) r (Z.set i (some u)) h2:=by
 rw [Qd,QX,he,Qh]
theorem QfY{r:List S}(he:ev T cf (d+1) e Z h=some (u,h2)):exs T cf (d+3) (.expr e::r) Z h=exs T cf (d+2) r Z h2:=by
 rw [Qd,Ze,he,Qh]
theorem Yh{st:S}{r:List S}(he:ex T cf d st Z h=some (.next,ρ2,h2)):exs T cf (d+1) (st::r) Z h=exs T cf d r ρ2 h2:=by
 rw [Qd,he]
theorem Qa5{a b r:List S}(ht:evT T cf (d+1) t Z h=some (true,h2))(ha:exs T cf (d+1) a Z h2=some (.next,ρ2,h3)):exs T cf (d+3) (.ite t a b::r) Z h=exs T cf (d+2) r ρ2 h3:=by
 rw [Qd,QC,ht,Qh,if_pos rfl,ha]
theorem Zz{a b r:List S}(ht:evT T cf (d+1) t Z h=some (false,h2))(ha:exs T cf (d+1) b Z h2=some (.next,ρ2,h3)):exs T cf (d+3) (.ite t a b::r) Z h=exs T cf (d+2) r ρ2 h3:=by
 rw [Qd,QC,ht,Qh,if_neg Bool.false_ne_true,ha]
theorem Yi(he:ev T cf (d+1) e Z h=some (u,h2)):fin (exs T cf (d+3) [.ret e] Z h)=some (u,h2):=by
 rw [Qd,QN,he,Qh];rfl
theorem Qmh{K:Nat}{k:U}(hK:h[K]?=some (.dic kvs))(hk:JF k=true):bmU T .get (.ref K) [k,v] h=some ((QS kvs k).getD v,h):=by
 unfold bmU;dsimp only;rw [hK];show(if JF k=true then _ else none)=_;rw [if_pos hk]
theorem QlA{K:Nat}(hK:h[K]?=some (.dic kvs)):QbV .get (.ref K) h=true:=by
 unfold QbV;dsimp only;rw [hK];rfl
theorem Qib{a b:E}{K:Nat}{k:U}(he:ev T cf d e Z h=some (.ref K,h))(hK:h[K]?=some (.dic kvs))(ha:evs (ev T cf d) Z [a,b] h=some ([k,v],h2))(hK2:h2[K]?=some (.dic kvs))(hk:JF k=true):ev T cf (d+1) (.bm .get e [a,b]) Z h=some ((QS kvs k).getD v,h2):=by
 rw [QhS,he,Qh,if_pos (QlA hK),ha,Qh,Qmh hK2 hk]
theorem ZG:ev T cf (d+1) (.lst []) Z h=some (.ref h.length,h++[.lst []]):=rfl
theorem QhE{nd K o:Nat}{k:List Nat}{b:Bool}(e:h[nd]?=some (nI w b R K o L r))(hK:h[K]?=some (.dic kvs)):Qa (tb s) (n+1) 26 [.ref nd,.str k] h=some ((QS kvs (.str k)).getD (.ref h.length),h++[.lst []]):=by
 rw [Qk fnL[26] rfl rfl];exact Yi (d:=97) (Qib (d:=97) (ZF rfl e rfl) hK (e_2 (Qt rfl) ZG) (Qo hK) rfl)
end
theorem QbC{T:Tbl}{f:Ev}{ft:Rho->Hs->Option (Bool×Hs)}{w:Wk}{el:E}{Z:Rho}(I:Nat->List U->Hs->Prop){n:Nat}
  (st:∀i,i<n->∀acc hs,I i acc hs->acc.length<1000000/\∃x b h1,itm T w i hs=some (some (.one x))/\ft (Z++[some x]) hs=some (b,h1)/\(b=true->∃u h2,f el (Z++[some x]) h1=some (u,h2)/\I (i+1) (acc++[u]) h2)/\(b=false->I (i+1) acc h1))
  (en:∀acc hs,I n acc hs->itm T w n hs=some none):
  ∀(m i k:Nat) (acc:List U) (hs:Hs),n=i+m->m<k->I i acc hs->∃us h2,Zn T f ft w false el Z k i acc hs=some (us,h2)/\I n us h2
 | m,i,0,acc,hs,e,l,h=>by lia
 | 0,i,k+1,acc,hs,e,l,h=>by
  have e':n=i:=by lia
  subst e'
  exact⟨acc,hs,by simp only [Zn,en acc hs h],h⟩
 | m+1,i,k+1,acc,hs,e,l,h=>by
  obtain⟨la,x,b,h1,a,t,y,z⟩:=st i (by lia) acc hs h
  have sx:(Z++[none]).set Z.length (some x)=Z++[some x]:=by
   rw [List.set_append_right _ _ (Nat.le_refl _),Nat.sub_self];rfl
  cases b with
  | true =>
   obtain⟨u,h2,c,d⟩:=y rfl
   obtain⟨us,h3,g1,g2⟩:=QbC I st en m (i+1) k _ h2 (by lia) (by lia) d
   refine⟨us,h3,?_,g2⟩;rw [Zn];simp only [a,tgt,tgN,Qey,Bool.false_eq_true,if_false,la,if_true,sx,t,Qh,c,g1]
  | false =>
   obtain⟨us,h3,g1,g2⟩:=QbC I st en m (i+1) k _ h1 (by lia) (by lia) (z rfl)
   refine⟨us,h3,?_,g2⟩;rw [Zn];simp only [a,tgt,tgN,Qey,Bool.false_eq_true,if_false,la,if_true,sx,t,Qh,g1]
noncomputable def nws(sps:List Sp):Nat:=(sps.map fun sp=>(sp.ts.filter Qav).length).sum
section
variable {sp:Sp}
theorem Qmn{one:Nat}(st:St s o sp)(gd:Gd ks sp)(ho:h[one]?=some o):∃g vs,ev (tb s) (Qa (tb s) (n+1)) (d+6) QkS [u0,u1,some (.ref one)] h=some (.ref g.length,g++[.lst vs])/\Kp h g/\vs.length=(sp.ts.filter Qav).length:=by
 obtain⟨h',us,e1,k1,pr⟩:=st.ties (n:=n) (d:=d+3) (i:=2) (Z:=[u0,u1,some (.ref one)]) ho rfl;have lu:=Qf pr;have l8:=gd.2.1;have K:Kp h' (h'++[.lst us]):=Kp.app _ _
 have itm_:∀j,itm (tb s) (.seqL (.ref h'.length)) j (h'++[.lst us])=some ((us[j]?).map .one):=fun j=>by
  simp only [itm,QU,at0,Option.map_some]
 obtain⟨vs,h2,e2,rfl,l2⟩:=QbC (T:=tb s) (f:=ev (tb s) (Qa (tb s) (n+1)) (d+5)) (ft:=Qaf (evT (tb s) (Qa (tb s) (n+1)) (d+5)) (some (.cmp .Eq (.ix (.var 3) (.c (.int 0 0))) (.c (.str Z2))))) (w:=.seqL (.ref h'.length)) (el:=.var 3) (Z:=[u0,u1,some (.ref one)]) (fun i acc g=>g=h'++[.lst us]/\acc.length=((sp.ts.take i).filter Qav).length) (n:=us.length)
  (fun i hi acc g z=>by
   obtain⟨rfl,la⟩:=z
   have hx:sp.ts[i]?=some sp.ts[i]:=List.getElem?_eq_getElem (by lia)
   obtain⟨u,hu,dt⟩:=Jq pr hx
   have lb:acc.length<1000000:=by
    have:=List.length_filter_le Qav (sp.ts.take i);simp only [List.length_take]at this;lia
   have it:=itm_ i;rw [hu]at it;refine⟨lb,u,Qav sp.ts[i],_,it,?_,fun b=>⟨u,_,Qt rfl,rfl,?_⟩,fun b=>⟨rfl,?_⟩⟩
   ·revert dt
    cases sp.ts[i]with
    | nw ps a l=>rintro⟨p,q,rfl,f1,f2⟩;exact YI (d:=d+1) rfl (K _ _ f1) rfl
    | sm=>rintro⟨p,rfl,f1⟩;exact YI (d:=d+1) rfl (K _ _ f1) rfl
   ·rw [QH hx,List.filter_append,List.length_append,List.length_append,la];simp [b]
   ·rw [QH hx,List.filter_append,List.length_append,la]
    simp [b])
  (fun acc g z=>by
   obtain⟨rfl,la⟩:=z;rw [itm_]
   simp) us.length 0 (us.length+1) [] _ (by lia) (by lia) ⟨rfl,rfl⟩
 refine⟨h'++[.lst us],vs,?_,k1.trans K,by rw [l2,lu,List.take_length]⟩
 rw [QkS,JI]
 have sr:Zi (tb s) (ev (tb s) (Qa (tb s) (n+1)) (d+5)) [u0,u1,some (.ref one)] (.seq (.meth 0 (.var 2) [])) h=some (.seqL (.ref h'.length),h'++[.lst us]):=by simp only [Zi,e1,Qh,wkS,QU,at0,Option.map_some]
 have tn:Zg (tb s) (.seqL (.ref h'.length)) (h'++[.lst us])=us.length+1:=by simp only [Zg,QU,at0,Option.getD_some]
 rw [sr,Qh,tn,e2,Qh]
theorem Qbn{sps:List Sp}(h:sps[i]?=some sp):nws (sps.take (i+1))=nws (sps.take i)+(sp.ts.filter Qav).length:=by
 rw [QH h];simp [nws]
theorem Qkr{sps:List Sp}(hr:h[rp]?=some (.lst us))(pr:Paired (SO s ks (Hg h)) us sps):∃g,Qa (tb s) (n+2) 34 [.ref rp] h=some (.int (nws sps) 0,g)/\Kp h g:=by
 have ls:=Qf pr
 obtain⟨ρ2,g2,e2,u2,rfl,k2⟩:=Yj (T:=tb s) (cf:=Qa (tb s) (n+1)) (d:=96) (j:=0) (k:=2) (p:=rp) (us:=us) (body:=QmK) (Z:=[some (.ref rp),some (.int 0 0),none]) (hs:=h)
  (fun i Z g=>∃u2,Z=[some (.ref rp),some (.int (nws (sps.take i):Nat) 0),u2]/\Kp h g) rfl hr
  (fun i Z g z=>by
   obtain⟨u2,_,k⟩:=z
   exact k _ _ hr)
  (fun i u hu Z g z=>by
   obtain⟨u2,rfl,k⟩:=z;obtain⟨sp,hx,one,o,rfl,eo,st,gd⟩:=Q0 pr hu;obtain⟨g1,vs,e,k1,lv⟩:=Qmn (s:=s) (n:=n) (d:=88) (u0:=some (.ref rp)) (u1:=some (.int (nws (sps.take i):Nat) 0)) st gd (k _ _ eo);refine⟨_,_,?_,some (.ref one),rfl,(k.trans k1).trans (Kp.app _ [.lst vs])⟩;rw [QmK,Qd,Qk4]
   show(match (bd (ev (tb s) (Qa (tb s) (n+1)) (94+1) (.bi .len [QkS]) [some (.ref rp),some (.int (nws (sps.take i):Nat) 0),some (.ref one)] g) fun w h1=>(Qh2 .Add (.int (nws (sps.take i):Nat) 0) w).map fun r=>(Fl.next,[some (.ref rp),some r,some (.ref one)],h1))with|some (.next,ρ1,h1)=>exs (tb s) (Qa (tb s) (n+1)) 96 [] ρ1 h1|x=>x)=_
   rw [Yk (d:=94) e at0,Qh,Qbn hx,<-lv]
   rfl)
  ⟨none,rfl,Kp.refl h⟩
 refine⟨g2,?_,k2⟩;rw [Qk fnL[34] rfl rfl];show fin (exs (tb s) (Qa (tb s) (n+1)) (97+3) b34 [some (.ref rp),none,none] h)=_;rw [ls,List.take_length]at e2;unfold b34;exact(congrArg fin ((QV (d:=97) y_c).trans (Yh (d:=98) e2))).trans (Yi (d:=95) (Qt rfl))
end
noncomputable def fe(ks:List Nat)(v:U)(B:Bool):List (U×U):=if B then [(.str ks,v)]else []
noncomputable def hk(sp:Sp):Bool:=sp.es.any fun w=>decide (w≠ZA)
theorem Ql2{k:Hs}{D:Nat}(k1:Kp h g)(l:h.length<=D)(e:Ge (Vw [D] g) (Vw [D] k)):Kp h k:=fun p o z=>by
 have:=(ltS (show h[p]?=some o from z))
 exact(Qb (e _ _ (Vw.at (by simp;lia) (k1 _ _ z)))).2
section
variable {D one:Nat}{sp:Sp}
theorem Qdv:QS (fe ks v B) (.str ks)=if B then some v else none:=by
 cases B<;>simp [fe,QS]
theorem Qj4:Qd1 (fe ks v B) (.str ks) v=fe ks v true:=by
 cases B<;>simp [fe,Qd1]
theorem Qj5:(fe ks v B).length<1000000:=by
 cases B<;>simp [fe]
theorem Qle(st:St s o sp)(ho:g[one]?=some o):∃u3' g2,ex (tb s) (Qa (tb s) (n+1)) (d+9) (.loop (.name 3) (.seq (.meth 0 (.var 2) [])) Qlg) [u0,some (.ref D),some (.ref one),u3,u4,u5] g=some (.next,[u0,some (.ref D),some (.ref one),u3',u4,u5],g2)/\Kp g g2:=by
 obtain⟨h',us,e1,k1,pr⟩:=st.ties (n:=n) (d:=d+6) (i:=2) (Z:=[u0,some (.ref D),some (.ref one),u3,u4,u5]) ho rfl;have K:Kp h' (h'++[.lst us]):=Kp.app _ _
 obtain⟨ρ2,g2,e2,u3',rfl,rfl⟩:=Jb (T:=tb s) (cf:=Qa (tb s) (n+1)) (d:=d+7) (k:=3) (body:=Qlg) (I:=fun i Z g=>∃u3',Z=[u0,some (.ref D),some (.ref one),u3',u4,u5]/\g=h'++[.lst us]) e1 at0
  (fun i Z g z=>by
   obtain⟨_,_,rfl⟩:=z
   exact at0)
  (fun i u hu Z g z=>by
   obtain⟨u3',rfl,rfl⟩:=z;refine⟨_,_,?_,some u,rfl,rfl⟩;obtain⟨t,hx,dt⟩:=Q0 pr hu
   have e:evT (tb s) (Qa (tb s) (n+1)) (d+2+4) (.cmp .Eq (.ix (.var 3) (.c (.int 0 0))) (.c (.str Qcp))) [u0,some (.ref D),some (.ref one),some u,u4,u5] (h'++[.lst us])=some (false,h'++[.lst us]):=by
    cases t with
    | nw ps a l=>obtain⟨p,q,rfl,f1,f2⟩:=dt;exact YI rfl (K _ _ f1) rfl
    | sm=>obtain⟨p,rfl,f1⟩:=dt;exact YI rfl (K _ _ f1) rfl
   exact(Zz (d:=d+5) e rfl).trans rfl)
  ⟨u3,rfl,rfl⟩
 exact⟨u3',_,e2,k1.trans K⟩
theorem QiY{o i:E}{k v:U}(he:ev T cf d e Z g=some (v,g1))(ho:ev T cf d o Z g1=some (.ref D,g1))(hi:ev T cf d i Z g1=some (k,g1))(hD:g1[D]?=some (.dic kvs))(hk:JF k=true)(hl:kvs.length<1000000):ex T cf (d+1) (.put o i e) Z g=some (.next,Z,g1.set D (.dic (Qd1 kvs k v))):=by
 rw [Qk0,he,Qh,ho,Qh,hi,Qh];simp only [QkM,hD,QeW,hk,hl,and_self,if_true,Option.map_some]
theorem Qhv(r1:Z[1]?=some (some (.ref D)))(r5:Z[5]?=some (some (.str w)))(hw:w=ZA\/w=ks)(e:g[D]?=some (.dic (fe ks (.int 0 0) B))):∃g2,exs T cf (d+8) QkT Z g=some (.next,Z,g2)/\g2[D]?=some (.dic (fe ks (.int 0 0) (B||decide (w≠ZA))))/\Ge (Vw [D] g) (Vw [D] g2):=by
 have tst:evT T cf (d+6) (.cmp .NotEq (.var 5) (.c (.str ZA))) Z g=some (!decide (w=ZA),g):=by
  rw [Qr,QG,Qt r5,Qh,y_c,Qh,Qe3];rfl
 by_cases c:w=ZA
 ·refine⟨g,?_,?_,Ge.refl⟩
  ·rw [decide_eq_true c]at tst;exact(Zz (d:=d+5) tst rfl).trans rfl
  ·rw [decide_eq_false (not_not_intro c),Bool.or_false];exact e
 ·obtain rfl:=hw.resolve_left c
  have v1:ev T cf (d+4) (.bm .get (.var 1) [.var 5,.c (.int 0 0)]) Z g=some (.int 0 0,g):=by
   refine(Qib (d:=d+3) (Qt r1) e (e_2 (Qt r5) y_c) e rfl).trans ?_;rw [Qdv];cases B<;>rfl
  refine⟨g.set D (.dic (fe w (.int 0 0) true)),?_,?_,Vw.set (by simp)⟩
  ·have p:=QiY (o:=.var 1) (i:=.var 5) v1 (Qt r1) (Qt r5) e rfl Qj5;rw [Qj4]at p;rw [decide_eq_false c]at tst;exact(Qa5 (d:=d+5) tst ((Yh p).trans rfl)).trans rfl
  ·rw [decide_eq_true c,Bool.or_true];exact QdY (ltS e)
theorem QbF{p:α->Bool}{xs:List α}{x:α}(h:xs[i]?=some x):(xs.take (i+1)).any p=((xs.take i).any p||p x):=by
 rw [QH h,List.any_append];simp
theorem Qmo(st:St s o sp)(gd:Gd ks sp)(ho:g[one]?=some o)(e:g[D]?=some (.dic (fe ks (.int 0 0) B))):∃u4' u5' g2,ex (tb s) (Qa (tb s) (n+1)) (d+9) (.loop (.pair 4 5) (.seq (.meth 1 (.var 2) [])) QkT) [u0,some (.ref D),some (.ref one),u3,u4,u5] g=some (.next,[u0,some (.ref D),some (.ref one),u3,u4',u5'],g2)/\g2[D]?=some (.dic (fe ks (.int 0 0) (B||hk sp)))/\Ge (Vw [D] g) (Vw [D] g2):=by
 obtain⟨h',us,e1,k1,pr⟩:=st.ends (n:=n) (d:=d+6) (i:=2) (Z:=[u0,some (.ref D),some (.ref one),u3,u4,u5]) ho rfl;have K:Kp g (h'++[.lst us]):=k1.trans (Kp.app _ _);have lu:=Qf pr;have lD:D<h'.length:=(ltS (show h'[D]?=_ from k1 _ _ e))
 obtain⟨ρ2,g2,e2,u4',u5',rfl,d2,k2⟩:=Z7 (T:=tb s) (cf:=Qa (tb s) (n+1)) (d:=d+7) (j:=4) (k:=5) (body:=QkT) (I:=fun i Z g=>∃u4' u5',Z=[u0,some (.ref D),some (.ref one),u3,u4',u5']/\g[D]?=some (.dic (fe ks (.int 0 0) (B||(sp.es.take i).any fun w=>decide (w≠ZA))))/\Ge (Vw [D] (h'++[.lst us])) (Vw [D] g)) e1 at0
  (fun i Z g z=>by
   obtain⟨_,_,_,_,k⟩:=z
   exact(Qb (k _ _ (Vw.at (by simp;lia) at0))).2)
  (fun i u hu Z g z=>by
   obtain⟨u4',u5',rfl,dd,k⟩:=z;obtain⟨x,hx,r,rfl,er⟩:=Q0 pr hu;have hw:=(gd.2.2.2.2 x (List.mem_of_getElem? hx)).2;obtain⟨g2,c,d2,k2⟩:=Qhv (T:=tb s) (cf:=Qa (tb s) (n+1)) (d:=d) (Z:=[u0,some (.ref D),some (.ref one),u3,some (.int 0 0),some (.str x)]) rfl rfl (hw.imp id And.left) dd
   have rD:r≠D:=fun z=>by
    subst z;have z1:=k1 _ _ e;rw [show Hg h' r=_ from er]at z1;cases z1
   refine⟨r,_,_,rfl,(Qb (k _ _ (Vw.at (by simpa using rD) (Qo er)))).2,_,g2,c,_,_,rfl,?_,k.trans k2⟩
   rw [QbF hx,<-Bool.or_assoc]
   exact d2)
  ⟨u4,u5,rfl,by simpa using K _ _ e,Ge.refl⟩
 rw [lu,List.take_length]at d2;exact⟨u4',u5',g2,e2,d2,(Vw.kp K).trans k2⟩
theorem QhF{sps:List Sp}(hr:h[rp]?=some (.lst us))(pr:Paired (SO s ks (Hg h)) us sps):∃g,Qa (tb s) (n+2) 35 [.ref rp] h=some (.ref h.length,g)/\g[h.length]?=some (.dic (fe ks (.int 0 0) (sps.any hk)))/\Kp h g:=by
 have ls:=Qf pr
 obtain⟨ρ2,g2,e2,u2,u3,u4,u5,rfl,d2,k2⟩:=Yj (T:=tb s) (cf:=Qa (tb s) (n+1)) (d:=96) (j:=0) (k:=2) (p:=rp) (us:=us) (body:=QnV) (Z:=[some (.ref rp),some (.ref h.length),none,none,none,none]) (hs:=h++[.dic []])
  (fun i Z g=>∃u2 u3 u4 u5,Z=[some (.ref rp),some (.ref h.length),u2,u3,u4,u5]/\g[h.length]?=some (.dic (fe ks (.int 0 0) ((sps.take i).any hk)))/\Kp h g) rfl (Qo hr)
  (fun i Z g z=>by
   obtain⟨_,_,_,_,_,_,k⟩:=z
   exact k _ _ hr)
  (fun i u hu Z g z=>by
   obtain⟨u2,u3,u4,u5,rfl,dd,k⟩:=z;obtain⟨sp,hx,one,o,rfl,eo,st,gd⟩:=Q0 pr hu;obtain⟨u3',g1,e1,k1⟩:=Qle (n:=n) (d:=87) (D:=h.length) (u0:=some (.ref rp)) (u3:=u3) (u4:=u4) (u5:=u5) st (k _ _ eo);obtain⟨u4',u5',g2,e2,d2,k2⟩:=Qmo (n:=n) (d:=86) (D:=h.length) (u0:=some (.ref rp)) (u3:=u3') (u4:=u4) (u5:=u5) st gd (k1 _ _ (k _ _ eo)) (k1 _ _ dd);refine⟨_,g2,(Yh (d:=96) e1).trans (Yh (d:=95) e2),some (.ref one),u3',u4',u5',rfl,?_,Ql2 (k.trans k1) (Nat.le_refl _) k2⟩;rw [QbF hx]
   exact d2)
  ⟨none,none,none,none,rfl,at0,Kp.app _ _⟩
 rw [ls,List.take_length]at d2;refine⟨g2,?_,d2,k2⟩;exact(Qk fnL[35] rfl rfl).trans ((congrArg fin ((QV (d:=97) Qa3).trans (Yh (d:=98) e2))).trans (Yi (d:=95) (Qt rfl)))
end
noncomputable def kp4:List U:=[.str [119],.str [120],.str [121],.str [122]]
theorem QfX{k:Nat}(I:Nat->Rho->Hs->Prop)(hc:T.cons[j]?=some (.tup us))
  (st:∀i u,us[i]?=some u->∀Z h,I i Z h->∃ρ2 h2,exs T cf (d+1) body (Z.set k (some u)) h=some (.next,ρ2,h2)/\I (i+1) ρ2 h2) (z0:I 0 Z hs):
  ∃ρ2 h2,ex T cf (d+2) (.loop (.name k) (.seq (.con j)) body) Z hs=some (.next,ρ2,h2)/\I us.length ρ2 h2:=by
 have tu:∀h,Qas T (.con j) h=some us:=fun h=>by simp only [Qas,hc]
 obtain⟨ρ2,h2,e2,i2⟩:=Qdh (T:=T) (w:=.seqT (.con j)) (t:=.name k) (body:=exs T cf (d+1) body) I (n:=us.length)
  (fun i hi Z h z=>by
   obtain⟨ρ2,h2,e,z2⟩:=st i us[i] (List.getElem?_eq_getElem hi) Z h z
   exact⟨.one us[i],_,ρ2,h2,by simp [itm,tu,hi],rfl,e,z2⟩)
  (fun Z h z=>by simp [itm,tu]) us.length 0 (us.length+1) Z hs (by lia) (by lia) z0
 refine⟨ρ2,h2,?_,i2⟩;rw [Qa2]
 have sr:Zi T (ev T cf (d+1)) Z (.seq (.con j)) hs=some (.seqT (.con j),hs):=by simp only [Zi,Qk3,Qh,wkS,QU,hc,tu,Option.map_some]
 have tn:Zg T (.seqT (.con j)) hs=us.length+1:=by simp only [Zg,tu,Option.getD_some]
 rw [sr,Qh,tn];exact e2
section
variable {F nd:Nat}{k:List Nat}{b:Bool}{K o:Nat}
theorem Qj6:QS (fe ks v B) (.str k)=none\/QS (fe ks v B) (.str k)=some v:=by
 cases B
 ·exact .inl rfl
 ·by_cases c:ks=k
  ·exact .inr (by simp [fe,QS,c])
  ·exact .inl (by simp [fe,QS,c])
theorem QoC(e:h[F]?=some (.dic kvs)):ZP T .In (.str k) (.ref F) h=some (QS kvs (.str k)).isSome:=by
 simp only [ZP,ZR,e,inD,Jy,JF,if_true,Option.map_some]
theorem Qeb(e:h[F]?=some (.dic kvs))(l:QS kvs (.str k)=some v):Q9 T (.ref F) (.str k) h=some v:=by
 simp only [Q9,e,Jy,JF,if_true,l,Option.bind_some,id]
theorem Qlc(r3:Z[3]?=some (some (.ref F)))(r5:Z[5]?=some (some (.int 0 0)))(r7:Z[7]?=some (some (.str k)))(e:h[F]?=some (.dic (fe ks (.int 0 0) B))):evT T cf (d+6) (.and (.cmp .In (.var 7) (.var 3)) (.cmp .NotEq (.ix (.var 3) (.var 7)) (.var 5))) Z h=some (false,h):=by
 rw [YO,Qr,QG,Qt r7,Qh,Qt r3,Qh,QoC e]
 rcases Qj6 (ks:=ks) (k:=k) (B:=B) (v:=.int 0 0)with l|l
 ·rw [l];rfl
 ·have a:ev T cf (d+3) (.ix (.var 3) (.var 7)) Z h=some (.int 0 0,h):=by
   rw [Qcm,Qt r3,Qh,Qt r7,Qh,Qeb e l];rfl
  rw [l];show evT T cf (d+5) (.cmp .NotEq (.ix (.var 3) (.var 7)) (.var 5)) Z h=_;rw [Qr,QG,a,Qh,Qt r5,Qh];rfl
theorem Qdp:∀{vs:List U} {sps:List Sp},Paired (fun u (sp:Sp)=>u=.int sp.tk 0) vs sps->YM vs=some (sps.map fun sp=>(sp.tk:Int))/\(sps.map fun sp=>(sp.tk:Int)).sum=tks sps
 | _,_,.nil=>⟨rfl,rfl⟩
 | _,_,.cons (b:=sp) e t=>by
  subst e;obtain⟨a,b⟩:=Qdp t
  refine⟨by simp only [YM,a,Option.map_some,List.map_cons],?_⟩
  simp only [List.map_cons,List.sum_cons,b,tks];lia
theorem Qe4{rs:List U}{sps:List Sp}(e:h[nd]?=some (nI w b R K o L r))(hR:h[R]?=some (.lst rs))(hL:h[L]?=some (.lst xs))(hK:h[K]?=some (.dic []))(hs:h[st]?=some (.lst us))(pr:Paired (SO s ks (Hg h)) us sps)(lu:us.length<=60)(lx:xs.length=tks sps)(hF:h[F]?=some (.dic (fe ks (.int 0 0) B))):
  ∃g,Qa (tb s) (n+2) 27 [.ref nd,.ref st,.bl false,.ref F] h=some (.non,g)/\Kp h g:=by
 obtain⟨vs,h1,e1,k1,p1⟩:=Qcv (T:=tb s) (cf:=Qa (tb s) (n+1)) (d:=93) (D:=fun _ u (sp:Sp)=>u=.int sp.tk 0) (xs:=sps) (us:=us) (e:=.var 1) (el:=.meth 2 (.var 8) []) (Z:=[some (.ref nd),some (.ref st),some (.bl false),some (.ref F),some (.int rs.length 0),some (.int xs.length 0),none,none]) (h0:=h) (hs:=h) (p:=st)
  (fun _ _ _ _ _ z=>z) (Qt rfl) hs (Qf pr) (by lia) (fun i u sp hu hx g k=>by
   obtain⟨sp',hx',one,o',rfl,eo,st,gd⟩:=Q0 pr hu;rw [hx]at hx';cases hx'
   exact⟨_,g,st.takes (n:=n) (d:=92) (i:=8) (k _ _ eo) rfl,Kp.refl g,rfl⟩)
 obtain⟨i1,i2⟩:=Qdp p1;have K1:Kp h (h1++[.lst vs]):=k1.trans (Kp.app _ _)
 have sm:biU (tb s) .sum [.ref h1.length] (h1++[.lst vs])=some (.int xs.length 0,h1++[.lst vs]):=by
  show(QU (tb s) (.ref h1.length) (h1++[.lst vs])).bind _=_;simp only [QU,at0,Option.bind_some,i1,Option.map_some,i2,lx]
 obtain⟨ρ2,g2,e2,u5,u7,rfl,k2⟩:=QfX (T:=tb s) (cf:=Qa (tb s) (n+1)) (d:=93) (j:=0) (k:=7) (us:=kp4) (body:=QnI) (Z:=[some (.ref nd),some (.ref st),some (.bl false),some (.ref F),some (.int rs.length 0),some (.int xs.length 0),some (.int xs.length 0),none]) (hs:=h1++[.lst vs])
  (fun i Z g=>∃u5 u7,Z=[some (.ref nd),some (.ref st),some (.bl false),some (.ref F),some (.int rs.length 0),u5,some (.int xs.length 0),u7]/\Kp h g) rfl
  (fun i u hu Z g z=>by
   obtain⟨u5,u7,rfl,k⟩:=z
   have:∃c,u=.str c:=by
    have:=List.mem_of_getElem? hu;simp only [kp4,List.mem_cons,List.not_mem_nil,or_false]at this
    rcases this with rfl|rfl|rfl|rfl<;>exact⟨_,rfl⟩
   obtain⟨c,rfl⟩:=this
   refine⟨_,_,(QV (d:=91) (Yk (d:=91) ((Qar (d:=89) rfl (k _ _ e) rfl rfl (e_1 (Qt rfl)) rfl).trans (QhE (k _ _ e) (k _ _ hK))) at0)).trans ((Zz (d:=90) (Qlc (d:=85) rfl rfl rfl (Qo (k _ _ hF))) rfl).trans rfl),_,_,rfl,k.trans (Kp.app _ _)⟩)
  ⟨_,_,rfl,K1⟩
 refine⟨g2,?_,k2⟩;rw [Qk fnL[27] rfl rfl];show fin (exs (tb s) (Qa (tb s) (n+1)) (97+3) b27 [some (.ref nd),some (.ref st),some (.bl false),some (.ref F),none,none,none,none] h)=_;unfold b27
 have tt:evT (tb s) (Qa (tb s) (n+1)) 95 (.or (.cmp .Gt (.var 6) (.var 5)) (.and (.cmp .Lt (.var 6) (.var 5)) (.not (.var 2)))) [some (.ref nd),some (.ref st),some (.bl false),some (.ref F),some (.int rs.length 0),some (.int xs.length 0),some (.int xs.length 0),none] (h1++[.lst vs])=some (false,h1++[.lst vs]):=by
  generalize (xs.length:Int)=i
  have a:∀d (o:CmpOp),ZP (tb s) o (.int i 0) (.int i 0) (h1++[.lst vs])=some false->evT (tb s) (Qa (tb s) (n+1)) (d+3) (.cmp o (.var 6) (.var 5)) [some (.ref nd),some (.ref st),some (.bl false),some (.ref F),some (.int rs.length 0),some (.int i 0),some (.int i 0),none] (h1++[.lst vs])=some (false,h1++[.lst vs]):=fun d o c=>by
   rw [Qr,QG,Qt rfl,Qh,Qt rfl,Qh,c];rfl
  rw [QfW,a 91 .Gt (by rw [QmG,decide_eq_false (Int.lt_irrefl i)]),Qh,if_neg Bool.false_ne_true,YO,a 90 .Lt (by rw [Qe5,decide_eq_false (Int.lt_irrefl i)]),Qh,if_neg Bool.false_ne_true]
 refine(congrArg fin ((QV (d:=97) (Yk (d:=97) (ZF rfl e rfl) hR)).trans ((QV (d:=96) (Yk (d:=96) (ZF rfl e rfl) hL)).trans ((QV (d:=95) (QdX (d:=95) (e_1 e1) sm)).trans ((Zz (d:=94) tt rfl).trans (Yh (d:=95) e2)))))).trans rfl
end
theorem QfA{i:Int}:opU .Mult (.int 1 0) (.int i 0) hs=some (.int i 0,hs):=by
 simp only [opU,Qjz,show QE 1=true from rfl,Bool.true_or,if_true,Option.map_some,Int.one_mul]
section
variable {nd K o:Nat}{M:List Nat}{tk:List Nm}
theorem Qkp(e:h[nd]?=some (nI w true R K o L r))(e1:h[p]?=some (.tup [.str Z2,.ref pq,.int x 0,.int l 0]))(e2:h[pq]?=some (.tup (ps.map fun i=>.int i 0)))(ht:h[tp]?=some (.lst ts))(pt:Paired (DN (Vw M h)) ts tk)(ok:∀i∈ps,0<=i/\i<(tk.length:Int))(lp:ps.length<=1000):
  ∃g ws,Qa (tb s) (n+2) 29 [.ref nd,.ref p,.ref tp] h=some (.ref (g++[O.tup ws]).length,g++[.tup ws]++[.tup [.ref g.length,.int x 0,.int l 0]])/\Kp h g/\Paired (DN (Vw M h)) ws (ps.map fun i=>tk.getD i.toNat (0,0)):=by
 obtain⟨ws,f1,f2⟩:=QdG (T:=tb s) (cf:=Qa (tb s) (n+1)) (d:=92) (Z:=[some (.ref nd),some (.ref p),some (.ref tp),none,none]) (ja:=1) (jb:=2) (jk:=5) rfl rfl rfl e1 e2 ht pt ok lp;refine⟨h++[.lst ws]++[.lst ws],ws,?_,(Kp.app _ _).trans (Kp.app _ _),f2⟩;have k:Kp h (h++[.lst ws]++[.lst ws]):=(Kp.app _ _).trans (Kp.app _ _);refine(Qk fnL[29] rfl rfl).trans ((congrArg fin ((QV (d:=97) ((Qar (d:=96) rfl e rfl rfl (e_1 (show ev (tb s) (Qa (tb s) (n+1)) 97 cmS _ h=_ from f1)) rfl).trans (YB (Qo e) rfl at0))).trans (QV (d:=96) (u:=.int 1 0) (h2:=h++[.lst ws]++[.lst ws]) ?_))).trans (Yi (d:=95) ?_))
 ·have a:evT (tb s) (Qa (tb s) (n+1)) 96 (.fld (.var 0) 6) ([some (.ref nd),some (.ref p),some (.ref tp),none,none].set 3 (some (.ref (h++[O.lst ws]).length))) (h++[.lst ws]++[.lst ws])=some (true,h++[.lst ws]++[.lst ws]):=by
   show bd (ev (tb s) (Qa (tb s) (n+1)) 95 (.fld (.var 0) 6) _ (h++[.lst ws]++[.lst ws])) _=_;rw [ZF (d:=93) rfl (k _ _ e) rfl,Qh];rfl
  rw [JH,a,Qh,if_pos rfl,y_c]
 ·have bt:biU (tb s) .tuple [.ref (h++[O.lst ws]).length] (h++[.lst ws]++[.lst ws])=some (.ref (h++[O.lst ws]++[O.lst ws]).length,h++[.lst ws]++[.lst ws]++[.tup ws]):=by
   unfold biU;simp only [at0]
  rw [QY,e_3 (QdX (d:=94) (e_1 (Qt rfl)) bt) (show ev (tb s) (Qa (tb s) (n+1)) 95 (.op .Mult (.var 4) (.ix (.var 1) (.c (.int 2 0)))) _ _=_ by rw [ZC,Qt (d:=93) rfl,Qh,QbI (d:=92) rfl (Qo (k _ _ e1)) rfl,Qh,QfA]) (show ev (tb s) (Qa (tb s) (n+1)) 95 (.op .Mult (.var 4) (.ix (.var 1) (.c (.int 3 0)))) _ _=_ by rw [ZC,Qt (d:=93) rfl,Qh,QbI (d:=92) rfl (Qo (k _ _ e1)) rfl,Qh,QfA]),Qh]
end
def NV(g:Gt)(w:List Nat)(R K L N S m nd cs:Nat)(q:Pw):Prop:=g nd=some (nI w true R K q.o L q.g)/\g cs=some (cI N S q.l q.d)/\∃ns,g N=some (.lst ns)/\Paired (DN g) ns (nmR 1 m)
theorem NV.mono{g g':Gt}{K S nd:Nat}{q:Pw}(k:Ge g g')(z:NV g w R K L N S m nd cs q):NV g' w R K L N S m nd cs q:=by
 obtain⟨a,b,ns,c,d⟩:=z;exact⟨k _ _ a,k _ _ b,ns,k _ _ c,DNs.mono k d⟩
theorem Qjx{r:Int}(h:i<m):(nmR r m).getD i (0,0)=(r,(i:Int)):=by
 rw [List.getD_eq_getElem?_getD];unfold nmR;rw [List.getElem?_map,List.getElem?_range h];simp
section
variable {nd K S:Nat}{q:Pw}{W:Wr}{tk:List Nm}{t:Ti}
theorem Qg0(r0:Z[0]?=some (some (.ref nd)))(r2:Z[2]?=some (some (.ref cs)))(r3:Z[3]?=some (some (.ref tp)))(r4:Z[4]?=some (some (.ref p)))
  (z:WH ks h q W) (v:NV (Vw q.M h) w R K L N S m nd cs q) (ht:Vw q.M h tp=some (.lst ts)) (pt:Paired (DN (Vw q.M h)) ts tk) (e1:Vw q.M h p=some (.tup [.str Z2,.ref pq,.int x 0,.int l 0])) (e2:Vw q.M h pq=some (.tup (ps.map fun i=>.int i 0))) (ok:∀i∈ps,0<=i/\i<(tk.length:Int)) (lp:ps.length<=1000)
  (b1:W.gv.length<900000) (b2:W.lp.length<m) (b3:m<900000):∃h2,exs (tb s) (Qa (tb s) (n+2)) (d+12) QnD Z h=some (.next,Z,h2)/\WH ks h2 q (YF tk W (.nw ps x l))/\Ge (Vw q.M h) (Vw q.M h2):=by
 obtain⟨us,g1,g2⟩:=z.gs;obtain⟨vs,l1,l2⟩:=z.ls;have lu:=Qf g2;have lv:=Qf l2;have out:∀{g:Hs},NT q.M g->g.length∉q.M:=fun nt m=>Nat.lt_irrefl _ (nt _ m).1;obtain⟨vn,vc,ns,vN,vp⟩:=v
 obtain⟨u1,s1,d1⟩:=QbX (T:=tb s) (i:=(vs.length:Int)) (Qb vN).2 vp (Int.natCast_nonneg _) (by simp [nmR];lia)
 rw [show(nmR 1 m).getD ((vs.length:Int)).toNat (0,0)=(1,(W.lp.length:Int)) by rw [Int.toNat_natCast,Qjx (by lia),lv]]at d1
 have z1:=z.addG g1 g2 d1
 have c1:ex (tb s) (Qa (tb s) (n+2)) (d+11) (.expr (.bm .append (.fld (.var 0) 8) [.ix (.fld (.var 2) 12) (.bi .len [.fld (.var 2) 14])])) Z h=some (.next,Z,h.set q.g (O.lst (us++[u1]))):=ZE (d:=d+7) (ZF r0 (Qb vn).2 rfl) g1 (Qcs (ZF r2 (Qb vc).2 rfl) (Yk (ZF r2 (Qb vc).2 rfl) l1) s1) g1 (by lia)
 have k2:Ge (Vw q.M h) (Vw q.M (h.set q.g (O.lst (us++[u1])))):=Vw.set Pw.g_mem;generalize h.set q.g (O.lst (us++[u1]))=hA at z1 c1 k2;obtain⟨vs',m1,m2⟩:=z1.ls;have lv':=Qf m2;obtain⟨gB,ws,f1,kB,f2⟩:=Qkp (s:=s) (n:=n) (Qb (k2 _ _ vn)).2 (Qb (k2 _ _ e1)).2 (Qb (k2 _ _ e2)).2 (Qb (k2 _ _ ht)).2 (DNs.mono k2 pt) ok lp;have Kp':Kp hA (gB++[.tup ws]):=kB.trans (Kp.app _ _);have K:Kp hA (gB++[.tup ws]++[.tup [.ref gB.length,.int x 0,.int l 0]]):=Kp'.trans (Kp.app _ _);have zB:=z1.kp K;have z2:=zB.addL (u:=U.ref (gB++[O.tup ws]).length) (a:=⟨ps.map fun i=>tk.getD i.toNat (0,0),x,l⟩) (K _ _ m1) (DLs.mono (Vw.kp K) m2) ⟨_,gB.length,ws,rfl,Vw.at (out (z1.nt.kp Kp')) at0,Vw.at (out (z1.nt.kp kB)) (Qo at0),DNs.mono (Vw.kp K) f2⟩;refine⟨_,?_,z2,k2.trans ((Vw.kp K).trans (Vw.set Pw.l_mem))⟩;have lq:vs'.length=W.lp.length:=lv'
 exact(Yh (d:=d+11) c1).trans ((Yh (d:=d+10) (ZE (d:=d+6) (ZF r2 (Qb (k2 _ _ vc)).2 rfl) m1 ((Qar (d:=d+6) r0 (Qb (k2 _ _ vn)).2 rfl rfl (e_2 (Qt r4) (Qt r3)) rfl).trans f1) (K _ _ m1) (by lia))).trans Qs)
theorem QbM(r0:Z[0]?=some (some (.ref nd)))(r2:Z[2]?=some (some (.ref cs)))(r3:Z[3]?=some (some (.ref tp)))(r4:Z[4]?=some (some u))
  (z:WH ks h q W) (v:NV (Vw q.M h) w R K L N S m nd cs q) (ht:Vw q.M h tp=some (.lst ts)) (pt:Paired (DN (Vw q.M h)) ts tk) (dt:DTi (Vw q.M h) u t) (ok:OkT tk.length t)
  (b1:W.gv.length<900000) (b2:Qav t=true->W.lp.length<m) (b3:m<900000):∃h2,exs (tb s) (Qa (tb s) (n+2)) (d+16) Qea Z h=some (.next,Z,h2)/\WH ks h2 q (YF tk W t)/\Ge (Vw q.M h) (Vw q.M h2):=by
 cases t with
 | nw ps x l =>
  obtain⟨p,pq,rfl,e1,e2⟩:=dt
  obtain⟨h2,c,w,k⟩:=Qg0 (s:=s) (n:=n) (d:=d) r0 r2 r3 r4 z v ht pt e1 e2 ok.2 (Nat.le_trans ok.1 (by decide)) b1 (b2 rfl) b3
  have e1':=(Qb e1).2;exact⟨h2,(Zz (d:=d+13) (YI (d:=d+10) (x:=Z2) r4 e1' rfl) ((Zz (d:=d+11) (YI (d:=d+8) (x:=Z2) r4 e1' rfl) c).trans Qs)).trans Qs,w,k⟩
 | sm =>
  obtain⟨p,rfl,e1⟩:=dt;have e1':=(Qb e1).2;obtain⟨us,g1,g2⟩:=z.gs;have lu:=Qf g2
  obtain⟨v1,hv,dv⟩:=QbX (T:=tb s) (i:=0) (Qb ht).2 pt (Int.le_refl 0) (by have:0<tk.length:=ok;lia)
  exact⟨_,(Qa5 (d:=d+13) (YI (d:=d+10) (x:=Jc) r4 e1' rfl) ((Yh (d:=d+13) (ZE (d:=d+9) (ZF r0 (Qb v.1).2 rfl) g1 (Qcs (Qt r3) (QbI r4 e1' rfl) hv) g1 (by lia))).trans Qs)).trans Qs,z.addG g1 g2 dv,Vw.set Pw.g_mem⟩
end
noncomputable def Qat(nd one cs tp:Nat)(u4 u5 u6 u7:Option U):Rho:=[some (.ref nd),some (.ref one),some (.ref cs),some (.ref tp),u4,u5,u6,u7]
section
variable {nd one K S:Nat}{x:List Nat}{q:Pw}{W:Wr}{tk:List Nm}{sp:Sp}
theorem Qca(z:WH ks h q W)(v:NV (Vw q.M h) w R K L N S m nd cs q)(ht:Vw q.M h tp=some (.lst ts))(pt:Paired (DN (Vw q.M h)) ts tk)(hw:x=ZA\/x=ks/\q.k.isSome=true)(ok:0<tk.length)(b1:W.gn.length<900000)(b2:W.pt.length<900000):
  ∃h2 u7',exs (tb s) (Qa (tb s) (n+2)) (d+12) Qdx (Qat nd one cs tp u4 (some (.int 0 0)) (some (.str x)) u7) h=some (.next,Qat nd one cs tp u4 (some (.int 0 0)) (some (.str x)) u7',h2)/\WH ks h2 q (ZO tk W x)/\Ge (Vw q.M h) (Vw q.M h2):=by
 have tst:evT (tb s) (Qa (tb s) (n+2)) (d+9) (.cmp .Eq (.var 6) (.c (.str ZA))) (Qat nd one cs tp u4 (some (.int 0 0)) (some (.str x)) u7) h=some (decide (x=ZA),h):=by
  rw [Qr,QG,Qt rfl,Qh,y_c,Qh,QdK];rfl
 obtain⟨vn,vc,_⟩:=v
 obtain⟨v,hv,dv⟩:=QbX (T:=tb s) (i:=0) (Qb ht).2 pt (Int.le_refl 0) (by lia)
 have fin_:∀(k:Nat) (us:List U),ev (tb s) (Qa (tb s) (n+2)) (d+10) (.ife (.cmp .Eq (.var 6) (.c (.str ZA))) (.fld (.var 0) 11) (.ix (.fld (.var 2) 15) (.var 6))) (Qat nd one cs tp u4 (some (.int 0 0)) (some (.str x)) u7) h=some (.ref k,h)->h[k]?=some (.lst us)->us.length<1000000->exs (tb s) (Qa (tb s) (n+2)) (d+12) Qdx (Qat nd one cs tp u4 (some (.int 0 0)) (some (.str x)) u7) h=some (.next,Qat nd one cs tp u4 (some (.int 0 0)) (some (.str x)) (some (.ref k)),h.set k (.lst (us++[v]))):=fun k us e hk hl =>
  (QV (d:=d+9) e).trans ((Yh (d:=d+10) (Yy (d:=d+6) (Z:=Qat nd one cs tp u4 (some (.int 0 0)) (some (.str x)) (some (.ref k))) rfl hk (Qcs (Qt rfl) (Qt rfl) hv) hk hl)).trans Qs)
 by_cases c:x=ZA
 ·obtain⟨us,o1,o2⟩:=z.os;have lu:=Qf o2
  refine⟨_,_,fin_ q.o us ?_ o1 (by lia),by unfold ZO;rw [if_pos c];exact z.addO o1 o2 dv,Vw.set Pw.o_mem⟩
  rw [JH,tst,Qh,decide_eq_true c,if_pos rfl];exact ZF rfl (Qb vn).2 rfl
 ·obtain⟨rfl,ik⟩:=hw.resolve_left c;have ds:=z.ds
  cases hk:q.k with
  | none=>rw [hk]at ik;cases ik
  | some k =>
   rw [hk]at ds;obtain⟨d1,us,d2,d3⟩:=ds;have lu:=Qf d3
   have mk:k∈q.M:=by simp [Pw.M,hk]
   refine⟨_,_,fin_ k us ?_ d2 (by lia),by unfold ZO;rw [if_neg c];exact z.addK hk d2 d3 dv,Vw.set mk⟩
   rw [JH,tst,Qh,decide_eq_false c,if_neg Bool.false_ne_true,Qcm,ZF (d:=d+6) rfl (Qb vc).2 rfl,Qh,Qt rfl,Qh,Qeb (v:=.ref k) d1 (by simp [QS])]
   rfl
theorem Jh{tk:List Nm}:∀{ts:List Ti} {W:Wr},(ts.foldl (YF tk) W).lp.length=W.lp.length+(ts.filter Qav).length
 | [],W=>by simp
 | t::r,W=>by
  rw [List.foldl_cons,Jh]
  cases t with
  | nw ps s l =>
   rw [List.filter_cons_of_pos rfl];simp [YF];lia
  | sm =>
   rw [List.filter_cons_of_neg Bool.false_ne_true];rfl
theorem Qil(z:WH ks h q W)(v:NV (Vw q.M h) w R K L N S m nd cs q)(st:St s o sp)(gd:Gd ks sp)(lt:tk.length=sp.tk)(ho:Vw q.M h one=some o)(ht:Vw q.M h tp=some (.lst ts))(pt:Paired (DN (Vw q.M h)) ts tk)(b1:W.gv.length<800000)(b2:W.lp.length+(sp.ts.filter Qav).length<=m)(b3:m<900000):
  ∃h2 u',ex (tb s) (Qa (tb s) (n+2)) (d+20) (.loop (.name 4) (.seq (.meth 0 (.var 1) [])) Qea) (Qat nd one cs tp u4 u5 u6 u7) h=some (.next,Qat nd one cs tp u' u5 u6 u7,h2)/\WH ks h2 q (sp.ts.foldl (YF tk) W)/\Ge (Vw q.M h) (Vw q.M h2):=by
 obtain⟨h',us,e1,k1,pr⟩:=st.ties (n:=n+1) (d:=d+17) (i:=1) (Z:=Qat nd one cs tp u4 u5 u6 u7) (Qb ho).2 rfl;have K:Kp h (h'++[.lst us]):=k1.trans (Kp.app _ _);have z1:=z.kp K;have nl:h'.length∉q.M:=fun m=>Nat.lt_irrefl _ ((z.nt.kp k1) _ m).1;have lu:=Qf pr;have prv:Paired (DTi (Vw q.M (h'++[.lst us]))) us sp.ts:=Qj (fun _ _ y=>(y.mono (Kp.app _ _)).vw z1.nt) pr
 obtain⟨ρ2,h2,e2,u',rfl,w2,g2⟩:=Jb (T:=tb s) (cf:=Qa (tb s) (n+2)) (d:=d+18) (k:=4) (body:=Qea) (I:=fun i Z g=>∃u',Z=Qat nd one cs tp u' u5 u6 u7/\WH ks g q ((sp.ts.take i).foldl (YF tk) W)/\Ge (Vw q.M (h'++[.lst us])) (Vw q.M g)) e1 at0
  (fun i Z g z=>by
   obtain⟨_,_,_,k⟩:=z
   exact(Qb (k _ _ (Vw.at nl at0))).2)
  (fun i u hu Z g z=>by
   obtain⟨u',rfl,w1,k⟩:=z;obtain⟨t,hx,dt⟩:=Q0 prv hu;have l8:=gd.2.1;have bl:=(Q1 (tk:=tk) (ts:=sp.ts.take i) (W:=W)).1;rw [List.length_take]at bl
   have b2':Qav t=true->((sp.ts.take i).foldl (YF tk) W).lp.length<m:=fun c=>by
    rw [Jh];have:((sp.ts.take (i+1)).filter Qav).length<=(sp.ts.filter Qav).length:=((List.take_sublist _ _).filter Qav).length_le;rw [QH hx,List.filter_append,List.length_append]at this;simp [c]at this;lia
   obtain⟨g2,c,w2,k2⟩:=QbM (s:=s) (n:=n) (d:=d+3) (Z:=Qat nd one cs tp (some u) u5 u6 u7) (t:=t) rfl rfl rfl rfl w1 ((v.mono (Vw.kp K)).mono k) (k _ _ (Vw.kp K _ _ ht)) (DNs.mono k (DNs.mono (Vw.kp K) pt)) (dt.mono k) (by rw [lt];exact gd.2.2.1 t (List.mem_of_getElem? hx)) (by lia) b2' b3
   exact⟨_,g2,c,some u,rfl,by rw [QZ hx];exact w2,k.trans k2⟩)
  ⟨u4,rfl,z1,Ge.refl⟩
 rw [lu,List.take_length]at w2;exact⟨h2,u',e2,w2,(Vw.kp K).trans g2⟩
theorem Qj9(z:WH ks h q W)(v:NV (Vw q.M h) w R K L N S m nd cs q)(st:St s o sp)(gd:Gd ks sp)(hkk:hk sp=true->q.k.isSome=true)(lt:tk.length=sp.tk)(ho:Vw q.M h one=some o)(ht:Vw q.M h tp=some (.lst ts))(pt:Paired (DN (Vw q.M h)) ts tk)(b1:W.gn.length<800000)(b2:W.pt.length<800000):
  ∃h2 u5' u6' u7',ex (tb s) (Qa (tb s) (n+2)) (d+20) (.loop (.pair 5 6) (.seq (.meth 1 (.var 1) [])) Qdx) (Qat nd one cs tp u4 u5 u6 u7) h=some (.next,Qat nd one cs tp u4 u5' u6' u7',h2)/\WH ks h2 q (sp.es.foldl (ZO tk) W)/\Ge (Vw q.M h) (Vw q.M h2):=by
 obtain⟨h',us,e1,k1,pr⟩:=st.ends (n:=n+1) (d:=d+17) (i:=1) (Z:=Qat nd one cs tp u4 u5 u6 u7) (Qb ho).2 rfl;have K:Kp h (h'++[.lst us]):=k1.trans (Kp.app _ _);have z1:=z.kp K;have nl:h'.length∉q.M:=fun m=>Nat.lt_irrefl _ ((z.nt.kp k1) _ m).1;have lu:=Qf pr;have prv:Paired (DEn (Vw q.M (h'++[.lst us]))) us sp.es:=Qj (fun _ _ y=>(y.mono (Kp.app _ _)).vw z1.nt) pr
 obtain⟨ρ2,h2,e2,u5',u6',u7',rfl,w2,g2⟩:=Z7 (T:=tb s) (cf:=Qa (tb s) (n+2)) (d:=d+18) (j:=5) (k:=6) (body:=Qdx) (I:=fun i Z g=>∃u5' u6' u7',Z=Qat nd one cs tp u4 u5' u6' u7'/\WH ks g q ((sp.es.take i).foldl (ZO tk) W)/\Ge (Vw q.M (h'++[.lst us])) (Vw q.M g)) e1 at0
  (fun i Z g z=>by
   obtain⟨_,_,_,_,_,k⟩:=z
   exact(Qb (k _ _ (Vw.at nl at0))).2)
  (fun i u hu Z g z=>by
   obtain⟨u5',u6',u7',rfl,w1,k⟩:=z;obtain⟨x,hx,r,rfl,er⟩:=Q0 prv hu;have mt:=List.mem_of_getElem? hx;obtain⟨g1,g2,g3,g4,g5⟩:=gd;obtain⟨t0,tw⟩:=g5 x mt;have bl:=Zk (tk:=tk) (es:=sp.es.take i) (W:=W);rw [List.length_take]at bl
   obtain⟨h2,u7'',c,w2,k2⟩:=Qca (s:=s) (n:=n) (d:=d+7) (nd:=nd) (one:=one) (cs:=cs) (tp:=tp) (u4:=u4) (u7:=u7') (x:=x) w1 ((v.mono (Vw.kp K)).mono k) (k _ _ (Vw.kp K _ _ ht)) (DNs.mono k (DNs.mono (Vw.kp K) pt)) (by
    by_cases c:x=ZA
    ·exact .inl c
    ·exact .inr ⟨(tw.resolve_left c).1,hkk (List.any_eq_true.mpr ⟨x,mt,decide_eq_true c⟩)⟩) (by lia) (by lia) (by lia)
   exact⟨r,_,_,rfl,(Qb (k _ _ er)).2,_,h2,c,_,_,_,rfl,by rw [QZ hx];exact w2,k.trans k2⟩)
  ⟨u5,u6,u7,rfl,z1,Ge.refl⟩
 rw [lu,List.take_length]at w2;exact⟨h2,u5',u6',u7',e2,w2,(Vw.kp K).trans g2⟩
end
def GeT(g g':Gt):Prop:=∀p us,g p=some (.tup us)->g' p=some (.tup us)
theorem DNs.monoT{g g':Gt}(k:GeT g g'){as:List Nm}(z:Paired (DN g) us as):Paired (DN g') us as:=Qj (fun _ _ z=>by
 obtain⟨p,e,e1⟩:=z
 exact⟨p,e,k _ _ e1⟩) z
theorem DLs.monoT{g g':Gt}(k:GeT g g'){as:List Lp}(z:Paired (DL g) us as):Paired (DL g') us as:=Qj (fun _ _ z=>by
 obtain⟨p,q,us,e,e1,e2,e3⟩:=z
 exact⟨p,q,us,e,k _ _ e1,k _ _ e2,DNs.monoT k e3⟩) z
section
variable {M:List Nat}{q:Pw}{W:Wr}
theorem Qfg(hL:h[L]?=some (.lst xs)):GeT (Vw M h) (Vw M (h.set L (.lst ys))):=fun p us e=>by
 obtain⟨a,b⟩:=Qb e;refine Vw.at a (Qn (fun z=>?_) b);subst z;rw [hL]at b;cases b
theorem vw_less:Ge (Vw (L::M) h) (Vw M h):=fun p o e=>Vw.at (fun z=>(Qb e).1 (List.mem_cons_of_mem _ z)) (Qb e).2
theorem Qf0(k:Ge (Vw M h) (Vw M h')):Ge (Vw (L::M) h) (Vw (L::M) h'):=fun p o e=>Vw.at (Qb e).1 (Qb (k _ _ (vw_less _ _ e))).2
theorem WH.off(z:WH ks h q W)(hL:h[L]?=some (.lst xs))(nL:L∉q.M):WH ks (h.set L (.lst ys)) q W:=by
 obtain⟨nd,nt,⟨us,g1,g2⟩,⟨vs,l1,l2⟩,⟨ws,o1,o2⟩,ds⟩:=z;have v:=Qfg (M:=q.M) (ys:=ys) hL;have n:∀{p:Nat},p∈q.M->L≠p:=fun m z=>nL (z▸m);refine⟨nd,nt.set,⟨us,Qn (n Pw.g_mem) g1,DNs.monoT v g2⟩,⟨vs,Qn (n Pw.l_mem) l1,DLs.monoT v l2⟩,⟨ws,Qn (n Pw.o_mem) o1,DNs.monoT v o2⟩,?_⟩
 have nd_:L≠q.d:=n (by simp [Pw.M])
 have nk:∀k,q.k=some k->L≠k:=fun k e=>n (by simp [Pw.M,e])
 revert ds nk
 cases q.k with
 | none=>exact fun d _=>⟨Qn nd_ d.1,d.2⟩
 | some j =>
  intro d nk;obtain⟨d1,us,d2,d3⟩:=d;exact⟨Qn nd_ d1,us,Qn (nk j rfl) d2,DNs.monoT v d3⟩
theorem Qk8{y:U}(he:ev T cf d e Z h=some (.ref p,h))(hp:h[p]?=some (.lst ys))(hy:ys[ys.length-1]?=some y):ev T cf (d+1) (.bm .pop e []) Z h=some (y,h.set p (.lst ys.dropLast)):=by
 have r:QbV .pop (.ref p) h=true:=by
  unfold QbV;dsimp only;rw [hp];rfl
 have b:bmU T .pop (.ref p) [] h=some (y,h.set p (.lst ys.dropLast)):=by
  unfold bmU;dsimp only;rw [hp]
  show(match ys[ys.length-1]? with|some y=>some (y,h.set p (.lst ys.dropLast))|none=>none)=_
  rw [hy]
 rw [QhS,he,Qh,if_pos r];exact b
end
theorem Jp{α β:Type}{P:α->β->Prop}:∀{l:List α} {r:List β},Paired P l r->Paired P l.reverse r.reverse
 | _,_,.nil=>.nil
 | _,_,.cons a t=>by
  rw [List.reverse_cons,List.reverse_cons];exact QR (Jp t) a
section
variable {nd one K S:Nat}{q:Pw}{W:Wr}{line:List Nm}{sp:Sp}
theorem Qou(e:h[nd]?=some (nI w true R K q.o L q.g))(hL:h[L]?=some (.lst xs))(st:St s o sp)(gd:Gd ks sp)(ho:h[one]?=some o)(le:sp.tk<=xs.length)(lx:xs.length<900000):
  ev (tb s) (Qa (tb s) (n+2)) 98 (.comp (.rng (.meth 2 (.var 1) [])) false none (.bm .pop (.fld (.var 0) 7) [])) [some (.ref nd),some (.ref one),some (.ref cs),none,none,none,none,none] h=some (.ref h.length,h.set L (.lst (xs.take (xs.length-sp.tk)))++[.lst (xs.reverse.take sp.tk)]):=by
 have nL:L≠nd:=fun z=>by
  subst z;rw [hL]at e;cases e
 have lL:=(ltS hL)
 obtain⟨vs,h2,e2,rfl,rfl⟩:=Qcu (T:=tb s) (cf:=Qa (tb s) (n+2)) (d:=96) (lo:=0) (n:=sp.tk) (src:=.rng (.meth 2 (.var 1) [])) (el:=.bm .pop (.fld (.var 0) 7) []) (Z:=[some (.ref nd),some (.ref one),some (.ref cs),none,none,none,none,none]) (h0:=h) (hs:=h)
  (fun i acc g=>acc=xs.reverse.take i/\g=h.set L (.lst (xs.take (xs.length-i)))) (Qit (by have:=gd.1;lia) (st.takes (n:=n+1) (d:=95) (i:=1) ho rfl))
  (fun i acc g z=>by
   obtain⟨rfl,_⟩:=z;have:=List.length_take_le' i xs.reverse;rw [List.length_reverse]at this
   lia)
  (fun i hi acc g z=>by
   obtain⟨rfl,rfl⟩:=z
   have hi':i<xs.reverse.length:=by simp;lia
   have gL:(h.set L (.lst (xs.take (xs.length-i))))[L]?=some (.lst (xs.take (xs.length-i))):=List.getElem?_set_self lL
   have hy:(xs.take (xs.length-i))[(xs.take (xs.length-i)).length-1]?=some xs.reverse[i]:=by
    rw [List.length_take,Nat.min_eq_left (Nat.sub_le _ _),List.getElem?_take_of_lt (by lia),List.getElem_reverse,List.getElem?_eq_getElem (by lia)]
    congr 2
    lia
   refine⟨_,_,Qk8 (d:=96) (ZF rfl (Qn nL e) rfl) gL hy,?_,?_⟩
   ·exact(QH (List.getElem?_eq_getElem hi')).symm
   ·rw [List.set_set,List.dropLast_eq_take,List.take_take,List.length_take,Nat.min_eq_left (Nat.sub_le _ _),Nat.min_eq_left (Nat.sub_le _ _),Nat.sub_sub])
  ⟨rfl,by rw [Nat.sub_zero,List.take_length,<-(List.getElem?_eq_some_iff.mp hL).2,List.set_getElem_self]⟩
 rw [e2,List.length_set]
theorem Qko(z:WH ks h q W)(nL:L∉q.M)(v:NV (Vw (L::q.M) h) w R K L N S m nd cs q)(st:St s o sp)(gd:Gd ks sp)(hkk:hk sp=true->q.k.isSome=true)(ho:Vw (L::q.M) h one=some o)(hL:h[L]?=some (.lst xs))(pl:Paired (DN (Vw q.M h)) xs line.reverse)(le:sp.tk<=line.length)(lx:xs.length<900000)
  (b1:W.gv.length<700000) (b2:W.lp.length+(sp.ts.filter Qav).length<=m) (b3:m<900000) (b4:W.gn.length<700000) (b5:W.pt.length<700000):
  ∃h2 xs',Qa (tb s) (n+3) 28 [.ref nd,.ref one,.ref cs] h=some (.non,h2)/\WH ks h2 q (stW (line.take sp.tk) W sp)/\h2[L]?=some (.lst xs')/\Paired (DN (Vw q.M h2)) xs' (line.drop sp.tk).reverse/\xs'.length<=xs.length/\Ge (Vw (L::q.M) h) (Vw (L::q.M) h2):=by
 have lxl:=Qf pl;rw [List.length_reverse]at lxl
 have e1:=Qou (s:=s) (n:=n) (cs:=cs) (Qb v.1).2 hL st gd (Qb ho).2 (by lia) lx
 have zA:=z.off (ys:=xs.take (xs.length-sp.tk)) hL nL;have vA:=Qfg (M:=q.M) (ys:=xs.take (xs.length-sp.tk)) hL;have gA:Ge (Vw (L::q.M) h) (Vw (L::q.M) (h.set L (.lst (xs.take (xs.length-sp.tk))))):=Vw.set List.mem_cons_self;have LA:(h.set L (.lst (xs.take (xs.length-sp.tk))))[L]?=some (.lst (xs.take (xs.length-sp.tk))):=QdY (ltS hL);have lA:(h.set L (.lst (xs.take (xs.length-sp.tk)))).length=h.length:=List.length_set;have pA:Paired (DN (Vw q.M (h.set L (.lst (xs.take (xs.length-sp.tk)))))) xs line.reverse:=DNs.monoT vA pl;rw [<-lA]at e1;generalize h.set L (.lst (xs.take (xs.length-sp.tk)))=hA at e1 zA gA LA pA;have k:Kp hA (hA++[.lst (xs.reverse.take sp.tk)]):=Kp.app _ _;have gB:Ge (Vw (L::q.M) h) (Vw q.M (hA++[.lst (xs.reverse.take sp.tk)])):=gA.trans (vw_less.trans (Vw.kp k))
 have pT:Paired (DN (Vw q.M hA)) (xs.reverse.take sp.tk) (line.take sp.tk):=by
  have:=ZV (Jp pA) 0 sp.tk;rwa [List.reverse_reverse]at this
 have nl:hA.length∉q.M:=fun m=>Nat.lt_irrefl _ (zA.nt _ m).1
 have lt:(line.take sp.tk).length=sp.tk:=by rw [List.length_take];lia
 obtain⟨h1,u1,f1,w1,g1⟩:=Qil (s:=s) (n:=n) (d:=78) (u4:=none) (u5:=none) (u6:=none) (u7:=none) (one:=one) (tp:=hA.length) (zA.kp k) (v.mono gB) st gd lt (gB _ _ ho) (Vw.at nl at0) (DNs.mono (Vw.kp k) pT) (by lia) b2 b3
 have bl:=Q1 (tk:=line.take sp.tk) (ts:=sp.ts) (W:=W)
 obtain⟨h2,u5,u6,u7,f2,w2,g2⟩:=Qj9 (s:=s) (n:=n) (d:=77) (u4:=u1) (u5:=none) (u6:=none) (u7:=none) (one:=one) (tp:=hA.length) w1 ((v.mono gB).mono g1) st gd hkk lt (g1 _ _ (gB _ _ ho)) (g1 _ _ (Vw.at nl at0)) (DNs.mono g1 (DNs.mono (Vw.kp k) pT)) (by rw [bl.2.2.1];lia) (by rw [bl.2.2.2];lia)
 have G:Ge (Vw q.M hA) (Vw q.M h2):=(Vw.kp k).trans (g1.trans g2)
 refine⟨h2,xs.take (xs.length-sp.tk),?_,w2,(Qb (G _ _ (Vw.at nL LA))).2,?_,by rw [List.length_take];lia,gA.trans (Qf0 G)⟩
 ·exact(Qk fnL[28] rfl rfl).trans ((congrArg fin ((QV (d:=97) e1).trans ((Yh (d:=98) f1).trans (Yh (d:=97) f2)))).trans rfl)
 ·have:=ZV (DNs.mono G pA) 0 (xs.length-sp.tk);rw [List.drop_zero,List.drop_zero,List.take_reverse,lxl]at this
  rw [show line.length-(line.length-sp.tk)=sp.tk by lia]at this
  rw [lxl];exact this
end
noncomputable def cB{α:Type}(B:Bool)(l:List α):List α:=if B then l else []
theorem back{a:O}{r:Hs}(e:h[n]?=some o):((h.set n a)++r).set n o=h++r:=by
 obtain⟨l,x⟩:=List.getElem?_eq_some_iff.mp e
 rw [List.set_append_left _ _ (by rw [List.length_set];exact l),List.set_set,<-x,List.set_getElem_self]
section
variable {r:Hs}{fs:List (Nat×U)}{ss:List S}
theorem Zw(he:ev T cf (d+1) e Z h=some (u,h2))(h0:Z[0]?=some (some (.ref p)))(hp:h2[p]?=some (.ins c fs))(hl:fs.length<500):exs T cf (d+3) (.fld (.var 0) f e::ss) Z h=exs T cf (d+2) ss Z (h2.set p (.ins c (Zm f u fs))):=by
 rw [Qd,QmT,he,Qh,Qt h0,Qh];simp only [hp,hl,if_true]
theorem Qf2(hi:Z[i]?=some (some (.ref n)))(hn:h[n]?=some (.dic (fe ks v B)))(he:B=true->ev T cf (d+1) el (Z++[some (.str ks)]) (h.set n (.fzd (fe ks v B)))=some (u,h.set n (.fzd (fe ks v B))++r)):
  ev T cf (d+3) (.thw i (.comp (.key (.var i)) false none el)) Z h=some (.ref (h++cB B r).length,h++cB B r++[.lst (cB B [u])]):=by
 have ln:=(ltS hn);have hz:(h.set n (.fzd (fe ks v B)))[n]?=some (.fzd (fe ks v B)):=List.getElem?_set_self ln;have hz2:∀q:Hs,(h.set n (.fzd (fe ks v B))++q)[n]?=some (.fzd (fe ks v B)):=fun q=>Qo hz
 have sr:Zi T (ev T cf (d+1)) Z (.key (.var i)) h=some (.keyD n,h.set n (.fzd (fe ks v B))):=by
  simp only [Zi,Qq,hi,Qh,Qcb,hn,Option.map_some]
 have im:∀(q:Hs) j,itm T (.keyD n) j (h.set n (.fzd (fe ks v B))++q)=some (((fe ks v B)[j]?).map fun p=>.one p.1):=fun q j=>by
  simp only [itm,hz2 q]
 have im0:=im [] 0
 have tn:Zg T (.keyD n) (h.set n (.fzd (fe ks v B)))=(fe ks v B).length+1:=by simp only [Zg,hz]
 rw [List.append_nil]at im0
 have sx:(Z++[none]).set Z.length (some (.str ks))=Z++[some (.str ks)]:=by
  rw [List.set_append_right _ _ (Nat.le_refl _),Nat.sub_self];rfl
 have key:ev T cf (d+2) (.comp (.key (.var i)) false none el) Z h=some (.ref (h.set n (.fzd (fe ks v B))++cB B r).length,h.set n (.fzd (fe ks v B))++(cB B r++[.lst (cB B [u])])):=by
  rw [JI,sr,Qh,tn,<-List.append_assoc]
  cases B with
  | false =>
   simp only [fe,cB,Bool.false_eq_true,if_false,List.length_nil,List.append_nil]at im0 ⊢;rw [Zn,im0];rfl
  | true =>
   have im1:=im r 1;have he:=he rfl;simp only [fe,cB,if_true,List.length_singleton]at im0 im1 he ⊢;rw [Zn,im0];simp only [List.getElem?_cons_zero,Option.map_some,tgt,tgN,Qey,Bool.false_eq_true,if_false,sx,List.length_nil,Qaf,Qh,he,if_true]
   rw [if_pos (by decide),Zn,im1]
   rfl
 have l1:(h.set n (.fzd (fe ks v B))++cB B r).length=(h++cB B r).length:=by simp
 show(match Z[i]? with
   | some (some (.ref n))=>(match h[n]? with
    | some (.dic _)=>(match ev T cf (d+2) (.comp (.key (.var i)) false none el) Z h with
     | some (u,h2)=>(match h2[n]? with
      | some (.fzd kvs)=>some (u,h2.set n (.dic kvs))
      | _=>none)
     | none=>none)
    | _=>none)
   | _=>none)=_
 simp only [hi,hn,key,hz2];rw [back hn,l1,List.append_assoc]
theorem QdA{p:Nat}{H:Hs}(hq:H[q]?=some (.lst (cB B [.ref p])))(hp:B=true->H[p]?=some (.tup [.str ks,v])):biU T .dictS [.ref q] H=some (.ref H.length,H++[.dic (fe ks v B)]):=by
 show(Qb2 (.ref q) H).bind _=_
 cases B with
 | false =>
  simp only [cB,Bool.false_eq_true,if_false]at hq;simp only [Qb2,hq,Option.bind_some,QhW,Option.map_some,fe,Bool.false_eq_true,if_false];rfl
 | true =>
  have hp:=hp rfl;simp only [cB,if_true]at hq;simp only [Qb2,hq,Option.bind_some,QhW,hp,JF,if_true,Option.map_some,fe];rfl
end
section
variable {S:Nat}
noncomputable def cX(ks:List Nat)(B:Bool)(l:Nat):Hs:=[.lst []]++cB B [.lst [],.tup [.str ks,.ref (l+2)]]++[.lst (cB B [.ref (l+3)])]
theorem Qe6(hS:h[S]?=some (.dic (fe ks v B))):∃C P,Q5 (tb s) (Qa (tb s) (n+1)) 10 [.ref N,.ref S] h=some (.ref h.length,h++(cI N S C P::(cX ks B h.length++[.dic (fe ks (.ref (h.length+2)) B)])))/\C=h.length+1/\P=h.length+1+(cX ks B h.length).length:=by
 refine⟨h.length+1,h.length+1+(cX ks B h.length).length,QhX rfl rfl rfl ?_,rfl,rfl⟩;rw [Qk fnL[32] rfl rfl];show fin (exs (tb s) (Qa (tb s) n) (97+3) b32 [some (.ref h.length),some (.ref N),some (.ref S)] (h++[.ins 10 []]))=_;unfold b32
 rw [Zw (d:=97) (Qt rfl) rfl at0 (by decide),JS,Zw (d:=96) (Qt rfl) rfl at0 (by simp [Zm]),JS,Zw (d:=95) ZG rfl (Qo at0) (by simp [Zm])]
 rw [List.append_assoc,List.cons_append,List.nil_append,JS]
 simp only [Zm,show ¬(12:Nat)=13 by decide,show ¬(12:Nat)=14 by decide,show ¬(13:Nat)=14 by decide,if_false]
 have l2:(h++[O.ins 10 [(12,U.ref N),(13,U.ref S)]]).length=h.length+1:=by simp
 rw [l2];generalize hF:[(12,U.ref N),(13,U.ref S),(14,U.ref (h.length+1))]=fs
 have lH:(h++[O.ins 10 fs,O.lst []]).length=h.length+2:=by simp
 have tS:(h++[O.ins 10 fs,O.lst []])[S]?=some (.dic (fe ks v B)):=Qo hS
 have th:=Qf2 (T:=tb s) (cf:=Qa (tb s) n) (d:=91) (i:=2) (Z:=[some (.ref h.length),some (.ref N),some (.ref S)]) (el:=.tup [.var 3,.lst []]) (u:=.ref (h.length+3)) (r:=[.lst [],.tup [.str ks,.ref (h.length+2)]]) rfl tS (fun _=>by
  rw [QY,e_2 (Qt rfl) ZG,Qh]
  simp)
 have l3:(h++[O.ins 10 fs,O.lst []]++cB B [O.lst [],.tup [.str ks,.ref (h.length+2)]])[h.length+3]?=(cB B [O.lst [],.tup [.str ks,.ref (h.length+2)]])[1]?:=by
  rw [List.getElem?_append_right (by rw [lH];lia),lH,show h.length+3-(h.length+2)=1 by lia]
 have dd:=QdA (T:=tb s) (B:=B) (ks:=ks) (v:=.ref (h.length+2)) (q:=(h++[O.ins 10 fs,O.lst []]++cB B [O.lst [],.tup [.str ks,.ref (h.length+2)]]).length) (p:=h.length+3) (H:=h++[O.ins 10 fs,O.lst []]++cB B [O.lst [],.tup [.str ks,.ref (h.length+2)]]++[.lst (cB B [U.ref (h.length+3)])]) at0 (fun b=>Qo (by rw [l3,b];rfl))
 have full:h++[O.ins 10 fs,O.lst []]++cB B [O.lst [],.tup [.str ks,.ref (h.length+2)]]++[.lst (cB B [U.ref (h.length+3)])]=h++O.ins 10 fs::cX ks B h.length:=by
  simp [cX]
 rw [full]at dd
 rw [Zw (d:=94) (QdX (d:=94) (e_1 (th.trans (by rw [full]))) dd) rfl (Qo at0) (by rw [<-hF];simp)]
 have lF:(h++O.ins 10 fs::cX ks B h.length).length=h.length+1+(cX ks B h.length).length:=by simp;lia
 rw [lF,List.append_assoc,List.cons_append,JS,<-hF]
 simp only [Zm,show ¬(12:Nat)=15 by decide,show ¬(13:Nat)=15 by decide,show ¬(14:Nat)=15 by decide,if_false]
 rfl
end
theorem QcF:∀{sps:List Sp} {line:List Nm} {W:Wr},(sps.foldl stp (line,W)).2.lp.length=W.lp.length+nws sps
 | [],line,W=>by simp [nws]
 | sp::r,line,W=>by
  rw [List.foldl_cons];show(r.foldl stp (line.drop sp.tk,stW (line.take sp.tk) W sp)).2.lp.length=_;rw [QcF];unfold stW;rw [(Zk (tk:=line.take sp.tk) (es:=sp.es)).2.2.2,Jh];simp [nws];lia
section
variable {nd K S:Nat}{q:Pw}{line:List Nm}{sps:List Sp}
theorem Qju{sp:Sp}(h:sps[i]?=some sp):nws (sps.take i)+(sp.ts.filter Qav).length<=nws sps:=by
 rw [<-Qbn h]
 have:nws (sps.take (i+1)++sps.drop (i+1))=nws (sps.take (i+1))+nws (sps.drop (i+1)):=by
  unfold nws;rw [List.map_append,List.sum_append]
 rw [List.take_append_drop]at this;lia
theorem QjC(z:WH ks h q W0)(nL:L∉q.M)(v:NV (Vw (L::q.M) h) w R K L N S (nws sps) nd cs q)(hs:Vw (L::q.M) h st=some (.lst us))(pr:Paired (SO s ks (Vw (L::q.M) h)) us sps)(lu:us.length<=60)(hkk:sps.any hk=true->q.k.isSome=true)(hL:h[L]?=some (.lst xs))(pl:Paired (DN (Vw q.M h)) xs line.reverse)(le:tks sps<=line.length)(lx:xs.length<900000)(b3:nws sps<900000):
  ∃u7' h2 xs',ex (tb s) (Qa (tb s) (n+3)) 94 QnG [some (.ref nd),some (.ref st),u2,u3,u4,u5,some (.ref cs),u7,u8] h=some (.next,[some (.ref nd),some (.ref st),u2,u3,u4,u5,some (.ref cs),u7',u8],h2)/\WH ks h2 q (sps.foldl stp (line,W0)).2/\h2[L]?=some (.lst xs')/\Paired (DN (Vw q.M h2)) xs' (line.drop (tks sps)).reverse/\Ge (Vw (L::q.M) h) (Vw (L::q.M) h2):=by
 have ls:=Qf pr
 obtain⟨ρ2,h2,e2,u7',xs',rfl,w2,l2,p2,_,k2⟩:=Yj (T:=tb s) (cf:=Qa (tb s) (n+3)) (d:=92) (j:=1) (k:=7) (p:=st) (us:=us) (body:=[.expr (.meth 11 (.var 0) [.var 7,.var 6])]) (Z:=[some (.ref nd),some (.ref st),u2,u3,u4,u5,some (.ref cs),u7,u8]) (hs:=h)
  (fun i Z g=>∃u7' xs',Z=[some (.ref nd),some (.ref st),u2,u3,u4,u5,some (.ref cs),u7',u8]/\WH ks g q ((sps.take i).foldl stp (line,W0)).2/\g[L]?=some (.lst xs')/\Paired (DN (Vw q.M g)) xs' (line.drop (tks (sps.take i))).reverse/\xs'.length<=xs.length/\Ge (Vw (L::q.M) h) (Vw (L::q.M) g)) rfl (Qb hs).2
  (fun i Z g z=>by
   obtain⟨_,_,_,_,_,_,_,k⟩:=z
   exact(Qb (k _ _ hs)).2)
  (fun i u hu Z g z=>by
   obtain⟨u7',xs',rfl,w1,l1,p1,lx',k⟩:=z;obtain⟨sp,hx,one,o,rfl,eo,st,gd⟩:=Q0 pr hu;obtain⟨t1,t2⟩:=Qba hx;have hi:=(ltS hu)
   have gds:∀x∈sps.take i,Gd ks x:=fun x m=>by
    obtain⟨j,hj⟩:=List.getElem?_of_mem (List.mem_of_mem_take m);obtain⟨_,_,_,_,_,_,_,g⟩:=Jq pr hj;exact g
   obtain⟨c1,c2,c3,c4⟩:=Ym (ks:=ks) (sps:=sps.take i) (line:=line) (W:=W0) (k:=0) gds (Nat.le_refl 0) (Nat.le_refl 0) (Nat.le_refl 0) (Nat.le_refl 0);rw [List.length_take]at c1 c3 c4;have nn:=Qju hx;have lpn:=QcF (sps:=sps.take i) (line:=line) (W:=W0)
   obtain⟨h2,xs2,f,w2,l2,p2,lx2,k2⟩:=Qko (s:=s) (n:=n) (line:=line.drop (tks (sps.take i))) w1 nL (v.mono k) st gd (fun b=>hkk (List.any_eq_true.mpr ⟨sp,List.mem_of_getElem? hx,b⟩)) (k _ _ eo) l1 p1 (by rw [List.length_drop];lia) (by lia) (by lia) (by rw [lpn];simp [W0];lia) b3 (by lia) (by lia)
   refine⟨_,h2,(QfY (d:=90) ((Qar (d:=89) rfl (Qb (k _ _ v.1)).2 rfl rfl (e_2 (Qt rfl) (Qt rfl)) rfl).trans f)).trans Qs,_,xs2,rfl,?_,l2,?_,by lia,k.trans k2⟩
   ·rw [QZ hx];show WH ks h2 q (stW (((sps.take i).foldl stp (line,W0)).1.take sp.tk) ((sps.take i).foldl stp (line,W0)).2 sp);rw [Yb];exact w2
   ·rw [t1,<-List.drop_drop]
    exact p2)
  ⟨u7,xs,rfl,z,hL,by simpa [tks]using pl,Nat.le_refl _,Ge.refl⟩
 rw [ls,List.take_length]at w2 p2;exact⟨u7',h2,xs',e2,w2,l2,p2,k2⟩
end
section
variable {nd K o:Nat}
theorem Qig(e:h[nd]?=some (nI w true R K o L r)):evT (tb s) (Qa (tb s) n) 98 (.cmp .Eq (.fld (.var 0) 2) (.c (.str [114,111,117,110,100]))) [some (.ref nd),none] h=some (decide (w=[114,111,117,110,100]),h):=by
 rw [Qr,QG,ZF (d:=94) rfl e rfl,Qh,y_c,Qh,QdK];rfl
theorem JT{fs:List (Nat×U)}(e:h[nd]?=some (.ins c fs)):(h.set nd (.ins c (Zm f u fs)))[nd]?=some (.ins c (Zm f u fs)):=QdY (ltS e)
theorem Qe1(hw:w=[114,111,117,110,100])(e:h[nd]?=some (nI w true R K o L r))(hr:h[r]?=some (.lst ys)):Qa (tb s) (n+1) 31 [.ref nd] h=some (.non,(h++[O.lst ys.reverse]++[O.lst []]).set nd (nI w true R K o h.length (h.length+1))):=by
 have ln:=(ltS e);rw [Qk fnL[31] rfl rfl];show fin (exs (tb s) (Qa (tb s) n) (97+3) b31 [some (.ref nd),none] h)=_;have t:=Qig (s:=s) (n:=n) e;rw [decide_eq_true hw]at t
 have a1:ev (tb s) (Qa (tb s) n) 96 (.rev (.fld (.var 0) 8)) [some (.ref nd),none] h=some (.ref h.length,h++[.lst ys.reverse]):=by
  rw [QkF,ZF (d:=93) rfl e rfl,Qh];simp only [QU,hr]
 have e1:(h++[O.lst ys.reverse])[nd]?=some (nI w true R K o L r):=Qo e;have e2:=JT (f:=7) (u:=.ref h.length) e1;unfold b31
 refine(congrArg fin (Qa5 (d:=97) t ((Zw (d:=95) a1 rfl e1 (by show 7<500;decide)).trans ((Zw (d:=94) ZG rfl (Qo e2) (by simp [Zm,nI])).trans Qs)))).trans ?_
 show some (U.non,_)=_
 rw [List.length_set,List.length_append,List.length_singleton,<-List.set_append_left _ _ (by rw [List.length_append];lia),List.set_set]
 rfl
theorem Qe2(hw:w≠[114,111,117,110,100])(e:h[nd]?=some (nI w true R K o L r)):Qa (tb s) (n+1) 31 [.ref nd] h=some (.non,h.set nd (nI w false R K o r L)):=by
 rw [Qk fnL[31] rfl rfl];show fin (exs (tb s) (Qa (tb s) n) (97+3) b31 [some (.ref nd),none] h)=_;have t:=Qig (s:=s) (n:=n) e;rw [decide_eq_false hw]at t;have e2:=JT (f:=7) (u:=.ref r) e;have e3:=JT (f:=8) (u:=.ref L) e2
 have nt:∀H:Hs,H[nd]?=some (.ins 9 (Zm 8 (.ref L) (Zm 7 (.ref r) [(2,.str w),(6,.bl true),(9,.ref R),(10,.ref K),(11,.ref o),(7,.ref L),(8,.ref r)])))->ev (tb s) (Qa (tb s) n) 93 (.not (.fld (.var 0) 6)) [some (.ref nd),some (.ref L)] H=some (.bl false,H):=fun H e=>by
  rw [Qh6,ZF (d:=90) rfl e rfl,Qh];rfl
 unfold b31
 refine(congrArg fin (Zz (d:=97) t ((QV (d:=95) (ZF (d:=94) rfl e rfl)).trans ((Zw (d:=94) (ZF (d:=93) rfl e rfl) rfl e (by show 7<500;decide)).trans ((Zw (d:=93) (Qt rfl) rfl e2 (by simp [Zm])).trans ((Zw (d:=92) (nt _ e3) rfl e3 (by simp [Zm])).trans Qs)))))).trans ?_
 show some (U.non,_)=_;rw [List.set_set,List.set_set];rfl
end
structure Wd where
 rows:List (List Lp)
 ly:List Nm
 kp:List (List Nat×List Nm)
 gn:List Nm
def DRow(Q:Nat->Prop)(g:Gt)(u:U)(r:List Lp):Prop:=∃p us,u=.ref p/\Q p/\g p=some (.lst us)/\Paired (DL g) us r
def DKp(Q:Nat->Prop)(g:Gt)(u:U)(x:List Nat×List Nm):Prop:=∃p q us,u=.ref p/\Q q/\g p=some (.tup [.str x.1,.ref q])/\g q=some (.lst us)/\Paired (DN g) us x.2
noncomputable def nmL(a:Nm):List Int:=[a.1,a.2]
noncomputable def QcK(off:List Nm):List Nm:=(L2.permK (if off.length<2 then []else off.map nmL) off.length).map fun i=>off.getD i (0,0)
def DWeb(Q:Nat->Prop)(g:Gt)(u:U)(D:Wd):Prop:=∃p a b c d as bs cs ds,u=.ref p/\g p=some (.tup [.ref a,.ref b,.ref c,.ref d])/\(Q a/\Q b/\Q c/\Q d/\a<c/\b<c/\c<d)/\(g a=some (.lst as)/\Paired (DRow (fun p=>Q p/\p<c) g) as D.rows)/\(g b=some (.lst bs)/\Paired (DN g) bs D.ly)/\(g c=some (.lst cs)/\Paired (DKp (fun p=>Q p/\p<c) g) cs D.kp)/\g d=some (.lst ds)/\Paired (DN g) ds (QcK D.gn)
section
variable {g g':Gt}(k:Ge g g')
include k
theorem DRow.mono{r:List Lp}(z:DRow Q g u r):DRow Q g' u r:=by
 obtain⟨p,us,e,l,e1,e2⟩:=z;exact⟨p,us,e,l,k _ _ e1,DLs.mono k e2⟩
theorem DKp.mono{x:List Nat×List Nm}(z:DKp Q g u x):DKp Q g' u x:=by
 obtain⟨p,q,us,e,l,e1,e2,e3⟩:=z;exact⟨p,q,us,e,l,k _ _ e1,k _ _ e2,DNs.mono k e3⟩
theorem DWeb.mono{D:Wd}(z:DWeb Q g u D):DWeb Q g' u D:=by
 obtain⟨p,a,b,c,d,as,bs,cs,ds,e,e1,l,⟨a1,a2⟩,⟨b1,b2⟩,⟨c1,c2⟩,d1,d2⟩:=z;exact⟨p,a,b,c,d,as,bs,cs,ds,e,k _ _ e1,l,⟨k _ _ a1,Qj (fun _ _ z=>z.mono k) a2⟩,⟨k _ _ b1,DNs.mono k b2⟩,⟨k _ _ c1,Qj (fun _ _ z=>z.mono k) c2⟩,k _ _ d1,DNs.mono k d2⟩
end
section
variable {Q':Nat->Prop}{g:Gt}
theorem Za{α β γ:Type}{P:α->γ->Prop}{Q:β->γ->Prop}{X:α->β->Prop}(f:∀a b c,P a c->Q b c->X a b):∀{l:List α} {r:List β} {t:List γ},Paired P l t->Paired Q r t->Paired X l r
 | _,_,_,.nil,.nil=>.nil
 | _,_,_,.cons a t,.cons a' t'=>.cons (f _ _ _ a a') (Za f t t')
theorem JQ{i:Int}:Sm g (d+1) (.int i 0) (.int i 0):=.inl ⟨i,rfl,rfl⟩
theorem Qiu{x:List Nat}:Sm g (d+1) (.str x) (.str x):=.inr (.inl ⟨x,rfl,rfl⟩)
theorem JP(e:g p=some (.tup us))(e':g q=some (.tup ws))(l:us.length<1000000)(z:Paired (Sm g d) us ws):Sm g (d+1) (.ref p) (.ref q):=.inr (.inr ⟨p,q,us,ws,rfl,rfl,l,z,.inl ⟨e,e'⟩⟩)
theorem YR(e:g p=some (.lst us))(e':g q=some (.lst ws))(l:us.length<1000000)(z:Paired (Sm g d) us ws):Sm g (d+1) (.ref p) (.ref q):=.inr (.inr ⟨p,q,us,ws,rfl,rfl,l,z,.inr ⟨e,e'⟩⟩)
theorem DN.sm(u w:U)(a:Nm)(z:DN g u a)(z':DN g w a):Sm g (d+2) u w:=by
 obtain⟨p,rfl,e⟩:=z;obtain⟨q,rfl,e'⟩:=z'
 exact JP e e' (by simp) (.cons JQ (.cons JQ .nil))
theorem DL.sm(u w:U)(a:Lp)(ha:a.ps.length<1000000)(z:DL g u a)(z':DL g w a):Sm g (d+4) u w:=by
 obtain⟨p,q,us,rfl,e,e1,e2⟩:=z;obtain⟨p',q',us',rfl,e',e1',e2'⟩:=z'
 exact JP e e' (by simp) (.cons (JP e1 e1' (by rw [Qf e2];exact ha) (Za DN.sm e2 e2')) (.cons JQ (.cons JQ .nil)))
def Fit(D:Wd):Prop:=D.rows.length<1000/\(∀r∈D.rows,r.length<1000/\∀a∈r,a.ps.length<1000)/\D.ly.length<1000/\D.kp.length<1000/\(∀x∈D.kp,x.2.length<1000)/\D.gn.length<64
theorem ZD{α β:Type}{P:α->β->Prop}:∀{l:List α} {r:List β},Paired P l r->Paired (fun a b=>P a b/\b∈r) l r
 | _,_,.nil=>.nil
 | _,_,.cons a t=>.cons ⟨a,List.mem_cons_self⟩ (Qj (fun _ _ z=>⟨z.1,List.mem_cons_of_mem _ z.2⟩) (ZD t))
theorem JO{x:List Nm}:(QcK x).length=x.length:=by
 unfold QcK;rw [List.length_map,(L2.permK_perm _ _).length_eq,List.length_range]
theorem DWeb.sm{w:U}{D:Wd}(F:Fit D)(z:DWeb Q g u D)(z':DWeb Q' g w D):Sm g 7 u w:=by
 obtain⟨p,a,b,c,d,as,bs,cs,ds,rfl,e1,_,⟨a1,a2⟩,⟨b1,b2⟩,⟨c1,c2⟩,d1,d2⟩:=z;obtain⟨p',a',b',c',d',as',bs',cs',ds',rfl,e1',_,⟨a1',a2'⟩,⟨b1',b2'⟩,⟨c1',c2'⟩,d1',d2'⟩:=z';obtain⟨f1,f2,f3,f4,f5,f6⟩:=F;have l1:=Qf a2;have l2:=Qf b2;have l3:=Qf c2;have l4:=Qf d2;rw [JO]at l4
 refine JP e1 e1' (by simp) (.cons (YR a1 a1' (by lia) (Za ?_ (ZD a2) (ZD a2'))) (.cons (YR b1 b1' (by lia) (Za DN.sm b2 b2')) (.cons (YR c1 c1' (by lia) (Za ?_ (ZD c2) (ZD c2'))) (.cons (YR d1 d1' (by lia) (Za DN.sm d2 d2')) .nil))))
 ·intro x y r zx zy;obtain⟨⟨q,us,rfl,_,x1,x2⟩,mr⟩:=zx;obtain⟨⟨q',us',rfl,_,x1',x2'⟩,_⟩:=zy;obtain⟨g1,g2⟩:=f2 r mr;have:=Qf x2
  exact YR x1 x1' (by lia) (Za (fun x y a zx zy=>DL.sm x y a (by have:=g2 a zx.2;lia) zx.1 zy.1) (ZD x2) (ZD x2'))
 ·intro x y r zx zy;obtain⟨⟨p,q,us,rfl,_,x0,x1,x2⟩,mr⟩:=zx;obtain⟨⟨p',q',us',rfl,_,x0',x1',x2'⟩,_⟩:=zy;have:=f5 r mr;have:=Qf x2
  exact JP x0 x0' (by simp) (.cons Qiu (.cons (YR x1 x1' (by lia) (Za DN.sm x2 x2')) .nil))
end
theorem DWeb.mv{Q':Nat->Prop}{g g':Gt}{D:Wd}(i:∀p,Q p->Q' p)(k:∀p x,Q p->g p=some x->g' p=some x)(t:GeT g g')(z:DWeb Q g u D):DWeb Q' g' u D:=by
 obtain⟨p,a,b,c,d,as,bs,cs,ds,e,e1,⟨l1,l2,l3,l4,l5⟩,⟨a1,a2⟩,⟨b1,b2⟩,⟨c1,c2⟩,d1,d2⟩:=z;refine⟨p,a,b,c,d,as,bs,cs,ds,e,t _ _ e1,⟨i _ l1,i _ l2,i _ l3,i _ l4,l5⟩,⟨k _ _ l1 a1,Qj (fun _ _ z=>?_) a2⟩,⟨k _ _ l2 b1,DNs.monoT t b2⟩,⟨k _ _ l3 c1,Qj (fun _ _ z=>?_) c2⟩,k _ _ l4 d1,DNs.monoT t d2⟩
 ·obtain⟨p,us,e,l,e1,e2⟩:=z;exact⟨p,us,e,⟨i _ l.1,l.2⟩,k _ _ l.1 e1,DLs.monoT t e2⟩
 ·obtain⟨p,q,us,e,l,e1,e2,e3⟩:=z;exact⟨p,q,us,e,⟨i _ l.1,l.2⟩,t _ _ e1,k _ _ l.1 e2,DNs.monoT t e3⟩
theorem QcW{α β:Type}{P:α->β->Prop}{x:α}{y:β}:∀{l:List α} {r:List β},Paired P l r->∀i,i<l.length->P (l.getD i x) (r.getD i y)
 | _,_,.nil,i,h=>by simp at h
 | _,_,.cons a t,0,_=>a
 | _,_,.cons a t,i+1,h=>by
  have:=QcW (x:=x) (y:=y) t i (by simpa using h)
  simpa using this
theorem Qfw{α β:Type}{P:α->β->Prop}{x:α}{y:β}{l:List α}{r:List β}(h:Paired P l r):∀{is:List Nat},(∀i∈is,i<l.length)->Paired P (is.map fun i=>l.getD i x) (is.map fun i=>r.getD i y)
 | [],_=>.nil
 | i::is,m=>.cons (QcW h i (m i List.mem_cons_self)) (Qfw h fun j mj=>m j (List.mem_cons_of_mem _ mj))
theorem QfH{hs:Hs}:∀{us:List U} {nms:List Nm},Paired (DN (Hg hs)) us nms->Qhi hs us=some (nms.map nmL)
 | _,_,.nil=>rfl
 | _,_,.cons h t=>by
  obtain⟨i,rfl,e⟩:=h;have e:hs[i]?=_:=e;have ih:=QfH t;simp only [Qhi,itU,e,YM,ih,Option.map,Option.bind,List.map_cons,nmL]
theorem QcJ{nms:List Nm}(hp:hs[p]?=some (.lst us))(pn:Paired (DN (Hg hs)) us nms)(l:nms.length<64):∃vs,biU T .sorted [.ref p] hs=some (.ref hs.length,hs++[.lst vs])/\Paired (DN (Hg hs)) vs (QcK nms):=by
 have el:=Qf pn
 have lt:∀ks n,∀i∈L2.permK ks n,i<n:=fun ks n i m=>by
  have:=(L2.permK_perm ks n).mem_iff.mp m;simpa using this
 refine⟨QbP (if nms.length<2 then []else nms.map nmL) us,?_,?_⟩
 ·have e1:(if us.length<2 then some []else Qhi hs us)=some (if nms.length<2 then []else nms.map nmL):=by
   rw [QfH pn,el];split<;>rfl
  show(QU T (.ref p) hs).bind _=_
  simp only [QU,hp,Option.bind,if_pos (show us.length<64 by lia),e1,Option.map]
 ·unfold QbP QcK;rw [el]
  exact Qfw pn fun i m=>by rw [el];exact lt _ _ i m
def KD(g:Gt)(kvs:List (U×U))(kp:List (List Nat×List Nm)):Prop:=∃B c k us ns,kvs=fe [c] (.ref k) B/\(119<=c/\c<123)/\kp=cB B [([c],ns)]/\(B=true->g k=some (.lst us)/\us≠[]/\Paired (DN g) us ns)
def NS(g:Gt)(nd:Nat)(D:Wd):Prop:=∃w b R K o L r rs xs ys kvs os,g nd=some (nI w b R K o L r)/\(g R=some (.lst rs)/\Paired (DRow (fun _=>True) g) rs D.rows/\rs.length<1000)/\(g L=some (.lst xs)/\g r=some (.lst ys)/\Paired (DN g) (if b then ys++xs.reverse else(ys++xs.reverse).reverse) D.ly/\ys.length+xs.length<1000)/\(g K=some (.dic kvs)/\KD g kvs D.kp)/\g o=some (.lst os)/\Paired (DN g) os D.gn/\D.gn.length<64
theorem NS.mono{g g':Gt}(k:Ge g g'){nd:Nat}{D:Wd}(z:NS g nd D):NS g' nd D:=by
 obtain⟨w,b,R,K,o,L,r,rs,xs,ys,kvs,os,e,⟨a1,a2,a3⟩,⟨b1,b2,b3,b4⟩,⟨c1,B,c,kk,us,ns,c2,c3,c4,c5⟩,d1,d2,d3⟩:=z;exact⟨w,b,R,K,o,L,r,rs,xs,ys,kvs,os,k _ _ e,⟨k _ _ a1,Qj (fun _ _ z=>z.mono k) a2,a3⟩,⟨k _ _ b1,k _ _ b2,DNs.mono k b3,b4⟩,⟨k _ _ c1,B,c,kk,us,ns,c2,c3,c4,fun b=>⟨k _ _ (c5 b).1,(c5 b).2.1,DNs.mono k (c5 b).2.2⟩⟩,k _ _ d1,DNs.mono k d2,d3⟩
theorem QT(k:Kp h g):h.length<=g.length:=by
 cases e:h.length with
 | zero=>exact Nat.zero_le _
 | succ n =>
  have l:n<h.length:=by lia
  have:=(ltS (show g[n]?=some h[n]from k _ _ (List.getElem?_eq_getElem l)));lia
section
variable {nd K o k:Nat}{b:Bool}{ns:List Nm}
theorem QfT{l:List α}:(cB B l).length<=l.length:=by
 cases B
 ·exact Nat.zero_le _
 ·exact Nat.le_refl _
theorem e_4{a b c:E}{f:Ev}{u0 u1 u2 u3:U}{h1 h4:Hs}(x0:f a Z h=some (u0,h1))(x1:f b Z h1=some (u1,h2))(x2:f c Z h2=some (u2,h3))(x3:f e Z h3=some (u3,h4)):evs f Z [a,b,c,e] h=some ([u0,u1,u2,u3],h4):=by
 simp only [evs,x0,x1,x2,x3,Qh]
theorem QaQ(e:h[p]?=some (.lst us)):biU T .list [.ref p] h=some (.ref h.length,h++[.lst us]):=by
 unfold biU;simp only [ZR,e]
theorem Qih(e:h[p]?=some (.lst us)):Yl T (.ref p) h=some !us.isEmpty:=by
 simp only [Yl,ZR,e,Option.map_some]
theorem Ql3(hi:i<4):kp4[i]?=some (.str [119+i]):=by
 rcases (show i=0\/i=1\/i=2\/i=3 by lia)with rfl|rfl|rfl|rfl<;>rfl
theorem QjL(e:h[nd]?=some (nI w b R K o L r))(hK:h[K]?=some (.dic (fe [c] (.ref k) B)))(hc:119<=c/\c<123)(hk:B=true->h[k]?=some (.lst us)/\us≠[]/\Paired (DN (Hg h)) us ns):
  ∃cs g,ev (tb s) (Qa (tb s) (n+1)) 96 Ql4 [some (.ref nd),u1,u2,none] h=some (.ref g.length,g++[.lst cs])/\Kp h g/\Paired (DKp (h.length<=·) (Hg g)) cs (cB B [([c],ns)]):=by
 have tu:∀g,Qas (tb s) (.con 0) g=some kp4:=fun g=>rfl
 obtain⟨cs,g,e2,_,k2,p2⟩:=QbC (T:=tb s) (f:=ev (tb s) (Qa (tb s) (n+1)) 95) (ft:=Qaf (evT (tb s) (Qa (tb s) (n+1)) 95) (some (.meth 9 (.var 0) [.var 4]))) (w:=.seqT (.con 0)) (el:=elK) (Z:=[some (.ref nd),u1,u2,none]) (fun i acc g=>i<=4/\Kp h g/\Paired (DKp (h.length<=·) (Hg g)) acc (cB (B&&decide (c<119+i)) [([c],ns)])) (n:=4)
  (fun i hi acc g z=>by
   obtain⟨_,kg,pa⟩:=z
   have la:acc.length<1000000:=by
    have:=Qf pa;have:=QfT (B:=B&&decide (c<119+i)) (l:=[([c],ns)]);rw [List.length_singleton]at this;lia
   have mt:ev (tb s) (Qa (tb s) (n+1)) 94 (.meth 9 (.var 0) [.var 4]) [some (.ref nd),u1,u2,none,some (.str [119+i])] g=some ((QS (fe [c] (.ref k) B) (.str [119+i])).getD (.ref g.length),g++[.lst []]):=(Qar (d:=92) rfl (kg _ _ e) rfl rfl (e_1 (Qt rfl)) rfl).trans (QhE (kg _ _ e) (kg _ _ hK))
   have it:itm (tb s) (.seqT (.con 0)) i g=some (some (.one (.str [119+i]))):=by
    simp only [itm,tu,Option.map_some,Ql3 hi]
   by_cases q:B=true/\c=119+i
   ·obtain⟨rfl,rfl⟩:=q;obtain⟨h1,h2,h3⟩:=hk rfl;have K1:Kp g (g++[.lst []]):=Kp.app _ _
    have lk:QS (fe [119+i] (.ref k) true) (.str [119+i])=some (.ref k):=by simp [fe,QS]
    rw [lk]at mt;have gk:(g++[O.lst []])[k]?=some (.lst us):=K1 _ _ (kg _ _ h1)
    have ne:us.isEmpty=false:=by
     cases us with
     | nil=>exact absurd rfl h2
     | cons=>rfl
    refine⟨la,_,true,g++[.lst []],it,?_,fun _=>⟨.ref (g.length+2),g++[.lst []]++[.lst us]++[.tup [.str [119+i],.ref (g.length+1)]],?_,by lia,((kg.trans K1).trans (Kp.app _ _)).trans (Kp.app _ _),?_⟩,(fun z=>nomatch z)⟩
    ·show bd (ev (tb s) (Qa (tb s) (n+1)) 94 (.meth 9 (.var 0) [.var 4]) [some (.ref nd),u1,u2,none,some (.str [119+i])] g) _=_;rw [mt,Qh];show(Yl (tb s) (.ref k) (g++[.lst []])).map _=_;rw [Qih gk,ne];rfl
    ·have ix:ev (tb s) (Qa (tb s) (n+1)) 93 (.ix (.fld (.var 0) 10) (.var 4)) [some (.ref nd),u1,u2,none,some (.str [119+i])] (g++[.lst []])=some (.ref k,g++[.lst []]):=by
      rw [Qcm,ZF (d:=90) rfl (K1 _ _ (kg _ _ e)) rfl,Qh,Qt rfl,Qh,Qeb (K1 _ _ (kg _ _ hK)) lk];rfl
     show ev (tb s) (Qa (tb s) (n+1)) 95 elK [some (.ref nd),u1,u2,none,some (.str [119+i])] (g++[.lst []])=_;rw [elK,QY,e_2 (Qt rfl) (QdX (d:=93) (e_1 ix) (QaQ gk)),Qh];simp
    ·have ac:acc=[]:=by
      have:=Qf pa;simpa [cB]using this
     have gl:=QT kg
     have l1:(g++[O.lst []]).length=g.length+1:=by simp
     have l2:(g++[O.lst []]++[O.lst us]).length=g.length+2:=by simp
     have K4:Kp h (g++[.lst []]++[.lst us]++[.tup [.str [119+i],.ref (g.length+1)]]):=((kg.trans K1).trans (Kp.app _ _)).trans (Kp.app _ _)
     rw [ac,decide_eq_true (show 119+i<119+(i+1) by lia)]
     refine .cons ⟨g.length+2,g.length+1,us,rfl,by lia,?_,?_,DNs.mono K4 h3⟩ .nil
     ·show(g++[O.lst []]++[O.lst us]++[O.tup [.str [119+i],.ref (g.length+1)]])[g.length+2]?=_;rw [<-l2];exact at0
     ·show(g++[O.lst []]++[O.lst us]++[O.tup [.str [119+i],.ref (g.length+1)]])[g.length+1]?=_;rw [<-l1];exact Qo at0
   ·have lk:QS (fe [c] (.ref k) B) (.str [119+i])=none:=by
     cases B
     ·rfl
     ·have:c≠119+i:=fun z=>q ⟨rfl,z⟩;simp [fe,QS,this]
    rw [lk]at mt
    refine⟨la,_,false,g++[.lst []],it,?_,(fun z=>nomatch z),fun _=>⟨by lia,kg.trans (Kp.app _ _),?_⟩⟩
    ·show bd (ev (tb s) (Qa (tb s) (n+1)) 94 (.meth 9 (.var 0) [.var 4]) [some (.ref nd),u1,u2,none,some (.str [119+i])] g) _=_;rw [mt,Qh];show(Yl (tb s) (.ref g.length) (g++[.lst []])).map _=_;rw [Qih at0];rfl
    ·have:(B&&decide (c<119+(i+1)))=(B&&decide (c<119+i)):=by
      cases B
      ·rfl
      ·have:c≠119+i:=fun z=>q ⟨rfl,z⟩;rw [Bool.true_and,Bool.true_and]
       exact decide_eq_decide.mpr (by lia)
     rw [this]
     exact Qj (fun _ _ z=>z.mono (Kp.app _ _)) pa)
  (fun acc g z=>rfl) 4 0 5 [] h (by lia) (by lia) ⟨by lia,Kp.refl h,by
   rw [decide_eq_false (by lia),Bool.and_false]
   exact .nil⟩
 rw [decide_eq_true (by lia),Bool.and_true]at p2
 refine⟨cs,g,?_,k2,p2⟩;rw [Ql4,JI];show bd (Zn (tb s) _ _ (.seqT (.con 0)) false elK [some (.ref nd),u1,u2,none] 5 0 [] h) _=_;rw [e2,Qh]
theorem QhC{D:Wd}(z:NS (Hg h) nd D):∃u g,Qa (tb s) (n+2) 25 [.ref nd] h=some (u,g)/\Kp h g/\DWeb (h.length<=·) (Hg g) u D:=by
 obtain⟨w,b,R,K,o,L,r,rs,xs,ys,kvs,os,e,⟨a1,a2,a3⟩,⟨b1,b2,b3,b4⟩,⟨c1,B,c,k,us,ns,c2,c3,c4,c5⟩,d1,d2,d3⟩:=z;subst c2;have e:h[nd]?=_:=e
 obtain⟨vs,g1,e1,k1,p1⟩:=Qcv (T:=tb s) (cf:=Qa (tb s) (n+1)) (d:=96) (D:=DRow (h.length<=·)) (xs:=D.rows) (us:=rs) (e:=.fld (.var 0) 9) (el:=.bi .list [.var 4]) (Z:=[some (.ref nd),none,none,none]) (h0:=h) (hs:=h) (p:=R)
  (fun _ _ _ _ g z=>z.mono g) (ZF (d:=95) rfl e rfl) a1 (Qf a2) (by lia) (fun i u x hu hx g kg=>by
   obtain⟨x',hx',p,us,rfl,_,x1,x2⟩:=Q0 a2 hu;rw [hx]at hx';cases hx'
   exact⟨_,_,QdX (d:=96) (e_1 (Qt rfl)) (QaQ (kg _ _ x1)),Kp.app _ _,g.length,us,rfl,QT kg,at0,DLs.mono (kg.trans (Kp.app _ _)) x2⟩)
 have k1':Kp h (g1++[.lst vs]):=k1.trans (Kp.app _ _);generalize hA:g1++[O.lst vs]=gA at k1' e1;have fA:gA[g1.length]?=some (.lst vs):=hA▸at0;have pA:Paired (DRow (h.length<=·) (Hg gA)) vs D.rows:=Qj (fun _ _ z=>z.mono (hA▸Kp.app _ _)) p1;have lg:=QT k1
 have lgA:gA.length=g1.length+1:=by rw [<-hA,List.length_append,List.length_singleton]
 have lA:=QT k1'
 have i1:ev (tb s) (Qa (tb s) (n+1)) 96 (.op .Add (.fld (.var 0) 8) (.rev (.fld (.var 0) 7))) [some (.ref nd),some (.ref g1.length),none,none] gA=some (.ref (gA.length+1),gA++[.lst xs.reverse]++[.lst (ys++xs.reverse)]):=by
  rw [ZC,ZF (d:=93) rfl (k1' _ _ e) rfl,Qh,QkF,ZF (d:=92) rfl (k1' _ _ e) rfl,Qh];have b1':gA[L]?=some (.lst xs):=k1' _ _ b1;have b2':gA[r]?=some (.lst ys):=k1' _ _ b2;simp only [QU,b1',Qh]
  rw [show opU .Add (.ref r) (.ref gA.length) (gA++[.lst xs.reverse])=QhP (.ref r) (.ref gA.length) (gA++[.lst xs.reverse])from rfl,Qkl (Qo b2') at0 (by rw [List.length_reverse];lia)]
  simp
 generalize hl:ys++xs.reverse=ls at i1 b3;have k2:Kp gA (gA++[.lst xs.reverse]++[.lst ls]):=(Kp.app _ _).trans (Kp.app _ _)
 have fL:(gA++[O.lst xs.reverse]++[O.lst ls])[gA.length+1]?=some (.lst ls):=by
  rw [show gA.length+1=(gA++[O.lst xs.reverse]).length by simp]
  exact at0
 generalize gA++[O.lst xs.reverse]++[O.lst ls]=gB at i1 k2 fL;have od:=Qkq (s:=s) (n:=n) (k2 _ _ (k1' _ _ e)) rfl fL;have k3:Kp gA (gB++[.lst (if b then ls else ls.reverse)]):=k2.trans (Kp.app _ _);have fB:(gB++[O.lst (if b then ls else ls.reverse)])[gB.length]?=some (.lst (if b then ls else ls.reverse)):=at0;have lB:=QT k2;generalize gB++[O.lst (if b then ls else ls.reverse)]=gC at od k3 fB;have kC:Kp h gC:=k1'.trans k3;obtain⟨cs,g4,e4,k4,p4⟩:=QjL (s:=s) (n:=n) (u1:=some (.ref g1.length)) (u2:=some (.ref gB.length)) (kC _ _ e) (kC _ _ c1) c3 (fun b=>⟨kC _ _ (c5 b).1,(c5 b).2.1,DNs.mono kC (c5 b).2.2⟩);have lC:=QT k3;have lBC:=(ltS fB);have K4:Kp gC (g4++[.lst cs]):=k4.trans (Kp.app _ _);obtain⟨ds,e5,p5⟩:=QcJ (T:=tb s) (hs:=g4++[.lst cs]) (K4 _ _ (kC _ _ d1)) (DNs.mono K4 (DNs.mono kC d2)) d3;have l4:=QT K4;have l4a:=QT k4;have K5:Kp gC (g4++[.lst cs]++[.lst ds]++[.tup [.ref g1.length,.ref gB.length,.ref g4.length,.ref (g4++[O.lst cs]).length]]):=(K4.trans (Kp.app _ _)).trans (Kp.app _ _)
 refine⟨.ref (g4++[O.lst cs]++[O.lst ds]).length,g4++[O.lst cs]++[O.lst ds]++[.tup [.ref g1.length,.ref gB.length,.ref g4.length,.ref (g4++[O.lst cs]).length]],?_,kC.trans K5,_,g1.length,gB.length,g4.length,(g4++[O.lst cs]).length,vs,_,cs,ds,rfl,at0,⟨lg,by lia,by lia,by lia,by lia,by lia,by simp⟩,⟨K5 _ _ (k3 _ _ fA),Qj (fun _ _ z=>by
  obtain⟨p,us,e,l,x1,x2⟩:=z;have:=(ltS (show gA[p]?=_ from x1))
  exact DRow.mono K5 (DRow.mono k3 ⟨p,us,e,⟨l,by lia⟩,x1,x2⟩)) pA⟩,⟨K5 _ _ fB,DNs.mono (kC.trans K5) b3⟩,⟨Qo (Qo at0),?_⟩,Qo at0,DNs.mono ((Kp.app _ _).trans (Kp.app _ _)) p5⟩
 ·refine(Qk fnL[25] rfl rfl).trans ((congrArg fin ((QV (d:=97) e1).trans ((QV (d:=96) ((Qar (d:=95) rfl (k1' _ _ e) rfl rfl (e_1 i1) rfl).trans od)).trans (QV (d:=95) e4)))).trans (Yi (d:=94) ?_));rw [QY,e_4 (Qt (d:=93) rfl) (Qt (d:=93) rfl) (Qt (d:=93) rfl) (QdX (d:=93) (e_1 (ZF (d:=91) rfl (K4 _ _ (kC _ _ e)) rfl)) e5),Qh]
 ·rw [c4]
  exact Qj (fun _ _ z=>by
   obtain⟨p,q,us,e,l,x1,x2,x3⟩:=z;have:=(ltS (show g4[q]?=_ from x2))
   exact DKp.mono ((Kp.app _ [.lst cs]).trans ((Kp.app _ [.lst ds]).trans (Kp.app _ [.tup [.ref g1.length,.ref gB.length,.ref g4.length,.ref (g4++[O.lst cs]).length]]))) ⟨p,q,us,e,⟨by lia,this⟩,x1,x2,x3⟩) p4
end
section

theorem Qdw{tk:List Nm}:∀{es:List (List Nat)} {W:Wr},(W.pt≠[]\/(es.any fun w=>decide (w≠ZA))=true)->(es.foldl (ZO tk) W).pt≠[]
 | [],W,z=>z.elim id (fun y=>by simp at y)
 | w::r,W,z=>by
  rw [List.foldl_cons];refine Qdw ?_;rw [List.any_cons,Bool.or_eq_true]at z;by_cases c:w=ZA
  ·refine z.imp (fun y=>?_) fun y=>y.resolve_left (by simp [c])
   unfold ZO;rw [if_pos c];exact y
  ·refine .inl ?_;unfold ZO;rw [if_neg c];simp
theorem QcE:∀{sps:List Sp} {line:List Nm} {W:Wr},(W.pt≠[]\/sps.any hk=true)->(sps.foldl stp (line,W)).2.pt≠[]
 | [],line,W,z=>z.elim id (fun y=>by simp at y)
 | sp::r,line,W,z=>by
  rw [List.foldl_cons];rw [List.any_cons,Bool.or_eq_true,<-or_assoc]at z;refine QcE (W:=stW (line.take sp.tk) W sp) (z.imp (fun y=>Qdw ?_) id);rw [(Q1 (tk:=line.take sp.tk) (ts:=sp.ts) (W:=W)).2.2.2];exact y
theorem QcG:∀{sps:List Sp} {line:List Nm} {W:Wr},(∀sp∈sps,Gd ks sp)->(sps.foldl stp (line,W)).2.gn.length<=W.gn.length+sps.length
 | [],line,W,g=>Nat.le_refl _
 | sp::r,line,W,g=>by
  rw [List.foldl_cons];have a:=QcG (sps:=r) (line:=line.drop sp.tk) (W:=stW (line.take sp.tk) W sp) fun x m=>g x (List.mem_cons_of_mem _ m);have b:=(Zk (tk:=line.take sp.tk) (es:=sp.es) (W:=sp.ts.foldl (YF (line.take sp.tk)) W)).1;rw [(Q1 (tk:=line.take sp.tk) (ts:=sp.ts) (W:=W)).2.2.1]at b;have c:=(g sp List.mem_cons_self).2.2.2.1;rw [List.length_cons];show(r.foldl stp (line.drop sp.tk,stW (line.take sp.tk) W sp)).2.gn.length<=_;have d:(stW (line.take sp.tk) W sp).gn.length<=W.gn.length+sp.es.length:=b;lia
theorem QcA{tk:List Nm}{k:Nat}:∀{ts:List Ti} {W:Wr},(∀t∈ts,OkT k t)->(∀a∈W.lp,a.ps.length<1000)->∀a∈(ts.foldl (YF tk) W).lp,a.ps.length<1000
 | [],W,_,z=>z
 | t::r,W,g,z=>by
  rw [List.foldl_cons];refine QcA (fun x m=>g x (List.mem_cons_of_mem _ m)) ?_;have gt:=g t List.mem_cons_self
  cases t with
  | sm=>exact z
  | nw ps s l =>
   intro a m
   rcases List.mem_append.mp (show a∈W.lp++[_]from m)with m|m
   ·exact z a m
   ·obtain rfl:=List.mem_singleton.mp m;have:=gt.1;rw [List.length_map];lia
theorem Qfl:∀{sps:List Sp} {line:List Nm} {W:Wr},(∀sp∈sps,Gd ks sp)->(∀a∈W.lp,a.ps.length<1000)->∀a∈(sps.foldl stp (line,W)).2.lp,a.ps.length<1000
 | [],line,W,_,z=>z
 | sp::r,line,W,g,z=>by
  rw [List.foldl_cons];refine Qfl (W:=stW (line.take sp.tk) W sp) (fun x m=>g x (List.mem_cons_of_mem _ m)) ?_;unfold stW;rw [(Zk (tk:=line.take sp.tk) (es:=sp.es)).2.2.2];exact QcA (g sp List.mem_cons_self).2.2.1 z
theorem QaM:∀{sps:List Sp},(∀sp∈sps,Gd ks sp)->nws sps<=8*sps.length
 | [],_=>Nat.le_refl _
 | sp::r,g=>by
  have a:=QaM (sps:=r) fun x m=>g x (List.mem_cons_of_mem _ m);have b:=(g sp List.mem_cons_self).2.1;have c:=List.length_filter_le Qav sp.ts;unfold nws at a ⊢;rw [List.map_cons,List.sum_cons,List.length_cons];lia
end
theorem Qk5{o C:Nat}(hr:g[r]?=some (.lst []))(ho:g[o]?=some (.lst []))(hC:g[C]?=some (.lst []))(hP:g[P]?=some (.dic (fe ks (.ref kk) B)))(hk:B=true->g[kk]?=some (.lst []))(n:r≠o)(n1:r<C)(n2:o<C)(n3:C<kk)(n4:kk<P):WH ks g ⟨r,C,o,P,if B then some kk else none⟩ W0:=by
 have nt:∀{m:Nat} {x:O},g[m]?=some x->(∀us,x≠.tup us)->m<g.length/\∀us,g[m]?≠some (.tup us):=fun e n=>⟨(ltS e),fun us z=>n us (Option.some.inj (e.symm.trans z))⟩
 have hm:∀m∈[r,C,o,P],m<g.length/\∀us,g[m]?≠some (.tup us):=fun m hm=>by
  simp only [List.mem_cons,List.not_mem_nil,or_false]at hm
  rcases hm with rfl|rfl|rfl|rfl
  ·exact nt hr fun _ z=>nomatch z
  ·exact nt hC fun _ z=>nomatch z
  ·exact nt ho fun _ z=>nomatch z
  ·exact nt hP fun _ z=>nomatch z
 have d4:[r,C,o,P].Nodup:=by
  simp only [List.nodup_cons,List.mem_cons,List.not_mem_nil,or_false,not_or,not_false_eq_true,and_true,List.nodup_nil];lia
 cases B with
 | false=>exact⟨d4,hm,⟨[],hr,.nil⟩,⟨[],hC,.nil⟩,⟨[],ho,.nil⟩,⟨hP,rfl⟩⟩
 | true =>
  refine⟨List.nodup_append.mpr ⟨d4,by simp,fun a ma b mb z=>?_⟩,fun m mm=>?_,⟨[],hr,.nil⟩,⟨[],hC,.nil⟩,⟨[],ho,.nil⟩,⟨hP,[],hk rfl,.nil⟩⟩
  ·obtain rfl:b=kk:=List.mem_singleton.mp mb;subst z;simp only [List.mem_cons,List.not_mem_nil,or_false]at ma;lia
  ·rcases List.mem_append.mp mm with mm|mm
   ·exact hm m mm
   ·obtain rfl:m=kk:=List.mem_singleton.mp mm;exact nt (hk rfl) fun _ z=>nomatch z
section
variable {nd F K o S C:Nat}
theorem QjM(e:g[nd]?=some (nI w true R K o L r))(ec:g[cs]?=some (cI N S C P))(hF:g[F]?=some (.dic (fe ks (.int 0 0) B)))(hK:g[K]?=some (.dic []))(hP:g[P]?=some (.dic (fe ks (.ref kk) B)))(hk:B=true->g[kk]?=some (.lst us))(nFK:F≠K)(nFP:F≠P):
  ∃u8' g2 kq,ex (tb s) (Qa (tb s) (n+3)) 92 Ql0 [some (.ref nd),u1,u2,some (.ref F),u4,u5,some (.ref cs),u7,u8] g=some (.next,[some (.ref nd),u1,u2,some (.ref F),u4,u5,some (.ref cs),u7,u8'],g2)/\g2[K]?=some (.dic (fe ks (.ref kq) B))/\(B=true->g2[kq]?=some (.lst us))/\Ge (Vw [K] g) (Vw [K] g2):=by
 have y:∀Z:Rho,Z[3]?=some (some (.ref F))->ex (tb s) (Qa (tb s) (n+3)) 92 Ql0 Z g=Qay F (QeT 8 (exs (tb s) (Qa (tb s) (n+3)) 91 [.put (.fld (.var 0) 10) (.var 8) (.meth 13 (.var 0) [.ix (.fld (.var 6) 15) (.var 8)])]) ((fe ks (.int 0 0) B).map (·.1)) Z (g.set F (.fzd (fe ks (.int 0 0) B)))):=fun Z r3=>by
  show(bd (ev (tb s) (Qa (tb s) (n+3)) 91 (.var 3) Z g) _)=_;rw [Qt r3,Qh];simp only [Qcb,hF]
 rw [y _ rfl];have lF:=(ltS hF);have zF:(g.set F (.fzd (fe ks (.int 0 0) B)))[F]?=some (.fzd (fe ks (.int 0 0) B)):=List.getElem?_set_self lF
 cases B with
 | false =>
  refine⟨u8,g,0,?_,hK,(fun z=>nomatch z),Ge.refl⟩;show Qay F (some (.next,_,g.set F (.fzd (fe ks (.int 0 0) false))))=_;simp only [Qay,zF];have:=back (r:=[]) (a:=.fzd (fe ks (.int 0 0) false)) hF;rw [List.append_nil,List.append_nil]at this;rw [this]
 | true =>
  have hk:=hk rfl
  have nk:∀{p:Nat} {x:O},g[p]?=some x->(∀kvs,x≠.dic kvs)->F≠p:=fun e n z=>by
   subst z;rw [hF]at e;exact n _ (Option.some.inj e).symm
  generalize hz:g.set F (.fzd (fe ks (.int 0 0) true))=gz at zF ⊢;have k_:∀{p:Nat} {x:O},F≠p->g[p]?=some x->gz[p]?=some x:=fun n e=>hz▸Qn n e;have e':=k_ (nk e fun _ z=>nomatch z) e;have ec':=k_ (nk ec fun _ z=>nomatch z) ec;have hk':=k_ (nk hk fun _ z=>nomatch z) hk
  have ix:ev (tb s) (Qa (tb s) (n+3)) 88 (.ix (.fld (.var 6) 15) (.var 8)) [some (.ref nd),u1,u2,some (.ref F),u4,u5,some (.ref cs),u7,some (.str ks)] gz=some (.ref kk,gz):=by
   rw [Qcm,ZF (d:=85) rfl ec' rfl,Qh,Qt rfl,Qh,Qeb (v:=.ref kk) (k_ nFP hP) (by simp [fe,QS])]
   rfl
  have pd:=QiY (T:=tb s) (cf:=Qa (tb s) (n+3)) (d:=89) (Z:=[some (.ref nd),u1,u2,some (.ref F),u4,u5,some (.ref cs),u7,some (.str ks)]) (o:=.fld (.var 0) 10) (i:=.var 8) (e:=.meth 13 (.var 0) [.ix (.fld (.var 6) 15) (.var 8)]) ((Qar (d:=87) rfl e' rfl rfl (e_1 ix) rfl).trans (YB (n:=n+2) e' rfl hk')) (ZF (d:=87) rfl (Qo e') rfl) (Qt rfl) (Qo (k_ nFK hK)) rfl (by simp)
  have lg:gz.length=g.length:=by rw [<-hz,List.length_set]
  have lK:=(ltS hK)
  refine⟨some (.str ks),(g++[O.lst us]).set K (.dic (fe ks (.ref g.length) true)),g.length,?_,?_,fun _=>?_,(Vw.kp (Kp.app _ _)).trans (Vw.set (by simp))⟩
  ·show Qay F (match exs (tb s) (Qa (tb s) (n+3)) 91 [.put (.fld (.var 0) 10) (.var 8) (.meth 13 (.var 0) [.ix (.fld (.var 6) 15) (.var 8)])] [some (.ref nd),u1,u2,some (.ref F),u4,u5,some (.ref cs),u7,some (.str ks)] gz with
    | some (.next,ρ2,h2)=>some (.next,ρ2,h2)
    | some (.cont,ρ2,h2)=>some (.next,ρ2,h2)
    | some (.brk,ρ2,h2)=>some (.next,ρ2,h2)
    | r=>r)=_
   rw [Yh (d:=90) pd,Qs];have zz:((gz++[O.lst us]).set K (.dic (Qd1 [] (.str ks) (.ref gz.length))))[F]?=some (.fzd (fe ks (.int 0 0) true)):=Qn (Ne.symm nFK) (Qo zF);simp only [Qay,zz];rw [List.set_comm _ _ (Ne.symm nFK),<-hz,back hF,List.length_set];rfl
  ·exact List.getElem?_set_self (by rw [List.length_append];lia)
  ·rw [List.getElem?_set_ne (Nat.ne_of_lt lK)];exact at0
end
theorem Qku{l:Nat}:2<=(cX ks B l).length:=by
 cases B<;>simp [cX,cB]
section
variable {nd K o:Nat}{sps:List Sp}{r0:U}
theorem QlG(e:h[nd]?=some (nI w true R K o L r))(hR:h[R]?=some (.lst [r0]))(hK:h[K]?=some (.dic []))(hL:h[L]?=some (.lst xs))(hs:h[st]?=some (.lst us))(pr:Paired (SO s ks (Hg h)) us sps)(lu:us.length<=60)(lx:xs.length=tks sps):
  ∃g F N S C P kk cs ns,exs (tb s) (Qa (tb s) (n+3)) (97+3) b24 [some (.ref nd),some (.ref st),some (.bl false),none,none,none,none,none,none] h=exs (tb s) (Qa (tb s) (n+3)) 95 Qnv [some (.ref nd),some (.ref st),some (.bl false),some (.ref F),some (.ref N),some (.ref S),some (.ref cs),none,none] g/\Kp h g /\
   (h.length<=F/\F<cs/\h.length<=N/\N<cs/\cs<C/\C<kk/\kk<P)/\g[F]?=some (.dic (fe ks (.int 0 0) (sps.any hk)))/\(g[N]?=some (.lst ns)/\Paired (DN (Hg g)) ns (nmR 1 (nws sps)))/\g[cs]?=some (cI N S C P)/\g[C]?=some (.lst [])/\g[P]?=some (.dic (fe ks (.ref kk) (sps.any hk)))/\(sps.any hk=true->g[kk]?=some (.lst [])):=by
 have gds:∀x∈sps,Gd ks x:=fun x m=>by
  obtain⟨j,hj⟩:=List.getElem?_of_mem m;obtain⟨_,_,_,_,_,_,_,g⟩:=Jq pr hj;exact g
 have lsp:=Qf pr;have nl:=QaM gds;generalize hB:sps.any hk=B;obtain⟨g1,f1,F1,k1⟩:=QhF (s:=s) (n:=n+1) hs pr;rw [hB]at F1;have lF:=(ltS F1);obtain⟨g2,f2,k2⟩:=Qe4 (s:=s) (n:=n+1) (k1 _ _ e) (k1 _ _ hR) (k1 _ _ hL) (k1 _ _ hK) (k1 _ _ hs) (Qj (fun _ _ z=>z.mono k1) pr) lu lx F1;have K2:Kp h g2:=k1.trans k2;obtain⟨g3,f3,k3⟩:=Qkr (s:=s) (n:=n+1) (K2 _ _ hs) (Qj (fun _ _ z=>z.mono K2) pr)
 obtain⟨g4,ns,f4,k4,p4⟩:=QdJ (s:=s) (n:=n+2) (h:=g3) (r:=1) (i:=(nws sps:Int)) (Int.natCast_nonneg _) (by lia)
 rw [Int.toNat_natCast]at p4;have k5:Kp g2 (g4++[.lst ns]):=(k3.trans k4).trans (Kp.app _ _);have f5:=YB (s:=s) (n:=n+2) (k5 _ _ (K2 _ _ e)) rfl (show(g4++[O.lst ns])[g4.length]?=_ from at0);have k6:Kp g2 (g4++[.lst ns]++[.lst ns]):=k5.trans (Kp.app _ _);have N6:(g4++[O.lst ns]++[O.lst ns])[(g4++[O.lst ns]).length]?=some (.lst ns):=at0;have p6:Paired (DN (Hg (g4++[O.lst ns]++[O.lst ns]))) ns (nmR 1 (nws sps)):=DNs.mono ((Kp.app _ _).trans (Kp.app _ _)) p4;have lN:=QT (K2.trans k5);generalize (g4++[O.lst ns]).length=N at f5 N6 lN;generalize g4++[O.lst ns]++[O.lst ns]=g6 at f5 k6 N6 p6;have K6:Kp h g6:=K2.trans k6;have F6:=k6 _ _ (k2 _ _ F1);have lN6:=(ltS N6)
 have nFn:h.length≠nd:=fun z=>by
  have:=(ltS e);lia
 have nFK:h.length≠K:=fun z=>by
  have:=(ltS hK);lia
 have th:=Qf2 (T:=tb s) (cf:=Qa (tb s) (n+3)) (d:=91) (i:=3) (Z:=[some (.ref nd),some (.ref st),some (.bl false),some (.ref h.length),some (.ref N),none,none,none,none]) (el:=Qmp) (u:=.ref (g6.length+2)) (r:=[.lst [],.lst [],.tup [.str ks,.ref (g6.length+1)]]) rfl F6 (fun _=>by
  have e6:(g6.set h.length (.fzd (fe ks (.int 0 0) B)))[nd]?=some (nI w true R K o L r):=Qn nFn (K6 _ _ e);have K6':(g6.set h.length (.fzd (fe ks (.int 0 0) B)))[K]?=some (.dic []):=Qn nFK (K6 _ _ hK);have lz:(g6.set h.length (.fzd (fe ks (.int 0 0) B))).length=g6.length:=List.length_set;rw [<-lz];generalize g6.set h.length (.fzd (fe ks (.int 0 0) B))=gz at e6 K6';have a1:=(Qar (T:=tb s) (cf:=Qa (tb s) (n+3)) (d:=88) (m:=9) (i:=0) (es:=[.var 9]) (Z:=[some (.ref nd),some (.ref st),some (.bl false),some (.ref h.length),some (.ref N),none,none,none,none]++[some (.str ks)]) rfl e6 rfl rfl (e_1 (Qt rfl)) rfl).trans (QhE (n:=n+2) e6 K6');have a2:=(Qar (T:=tb s) (cf:=Qa (tb s) (n+3)) (d:=89) (m:=13) (i:=0) (Z:=[some (.ref nd),some (.ref st),some (.bl false),some (.ref h.length),some (.ref N),none,none,none,none]++[some (.str ks)]) rfl e6 rfl rfl (e_1 a1) rfl).trans (YB (n:=n+2) (Qo e6) rfl at0);rw [Qmp,QY,e_2 (Qt rfl) a2,Qh]
  simp)
 have dd:=QdA (T:=tb s) (B:=B) (ks:=ks) (v:=.ref (g6.length+1)) (q:=(g6++cB B [O.lst [],.lst [],.tup [.str ks,.ref (g6.length+1)]]).length) (p:=g6.length+2) (H:=g6++cB B [O.lst [],.lst [],.tup [.str ks,.ref (g6.length+1)]]++[.lst (cB B [U.ref (g6.length+2)])]) at0 (fun b=>Qo (by
  rw [List.getElem?_append_right (by lia),Nat.add_sub_cancel_left,b]
  rfl))
 have k7:Kp g6 (g6++cB B [O.lst [],.lst [],.tup [.str ks,.ref (g6.length+1)]]++[.lst (cB B [U.ref (g6.length+2)])]++[.dic (fe ks (.ref (g6.length+1)) B)]):=((Kp.app _ _).trans (Kp.app _ _)).trans (Kp.app _ _);have S7:(g6++cB B [O.lst [],.lst [],.tup [.str ks,.ref (g6.length+1)]]++[.lst (cB B [U.ref (g6.length+2)])]++[O.dic (fe ks (.ref (g6.length+1)) B)])[(g6++cB B [O.lst [],.lst [],.tup [.str ks,.ref (g6.length+1)]]++[O.lst (cB B [U.ref (g6.length+2)])]).length]?=some (.dic (fe ks (.ref (g6.length+1)) B)):=at0;generalize g6++cB B [O.lst [],.lst [],.tup [.str ks,.ref (g6.length+1)]]++[.lst (cB B [U.ref (g6.length+2)])]++[.dic (fe ks (.ref (g6.length+1)) B)]=g7 at dd k7 S7;have sv:=QdX (d:=94) (e_1 th) dd;generalize (g6++cB B [O.lst [],.lst [],.tup [.str ks,.ref (g6.length+1)]]++[O.lst (cB B [U.ref (g6.length+2)])]).length=S at sv S7;obtain⟨C,P,mk,rfl,rfl⟩:=Qe6 (s:=s) (n:=n+2) (N:=N) S7;have l7:=QT k7;have l6:=QT K6;have cl:=Qku (ks:=ks) (B:=B) (l:=g7.length);have k8:Kp g6 (g7++(cI N S (g7.length+1) (g7.length+1+(cX ks B g7.length).length)::(cX ks B g7.length++[.dic (fe ks (.ref (g7.length+2)) B)]))):=k7.trans (Kp.app _ _)
 have at_:∀j,(g7++(cI N S (g7.length+1) (g7.length+1+(cX ks B g7.length).length)::(cX ks B g7.length++[O.dic (fe ks (.ref (g7.length+2)) B)])))[g7.length+1+j]?=(cX ks B g7.length++[O.dic (fe ks (.ref (g7.length+2)) B)])[j]?:=fun j=>by
  rw [List.getElem?_append_right (by lia),show g7.length+1+j-g7.length=j+1 by lia,List.getElem?_cons_succ]
 refine⟨_,h.length,N,S,g7.length+1,g7.length+1+(cX ks B g7.length).length,g7.length+2,g7.length,ns,?_,K6.trans k8,⟨Nat.le_refl _,?_,lN,by lia,by lia,by lia,?_⟩,k8 _ _ F6,⟨k8 _ _ N6,DNs.mono k8 p6⟩,at0,?_,?_,fun b=>?_⟩
 ·unfold b24;refine(QV (d:=97) (ZH (d:=97) (e_1 (Qt rfl)) f1)).trans ((QfY (d:=96) ((Qar (d:=95) rfl (k1 _ _ e) rfl rfl (e_3 (Qt rfl) (Qt rfl) (Qt rfl)) rfl).trans f2)).trans ((QV (d:=95) ((Qar (d:=94) rfl (K2 _ _ e) rfl rfl (e_1 (ZH (d:=94) (e_2 (Yk (d:=93) (ZF rfl (K2 _ _ e) rfl) (K2 _ _ hR)) (ZH (d:=93) (e_1 (Qt rfl)) f3)) f4)) rfl).trans f5)).trans ((QV (d:=94) sv).trans (QV (d:=93) ?_))));rw [Qd3,e_2 (Qt rfl) (Qt rfl),Qh];exact mk
 ·have:=(ltS F6);lia
 ·lia
 ·rw [show g7.length+1=g7.length+1+0 from rfl,at_];rfl
 ·rw [at_,List.getElem?_append_right (Nat.le_refl _),Nat.sub_self];rfl
 ·rw [show g7.length+2=g7.length+1+1 from rfl,at_,b];rfl
end
section
variable {nd K o C:Nat}{sps:List Sp}{line:List Nm}{r0:Nat}{row0:List Lp}{W:Wr}
theorem Qk6(z:WH ks g ⟨r,C,o,P,if B then some kk else none⟩ W):g[P]?=some (.dic (fe ks (.ref kk) B))/\∃us,B=true->g[kk]?=some (.lst us)/\Paired (DN (Vw (Pw.M ⟨r,C,o,P,if B then some kk else none⟩) g)) us W.pt:=by
 have ds:=z.ds
 cases B with
 | false=>exact⟨ds.1,[],fun z=>nomatch z⟩
 | true =>
  obtain⟨d1,us,d2,d3⟩:=ds;exact⟨d1,us,fun _=>⟨d2,d3⟩⟩
theorem QhD(e:g[nd]?=some (nI w true R K o L r))(hr:g[r]?=some (.lst ys))(hL:g[L]?=some (.lst [])):∃g2 b L' r' xs',Qa (tb s) (n+1) 31 [.ref nd] g=some (.non,g2)/\g2[nd]?=some (nI w b R K o L' r')/\g2[L']?=some (.lst xs')/\g2[r']?=some (.lst [])/\(if b then([]:List U)++xs'.reverse else(([]:List U)++xs'.reverse).reverse)=ys/\xs'.length=ys.length/\∀p x,p≠nd->g[p]?=some x->g2[p]?=some x:=by
 have ln:=(ltS e)
 have ne:∀{p:Nat} {zs:List U},g[p]?=some (.lst zs)->nd≠p:=fun z q=>by
  subst q;rw [e]at z;cases z
 by_cases c:w=[114,111,117,110,100]
 ·refine⟨_,true,g.length,g.length+1,ys.reverse,Qe1 c e hr,List.getElem?_set_self (by simp;lia),Qn (Nat.ne_of_lt ln) (Qo at0),Qn (by lia) ?_,by simp,by simp,fun p x np z=>Qn (Ne.symm np) (Qo (Qo z))⟩
  rw [show g.length+1=(g++[O.lst ys.reverse]).length by simp]
  exact at0
 ·exact⟨_,false,r,L,ys,Qe2 c e,List.getElem?_set_self ln,Qn (ne hr) hr,Qn (ne hL) hL,by simp,rfl,fun p x np z=>Qn (Ne.symm np) z⟩
theorem Qkn(hn:Vw [L,r,o] h nd=some (nI w true R K o L r))(n1:L≠r)(n2:L≠o)(n3:r≠o)(hR:Vw [L,r,o] h R=some (.lst [.ref r0]))(hK:Vw [L,r,o] h K=some (.dic []))(ho:h[o]?=some (.lst []))(hr:h[r]?=some (.lst []))(hL:h[L]?=some (.lst xs))(hs:Vw [L,r,o] h st=some (.lst us))(pr:Paired (SO s ks (Vw [L,r,o] h)) us sps)(lu:us.length<=60)(pl:Paired (DN (Vw [L,r,o] h)) xs line.reverse)(lt:tks sps=line.length)(ll:line.length<=20)(hks:ks=[]\/∃c,ks=[c]/\119<=c/\c<123)(hrow:DRow (fun _=>True) (Vw [nd,R,K,L,r,o] h) (.ref r0) row0)(hW:(sps.foldl stp (line,W0)).2=W):
  ∃g,Qa (tb s) (n+4) 24 [.ref nd,.ref st,.bl false] h=some (.int W.gv.length 0,g)/\NS (Hg g) nd ⟨[row0,W.lp],W.gv,cB (sps.any hk) [(ks,W.pt)],W.gn⟩/\Ge (Vw [nd,R,K,L,r,o] h) (Hg g):=by
 have gds:∀x∈sps,Gd ks x:=fun x m=>by
  obtain⟨j,hj⟩:=List.getElem?_of_mem m;obtain⟨_,_,_,_,_,_,_,g⟩:=Jq pr hj;exact g
 have lsp:=Qf pr;have lxl:=Qf pl;rw [List.length_reverse]at lxl;have G0:Ge (Vw [L,r,o] h) (Hg h):=Vw.ge
 obtain⟨g7,F,N,S,C,P,kk,cs,ns,ex0,k7,⟨l1,l2,l3,l4,l5,l6,l7⟩,F7,⟨N7,pN⟩,c7,C7,P7,kk7⟩:=QlG (s:=s) (n:=n) (G0 _ _ hn) (G0 _ _ hR) (G0 _ _ hK) hL (G0 _ _ hs) (Qj (fun _ _ z=>z.mono G0) pr) lu (by lia)
 have lt_:∀{p:Nat} {x:O},h[p]?=some x->p<h.length:=fun e=>(ltS e);have a1:=lt_ hr;have a2:=lt_ ho;have a3:=lt_ hL
 have z7:WH ks g7 ⟨r,C,o,P,if sps.any hk then some kk else none⟩ W0:=Qk5 (k7 _ _ hr) (k7 _ _ ho) C7 P7 kk7 n3 (by lia) (by lia) l6 l7
 have hkq:sps.any hk=true->(if sps.any hk then some kk else none).isSome=true:=fun b=>by rw [b];rfl
 have ds7:=fun g W=>Qk6 (ks:=ks) (g:=g) (r:=r) (C:=C) (o:=o) (P:=P) (kk:=kk) (B:=sps.any hk) (W:=W)
 have mM:∀p∈Pw.M ⟨r,C,o,P,if sps.any hk then some kk else none⟩,p=r\/p=o\/cs<p:=fun p m=>by
  rcases List.mem_append.mp m with m|m
  ·simp only [List.mem_cons,List.not_mem_nil,or_false]at m;lia
  ·cases b:sps.any hk with
   | false=>rw [b]at m;simp at m
   | true=>rw [b]at m;simp at m;lia
 generalize hB:sps.any hk=B at z7 F7 P7 kk7 hkq ds7 mM ⊢;generalize hq:(⟨r,C,o,P,if B then some kk else none⟩:Pw)=q at z7 ds7 mM
 have qg:q.g=r:=by rw [<-hq]
 have ql:q.l=C:=by rw [<-hq]
 have qo:q.o=o:=by rw [<-hq]
 have qd:q.d=P:=by rw [<-hq]
 have qk:B=true->q.k.isSome=true:=by rw [<-hq];exact hkq
 have v7:Ge (Vw [L,r,o] h) (Vw (L::q.M) g7):=fun p x e=>by
  obtain⟨np,eo⟩:=Qb e;have:=lt_ eo;simp only [List.mem_cons,List.not_mem_nil,or_false,not_or]at np;refine Vw.at (fun m=>?_) (k7 _ _ eo)
  rcases List.mem_cons.mp m with m|m
  ·exact np.1 m
  ·rcases mM p m with m|m|m
   ·exact np.2.1 m
   ·exact np.2.2 m
   ·lia
 have out:∀p,h.length<=p->p<=cs->p∉L::q.M:=fun p x y m=>by
  rcases List.mem_cons.mp m with m|m
  ·lia
  ·rcases mM p m with m|m|m<;>lia
 have nL:L∉q.M:=fun m=>by
  rcases mM L m with m|m|m
  ·exact n1 m
  ·exact n2 m
  ·lia
 have L7:=k7 _ _ hL
 have T7:GeT (Hg g7) (Vw (L::q.M) g7):=fun p us e=>Vw.at (fun m=>by
  rcases List.mem_cons.mp m with m|m
  ·subst m;rw [show Hg g7 p=_ from L7]at e;cases e
  ·exact(z7.nt p m).2 us e) e
 have nv:NV (Vw (L::q.M) g7) w R K L N S (nws sps) nd cs q:=by
  refine⟨?_,?_,ns,Vw.at (out N l3 (by lia)) N7,DNs.monoT T7 pN⟩
  ·rw [qo,qg];exact v7 _ _ hn
  ·rw [ql,qd];exact Vw.at (out cs (by lia) (Nat.le_refl _)) c7
 have b3:=QaM gds
 obtain⟨u7,g8,xs8,ex1,w8,L8,p8,k8⟩:=QjC (s:=s) (n:=n) (u2:=some (.bl false)) (u3:=some (.ref F)) (u4:=some (.ref N)) (u5:=some (.ref S)) (u7:=none) (u8:=none) z7 nL nv (v7 _ _ hs) (Qj (fun _ _ z=>z.mono v7) pr) lu (fun b=>qk (by rw [<-hB];exact b)) L7 (DNs.mono (v7.trans vw_less) pl) (by lia) (by lia) (by lia)
 rw [hW]at w8
 have x0:xs8=[]:=by
  have:=Qf p8;rw [lt,List.drop_length]at this;exact List.eq_nil_of_length_eq_zero this
 subst x0;have e8:=(Qb (k8 _ _ (v7 _ _ hn))).2;have R8:=(Qb (k8 _ _ (v7 _ _ hR))).2;have K8:=(Qb (k8 _ _ (v7 _ _ hK))).2
 have c8:=(Qb (k8 _ _ (Vw.at (out cs (by lia) (Nat.le_refl _)) c7))).2
 have F8:=(Qb (k8 _ _ (Vw.at (out F l1 (by lia)) F7))).2
 obtain⟨gvs,gv1,gv2⟩:=w8.gs;obtain⟨lps,lp1,lp2⟩:=w8.ls;obtain⟨os,os1,os2⟩:=w8.os;obtain⟨P8,pts,kk8⟩:=ds7 g8 W (hq▸w8);rw [qg]at gv1;rw [ql]at lp1;rw [qo]at os1
 have nRn:R≠nd:=fun z=>by rw [z,e8]at R8;cases R8
 have nRK:R≠K:=fun z=>by rw [z,K8]at R8;cases R8
 have nRP:R≠P:=fun z=>by rw [z,P8]at R8;cases R8
 have nRF:R≠F:=fun z=>by rw [z,F8]at R8;cases R8
 have nRc:R≠cs:=fun z=>by rw [z,c8]at R8;cases R8
 have nnK:nd≠K:=fun z=>by rw [z,K8]at e8;cases e8
 have hRl:=lt_ (G0 _ _ hR);have hKl:=lt_ (G0 _ _ hK);have od:=YB (s:=s) (n:=n+2) e8 rfl lp1
 have ap:ex (tb s) (Qa (tb s) (n+3)) 93 QnW [some (.ref nd),some (.ref st),some (.bl false),some (.ref F),some (.ref N),some (.ref S),some (.ref cs),u7,none] g8=some (.next,[some (.ref nd),some (.ref st),some (.bl false),some (.ref F),some (.ref N),some (.ref S),some (.ref cs),u7,none],(g8++[O.lst lps]).set R (.lst ([.ref r0]++[.ref g8.length]))):=ZE (d:=89) (ZF (d:=89) rfl e8 rfl) R8 ((Qar (d:=89) rfl e8 rfl rfl (e_1 (ZF (d:=88) rfl c8 rfl)) rfl).trans od) (Qo R8) (by simp)
 have T9:∀{p:Nat} {x:O},R≠p->g8[p]?=some x->((g8++[O.lst lps]).set R (.lst ([.ref r0]++[.ref g8.length])))[p]?=some x:=fun n e=>Qn n (Qo e);have R9:((g8++[O.lst lps]).set R (.lst ([.ref r0]++[.ref g8.length])))[R]?=some (.lst ([.ref r0]++[.ref g8.length])):=QdY (ltS (Qo R8));have r9:((g8++[O.lst lps]).set R (.lst ([.ref r0]++[.ref g8.length])))[g8.length]?=some (.lst lps):=Qn (Nat.ne_of_lt (ltS R8)) at0;generalize (g8++[O.lst lps]).set R (.lst ([.ref r0]++[.ref g8.length]))=g9 at ap T9 R9 r9
 obtain⟨u8,g10,kq,ex3,K10,kq10,k10⟩:=QjM (s:=s) (n:=n) (u1:=some (.ref st)) (u2:=some (.bl false)) (u4:=some (.ref N)) (u5:=some (.ref S)) (u7:=u7) (u8:=none) (us:=pts) (T9 nRn e8) (T9 nRc c8) (T9 nRF F8) (T9 nRK K8) (T9 nRP P8) (fun b=>T9 (by lia) (kk8 b).1) (by lia) (by lia)
 have T10:∀{p:Nat} {x:O},p≠K->g9[p]?=some x->g10[p]?=some x:=fun n e=>(Qb (k10 _ _ (Vw.at (by simpa using n) e))).2
 have nRr:R≠r:=fun z=>by have:=(Qb hR).1;simp [z]at this
 have nRL:R≠L:=fun z=>by have:=(Qb hR).1;simp [z]at this
 have nRo:R≠o:=fun z=>by have:=(Qb hR).1;simp [z]at this
 have nKr:r≠K:=fun z=>by have:=(Qb hK).1;simp [z]at this
 have nKL:L≠K:=fun z=>by have:=(Qb hK).1;simp [z]at this
 have nKo:o≠K:=fun z=>by have:=(Qb hK).1;simp [z]at this
 have e10:=T10 nnK (T9 nRn e8);obtain⟨g11,b,L',r',xs',ex4,e11,L11,r11,ly,lly,T11⟩:=QhD (s:=s) (n:=n+2) e10 (T10 nKr (T9 nRr gv1)) (T10 nKL (T9 nRL L8));have all:∀{p:Nat} {x:O},p≠nd->p≠R->p≠K->g8[p]?=some x->g11[p]?=some x:=fun x y z e=>T11 _ _ x (T10 z (T9 (Ne.symm y) e))
 have t8:GeT (Vw q.M g8) (Hg g11):=fun p us e=>by
  have e:=(Qb e).2;refine all (fun z=>?_) (fun z=>?_) (fun z=>?_) e
  ·rw [z,e8]at e;cases e
  ·rw [z,R8]at e;cases e
  ·rw [z,K8]at e;cases e
 have rest:Ge (Vw [nd,R,K,L,r,o] h) (Hg g11):=fun p x e=>by
  obtain⟨np,eo⟩:=Qb e;simp only [List.mem_cons,List.not_mem_nil,or_false,not_or]at np;refine all np.1 np.2.1 np.2.2.1 (Qb (k8 _ _ (v7 _ _ (Vw.at ?_ eo)))).2;simp only [List.mem_cons,List.not_mem_nil,or_false,not_or];exact np.2.2.2
 have l8:=QT k7
 have lg8:h.length<g8.length:=by have:=(ltS lp1);lia
 have hnl:=lt_ (G0 _ _ hn);have lgv:=(Ym (line:=line) (W:=W0) (k:=0) gds (Nat.le_refl 0) (Nat.le_refl 0) (Nat.le_refl 0) (Nat.le_refl 0)).1;have lgn:=QcG (line:=line) (W:=W0) gds;rw [hW]at lgv lgn;have l0:W0.gn.length=0:=rfl;have pv:=Qf gv2
 refine⟨g11,?_,⟨w,b,R,K,o,L',r',[.ref r0,.ref g8.length],xs',[],fe ks (.ref kq) B,os,e11,⟨T11 _ _ nRn (T10 nRK R9),.cons (hrow.mono rest) (.cons ⟨g8.length,lps,rfl,trivial,T11 _ _ (by lia) (T10 (by lia) r9),DLs.monoT t8 lp2⟩ .nil),by simp⟩,⟨L11,r11,?_,by simp;lia⟩,⟨T11 _ _ (Ne.symm nnK) K10,?_⟩,all (fun z=>?_) (Ne.symm nRo) nKo os1,DNs.monoT t8 os2,?_⟩,rest⟩
 ·rw [Qk fnL[24] rfl rfl];show fin (exs (tb s) (Qa (tb s) (n+3)) (97+3) b24 [some (.ref nd),some (.ref st),some (.bl false),none,none,none,none,none,none] h)=_;refine(congrArg fin (ex0.trans ((Yh (d:=94) ex1).trans ((Yh (d:=93) ap).trans ((Yh (d:=92) ex3).trans (QfY (d:=89) ((Qar (d:=88) rfl e10 rfl rfl (show evs _ _ [] g10=some ([],g10)from rfl) rfl).trans ex4))))))).trans (Yi (d:=88) ?_);rw [ZC,Yk (d:=87) (ZF (d:=85) rfl e11 rfl) L11,Qh,Yk (d:=87) (ZF (d:=85) rfl e11 rfl) r11,Qh,Qda]
  rw [show(xs'.length:Int)+([]:List U).length=W.gv.length by simp;lia]
 ·rw [ly];exact DNs.monoT t8 gv2
 ·cases B with
  | false=>exact⟨false,119,kq,[],[],rfl,by lia,rfl,fun z=>nomatch z⟩
  | true =>
   obtain⟨k1,k2⟩:=kk8 rfl;obtain⟨sp,msp,hsp⟩:=List.any_eq_true.mp hB;obtain⟨x,mx,hx⟩:=List.any_eq_true.mp hsp;have ne:=((gds sp msp).2.2.2.2 x mx).2.resolve_left (of_decide_eq_true hx);obtain⟨c,rfl,hc⟩:=hks.resolve_left ne.2;refine⟨true,c,kq,pts,W.pt,rfl,hc,rfl,fun _=>⟨?_,fun z=>?_,DNs.monoT t8 (hq▸k2)⟩⟩
   ·refine T11 _ _ (fun z=>?_) (kq10 rfl);rw [z]at kq10;rw [e10]at kq10;cases kq10 rfl
   ·have:=Qf k2;rw [z,<-hW]at this;exact QcE (line:=line) (W:=W0) (.inr hB) (List.eq_nil_of_length_eq_zero this.symm)
 ·rw [z,e8]at os1;cases os1
 ·show W.gn.length<64;lia
end
noncomputable def lp0:Lp:=⟨[],0,0⟩
section

theorem QfS(hj:Z[j]?=some (some (.int m 0)))(hm:m<1000):∃us g,ev T cf (d+6) (QkU j) Z h=some (.ref g.length,g++[.lst us])/\Kp h g/\Paired (DL (Hg g)) us (List.replicate m lp0):=by
 obtain⟨vs,h2,e2,k,pr⟩:=ZT (T:=T) (cf:=cf) (d:=d+4) (lo:=0) (n:=m) (src:=.rng (.var j)) (Z:=Z) (h0:=h) (hs:=h) (D:=DL) (xs:=List.replicate m lp0) (el:=elL)
  (fun _ _ _ _ g z=>z.mono g) (Qit hm (Qt hj)) (by simp) (by lia) fun i t hi h1 k1=>by
   have:t=lp0:=(List.mem_replicate.mp (List.mem_of_getElem? hi)).2;subst this;refine⟨.ref (h1.length+1),h1++[.tup []]++[.tup [.ref h1.length,.int 0 0,.int 0 0]],?_,(Kp.app _ _).trans (Kp.app _ _),h1.length+1,h1.length,[],rfl,?_,Qo at0,.nil⟩
   ·rw [elL,QY,e_3 (show ev T cf (d+4) (.tup []) _ h1=some (.ref h1.length,h1++[.tup []])from rfl) y_c y_c,Qh];simp
   ·show(h1++[O.tup []]++[O.tup [.ref h1.length,.int 0 0,.int 0 0]])[h1.length+1]?=_
    rw [show h1.length+1=(h1++[O.tup []]).length by simp]
    exact at0
 exact⟨vs,h2,e2,k,pr⟩
end
section

noncomputable abbrev nfZ(w:List Nat):List (Nat×U):=[(2,.str w),(6,.bl true)]
noncomputable abbrev nfA(F:List (Nat×U))(R:Nat):=Zm 9 (.ref R) F
noncomputable abbrev nfB(F:List (Nat×U))(R K:Nat):=Zm 10 (.ref K) (nfA F R)
noncomputable abbrev nfC(F:List (Nat×U))(R K o:Nat):=Zm 11 (.ref o) (nfB F R K)
noncomputable abbrev nfD(F:List (Nat×U))(R K o L:Nat):=Zm 7 (.ref L) (nfC F R K o)
noncomputable abbrev nfE(F:List (Nat×U))(R K o L r:Nat):=Zm 8 (.ref r) (nfD F R K o L)
theorem Qoz(hC:(tb s).cls[c]?=some C)(hi:C.init=some f)(hc:Qa (tb s) n f (.ref h.length::(us++QaL (tb s) f (us.length+1))) (h++[.ins c []])=some (.non,h2)):Q5 (tb s) (Qa (tb s) n) c us h=some (.ref h.length,h2):=by
 simp only [Q5,hC,hi,hc]
theorem QmE(hm:m<=20):∃g R K o L r r0 us xs,Q5 (tb s) (Qa (tb s) (n+2)) 9 [.str w,.int m 0] h=some (.ref h.length,g)/\Kp h g/\g[h.length]?=some (nI w true R K o L r)/\(h.length<r0/\r0<R/\R<K/\K<o/\o<L/\L<r)/\(g[R]?=some (.lst [.ref r0])/\g[r0]?=some (.lst us)/\Paired (DL (Vw [h.length] g)) us (List.replicate m lp0))/\g[K]?=some (.dic [])/\g[o]?=some (.lst [])/\(g[L]?=some (.lst xs)/\Paired (DN (Vw [h.length] g)) xs (nmR 0 m).reverse)/\g[r]?=some (.lst []):=by
 generalize hF2:nfZ w=F2;have e2:(h++[O.ins 9 F2])[h.length]?=some (.ins 9 F2):=at0
 obtain⟨us,g1,f1,k1,p1⟩:=QfS (T:=tb s) (cf:=Qa (tb s) (n+1)) (d:=87) (j:=2) (Z:=[some (.ref h.length),some (.str w),some (.int m 0),some .non,some .non]) (m:=m) (h:=h++[.ins 9 F2]) rfl (by lia)
 have l1:=QT k1;rw [List.length_append,List.length_singleton]at l1;have e3:(g1++[O.lst us]++[O.lst [.ref g1.length]])[h.length]?=some (.ins 9 F2):=Qo (Qo (k1 _ _ e2))
 have v3:ev (tb s) (Qa (tb s) (n+1)) 94 (.lst [QkU 2]) [some (.ref h.length),some (.str w),some (.int m 0),some .non,some .non] (h++[.ins 9 F2])=some (.ref (g1.length+1),g1++[.lst us]++[.lst [.ref g1.length]]):=by
  rw [Zd,e_1 f1,Qh];simp
 have E3:=JT (f:=9) (u:=.ref (g1.length+1)) e3;have T3:∀{p:Nat} {x:O},h.length≠p->(g1++[O.lst us]++[O.lst [.ref g1.length]])[p]?=some x->((g1++[O.lst us]++[O.lst [.ref g1.length]]).set h.length (.ins 9 (nfA F2 (g1.length+1))))[p]?=some x:=fun n e=>Qn n e
 have a0:=T3 (p:=g1.length) (by lia) (Qo at0)
 have a1:=T3 (p:=g1.length+1) (x:=.lst [.ref g1.length]) (by lia) (by rw [show g1.length+1=(g1++[O.lst us]).length by simp];exact at0)
 have lG3:((g1++[O.lst us]++[O.lst [.ref g1.length]]).set h.length (.ins 9 (nfA F2 (g1.length+1)))).length=g1.length+2:=by simp
 have K3:Ge (Vw [h.length] (h++[.ins 9 F2])) (Vw [h.length] ((g1++[O.lst us]++[O.lst [.ref g1.length]]).set h.length (.ins 9 (nfA F2 (g1.length+1))))):=(Vw.kp ((k1.trans (Kp.app _ _)).trans (Kp.app _ _))).trans (Vw.set (by simp))
 have t1:GeT (Hg g1) (Vw [h.length] g1):=fun p us e=>Vw.at (fun z=>by
  obtain rfl:p=h.length:=by simpa using z
  rw [show Hg g1 h.length=_ from k1 _ _ e2]at e
  cases e) e
 have q1:Paired (DL (Vw [h.length] ((g1++[O.lst us]++[O.lst [.ref g1.length]]).set h.length (.ins 9 (nfA F2 (g1.length+1)))))) us (List.replicate m lp0):=DLs.mono ((Vw.kp ((Kp.app _ _).trans (Kp.app _ _))).trans (Vw.set (by simp))) (DLs.monoT t1 p1)
 generalize hG3:(g1++[O.lst us]++[O.lst [.ref g1.length]]).set h.length (.ins 9 (nfA F2 (g1.length+1)))=G3 at E3 a0 a1 lG3 K3 q1;have e4:(G3++[O.dic []])[h.length]?=_:=Qo E3;have E4:=JT (f:=10) (u:=.ref G3.length) e4
 have b2:((G3++[O.dic []]).set h.length (.ins 9 (nfB F2 (g1.length+1) G3.length)))[G3.length]?=some (.dic []):=Qn (by lia) at0
 have K4:Ge (Vw [h.length] G3) (Vw [h.length] ((G3++[O.dic []]).set h.length (.ins 9 (nfB F2 (g1.length+1) G3.length)))):=(Vw.kp (Kp.app _ _)).trans (Vw.set (by simp))
 have lG4:((G3++[O.dic []]).set h.length (.ins 9 (nfB F2 (g1.length+1) G3.length))).length=G3.length+1:=by simp
 generalize hG4:(G3++[O.dic []]).set h.length (.ins 9 (nfB F2 (g1.length+1) G3.length))=G4 at E4 b2 K4 lG4;have e5:(G4++[O.lst []])[h.length]?=_:=Qo E4;have E5:=JT (f:=11) (u:=.ref G4.length) e5
 have c2:((G4++[O.lst []]).set h.length (.ins 9 (nfC F2 (g1.length+1) G3.length G4.length)))[G4.length]?=some (.lst []):=Qn (by lia) at0
 have K5:Ge (Vw [h.length] G4) (Vw [h.length] ((G4++[O.lst []]).set h.length (.ins 9 (nfC F2 (g1.length+1) G3.length G4.length)))):=(Vw.kp (Kp.app _ _)).trans (Vw.set (by simp))
 have lG5:((G4++[O.lst []]).set h.length (.ins 9 (nfC F2 (g1.length+1) G3.length G4.length))).length=G4.length+1:=by simp
 generalize hG5:(G4++[O.lst []]).set h.length (.ins 9 (nfC F2 (g1.length+1) G3.length G4.length))=G5 at E5 c2 K5 lG5
 have a1':=(Qb (K5 _ _ (K4 _ _ (Vw.at (by simp;lia) a1)))).2
 have a0':=(Qb (K5 _ _ (K4 _ _ (Vw.at (by simp;lia) a0)))).2
 have lus:=Qf q1;rw [List.length_replicate]at lus
 obtain⟨g6,xs,f6,k6,p6⟩:=QdJ (s:=s) (n:=n) (h:=G5) (r:=0) (i:=(us.length:Int)) (Int.natCast_nonneg _) (by lia)
 rw [Int.toNat_natCast,lus]at p6;subst hF2;have fl:∀d,ev (tb s) (Qa (tb s) (n+1)) (d+2) (.fld (.var 0) 9) [some (.ref h.length),some (.str w),some (.int m 0),some .non,some .non] G5=some (.ref (g1.length+1),G5):=fun d=>ZF rfl E5 rfl
 have v6:ev (tb s) (Qa (tb s) (n+1)) 95 (.rev (.call 33 [.op .Sub (.bi .len [.fld (.var 0) 9]) (.c (.int 1 0)),.bi .len [.ix (.fld (.var 0) 9) (.neg (.c (.int 1 0)))]])) [some (.ref h.length),some (.str w),some (.int m 0),some .non,some .non] G5=some (.ref (g6.length+1),g6++[.lst xs]++[.lst xs.reverse]):=by
  have s1:ev (tb s) (Qa (tb s) (n+1)) 93 (.op .Sub (.bi .len [.fld (.var 0) 9]) (.c (.int 1 0))) [some (.ref h.length),some (.str w),some (.int m 0),some .non,some .non] G5=some (.int 0 0,G5):=by
   rw [ZC,Yk (d:=91) (fl 89) a1',Qh,y_c,Qh,Jt];rfl
  have s2:ev (tb s) (Qa (tb s) (n+1)) 93 (.bi .len [.ix (.fld (.var 0) 9) (.neg (.c (.int 1 0)))]) [some (.ref h.length),some (.str w),some (.int m 0),some .non,some .non] G5=some (.int us.length 0,G5):=by
   refine Yk (d:=92) (p:=g1.length) ?_ a0';refine Qcs (i:=-1) (fl 89) ?_ ?_
   ·rw [Yg,y_c,Qh]
   ·simp only [Q9,a1'];rfl
  rw [QkF,ZH (d:=93) (e_2 s1 s2) f6,Qh];simp [QU]
 have K6:Kp G5 (g6++[.lst xs]++[.lst xs.reverse]):=(k6.trans (Kp.app _ _)).trans (Kp.app _ _);have l6:=QT k6;have E6:=JT (f:=7) (u:=.ref (g6.length+1)) (K6 _ _ E5)
 have t6:GeT (Hg g6) (Vw [h.length] g6):=fun p us e=>Vw.at (fun z=>by
  obtain rfl:p=h.length:=by simpa using z
  rw [show Hg g6 h.length=_ from k6 _ _ E5]at e
  cases e) e
 have K6':Ge (Vw [h.length] g6) (Vw [h.length] ((g6++[O.lst xs]++[O.lst xs.reverse]).set h.length (.ins 9 (nfD (nfZ w) (g1.length+1) G3.length G4.length (g6.length+1))))):=(Vw.kp ((Kp.app _ _).trans (Kp.app _ _))).trans (Vw.set (by simp))
 have d6:((g6++[O.lst xs]++[O.lst xs.reverse]).set h.length (.ins 9 (nfD (nfZ w) (g1.length+1) G3.length G4.length (g6.length+1))))[g6.length+1]?=some (.lst xs.reverse):=Qn (by lia) (by rw [show g6.length+1=(g6++[O.lst xs]).length by simp];exact at0)
 have q6:=DNs.mono K6' (DNs.monoT t6 (Jp p6))
 have lG6:((g6++[O.lst xs]++[O.lst xs.reverse]).set h.length (.ins 9 (nfD (nfZ w) (g1.length+1) G3.length G4.length (g6.length+1)))).length=g6.length+2:=by simp
 generalize hG6:(g6++[O.lst xs]++[O.lst xs.reverse]).set h.length (.ins 9 (nfD (nfZ w) (g1.length+1) G3.length G4.length (g6.length+1)))=G6 at E6 K6' d6 q6 lG6
 have K67:Ge (Vw [h.length] G6) (Vw [h.length] ((G6++[O.lst []]).set h.length (.ins 9 (nfE (nfZ w) (g1.length+1) G3.length G4.length (g6.length+1) G6.length)))):=(Vw.kp (Kp.app _ _)).trans (Vw.set (by simp))
 have E7:=JT (f:=8) (u:=.ref G6.length) (show(G6++[O.lst []])[h.length]?=_ from Qo E6)
 have c7:((G6++[O.lst []]).set h.length (.ins 9 (nfE (nfZ w) (g1.length+1) G3.length G4.length (g6.length+1) G6.length)))[G6.length]?=some (.lst []):=Qn (by lia) at0
 have KA:Ge (Vw [h.length] G5) (Vw [h.length] ((G6++[O.lst []]).set h.length (.ins 9 (nfE (nfZ w) (g1.length+1) G3.length G4.length (g6.length+1) G6.length)))):=(Vw.kp k6).trans (K6'.trans K67);have KB:=K5.trans KA;have KC:=K4.trans KB;have KD:=K3.trans KC
 have at_:∀{G:Hs} {p:Nat} {x:O},Ge (Vw [h.length] G) (Vw [h.length] ((G6++[O.lst []]).set h.length (.ins 9 (nfE (nfZ w) (g1.length+1) G3.length G4.length (g6.length+1) G6.length))))->p≠h.length->G[p]?=some x->_:=fun k n e=>(Qb (k _ _ (Vw.at (by simpa using n) e))).2
 refine⟨_,g1.length+1,G3.length,G4.length,g6.length+1,G6.length,g1.length,us,xs.reverse,?_,fun p x e=>?_,E7,⟨by lia,by lia,by lia,by lia,by lia,by lia⟩,⟨at_ KC (by lia) a1,at_ KC (by lia) a0,DLs.mono KC q1⟩,at_ KB (by lia) b2,at_ KA (by lia) c2,⟨at_ K67 (by lia) d6,DNs.mono K67 q6⟩,c7⟩
 ·have ini:Qa (tb s) (n+2) 23 [.ref h.length,.str w,.int m 0,.non,.non] (h++[.ins 9 []])=some (.non,(G6++[O.lst []]).set h.length (.ins 9 (nfE (nfZ w) (g1.length+1) G3.length G4.length (g6.length+1) G6.length))):=by
   rw [Qk fnL[23] rfl rfl];show fin (exs (tb s) (Qa (tb s) (n+1)) (97+3) b23 [some (.ref h.length),some (.str w),some (.int m 0),some .non,some .non] (h++[.ins 9 []]))=_;unfold b23
   rw [Zw (d:=97) (Qt rfl) rfl at0 (by simp),JS,Zw (d:=96) y_c rfl at0 (by simp [Zm]),JS]
   have z:Zm 6 (U.bl true) (Zm 2 (.str w) [])=nfZ w:=rfl;rw [z]
   have t:evT (tb s) (Qa (tb s) (n+1)) 96 (.cmp .Is (.var 3) (.c .non)) [some (.ref h.length),some (.str w),some (.int m 0),some .non,some .non] (h++[.ins 9 (nfZ w)])=some (true,h++[.ins 9 (nfZ w)]):=by
    rw [Qr,QG,Qt rfl,Qh,y_c,Qh];rfl
   have st1:exs (tb s) (Qa (tb s) (n+1)) 96 Qn6 [some (.ref h.length),some (.str w),some (.int m 0),some .non,some .non] (h++[.ins 9 (nfZ w)])=some (.next,[some (.ref h.length),some (.str w),some (.int m 0),some .non,some .non],G5):=by
    refine(Zw (d:=93) v3 rfl e3 (by simp)).trans ?_
    rw [hG3]
    refine(Zw (d:=92) Qa3 rfl e4 (by simp [Zm])).trans ?_
    rw [hG4]
    refine(Zw (d:=91) ZG rfl e5 (by simp [Zm])).trans ?_
    rw [hG5];exact Qs
   refine(congrArg fin (Qa5 (d:=95) t st1)).trans ?_
   refine(congrArg fin (Zw (d:=94) v6 rfl (K6 _ _ E5) (by simp [Zm]))).trans ?_
   rw [hG6]
   exact congrArg fin ((Zw (d:=93) ZG rfl (Qo E6) (by simp [Zm])).trans Qs)
  exact Qoz rfl rfl ini
 ·have:=(ltS (show h[p]?=some x from e))
  exact at_ KD (by lia) (Qo e)
end
structure Nu(h:Hs)(w:List Nat)(nd R K o L r r0 m:Nat):Prop where
 e:h[nd]?=some (nI w true R K o L r)
 l:nd<r0/\r0<R/\R<K/\K<o/\o<L/\L<r
 R:h[R]?=some (.lst [.ref r0])
 us:∃us,h[r0]?=some (.lst us)/\Paired (DL (Hg h)) us (List.replicate m lp0)
 K:h[K]?=some (.dic [])
 o:h[o]?=some (.lst [])
 L:∃xs,h[L]?=some (.lst xs)/\Paired (DN (Hg h)) xs (nmR 0 m).reverse
 r:h[r]?=some (.lst [])
section
variable {nd K o r0:Nat}
theorem Nu.kp(z:Nu h w nd R K o L r r0 m)(k:Kp h g):Nu g w nd R K o L r r0 m:=by
 obtain⟨e,l,R,⟨us,u1,u2⟩,K,o,⟨xs,x1,x2⟩,r⟩:=z;exact⟨k _ _ e,l,k _ _ R,⟨us,k _ _ u1,DLs.mono k u2⟩,k _ _ K,k _ _ o,⟨xs,k _ _ x1,DNs.mono k x2⟩,k _ _ r⟩
noncomputable def D0(m:Nat):Wd:=⟨[List.replicate m lp0],nmR 0 m,[],[]⟩
theorem Ys{r:Int}{m:Nat}:(nmR r m).length=m:=by simp [nmR]
theorem Nu.ns(z:Nu h w nd R K o L r r0 m)(hm:m<=20):NS (Hg h) nd (D0 m):=by
 obtain⟨e,l,R1,⟨us,u1,u2⟩,K1,o1,⟨xs,x1,x2⟩,r1⟩:=z;have lx:=Qf x2;rw [List.length_reverse,Ys]at lx
 refine⟨w,true,R,K,o,L,r,[.ref r0],xs,[],[],[],e,⟨R1,.cons ⟨r0,us,rfl,trivial,u1,u2⟩ .nil,by simp⟩,⟨x1,r1,?_,by simp;lia⟩,⟨K1,false,119,0,[],[],rfl,by lia,rfl,fun z=>nomatch z⟩,o1,.nil,Nat.zero_lt_succ _⟩
 have:=Jp x2;rw [List.reverse_reverse]at this;exact this
def St2(r:Nat)(h g:Hs):Prop:=(∀p x,r<p->h[p]?=some x->g[p]?=some x)/\GeT (Hg h) (Hg g)
theorem QhA{sps:List Sp}{W:Wr}(z:Nu h w nd R K o L r r0 m)(hm:m<=20)(hst:r<st)(hs:h[st]?=some (.lst us))(pr:Paired (SO s ks (Hg h)) us sps)(lu:us.length<=60)(lt:tks sps=m)(hks:ks=[]\/∃c,ks=[c]/\119<=c/\c<123)(hW:(sps.foldl stp (nmR 0 m,W0)).2=W):
  ∃g,Qa (tb s) (n+4) 24 [.ref nd,.ref st,.bl false] h=some (.int W.gv.length 0,g)/\NS (Hg g) nd ⟨[List.replicate m lp0,W.lp],W.gv,cB (sps.any hk) [(ks,W.pt)],W.gn⟩/\St2 r h g:=by
 obtain⟨e,l,R1,⟨vs,u1,u2⟩,K1,o1,⟨xs,x1,x2⟩,r1⟩:=z;have nt:∀{M:List Nat},(∀p∈M,∀zs,h[p]?≠some (.tup zs))->GeT (Hg h) (Vw M h):=fun n p us e=>Vw.at (fun m=>n p m us e) e
 have t3:∀p∈[L,r,o],∃zs,h[p]?=some (.lst zs):=fun p m=>by
  simp only [List.mem_cons,List.not_mem_nil,or_false]at m
  rcases m with rfl|rfl|rfl
  ·exact⟨_,x1⟩
  ·exact⟨_,r1⟩
  ·exact⟨_,o1⟩
 have n3:∀p∈[L,r,o],∀zs,h[p]?≠some (.tup zs):=fun p m zs e=>by
  obtain⟨ys,y⟩:=t3 p m;rw [y]at e;cases e
 have n6:∀p∈[nd,R,K,L,r,o],∀zs,h[p]?≠some (.tup zs):=fun p m zs y=>by
  rcases List.mem_cons.mp m with rfl|m
  ·rw [e]at y;cases y
  ·rcases List.mem_cons.mp m with rfl|m
   ·rw [R1]at y;cases y
   ·rcases List.mem_cons.mp m with rfl|m
    ·rw [K1]at y;cases y
    ·exact n3 p m zs y
 have v:∀{p:Nat} {x:O},(p<o\/r<p)->h[p]?=some x->Vw [L,r,o] h p=some x:=fun q e=>Vw.at (by simp only [List.mem_cons,List.not_mem_nil,or_false];lia) e
 obtain⟨g,f,ns,k⟩:=Qkn (s:=s) (n:=n) (line:=nmR 0 m) (row0:=List.replicate m lp0) (v (by lia) e) (by lia) (by lia) (by lia) (v (by lia) R1) (v (by lia) K1) o1 r1 x1 (v (.inr hst) hs) (Qj (fun _ _ z=>by
  obtain⟨q,o',e0,e1,st,gd⟩:=z;refine⟨q,o',e0,Vw.at (fun m=>?_) e1,st,gd⟩;obtain⟨zs,y⟩:=t3 q m;obtain⟨c,fs,_,_,_,_,rfl,_⟩:=st;rw [show Hg h q=_ from y]at e1
  cases e1) pr) lu (DNs.monoT (nt n3) x2) (by rw [lt,Ys]) (by rw [Ys];exact hm) hks ⟨r0,vs,rfl,trivial,Vw.at (by simp only [List.mem_cons,List.not_mem_nil,or_false];lia) u1,DLs.monoT (nt n6) u2⟩ hW
 refine⟨g,f,ns,fun p x q y=>k _ _ (Vw.at (by simp only [List.mem_cons,List.not_mem_nil,or_false];lia) y),fun p us y=>k _ _ (nt n6 p us y)⟩
end
section
variable {h1:Hs}{a b:E}{x:U}
theorem Qd7(ea:ev T cf d a Z h=some (u,h1))(eb:ev T cf d b Z h1=some (v,h2))(hs:Q9 T u v h2=some x):ev T cf (d+1) (.ix a b) Z h=some (x,h2):=by
 rw [Qcm,ea,Qh,eb,Qh,hs];rfl
theorem QhU{o:Operator}{r:Option (U×Hs)}(ea:ev T cf d a Z h=some (u,h1))(eb:ev T cf d b Z h1=some (v,h2))(ho:opU o u v h2=r):ev T cf (d+1) (.op o a b) Z h=r:=by
 rw [ZC,ea,Qh,eb,Qh,ho]
theorem Qa7(ha:evs (ev T cf d) Z es h=some ([u,v],h2))(hc:cf 40 [u,v] h2=some (.bl true,h2)):evT T cf (d+3) (.not (.call 40 es)) Z h=some (false,h2):=by
 rw [Qa4,Qco,ZH ha hc,Qh];rfl
theorem Qks(hj:Z[1]?=some (some (.int m 0)))(rl:Z.length=17)(hm:m<1000):∃us g,ev T cf (d+6) (.comp (.rng (.var 1)) false none (.tup [.c (.int 0 0),.var 17])) Z h=some (.ref g.length,g++[.lst us])/\Kp h g/\Paired (DN (Hg g)) us (nmR 0 m):=by
 obtain⟨vs,h2,e2,k,pr⟩:=ZT (T:=T) (cf:=cf) (d:=d+4) (lo:=0) (n:=m) (src:=.rng (.var 1)) (Z:=Z) (h0:=h) (hs:=h) (D:=DN) (xs:=nmR 0 m) (el:=.tup [.c (.int 0 0),.var 17])
  (fun _ _ _ _ g z=>z.mono g) (Qit hm (Qt hj)) Ys (by lia) fun k t hi h1 k1=>by
   simp only [nmR,List.getElem?_map,Option.map_eq_some_iff]at hi;obtain⟨j,hj,rfl⟩:=hi;obtain⟨l,rfl⟩:=List.getElem?_eq_some_iff.mp hj
   refine⟨.ref h1.length,h1++[.tup [.int 0 0,.int (0+(k:Int)) 0]],?_,Kp.app _ _,h1.length,rfl,by simp [Hg]⟩
   rw [QY,e_2 y_c (Qt (by rw [List.getElem?_append_right (Nat.le_of_eq rl),rl,Nat.sub_self];rfl)),Qh]
 exact⟨vs,h2,e2,k,pr⟩
theorem Qfh{ct ln:Nat}{cts lns:List U}(r4:Z[4]?=some (some (.ref ct)))(r3:Z[3]?=some (some (.ref ln)))(c1:h[ct]?=some (.lst cts))(c2:Paired (DL (Hg h)) cts (List.replicate m lp0))(n1:h[ln]?=some (.lst lns))(n2:Paired (DN (Hg h)) lns (nmR 0 m)):∃p g,ev T cf (d+3) (.tup [.lst [.var 4],.var 3,.lst [],.lst []]) Z h=some (.ref p,g)/\Kp h g/\DWeb (fun _=>True) (Hg g) (.ref p) (D0 m):=by
 have lc:=(ltS c1);have ll:=(ltS n1);have K:Kp h (h++[.lst [.ref ct]]++[.lst []]++[.lst []]++[.tup [.ref h.length,.ref ln,.ref (h.length+1),.ref (h.length+2)]]):=(((Kp.app _ _).trans (Kp.app _ _)).trans (Kp.app _ _)).trans (Kp.app _ _)
 refine⟨h.length+3,h++[.lst [.ref ct]]++[.lst []]++[.lst []]++[.tup [.ref h.length,.ref ln,.ref (h.length+1),.ref (h.length+2)]],?_,K,_,h.length,ln,h.length+1,h.length+2,[.ref ct],lns,[],[],rfl,?_,⟨trivial,trivial,trivial,trivial,by lia,by lia,by lia⟩,⟨?_,.cons ⟨ct,cts,rfl,⟨trivial,by lia⟩,K _ _ c1,DLs.mono K c2⟩ .nil⟩,⟨K _ _ n1,DNs.mono K n2⟩,⟨?_,.nil⟩,?_,.nil⟩
 ·rw [QY,e_4 (show ev T cf (d+2) (.lst [.var 4]) Z h=some (.ref h.length,h++[.lst [.ref ct]]) by rw [Zd,e_1 (Qt r4),Qh]) (Qt r3) ZG ZG,Qh]
  simp
 all_goals simp [Hg]
theorem Qml(hm:m<=20):Fit (D0 m):=by
 refine⟨by simp [D0],fun r mr=>?_,by simp [D0,nmR];lia,by simp [D0],fun x mx=>by simp [D0]at mx,by simp [D0]⟩
 simp only [D0,List.mem_singleton]at mr;subst mr
 refine⟨by simp;lia,fun a ma=>?_⟩
 rw [(List.mem_replicate.mp ma).2];simp [lp0]
end
theorem Qhy{β:Type}{f:α->β}{xs:List α}{a b:Option Int}:Qah (xs.map f) a b=(Qah xs a b).map f:=by
 unfold Qah;rw [List.length_map,List.map_take,List.map_drop]
theorem Qke{xs:List α}:(Qah xs (some 2) (some 34)).length<=32:=by
 unfold Qah;rw [List.length_take,List.length_drop]
 simp only [Qcc,show ¬(2:Int) < 0 by decide,show ¬(34:Int) < 0 by decide,if_false,show Int.toNat 2=2 from rfl,show Int.toNat 34=34 from rfl]
 lia
noncomputable def scs(ns:List Int):List U:=ns.map fun i=>U.int i 0
section
variable {ns:List Int}
theorem Qa8{k:Nat}(r0:Z[0]?=some (some .scr))(hk:k<=63):∃x:Int,ev (tb (scs ns)) (Qa (tb (scs ns)) (n+1)) (d+2) (.call 36 [.var 0,.c (.int k 0)]) Z h=some (.int x 0,h):=by
 obtain⟨x,e⟩:=Qkt (ns:=ns) (n:=n) (h:=h) hk;exact⟨x,ZH (d:=d+1) (e_2 (Qt r0) y_c) e⟩
theorem at4{i:Int}(h0:0<=i)(h1:i<4):∃c,atU [119,120,121,122] i=some c/\119<=c/\c<123:=by
 rcases (show i=0\/i=1\/i=2\/i=3 by lia)with rfl|rfl|rfl|rfl
 ·exact⟨119,rfl,by lia⟩
 ·exact⟨120,rfl,by lia⟩
 ·exact⟨121,rfl,by lia⟩
 ·exact⟨122,rfl,by lia⟩
theorem Qn4(r0:Z[0]?=some (some .scr)):∃ks g,ev (tb (scs ns)) (Qa (tb (scs ns)) (n+1)) (d+8) kE Z h=some (.str ks,g)/\Kp h g/\(ks=[]\/∃c,ks=[c]/\119<=c/\c<123):=by
 obtain⟨x,e1⟩:=Qa8 (ns:=ns) (n:=n) (d:=d+1) (Z:=Z) (h:=h) (k:=1) r0 (by lia)
 obtain⟨c,c1,c2⟩:=at4 (i:=x / 4 % 4) (by lia) (by lia)
 have i1:ev (tb (scs ns)) (Qa (tb (scs ns)) (n+1)) (d+6) (.ix (.c (.str [119,120,121,122])) (.op .Mod (.op .FloorDiv (.call 36 [.var 0,.c (.int 1 0)]) (.c (.int 4 0))) (.c (.int 4 0)))) Z h=some (.str [c],h):=Qd7 y_c (QhU (QhU e1 y_c d4) y_c m4) (Qlw (show 4<=1000000 by decide) c1)
 have l1:ev (tb (scs ns)) (Qa (tb (scs ns)) (n+1)) (d+7) (.lst [.c (.str []),.ix (.c (.str [119,120,121,122])) (.op .Mod (.op .FloorDiv (.call 36 [.var 0,.c (.int 1 0)]) (.c (.int 4 0))) (.c (.int 4 0)))]) Z h=some (.ref h.length,h++[.lst [.str [],.str [c]]]):=by
  rw [Zd,e_2 y_c i1,Qh]
 obtain⟨y,e2⟩:=Qa8 (ns:=ns) (n:=n) (d:=d+3) (Z:=Z) (h:=h++[.lst [.str [],.str [c]]]) (k:=1) r0 (by lia)
 have a2:=at2 (a:=U.str []) (b:=U.str [c]) (i:=y / 2 % 2) (by lia) (by lia)
 have sb:Q9 (tb (scs ns)) (.ref h.length) (.int (y / 2 % 2) 0) (h++[.lst [.str [],.str [c]]])=some (.str (if y / 2 % 2=0 then []else [c])):=by
  simp only [Q9,at0,a2];split<;>rfl
 refine⟨_,_,Qd7 l1 (QhU (QhU e2 y_c d2) y_c m2) sb,Kp.app _ _,?_⟩;split
 ·exact .inl rfl
 ·exact .inr ⟨c,rfl,c2⟩
noncomputable def r41(u1 u2 u3 u4 u5 u6 u7 u8:Option U):Rho:=[some .scr,u1,u2,u3,u4,u5,u6,u7,u8,none,none,none,none,none,none,none,none]
noncomputable abbrev rL(m:Nat)(g3 g4:Hs):=r41 (some (.int m 0)) (some (.ref 1)) (some (.ref g3.length)) (some (.ref g4.length))
theorem QoA:∃(hA:Hs) (m nd R K o L r r0 ln ct rp hd:Nat) (w ks:List Nat) (fi:U) (lns cts us:List U) (sps:List Sp),exs (tb (scs ns)) (Qa (tb (scs ns)) 8) (97+3) b41 (r41 none none none none none none none none) []=exs (tb (scs ns)) (Qa (tb (scs ns)) 8) 91 Qly (r41 (some (.int m 0)) (some (.ref nd)) (some (.ref ln)) (some (.ref ct)) (some fi) (some (.str ks)) (some (.ref rp)) (some (.ref hd))) hA /\
  m<=20/\(ks=[]\/∃c,ks=[c]/\119<=c/\c<123)/\Nu hA w nd R K o L r r0 m/\(r<ln/\hA[ln]?=some (.lst lns)/\Paired (DN (Hg hA)) lns (nmR 0 m))/\(r<ct/\hA[ct]?=some (.lst cts)/\Paired (DL (Hg hA)) cts (List.replicate m lp0))/\DWeb (r < ·) (Hg hA) fi (D0 m)/\(r<rp/\hA[rp]?=some (.lst us))/\(r<hd/\hA[hd]?=some (.lst us))/\Paired (SO (scs ns) ks (Hg hA)) us sps/\tks sps=m/\us.length<=60:=by
 obtain⟨x0,e0⟩:=Qa8 (ns:=ns) (n:=7) (d:=95) (Z:=r41 none none none none none none none none) (h:=[]) (k:=0) rfl (by lia)
 obtain⟨m,hm,m20⟩:∃m:Nat,x0 % 21=(m:Int)/\m<=20:=⟨(x0 % 21).toNat,by lia,by lia⟩
 have s1:=QhU (T:=tb (scs ns)) (cf:=Qa (tb (scs ns)) 8) (d:=97) (o:=.Mod) e0 y_c (Qc9 (j:=21) (by decide))
 rw [hm]at s1
 obtain⟨x1,e1⟩:=Qa8 (ns:=ns) (n:=7) (d:=92) (Z:=r41 (some (.int m 0)) none none none none none none none) (h:=[.lst [.str [102,108,97,116],.str [114,111,117,110,100]]]) (k:=1) rfl (by lia)
 obtain⟨w,sw⟩:∃w,Q9 (tb (scs ns)) (.ref 0) (.int (x1 % 2) 0) [.lst [.str [102,108,97,116],.str [114,111,117,110,100]]]=some (.str w):=by
  have a:=at2 (a:=U.str [102,108,97,116]) (b:=U.str [114,111,117,110,100]) (i:=x1 % 2) (by lia) (by lia)
  refine⟨if x1 % 2=0 then [102,108,97,116]else [114,111,117,110,100],?_⟩;show atU [U.str [102,108,97,116],.str [114,111,117,110,100]] (x1 % 2)=_;rw [a];split<;>rfl
 have i1:ev (tb (scs ns)) (Qa (tb (scs ns)) 8) 96 (.ix (.lst [.c (.str [102,108,97,116]),.c (.str [114,111,117,110,100])]) (.op .Mod (.call 36 [.var 0,.c (.int 1 0)]) (.c (.int 2 0)))) (r41 (some (.int m 0)) none none none none none none none) []=some (.str w,[.lst [.str [102,108,97,116],.str [114,111,117,110,100]]]):=Qd7 (d:=95) (show ev _ _ 95 (.lst [.c (.str [102,108,97,116]),.c (.str [114,111,117,110,100])]) _ []=some (.ref 0,[.lst [.str [102,108,97,116],.str [114,111,117,110,100]]]) by rw [Zd,e_2 y_c y_c,Qh];rfl) (QhU e1 y_c m2) sw
 obtain⟨g2,R,K,o,L,r,r0,us0,xs0,mk,k2,n1,n2,⟨n3,n4,n5⟩,n6,n7,⟨n8,n9⟩,n10⟩:=QmE (s:=scs ns) (n:=6) (w:=w) (h:=[.lst [.str [102,108,97,116],.str [114,111,117,110,100]]]) m20;have z2:Nu g2 w 1 R K o L r r0 m:=⟨n1,n2,n3,⟨us0,n4,DLs.mono Vw.ge n5⟩,n6,n7,⟨xs0,n8,DNs.mono Vw.ge n9⟩,n10⟩;have lr:=(ltS n10)
 have s2:ev (tb (scs ns)) (Qa (tb (scs ns)) 8) 97 (.make 9 [.ix (.lst [.c (.str [102,108,97,116]),.c (.str [114,111,117,110,100])]) (.op .Mod (.call 36 [.var 0,.c (.int 1 0)]) (.c (.int 2 0))),.var 1]) (r41 (some (.int m 0)) none none none none none none none) []=some (.ref 1,g2):=by
  rw [Qd3,e_2 i1 (Qt rfl),Qh];exact mk
 obtain⟨lns,g3,s3,k3,p3⟩:=Qks (T:=tb (scs ns)) (cf:=Qa (tb (scs ns)) 8) (d:=90) (m:=m) (Z:=r41 (some (.int m 0)) (some (.ref 1)) none none none none none none) (h:=g2) rfl rfl (by lia)
 obtain⟨cts,g4,s4,k4,p4⟩:=QfS (T:=tb (scs ns)) (cf:=Qa (tb (scs ns)) 8) (d:=89) (j:=1) (m:=m) (Z:=r41 (some (.int m 0)) (some (.ref 1)) (some (.ref g3.length)) none none none none none) (h:=g3++[.lst lns]) rfl (by lia)
 have K4:Kp g2 (g4++[.lst cts]):=((k3.trans (Kp.app _ _)).trans k4).trans (Kp.app _ _);have l3:=QT k3;have l4:=QT k4;rw [List.length_append,List.length_singleton]at l4;have K34:Kp (g3++[.lst lns]) (g4++[.lst cts]):=k4.trans (Kp.app _ _);have a3:(g4++[O.lst cts])[g3.length]?=some (.lst lns):=K34 _ _ (show(g3++[O.lst lns])[g3.length]?=_ from at0);have a4:(g4++[O.lst cts])[g4.length]?=some (.lst cts):=at0;have q3:=DNs.mono ((Kp.app _ _).trans K34) p3;have q4:=DLs.mono (Kp.app g4 [O.lst cts]) p4
 have lg5:(g4++[O.lst cts]).length=g4.length+1:=by simp
 generalize g4++[O.lst cts]=g5 at s4 K4 a3 a4 q3 q4 lg5;obtain⟨fi,g6,f6,k6,w6⟩:=QhC (s:=scs ns) (n:=6) (h:=g5) ((z2.kp K4).ns m20);have s5:=(Qar (T:=tb (scs ns)) (cf:=Qa (tb (scs ns)) 8) (d:=92) (m:=8) (i:=2) (es:=[]) (Z:=rL m g3 g4 none none none none) rfl ((z2.kp K4).e) rfl rfl rfl rfl).trans f6;obtain⟨p7,g7,f7,k7,w7⟩:=Qfh (T:=tb (scs ns)) (cf:=Qa (tb (scs ns)) 8) (d:=87) (Z:=rL m g3 g4 (some fi) none none none) rfl rfl (k6 _ _ a4) (DLs.mono k6 q4) (k6 _ _ a3) (DNs.mono k6 q3);have s6:evT (tb (scs ns)) (Qa (tb (scs ns)) 8) 93 (.not ck0) (rL m g3 g4 (some fi) none none none) g6=some (false,g7):=Qa7 (d:=90) (e_2 (Qt rfl) f7) (Ja (n:=1) ((w6.mono k7).sm (Qml m20) w7));obtain⟨ks,g8,s7,k8,hks⟩:=Qn4 (ns:=ns) (n:=7) (d:=84) (Z:=rL m g3 g4 (some fi) none none none) (h:=g7) rfl
 have cl:slU (tb (scs ns)) .scr (some 2) (some 34) g8=some (.ref g8.length,g8++[.lst ((Qah ns (some 2) (some 34)).map fun i=>U.int i 0)]):=by
  show some (U.ref g8.length,g8++[O.lst (Qah (scs ns) (some 2) (some 34))])=_;unfold scs;rw [Qhy]
 obtain⟨g9,us,sps,f9,k9,a9,p9,t9,l9⟩:=QmD (s:=scs ns) (ks:=ks) (n:=5) (many:=m) (h:=g8++[.lst ((Qah ns (some 2) (some 34)).map fun i=>U.int i 0)]) (hks.imp id fun z=>Exists.elim z fun c y=>⟨c,y.1⟩) at0 Qke m20;have s8:ev (tb (scs ns)) (Qa (tb (scs ns)) 8) 91 (.call 38 [.sl (.var 0) (some (.c (.int 2 0))) (some (.c (.int 34 0))),.var 1,.var 6]) (rL m g3 g4 (some fi) (some (.str ks)) none none) g8=_:=ZH (d:=90) (e_3 (Qh5 (T:=tb (scs ns)) (cf:=Qa (tb (scs ns)) 8) (d:=89) (h:=g8) (Z:=rL m g3 g4 (some fi) (some (.str ks)) none none) (u:=.scr) (Qt rfl) y_c y_c cl) (Qt rfl) (Qt rfl)) f9;have K6:Kp g5 g8:=(k6.trans k7).trans k8;have K9:Kp g8 (g9++[.lst us]):=((Kp.app _ _).trans k9).trans (Kp.app _ _);have l6:=QT K6;have l9':=QT k9;rw [List.length_append,List.length_singleton]at l9';have KK:=K6.trans K9;have K7:Kp g6 (g9++[.lst us]):=(k7.trans k8).trans K9
 refine⟨g9++[.lst us],m,1,R,K,o,L,r,r0,g3.length,g4.length,(g8++[O.lst ((Qah ns (some 2) (some 34)).map fun i=>U.int i 0)]).length,g9.length,w,ks,fi,lns,cts,us,sps,?_,m20,hks,(z2.kp K4).kp KK,⟨by lia,KK _ _ a3,DNs.mono KK q3⟩,⟨by lia,KK _ _ a4,DLs.mono KK q4⟩,w6.mv (fun p q=>by lia) (fun p x _ y=>K7 _ _ y) fun p us y=>K7 _ _ y,⟨by simp;lia,Qo a9⟩,⟨by lia,at0⟩,Qj (fun _ _ z=>(z.mono Vx.ge).mono (Kp.app _ _)) p9,t9,l9⟩
 unfold b41;refine(QV (d:=97) s1).trans ((QV (d:=96) s2).trans ((QV (d:=95) s3).trans ((QV (d:=94) s4).trans ((QV (d:=93) s5).trans ((Zz (d:=92) s6 rfl).trans ((QV (d:=91) s7).trans ((QV (d:=90) s8).trans (QV (d:=89) (QdX (d:=89) (e_1 (Qt rfl)) (QaQ a9))))))))))
end
theorem QcD:∀{sps:List Sp} {line:List Nm} {W:Wr},W.pt=[]->sps.any hk=false->(sps.foldl stp (line,W)).2.pt=[]
 | [],line,W,z,_=>z
 | sp::r,line,W,z,a=>by
  rw [List.any_cons,Bool.or_eq_false_iff]at a;rw [List.foldl_cons];refine QcD (W:=stW (line.take sp.tk) W sp) ?_ a.2
  have e:∀{es:List (List Nat)} {W:Wr},(es.any fun w=>decide (w≠ZA))=false->W.pt=[]->(es.foldl (ZO (line.take sp.tk)) W).pt=[]:=by
   intro es
   induction es with
   | nil=>exact fun _ z=>z
   | cons w r ih =>
    intro W a z;rw [List.any_cons,Bool.or_eq_false_iff]at a;rw [List.foldl_cons];refine ih a.2 ?_;have c:w=ZA:=Decidable.not_not.mp (of_decide_eq_false a.1);unfold ZO;rw [if_pos c];exact z
  refine e a.1 ?_;rw [(Q1 (tk:=line.take sp.tk) (ts:=sp.ts) (W:=W)).2.2.2];exact z
theorem QiX{q:Pw}{W:Wr}(z:WH ks h q W)(wk:WK q W)(p1:B=true->W.pt≠[])(p0:B=false->W.pt=[]):∃k us,h[q.d]?=some (.dic (fe ks (.ref k) B))/\(B=true->k∈q.M/\h[k]?=some (.lst us)/\Paired (DN (Vw q.M h)) us W.pt):=by
 have ds:=z.ds
 cases hk:q.k with
 | none =>
  rw [hk]at ds
  cases B with
  | false=>exact⟨0,[],ds.1,fun z=>nomatch z⟩
  | true=>exact absurd ds.2 (p1 rfl)
 | some k =>
  rw [hk]at ds;obtain⟨d1,us,d2,d3⟩:=ds
  cases B with
  | false=>exact absurd (p0 rfl) (wk (by rw [hk];rfl))
  | true=>exact⟨k,us,d1,fun _=>⟨by simp [Pw.M,hk],d2,d3⟩⟩
section
variable {ct ql qg qd qo k:Nat}{cts lps gvs pts os:List U}{row0:List Lp}{W:Wr}
theorem QjD{x:List Nat}(e:h[n]?=some (.fzd kvs))(l:QS kvs (.str x)=some v):Q9 T (.ref n) (.str x) h=some v:=by
 simp only [Q9,e,Jy,JF,if_true,l,Option.bind_some,id]
theorem Qic(r4:Z[4]?=some (some (.ref ct)))(r10:Z[10]?=some (some (.ref ql)))(r9:Z[9]?=some (some (.ref qg)))(r12:Z[12]?=some (some (.ref qd)))(r11:Z[11]?=some (some (.ref qo)))(rl:Z.length=17)
  (c1:h[ct]?=some (.lst cts)) (c2:Paired (DL (Hg h)) cts row0) (l1:h[ql]?=some (.lst lps)) (l2:Paired (DL (Hg h)) lps W.lp) (g1:h[qg]?=some (.lst gvs)) (g2:Paired (DN (Hg h)) gvs W.gv) (d1:h[qd]?=some (.dic (fe ks (.ref k) B))) (d2:B=true->h[k]?=some (.lst pts)/\Paired (DN (Hg h)) pts W.pt) (o1:h[qo]?=some (.lst os)) (o2:Paired (DN (Hg h)) os W.gn) (o3:W.gn.length<64)
  (q1:Q ct) (q2:Q ql) (q3:Q qg) (q4:B=true->Q k) (q5:∀p,h.length<=p->Q p):∃p g,ev T cf (d+6) Qmq Z h=some (.ref p,g)/\Kp h g/\DWeb Q (Hg g) (.ref p) ⟨[row0,W.lp],W.gv,cB B [(ks,W.pt)],W.gn⟩:=by
 have lt_:∀{p:Nat} {x:O},h[p]?=some x->p<h.length:=fun e=>(ltS e);have b1:=lt_ c1;have b2:=lt_ l1;have b3:=lt_ g1
 have s1:ev T cf (d+5) (.lst [.var 4,.var 10]) Z h=some (.ref h.length,h++[.lst [.ref ct,.ref ql]]):=by
  rw [Zd,e_2 (Qt r4) (Qt r10),Qh]
 have k1:Kp h (h++[.lst [.ref ct,.ref ql]]):=Kp.app _ _;have a1:(h++[O.lst [.ref ct,.ref ql]])[h.length]?=some (.lst [.ref ct,.ref ql]):=at0
 have e1:(h++[O.lst [.ref ct,.ref ql]]).length=h.length+1:=by simp
 generalize h++[O.lst [.ref ct,.ref ql]]=h1 at s1 k1 a1 e1;have ld:=(ltS (show h1[qd]?=_ from k1 _ _ d1))
 have s2:=Qf2 (T:=T) (cf:=cf) (d:=d+2) (i:=12) (el:=.tup [.var 17,.ix (.var 12) (.var 17)]) (u:=.ref h1.length) (r:=[.tup [.str ks,.ref k]]) r12 (k1 _ _ d1) (fun b=>by
  have rr:(Z++[some (U.str ks)])[17]?=some (some (.str ks)):=by rw [List.getElem?_append_right (Nat.le_of_eq rl),rl,Nat.sub_self];rfl
  have r12':(Z++[some (U.str ks)])[12]?=some (some (.ref qd)):=by rw [List.getElem?_append_left (by lia)];exact r12
  have zf:(h1.set qd (.fzd (fe ks (.ref k) B)))[qd]?=some (.fzd (fe ks (.ref k) B)):=List.getElem?_set_self ld;have lz:(h1.set qd (.fzd (fe ks (.ref k) B))).length=h1.length:=List.length_set;rw [<-lz];generalize h1.set qd (.fzd (fe ks (.ref k) B))=hz at zf
  have ix:ev T cf (d+2) (.ix (.var 12) (.var 17)) (Z++[some (.str ks)]) hz=some (.ref k,hz):=by
   refine Qd7 (Qt r12') (Qt rr) (QjD zf ?_);rw [Qdv,b];rfl
  rw [QY,e_2 (Qt rr) ix,Qh])
 have k2:Kp h1 (h1++cB B [.tup [.str ks,.ref k]]++[.lst (cB B [.ref h1.length])]):=(Kp.app _ _).trans (Kp.app _ _);have a2:(h1++cB B [O.tup [.str ks,.ref k]]++[O.lst (cB B [.ref h1.length])])[(h1++cB B [O.tup [.str ks,.ref k]]).length]?=some (.lst (cB B [.ref h1.length])):=at0
 have a3:B=true->(h1++cB B [O.tup [.str ks,.ref k]]++[O.lst (cB B [.ref h1.length])])[h1.length]?=some (.tup [.str ks,.ref k]):=fun b=>by
  rw [b];exact Qo at0
 have e2:h1.length<=(h1++cB B [O.tup [.str ks,.ref k]]).length:=by rw [List.length_append];lia
 have e3:(h1++cB B [O.tup [.str ks,.ref k]]++[O.lst (cB B [.ref h1.length])]).length=(h1++cB B [O.tup [.str ks,.ref k]]).length+1:=by rw [List.length_append,List.length_singleton]
 generalize h1++cB B [O.tup [.str ks,.ref k]]++[O.lst (cB B [.ref h1.length])]=h2 at s2 k2 a2 a3 e3;generalize (h1++cB B [O.tup [.str ks,.ref k]]).length=c at s2 a2 e2 e3;have K2:=k1.trans k2;obtain⟨vs,s3,p3⟩:=QcJ (T:=T) (hs:=h2) (K2 _ _ o1) (DNs.mono K2 o2) o3;have K:Kp h2 (h2++[.lst vs]++[.tup [.ref h.length,.ref qg,.ref c,.ref h2.length]]):=(Kp.app _ _).trans (Kp.app _ _);have KK:=K2.trans K
 refine⟨(h2++[O.lst vs]).length,h2++[.lst vs]++[.tup [.ref h.length,.ref qg,.ref c,.ref h2.length]],?_,KK,_,h.length,qg,c,h2.length,[.ref ct,.ref ql],gvs,cB B [.ref h1.length],vs,rfl,at0,⟨q5 _ (Nat.le_refl _),q3,q5 _ (by lia),q5 _ (by lia),by lia,by lia,by lia⟩,⟨K _ _ (k2 _ _ a1),.cons ⟨ct,cts,rfl,⟨q1,by lia⟩,KK _ _ c1,DLs.mono KK c2⟩ (.cons ⟨ql,lps,rfl,⟨q2,by lia⟩,KK _ _ l1,DLs.mono KK l2⟩ .nil)⟩,⟨KK _ _ g1,DNs.mono KK g2⟩,⟨K _ _ a2,?_⟩,Qo at0,DNs.mono K p3⟩
 ·rw [Qmq,QY,e_4 s1 (Qt r9) s2 (QdX (e_1 (Qt r11)) s3),Qh]
 ·cases B with
  | false=>exact .nil
  | true =>
   obtain⟨x1,x2⟩:=d2 rfl;have:=lt_ x1
   exact .cons ⟨h1.length,k,pts,rfl,⟨q4 rfl,by lia⟩,K _ _ (a3 rfl),KK _ _ x1,DNs.mono KK x2⟩ .nil
end
def Gr(a b t:Nat)(h g:Hs):Prop:=∀p x,h[p]?=some x->g[p]?=some x\/(a<=p/\p<b)/\∃zs ys,x=.lst zs/\g[p]?=some (.lst (zs++ys))/\ys.length<=t
section
variable {t t':Nat}{k:Hs}
theorem Gr.refl:Gr a b t h h:=fun p x e=>.inl e
theorem Gr.of(z:Kp h g):Gr a b t h g:=fun p x e=>.inl (z _ _ e)
theorem Gr.trans(z:Gr a b t h g)(z':Gr a b t' g k):Gr a b (t+t') h k:=fun p x e=>by
 rcases z p x e with y|⟨l,zs,ys,rfl,y,ly⟩
 ·rcases z' p x y with w|⟨l,zs,ys,rfl,w,ly⟩
  ·exact .inl w
  ·exact .inr ⟨l,zs,ys,rfl,w,by lia⟩
 ·rcases z' p _ y with w|⟨_,zs',ys',e',w,ly'⟩
  ·exact .inr ⟨l,zs,ys,rfl,w,by lia⟩
  ·cases e'
   refine .inr ⟨l,zs,ys++ys',rfl,by rw [w,List.append_assoc],by rw [List.length_append];lia⟩
theorem Gr.set(e:h[p]?=some (.lst zs))(l:a<=p/\p<b):Gr a b 1 h (h.set p (.lst (zs++[u]))):=fun q x y=>by
 by_cases c:p=q
 ·subst c;rw [e]at y;cases y;exact .inr ⟨l,zs,[u],rfl,QdY (ltS e),Nat.le_refl 1⟩
 ·exact .inl (Qn c y)
theorem Gr.lst(z:Gr a b t h g)(e:h[p]?=some (.lst zs)):∃ys,g[p]?=some (.lst (zs++ys))/\ys.length<=t:=by
 rcases z p _ e with y|⟨_,zs',ys,e',y,l⟩
 ·exact⟨[],by rw [List.append_nil];exact y,Nat.zero_le _⟩
 ·cases e';exact⟨ys,y,l⟩
theorem Gr.tup(z:Gr a b t h g):GeT (Hg h) (Hg g):=fun p us e=>by
 rcases z p _ e with y|⟨_,zs',ys,e',_⟩
 ·exact y
 ·cases e'
theorem Gr.out(z:Gr a b t h g){x:O}(l:p<a\/b<=p)(e:h[p]?=some x):g[p]?=some x:=by
 rcases z p _ e with y|⟨q,_⟩
 ·exact y
 ·lia
theorem QdS{o:E}(ho:ev T cf (d+2) o Z h=some (.ref p,h))(hp:h[p]?=some (.lst zs))(he:∀h:Hs,∃u g,ev T cf (d+2) e Z h=some (u,g)/\Kp h g)(lz:zs.length<900000)(l:a<=p/\p<b):∃g,ex T cf (d+4) (.expr (.bm .append o [e])) Z h=some (.next,Z,g)/\Gr a b 1 h g/\∀q x,p≠q->h[q]?=some x->g[q]?=some x:=by
 obtain⟨u,g,e1,k⟩:=he h
 refine⟨_,ZE ho hp e1 (k _ _ hp) (by lia),?_,fun q x n y=>Qn n (k _ _ y)⟩
 have:=Gr.trans (t:=0) (Gr.of (a:=a) (b:=b) k) (Gr.set (u:=u) (k _ _ hp) l);rwa [Nat.zero_add]at this
end
noncomputable def Qd0(u1 u2 u3 u4 u5 u6 u7 u8 u9 u10 u11 u12 u13 u14 u15 u16:Option U):Rho:=[some .scr,u1,u2,u3,u4,u5,u6,u7,u8,u9,u10,u11,u12,u13,u14,u15,u16]
section
variable {u9 u10 u12 u14 u15 u16:Option U}{fo:U}{D:Wd}{gB:Hs}
theorem Qk7:∀h:Hs,∃u g,ev T cf (d+2) t9 Z h=some (u,g)/\Kp h g:=fun h=>⟨_,_,by rw [t9,QY,e_2 y_c y_c,Qh],Kp.app _ _⟩
theorem Qlb:∀h:Hs,∃u g,ev T cf (d+2) elL Z h=some (u,g)/\Kp h g:=fun h=>⟨_,_,by rw [elL,QY,e_3 (show ev T cf (d+1) (.tup []) Z h=some (.ref h.length,h++[.tup []])from rfl) y_c y_c,Qh],(Kp.app _ _).trans (Kp.app _ _)⟩
theorem QlY(z:DWeb (a<=·) (Hg gB) fo D)(F:Fit D)(hr:2<=D.rows.length)(k:Kp gB h):∃u15' u16' g t,exs T cf 86 QnF (Qd0 u1 u2 u3 u4 u5 u6 u7 u8 u9 u10 u11 u12 (some fo) u14 u15 u16) h=exs T cf 81 [.ret (.call 40 [.meth 8 (.var 2) [],.var 14])] (Qd0 u1 u2 u3 u4 u5 u6 u7 u8 u9 u10 u11 u12 (some fo) u14 u15' u16') g/\Gr a gB.length t h g:=by
 obtain⟨p,x,y,c,w,as,bs,cs,ds,rfl,e1,⟨l1,l2,l3,l4,l5,l6,l7⟩,⟨a1,a2⟩,⟨b1,b2⟩,⟨c1,c2⟩,d1,d2⟩:=z;obtain⟨F1,F2,F3,F4,F5,F6⟩:=F;have lt_:∀{p:Nat} {x:O},Hg gB p=some x->p<gB.length:=fun e=>(ltS e);have la:=Qf a2;have lb:=Qf b2;have lc:=Qf c2;have ld:=Qf d2;rw [JO]at ld
 have k1:D.rows[1]?=some D.rows[1]:=List.getElem?_eq_getElem (by lia)
 obtain⟨v,v1,p2,ls,rfl,⟨q1,q2⟩,v2,v3⟩:=Jq a2 k1;have lls:=Qf v3;have f2:=(F2 _ (List.mem_of_getElem? k1)).1;have E1:=k _ _ e1
 obtain⟨g1,s1,G1,o1⟩:=QdS (T:=T) (cf:=cf) (d:=81) (a:=a) (b:=gB.length) (Z:=Qd0 u1 u2 u3 u4 u5 u6 u7 u8 u9 u10 u11 u12 (some (.ref p)) u14 u15 u16) (o:=.ix (.var 13) (.c (.int 0 0))) (e:=.lst []) (QbI (d:=81) rfl E1 rfl) (k _ _ a1) (fun h=>⟨_,_,ZG,Kp.app _ _⟩) (by lia) ⟨l1,lt_ a1⟩
 have T1:=fun q us e=>G1.tup q us e;obtain⟨y1,Y1,m1⟩:=G1.lst (k _ _ a1);obtain⟨y2,Y2,m2⟩:=G1.lst (k _ _ v2)
 have ix1:Q9 T (.ref x) (.int 1 0) g1=some (.ref p2):=by
  have:(as++y1)[1]?=some (.ref p2):=by rw [List.getElem?_append_left (by lia)];exact v1
  simp only [Q9,Y1,atU,ixU]
  rw [if_pos (by decide),if_pos (by rw [List.length_append];lia)]
  exact this
 obtain⟨g2,s2,G2,o2⟩:=QdS (T:=T) (cf:=cf) (d:=80) (a:=a) (b:=gB.length) (Z:=Qd0 u1 u2 u3 u4 u5 u6 u7 u8 u9 u10 u11 u12 (some (.ref p)) u14 u15 u16) (o:=.ix (.ix (.var 13) (.c (.int 0 0))) (.c (.int 1 0))) (e:=elL) (Qcs (QbI (d:=79) rfl (T1 _ _ E1) rfl) y_c ix1) Y2 Qlb (by rw [List.length_append];lia) ⟨q1,lt_ v2⟩
 have G12:=G1.trans G2;obtain⟨y3,Y3,m3⟩:=G12.lst (k _ _ b1)
 obtain⟨g3,s3,G3,o3⟩:=QdS (T:=T) (cf:=cf) (d:=79) (a:=a) (b:=gB.length) (Z:=Qd0 u1 u2 u3 u4 u5 u6 u7 u8 u9 u10 u11 u12 (some (.ref p)) u14 u15 u16) (o:=.ix (.var 13) (.c (.int 1 0))) (e:=t9) (QbI (d:=79) rfl (G12.tup _ _ E1) rfl) Y3 Qk7 (by rw [List.length_append];lia) ⟨l2,lt_ b1⟩
 have G13:=G12.trans G3;obtain⟨y4,Y4,m4⟩:=G13.lst (k _ _ d1)
 obtain⟨g4,s4,G4,o4⟩:=QdS (T:=T) (cf:=cf) (d:=78) (a:=a) (b:=gB.length) (Z:=Qd0 u1 u2 u3 u4 u5 u6 u7 u8 u9 u10 u11 u12 (some (.ref p)) u14 u15 u16) (o:=.ix (.var 13) (.c (.int 3 0))) (e:=t9) (QbI (d:=78) rfl (G13.tup _ _ E1) rfl) Y4 Qk7 (by rw [List.length_append];lia) ⟨l4,lt_ d1⟩
 have G14:=G13.trans G4
 have C4:g4[c]?=some (.lst cs):=o4 _ _ (by lia) (o3 _ _ (by lia) (o2 _ _ (by lia) (o1 _ _ (by lia) (k _ _ c1))))
 obtain⟨ρ2,g5,s5,u15',u16',rfl,G5,_,_⟩:=Z7 (T:=T) (cf:=cf) (d:=79) (j:=15) (k:=16) (us:=cs) (e:=.ix (.var 13) (.c (.int 2 0))) (body:=[.expr (.bm .append (.var 16) [t9])]) (Z:=Qd0 u1 u2 u3 u4 u5 u6 u7 u8 u9 u10 u11 u12 (some (.ref p)) u14 u15 u16) (I:=fun i Z g=>∃u15' u16',Z=Qd0 u1 u2 u3 u4 u5 u6 u7 u8 u9 u10 u11 u12 (some (.ref p)) u14 u15' u16'/\Gr a gB.length (4+i) h g/\g[c]?=some (.lst cs)/\i<=cs.length) (QbI (d:=78) rfl (G14.tup _ _ E1) rfl) C4
  (fun i Z g z=>by
   obtain⟨_,_,_,_,z,_⟩:=z
   exact z)
  (fun i u hu Z g z=>by
   obtain⟨u15',u16',rfl,G,C,li⟩:=z;obtain⟨X,hX,pp,q,us,rfl,⟨x1,x2⟩,x3,x4,x5⟩:=Q0 c2 hu;have hi:=(ltS hu);have lu:=Qf x5;have f5:=F5 X (List.mem_of_getElem? hX);obtain⟨y5,Y5,m5⟩:=G.lst (k _ _ x4)
   obtain⟨g',s',G',o'⟩:=QdS (T:=T) (cf:=cf) (d:=75) (a:=a) (b:=gB.length) (Z:=Qd0 u1 u2 u3 u4 u5 u6 u7 u8 u9 u10 u11 u12 (some (.ref p)) u14 (some (.str X.1)) (some (.ref q))) (o:=.var 16) (e:=t9) (Qt rfl) Y5 Qk7 (by rw [List.length_append];lia) ⟨x1,lt_ x4⟩
   exact⟨pp,.str X.1,.ref q,rfl,G.tup _ _ (k _ _ x3),_,g',(Yh (d:=79) s').trans Qs,_,_,rfl,G.trans G',o' _ _ (by lia) C,hi⟩)
  ⟨u15,u16,rfl,G14,C4,Nat.zero_le _⟩
 exact⟨u15',u16',g5,_,(Yh (d:=85) s1).trans ((Yh (d:=84) s2).trans ((Yh (d:=83) s3).trans ((Yh (d:=82) s4).trans (Yh (d:=81) s5)))),G5⟩
end
section
variable {fs:List (Nat×U)}
theorem Qk9(hi:Z[i]?=some (some (.ref q)))(hq:h[q]?=some (.ins c fs))(hC:T.cls[c]?=some C)(hf:C.meths.lookup m=some f)(ha:evs (ev T cf (d+1)) Z es h=some (us,h2)):ev T cf (d+2) (.meth m (.var i) es) Z h=cf f (.ref q::(us++QaL T f (us.length+1))) h2:=by
 have e:Z5 T m (.ref q) h=some f:=by
  unfold Z5;simp only [hq,hC,hf]
 rw [Qk1,Qq,hi,Qh];simp only [e,ha,Qh]
theorem Qh8{a b c w:U}(he:ev T cf d e Z h=some (.ref p,h2))(hp:h2[p]?=some (.tup [a,b,c,w])):ex T cf (d+1) (.unpN [9,10,11,12] e) Z h=some (.next,(((Z.set 9 (some a)).set 10 (some b)).set 11 (some c)).set 12 (some w),h2):=by
 show(bd (ev T cf d e Z h) fun u h1=>(QkG u h1).bind fun us=>(QkK [9,10,11,12] us Z).map fun ρ'=>(Fl.next,ρ',h1))=_;rw [he,Qh];simp only [QkG,hp,Option.bind_some];rfl
theorem Qg4(ha:h[a]?=some (.lst us))(hb:h[b]?=some (.lst us))(hr:∀u∈us,∃p,u=.ref p):ZP T .NotEq (.ref a) (.ref b) h=some false:=by
 have al:(us.all fun x=>match x with|.ref _=>true|_=>false)=true:=List.all_eq_true.mpr fun u m=>by
  obtain⟨p,rfl⟩:=hr u m;rfl
 have l1:QaR T (.ref a) (.ref b) h=false:=by
  simp only [QaR,QU,ha,hb];simp
 have l2:QbS T (.ref a) (.ref b) h=true:=by
  simp only [QbS,QU,ha,hb];exact al
 show(eqA T (.ref a) (.ref b) h).map _=_;unfold eqA;show(if QaR T (.ref a) (.ref b) h=true then _ else _:Option Bool).map _=_;rw [l1,if_neg Bool.false_ne_true,l2,if_pos rfl];rfl
end
noncomputable abbrev rQ(m nd ln ct:Nat)(fi:U)(ks:List Nat)(rp hd:Nat)(q:Pw):=Qd0 (some (.int m 0)) (some (.ref nd)) (some (.ref ln)) (some (.ref ct)) (some fi) (some (.str ks)) (some (.ref rp)) (some (.ref hd)) (some (.ref q.g)) (some (.ref q.l)) (some (.ref q.o)) (some (.ref q.d))
theorem QmF(ns:List Int):∃hs',Qa (tb (scs ns)) 9 41 [.scr] []=some (.bl true,hs'):=by
 obtain⟨hA,m,nd,R,K,o,L,r,r0,ln,ct,rp,hd,w,ks,fi,lns,cts,us,sps,exA,m20,hks,zA,⟨n0,n1,n2⟩,⟨c0,c1,c2⟩,wF,⟨p0,p1⟩,⟨d0,d1⟩,pr,tk,lu⟩:=QoA (ns:=ns)
 have gds:∀x∈sps,Gd ks x:=fun x m=>by
  obtain⟨j,hj⟩:=List.getElem?_of_mem m;obtain⟨_,_,_,_,_,_,_,g⟩:=Jq pr hj;exact g
 have lsp:=Qf pr
 have refs:∀u∈us,∃p,u=.ref p:=fun u mu=>by
  obtain⟨j,hj⟩:=List.getElem?_of_mem mu;obtain⟨_,_,q,_,e,_⟩:=Q0 pr hj;exact⟨q,e⟩
 have hko:ks≠ZA:=fun z=>by
  rcases hks with y|⟨c,y,_⟩
  ·rw [y]at z;cases z
  ·rw [y]at z;cases z
 have kA:Kp hA (hA++[.dic []]):=Kp.app _ _
 obtain⟨g,q,f1,wh,wk,kW⟩:=QhB (s:=scs ns) (n:=6) (u3:=.ref hA.length) (line:=nmR 0 m) hko (kA _ _ p1) (Qj (fun _ _ z=>z.mono kA) pr) (kA _ _ n1) (DNs.mono kA n2) (by rw [Ys,tk];exact Nat.le_refl _) lu
 generalize hW:(sps.foldl stp (nmR 0 m,W0)).2=W at wh wk
 have big:∀p∈q.M,hA.length<p:=fun p mp=>Nat.lt_of_not_le fun l=>by
  have lp:p<(hA++[O.dic []]).length:=by rw [List.length_append,List.length_singleton];lia
  exact(Qb (kW p _ (List.getElem?_eq_getElem lp))).1 mp
 have rlt:=(ltS zA.r);have kB:Kp hA (g++[.tup [.ref q.g,.ref q.l,.ref q.o,.ref q.d]]):=fun p x e=>Qo (Qb (kW _ _ (kA _ _ e))).2;have wB:WH ks (g++[.tup [.ref q.g,.ref q.l,.ref q.o,.ref q.d]]) q W:=wh.kp (Kp.app _ _);have tu:(g++[O.tup [.ref q.g,.ref q.l,.ref q.o,.ref q.d]])[g.length]?=some (.tup [.ref q.g,.ref q.l,.ref q.o,.ref q.d]):=at0;have S10:=Qh8 (T:=tb (scs ns)) (cf:=Qa (tb (scs ns)) 8) (d:=89) (Z:=r41 (some (.int m 0)) (some (.ref nd)) (some (.ref ln)) (some (.ref ct)) (some fi) (some (.str ks)) (some (.ref rp)) (some (.ref hd))) (e:=.call 39 [.var 7,.var 3,.c (.int 1 0),.dnew]) (ZH (d:=88) (e_4 (Qt rfl) (Qt rfl) y_c Qa3) f1) tu;generalize g++[O.tup [.ref q.g,.ref q.l,.ref q.o,.ref q.d]]=hB at kB wB S10;obtain⟨g1,f2,nS,st1,st2⟩:=QhA (s:=scs ns) (n:=4) (zA.kp kB) m20 d0 (kB _ _ d1) (Qj (fun _ _ z=>z.mono kB) pr) lu tk hks hW;have up:∀{p:Nat} {x:O},r<p->hA[p]?=some x->g1[p]?=some x:=fun l e=>st1 _ _ l (kB _ _ e)
 have upM:∀{p:Nat} {x:O},p∈q.M->hB[p]?=some x->g1[p]?=some x:=fun l e=>st1 _ _ (by have:=big _ l;lia) e
 have tM:GeT (Vw q.M hB) (Hg g1):=fun p us e=>st2 p us (Qb e).2;have tA:GeT (Hg hA) (Hg g1):=fun p us e=>st2 p us (kB _ _ e);obtain⟨gvs,gv1,gv2⟩:=wB.gs;obtain⟨lps,lp1,lp2⟩:=wB.ls;obtain⟨os,os1,os2⟩:=wB.os;have lgv:=Qf gv2;have len4:=Ym (line:=nmR 0 m) (W:=W0) (k:=0) gds (Nat.le_refl 0) (Nat.le_refl 0) (Nat.le_refl 0) (Nat.le_refl 0);have lgn:=QcG (line:=nmR 0 m) (W:=W0) gds
 have lps8:=Qfl (line:=nmR 0 m) (W:=W0) gds (fun a ma=>by cases ma)
 have pt1:sps.any hk=true->W.pt≠[]:=fun b=>hW▸QcE (line:=nmR 0 m) (W:=W0) (.inr b);have pt0:sps.any hk=false->W.pt=[]:=fun b=>hW▸QcD (line:=nmR 0 m) (W:=W0) rfl b;rw [hW]at len4 lgn lps8;have l0:W0.gn.length=0:=rfl;obtain⟨k,pts,dk1,dk2⟩:=QiX wB wk pt1 pt0;generalize hBB:sps.any hk=B at nS pt1 pt0 dk1 dk2
 have fit1:Fit ⟨[List.replicate m lp0,W.lp],W.gv,cB B [(ks,W.pt)],W.gn⟩:=by
  refine⟨by simp,fun x mx=>?_,by show W.gv.length<1000;lia,?_,fun x mx=>?_,by show W.gn.length<64;lia⟩
  ·rcases List.mem_cons.mp mx with rfl|mx
   ·exact(Qml m20).2.1 _ List.mem_cons_self
   ·obtain rfl:=List.mem_singleton.mp mx
    exact⟨by lia,lps8⟩
  ·have:=QfT (B:=B) (l:=[(ks,W.pt)]);rw [List.length_singleton]at this;show(cB B [(ks,W.pt)]).length<1000;lia
  ·cases B with
   | false=>cases mx
   | true =>
    obtain rfl:=List.mem_singleton.mp mx;show W.pt.length<1000;lia
 have S11:evT (tb (scs ns)) (Qa (tb (scs ns)) 8) 88 (.or (.not (.call 40 [.meth 7 (.var 2) [.var 8],.bi .len [.var 9]])) (.cmp .NotEq (.var 8) (.var 7))) (rQ m nd ln ct fi ks rp hd q none none none none) hB=some (false,g1):=by
  have a1:=Qa7 (T:=tb (scs ns)) (cf:=Qa (tb (scs ns)) 8) (d:=84) (Z:=rQ m nd ln ct fi ks rp hd q none none none none) (es:=[.meth 7 (.var 2) [.var 8],.bi .len [.var 9]]) (h:=hB) (h2:=g1) (u:=.int W.gv.length 0) (v:=.int W.gv.length 0) (e_2 ((Qk9 (d:=82) rfl (zA.kp kB).e rfl rfl (e_1 (Qt rfl))).trans f2) (by rw [<-lgv];exact Yk (d:=83) (Qt rfl) (upM Pw.g_mem gv1))) (Ja (s:=scs ns) (n:=7) (d:=1) JQ)
  rw [QfW,a1,Qh,if_neg Bool.false_ne_true,Qr,QG,Qt rfl,Qh,Qt rfl,Qh,Qg4 (up d0 d1) (up p0 p1) refs];rfl
 obtain⟨fo,gB,f3,k3,w3⟩:=QhC (s:=scs ns) (n:=6) nS;have nS':=nS;obtain⟨_,_,_,_,_,_,_,_,_,_,_,_,en,_⟩:=nS';have S12:=(Qar (T:=tb (scs ns)) (cf:=Qa (tb (scs ns)) 8) (d:=85) (m:=8) (i:=2) (es:=[]) (Z:=rQ m nd ln ct fi ks rp hd q none none none none) rfl en rfl rfl rfl rfl).trans f3;have lt1:∀{p:Nat} {x:O},g1[p]?=some x->p<g1.length:=fun e=>(ltS e);have l3:=QT k3;have ct1:=up c0 c1;have gv1':=upM Pw.g_mem gv1;have lp1':=upM Pw.l_mem lp1
 obtain⟨p4,h14,f4,k4,w4⟩:=Qic (T:=tb (scs ns)) (cf:=Qa (tb (scs ns)) 8) (d:=80) (Q:=fun p=>p<g1.length\/gB.length<=p) (ks:=ks) (B:=B) (W:=W) (row0:=List.replicate m lp0) (Z:=rQ m nd ln ct fi ks rp hd q (some fo) none none none) (h:=gB) rfl rfl rfl rfl rfl rfl (k3 _ _ ct1) (DLs.mono k3 (DLs.monoT tA c2)) (k3 _ _ lp1') (DLs.mono k3 (DLs.monoT tM lp2)) (k3 _ _ gv1') (DNs.mono k3 (DNs.monoT tM gv2)) (k3 _ _ (upM (by simp [Pw.M]) dk1)) (fun b=>⟨k3 _ _ (upM (dk2 b).1 (dk2 b).2.1),DNs.mono k3 (DNs.monoT tM (dk2 b).2.2)⟩) (k3 _ _ (upM Pw.o_mem os1)) (DNs.mono k3 (DNs.monoT tM os2)) (by lia) (.inl (lt1 ct1)) (.inl (lt1 lp1')) (.inl (lt1 gv1')) (fun b=>.inl (lt1 (upM (dk2 b).1 (dk2 b).2.1))) (fun p l=>.inr l)
 have K14:Kp g1 h14:=k3.trans k4;have tF:GeT (Hg hA) (Hg h14):=fun p us e=>K14 _ _ (tA p us e);obtain⟨p5,h15,f5,k5,w5⟩:=Qfh (T:=tb (scs ns)) (cf:=Qa (tb (scs ns)) 8) (d:=78) (m:=m) (Z:=rQ m nd ln ct fi ks rp hd q (some fo) (some (.ref p4)) none none) (h:=h14) rfl rfl (K14 _ _ ct1) (DLs.monoT tF c2) (K14 _ _ (up n0 n1)) (DNs.monoT tF n2)
 have S14:evT (tb (scs ns)) (Qa (tb (scs ns)) 8) 85 (.or (.not (.call 40 [.var 13,.var 14])) (.not ck0)) (rQ m nd ln ct fi ks rp hd q (some fo) (some (.ref p4)) none none) h14=some (false,h15):=by
  have wF':DWeb (r < ·) (Hg h14) fi (D0 m):=wF.mv (fun p q=>q) (fun p x l e=>K14 _ _ (up l e)) tF;rw [QfW,Qa7 (d:=81) (e_2 (Qt rfl) (Qt rfl)) (Ja (s:=scs ns) (n:=1) (d:=7) ((w3.mono k4).sm fit1 w4)),Qh,if_neg Bool.false_ne_true];exact Qa7 (d:=81) (e_2 (Qt rfl) f5) (Ja (s:=scs ns) (n:=1) (d:=7) ((wF'.mono k5).sm (Qml m20) w5))
 obtain⟨u15,u16,h16,t,exC,G⟩:=QlY (T:=tb (scs ns)) (cf:=Qa (tb (scs ns)) 8) (u1:=some (.int m 0)) (u2:=some (.ref nd)) (u3:=some (.ref ln)) (u4:=some (.ref ct)) (u5:=some fi) (u6:=some (.str ks)) (u7:=some (.ref rp)) (u8:=some (.ref hd)) (u9:=some (.ref q.g)) (u10:=some (.ref q.l)) (u11:=some (.ref q.o)) (u12:=some (.ref q.d)) (u14:=some (.ref p4)) (u15:=none) (u16:=none) w3 fit1 (Nat.le_refl 2) (k4.trans k5);have K16:Kp g1 h16:=fun p x e=>G.out (.inl (lt1 e)) (k5 _ _ (K14 _ _ e));have w6:DWeb (fun p=>p<g1.length\/gB.length<=p) (Hg h16) (.ref p4) ⟨[List.replicate m lp0,W.lp],W.gv,cB B [(ks,W.pt)],W.gn⟩:=w4.mv (fun p q=>q) (fun p x l e=>G.out l (k5 _ _ e)) fun p us e=>G.tup p us (k5 _ _ e);obtain⟨fo2,h17,f6,k6,w7⟩:=QhC (s:=scs ns) (n:=6) (NS.mono K16 nS);refine⟨h17,?_⟩;rw [Qk fnL[41] rfl rfl];show fin (exs (tb (scs ns)) (Qa (tb (scs ns)) 8) (97+3) b41 (r41 none none none none none none none none) [])=_;rw [exA];unfold Qly;refine(congrArg fin ((Yh (d:=90) S10).trans ((Zz (d:=87) S11 rfl).trans ((QV (d:=86) S12).trans ((QV (d:=85) f4).trans ((Zz (d:=84) S14 rfl).trans exC)))))).trans (Yi (d:=78) ?_);exact ZH (d:=78) (e_2 ((Qar (d:=76) rfl (K16 _ _ en) rfl rfl rfl rfl).trans f6) (Qt rfl)) (Ja (s:=scs ns) (n:=1) (d:=7) (w7.sm fit1 (w6.mono k6)))
theorem Qfv:∀ns:List Int,Paired (fun(u:U) (i:Int)=>∃r m,u=.int r m/\∃q:Int,i=r+m*q) (scs ns) ns
 | []=>.nil
 | i::r=>.cons ⟨i,0,rfl,0,by simp⟩ (Qfv r)
theorem comp(ns:List Int)(hl:ns.length<=63):∃s hs',Paired (fun(u:U) (i:Int)=>∃r m,u=.int r m/\∃q:Int,i=r+m*q) s ns/\Qa (tb s) 9 41 [.scr] []=some (.bl true,hs'):=by
 obtain⟨hs',e⟩:=QmF ns;exact⟨scs ns,hs',Qfv ns,e⟩
noncomputable def hfL:List Addr:=[68,75,96,103,117,157,171,211,225,265,272,286,326,333,345,385,392,404,444,458,498,505,519,558,564,569,576,581,586,591,598,605,624,636,641,648,655,662,669,674,681,686]
noncomputable def hcL:List Addr:=[78,141,195,249,310,369,428,482,543,608,627]
noncomputable def hkL:List Addr:=[54]
noncomputable def adr(a:Addr):Adr:=⟨fun i=>hfL.getD i 0,fun i=>hcL.getD i 0,fun i=>hkL.getD i 0,a⟩
theorem Qkv(s:List U):QbG (tb s) glo QmI:=QdL (by repeat (first|exact .nil|refine .cons (by kernel_rfl) ?_))
section
variable (w:World)(s:List U)(a:Addr)
theorem Qkb{Kf:W.Frag}{fd0:FuncData}(hd:fd0.defaults=.ref 553)(ho:Kf.lookup 553=some (tu #[(.none),(.none)] 0)):∀n,Binds Kf (fnT fnL[23] fd0) ["self","way","cast","web","names"] (List.drop n [(.none),(.none)])
 | 0=>ZQ (m:=3) rfl fun s v X=>W.binds_K X hd ho rfl rfl rfl
 | 1=>ZQ (m:=4) rfl fun s v X=>W.binds_K X hd ho rfl rfl rfl
 | n+2=>by
  rw [List.drop_eq_nil_of_le (by simp)]
  exact ZQ (m:=5) rfl fun s v X=>W.binds_K X hd ho rfl rfl rfl
theorem Qka{Kf:W.Frag}{fd0:FuncData}(hd:fd0.defaults=.ref 559)(ho:Kf.lookup 559=some (tu #[(.bool false)] 0)):∀n,Binds Kf (fnT fnL[24] fd0) ["self","stitches","turn"] (List.drop n [(.bool false)])
 | 0=>ZQ (m:=2) rfl fun s v X=>W.binds_K X hd ho rfl rfl rfl
 | n+1=>by
  rw [List.drop_eq_nil_of_le (by simp)]
  exact ZQ (m:=3) rfl fun s v X=>W.binds_K X hd ho rfl rfl rfl
theorem QoK:AllI (FnA (K w.params) (adr a)) 0 (tb s).fns:=by((iterate 23 refine .cons ⟨by kernel_rfl,by kernel_rfl,.inl fun v=>by kernel_rfl⟩ ?_);refine .cons ⟨by kernel_rfl,by kernel_rfl,.inr (Qe9 (fd':=fnT fnL[23] (Qae (K w.params) ((adr a).f 23))) (by kernel_rfl) (Qkb (by kernel_rfl) (by kernel_rfl) 2))⟩ ?_;refine .cons ⟨by kernel_rfl,by kernel_rfl,.inr (Qe9 (fd':=fnT fnL[24] (Qae (K w.params) ((adr a).f 24))) (by kernel_rfl) (Qka (by kernel_rfl) (by kernel_rfl) 1))⟩ ?_;repeat (first|exact .nil|refine .cons ⟨by kernel_rfl,by kernel_rfl,.inl fun v=>by kernel_rfl⟩ ?_))
theorem QoU:AllI (fun _ (p:Nat×Df)=>∃fd x q st,FunD (K w.params) x q st ((adr a).f p.1) fd/\Qh4 (adr a) (K w.params) fd p.2/\∀F,(tb s).fns[p.1]?=some F->F.ps=p.2.ps/\F.np=p.2.np) 0 (tb s).dfl:=(.cons ⟨_,_,_,_,(Jx (F:=fnL[23]) (by kernel_rfl) (by kernel_rfl)).1,⟨[(.none),(.none)],[.non,.non],(.cons rfl (.cons rfl .nil)),(.cons rfl (.cons rfl .nil)),fun n=>(Qe9 (fd':=fnT fnL[23] (Qae (K w.params) ((adr a).f 23))) (by kernel_rfl) (Qkb (by kernel_rfl) (by kernel_rfl) n))⟩,fun F e=>by cases e;exact⟨rfl,rfl⟩⟩ (.cons ⟨_,_,_,_,(Jx (F:=fnL[24]) (by kernel_rfl) (by kernel_rfl)).1,⟨[(.bool false)],[.bl false],(.cons rfl .nil),(.cons rfl .nil),fun n=>(Qe9 (fd':=fnT fnL[24] (Qae (K w.params) ((adr a).f 24))) (by kernel_rfl) (Qka (by kernel_rfl) (by kernel_rfl) n))⟩,fun F e=>by cases e;exact⟨rfl,rfl⟩⟩ .nil))
theorem QnQ:Qh3 (fun k c=>coB (K w.params) (adr a) ((adr a).k k) c) 0 (tb s).cons=true:=by kernel_rfl
theorem QoE:AllI (fun k _=>QmP (K w.params) w ((adr a).k k)) 0 (tb s).cons:=by repeat (first|exact .nil|refine .cons (by kernel_rfl) ?_)
theorem Qn5:Qld (K w.params) (tb s) (adr a) glo QmI=true:=by kernel_rfl
end
theorem all_at{l:W.OpenLaw}(w:World){mg:Str->Option Value}{fa:Addr}{h:Heap}(X:(K w.params).In h)(G:h.Ns mainGlobals mg)(hfa:mg "law"=some (.ref fa)):
  ∃ fd : FuncData, (∀ (s : Shared) (v : Value), BindsTo s fd ⟨[v], []⟩ [("_law_script", v)]) /\ ∀ base : Heap, (K w.params).In base -> base.Ns mainGlobals mg -> FnOk l.prog w (K w.params) mg base CX0 (0 + 2 * 9) fa fd ["_law_script"] (Qed (K w.params)) := by
 have tp:∀(s:List U) (a:Addr),Top (tb s) (adr a) (K w.params) mg glo QmI:=fun s a=>Qij X G (QoK w s a) (QnQ w s a) (Qn5 w s a) (QoU w s a) .nil;have tab:∀(s:List U) (a:Addr),QaZ l.prog w (tb s) (adr a) (K w.params):=fun s a=>Qin (QnQ w s a) (QoE w s a)
 cases hfa.symm.trans ((tp [] 0).gfn "law" 41 (by kernel_rfl))
 have hX:∀(base:Heap) (s:List U) (a:Addr),XOk l.prog w (K w.params) mg base (tb s) (adr a) 0:=fun base s a=>Qox (tp s a) rfl
 exact⟨Qae (K w.params) ((adr 0).f 41),fun s v=>.of_eq (by kernel_rfl),fun base _ _=>QjG (tb:=tb) (adr:=adr) (L:=41) (F:=⟨"law","law",QkI,["_law_script"],N41,1,17,true,b41⟩) (fun _=>rfl) (fun _=>rfl) rfl rfl (fun _=>rfl) (fun _=>rfl) tp tab Qkv (hX base) (Jx (F:=⟨"law","law",QkI,["_law_script"],N41,1,17,true,b41⟩) (by kernel_rfl) (by kernel_rfl)).1 comp⟩
theorem walk{l:W.OpenLaw}{q:Program}{loose:List Str}{XP:(Str->Option Value)->Heap->Prop}{YP:World->Heap->Prop}{d:DefRec}{K:Params->W.Frag}(hn:l.most=some 63)(hdf:d.params.defaults=[])
  (hY:∀(w:World) (h:Heap),YP w h->(K w.params).In h)
  (F:∀(w:World) (mg:Str->Option Value) (fa:Addr) (h:Heap),(K w.params).In h->h.Ns mainGlobals mg->mg d.name=some (.ref fa) ->
   ∃ fd : FuncData, (∀ (s : Shared) (u : Value), BindsTo s fd ⟨[u], []⟩ [("_law_script", u)]) /\ ∀ base : Heap, (K w.params).In base -> base.Ns mainGlobals mg -> FnOk l.prog w (K w.params) mg base CX0 (0 + 2 * 9) fa fd ["_law_script"] (Qed (K w.params))) :
  W.WalkO q loose XP YP l.row.toRowW d [] (fun f vs=>PySem.call f vs):=
 L2.walk_of (n:=63) (k:=(0+2*9)) (x:="_law_script") (CX:=fun _=>CX0) (sp:=fun w=>Qed (K w.params)) hn (by decide) hdf ⟨rfl,by decide,by decide⟩ hY F (fun _ _ a ns hl hO hS=>⟨a,ns,rfl,hS,hO,hl,fun _=>rfl⟩) fun _ _ _ _ _ z=>z
end K21
open PySem PySem.W PyProof.Rows
set_option maxRecDepth 100000 in
set_option maxHeartbeats 0 in
theorem PySem.Challenge.cw_stitchroom_k21_one_row_holds : PySem.Challenge.rw_stitchroom_k21_one_row.Holds := by
 w_on;refine W.holds_law (by kernel_rfl) fun said=>?_
 refine holds_open (q:=K21.hq) (loose:=K21.hlo) (Xt:=K21.hXt) (XP:=XL K21.hq []) (Yf:=K21.hYf) (Ya:=K21.hYa) (YP:=Hook.says (kHook K21.K K21.KA K21.hKA)) (N:=10276) K21.hleft (Hook.of (kHook K21.K K21.KA K21.hKA)) (Hook.keeps (kHook K21.K K21.KA K21.hKA)) (fun s e=>xl_of s (Bool.and_eq_true_iff.mp e).1) XL.keeps (by rfl) (by rfl) (by rfl) (fun s e=>recFacts_of (Bool.and_eq_true_iff.mp e).2) (by rfl) (by first|assumption|decide +kernel) (by decide +kernel) ⟨rfl,rfl,rfl,rfl,rfl,by decide +kernel⟩ ?hw ?hc
 (case hw=>w_witness2)
 refine K21.walk (l:=PySem.Challenge.rw_stitchroom_k21_one_row) rfl rfl (fun w h Yyy=>W.kIn_of Yyy) ?F
 case F =>
  intro w mg fa h KX G hmg;exact K21.all_at w KX G hmg
