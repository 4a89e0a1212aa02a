import PyProof.Rows.All
import Wide.All
import OpenK.AllK
import Wide.FinOn
import PyProof.EqAt
import PyProof.EqKinds
import PyProof.TupleCall
import KE.KTryMore
import PyProof.ExcArgsOwn
import PyProof.ExcBaseAll.ValueError
import PyProof.ExcAttrAll.ValueError
import PyProof.InstStoreFacts
import PySem.Challenge.RW_stitchroom_k26_too_many_rows
set_option Elab.async false
set_option linter.all false
set_option maxRecDepth 100000
set_option maxHeartbeats 4000000
set_option bootstrap.genMatcherCode false
set_option compiler.extract_closed false
set_option genSizeOf false
def Xa:=@PySem.wpAny_bind
def Xb:=@PySem.Heap.get?_push_of_some
def Xc:=@Option.map_eq_some_iff
def Xd:=@Option.bind_eq_some_iff
def Xe:=@Nat.le_refl
def Xf:=@List.getElem?_eq_some_iff
def Xg:=@Bool.and_eq_true
def Xh:=@Bool.false_ne_true
def Xi:=@PySem.wpAny_pure
def Xj:=@List.getElem?_eq_getElem
def Xk:=@List.mem_cons_of_mem
def Xl:=@PySem.Heap.lt_size
def Xm:=@List.mem_cons
def Xn:=@Option.some.inj
def Xo:=@List.mem_cons_self
def Xp:=@List.size_toArray
def Xq:=@decide_eq_true_eq
def Xr:=@PySem.Heap.get?_push_size
def Xs:=@List.getElem?_append_left
def Xu:=@Nat.lt_of_lt_of_le
def Xv:=@List.length_append
def Xw:=@List.all_eq_true
def Xy:=@decide_eq_false
def Xz:=@PySem.wpAny_mono
def X0:=@List.mem_of_getElem?
def X1:=@PySem.Heap.size_push
def X2:=@Nat.le_trans
def X3:=@List.getElem?_append_right
def X4:=@Nat.ne_of_lt
def X5:=@List.mem_singleton
def X6:=@List.length_map
def X7:=@List.map_cons
def X8:=@List.getElem?_set_ne
def X9:=@decide_eq_true
def Wa:=@PySem.wpAny_field
def Wb:=@List.mem_append_right
def Wd:=@List.getElem?_set_self
def We:=@beq_iff_eq
def Wf:=@List.take_of_length_le
def Wg:=@PySem.wpAny_seqItems
def Wh:=@List.replicate_succ
def Wi:=@Option.ite_none_right_eq_some
def Wj:=@Bool.and_eq_true_iff
def Wl:=@List.getElem?_eq_none
def Wm:=@List.take_add_one
def Wn:=@of_decide_eq_true
def Wo:=@if_true
def Wp:=@PySem.wpAny_setField_rec
def Wq:=@Nat.zero_le
def Wr:=@PySem.wpAny_pyIter_list
def Wt:=@List.getElem?_map
def Wu:=@List.flatten_cons
def Wv:=@Nat.zero_add
def Ww:=@PyProof.Rows.callWith_type1
def Wx:=@PySem.wpAny_Call_Name_kw
def Wy:=@Ne.symm
def Wz:=@PySem.wpAny_callSpecial?_slot
def W3:=@beq_eq_false_iff_ne
def W4:=@List.append_nil
def W5:=@List.set_append_right
def W6:=@Nat.lt_succ_self
def W7:=@Option.isSome_iff_exists
def W8:=@Option.getD_some
def W9:=@Bool.false_eq_true
def Va:=@List.lookup_cons
def Vb:=@Nat.lt_irrefl
def Vc:=@List.append_assoc
def Vd:=@List.length_range
def Ve:=@List.length_cons
def Vf:=@PySem.Heap.IsList.push
def Vg:=@List.not_mem_nil
def Vh:=@List.take_append_drop
def Vi:=@List.contains_iff_mem
def Vj:=@PySem.F.slot_zip_next
def Vk:=@PySem.wpAny_newObj_type
def Vl:=@Option.some.injEq
def Vm:=@PySem.wpAny_onRaise
def Vn:=@List.length_take
def Vo:=@PySem.wpAny_call_entry
def Vq:=@PySem.wpAny_pyIter_tuple
def Vr:=@PySem.W.kia_one
def Vs:=@Int.natCast_mul
def Vt:=@PySem.F.excBase_ValueError
def Vu:=@PySem.F.slot_tuple_iterator_next
def Vv:=@Nat.add_assoc
def Vw:=@Bool.not_eq_true'
def Vx:=@List.getElem?_eq_none_iff
def Vy:=@PySem.mem_of_lookup
def Vz:=@List.getElem?_range
def V0:=@List.flatten_append
def V1:=@PyProof.Rows.slot_tuple_getitem
def V2:=@PySem.wpAny_holding
def V3:=@List.sum_cons
def V4:=@Bool.or_eq_true
def V5:=@List.map_append
def V6:=@Int.mul_le_mul_of_nonneg_right
def V7:=@if_false
def V8:=@PySem.wpAny_truthy_bool
def V9:=@PySem.Heap.get?_update_self
def Ua:=@List.length_singleton
def Ub:=@Nat.sub_self
def Uc:=@Prod.ext
def Ud:=@List.getElem?_of_mem
def Ue:=@Nat.mul_le_mul_right
def Uf:=@PySem.Calls.Name_function_global
def Ug:=@PySem.wpAny_attempt
def Uh:=@Nat.le_succ
def Ui:=@PySem.wpAny_letGo
def Uj:=@List.mem_append
def Uk:=@PySem.wpAny_execs_nil
def Ul:=@PySem.wpAny_passesOwn
def Um:=@List.of_mem_zip
def Uo:=@List.forIn_cons
def Up:=@List.length_zip
def Uq:=@PySem.codeAny_mono
def Ur:=@PySem.F.args_tuple_add_2
def Us:=@List.zip_cons_cons
def Ut:=@PySem.wpAny_call
def Uu:=@List.forIn_nil
def Uv:=@List.getElem?_replicate
def Uw:=@PySem.F.entry_tuple_add
def Ux:=@PySem.F.plainAttrs_list
def Uy:=@Nat.add_sub_cancel_left
def Uz:=@PySem.F.args_zip_next_1
def U0:=@PySem.F.slot_tuple_add
def U1:=@Option.map_eq_none_iff
def U2:=@Nat.le_of_not_lt
def U3:=@List.zipIdx_cons
def U4:=@PySem.F.entry_zip_next
def U5:=@PySem.wpAny_pyIter_zip
def U6:=@or_false
def U7:=@List.lookup_cons_self
def U8:=@Bool.eq_iff_iff
def U9:=@List.nodup_cons
def Tc:=@Nat.succ_mul
def Td:=@Prod.ext_iff
def Te:=@Option.map_some
def Th:=@List.length_nil
def Ti:=@List.zipIdx_nil
def Tj:=@Int.natCast_add
def Tk:=@List.filterMap_cons
def Tl:=@Array.length_toList
def Tn:=@Int.toNat_of_nonneg
def To:=@List.mem_filterMap
def Tp:=@Int.mul_assoc
def Znn{α:Type}{P:Prop}{x:α}(h:(none:Option α)=some x):P:=nomatch h
namespace L2
open PySem PySem.Spec PyProof.Rows
section
abbrev Key:=Sum Int Str
noncomputable def QaS:Key->Value->Bool
 |.inl k,v=>Value.isInt k v
 |.inr x,v=>Value.isStrOf x v
noncomputable def Qob(w:World):Key->Int
 |.inl k=>hashInt k
 |.inr x=>hashStr w x
def QF:∀{k:Key} {v:Value},QaS k v=true->(∃i t,k=Sum.inl i/\v=Value.int i t)\/(∃x t,k=Sum.inr x/\v=Value.str x t)
 |.inl i,v,h=>by
  obtain⟨t,e⟩:=Value.isInt_shape (k:=i) (v:=v) h;exact .inl ⟨i,t,rfl,e⟩
 |.inr x,v,h=>by
  obtain⟨t,e⟩:=Value.isStrOf_shape (x:=x) (v:=v) h;exact .inr ⟨x,t,rfl,e⟩
def QdI(i:Int)(t:Tok):QaS (.inl i) (.int i t)=true:=by simp[QaS,Value.isInt]
def QdH(x:Str)(t:Tok):QaS (.inr x) (.str x t)=true:=by simp[QaS,Value.isStrOf]
def Qkt(a b:Int):decide ((Sum.inl a:Key)=Sum.inl b)=(a==b):=by
 by_cases e:a=b
 ·subst e;simp
 ·have h:¬(Sum.inl a:Key)=Sum.inl b:=λq=>e (Sum.inl.inj q);rw[Xy h];exact(W3.mpr e).symm
def Qkq(a b:Str):decide ((Sum.inr a:Key)=Sum.inr b)=decide (a=b):=by
 by_cases e:a=b
 ·subst e;simp
 ·have h:¬(Sum.inr a:Key)=Sum.inr b:=λq=>e (Sum.inr.inj q);rw[Xy h,Xy e]
def Qks(a:Int)(b:Str):decide ((Sum.inl a:Key)=Sum.inr b)=false:=Xy (λq=>nomatch q)
def Qkr(a:Str)(b:Int):decide ((Sum.inr a:Key)=Sum.inl b)=false:=Xy (λq=>nomatch q)
noncomputable def Yw(prog:Program)(w:World):PySem.KeyKind prog w Key where
 is:=QaS
 hash:=Qob w
 inj:=λv a b ha hb=>by
  rcases QF ha with⟨i,t,rfl,rfl⟩|⟨x,t,rfl,rfl⟩
  ·rcases QF hb with⟨j,u,rfl,e⟩|⟨y,u,rfl,e⟩
   ·injection e with e1 _;rw[e1]
   ·exact nomatch e
  ·rcases QF hb with⟨j,u,rfl,e⟩|⟨y,u,rfl,e⟩
   ·exact nomatch e
   ·injection e with e1 _;rw[e1]
 byValue:=λk v h=>by
  rcases QF h with⟨i,t,rfl,rfl⟩|⟨x,t,rfl,rfl⟩<;>rfl
 pyHash:=λhv h=>by
  rcases QF hv with⟨i,t,rfl,rfl⟩|⟨x,t,rfl,rfl⟩
  ·exact wpAny_pyHash_int h
  ·exact wpAny_pyHash_str h
 eqBool:=λhu hv h=>by
  rcases QF hu with⟨i,t,rfl,rfl⟩|⟨x,t,rfl,rfl⟩
  ·rcases QF hv with⟨j,u,rfl,rfl⟩|⟨y,u,rfl,rfl⟩
   ·rw[Qkt]at h;exact wpAny_eqBool_int h
   ·rw[Qks]at h;exact SeqAt.EqAt.int_str i t y u _ _ _ _ h
  ·rcases QF hv with⟨j,u,rfl,rfl⟩|⟨y,u,rfl,rfl⟩
   ·rw[Qkr]at h;exact SeqAt.EqAt.str_int x t j u _ _ _ _ h
   ·rw[Qkq]at h;exact wpAny_eqBool_str h
 «strs»:=λk x t v h=>by
  rcases QF h with⟨i,u,rfl,e⟩|⟨y,u,rfl,e⟩
  ·exact nomatch e
  ·injection e with e1 _;subst e1;cases v<;>rfl
end
section
variable {a:Addr}{h h':Heap}{us:List Value}{P:Program}{α β:Type}{w:World}
inductive V where
 |non|bl (b:Bool)|int (i:Int)|str (x:Str)|byt (b:Array UInt8)|flt (b:UInt64)|ref (a:Addr)|ty (n:String)
 deriving DecidableEq
def RelV:V->Value->Prop
 |.non,u=>u=Value.none
 |.bl b,u=>u=Value.bool b
 |.int i,u=>∃t,u=Value.int i t
 |.str x,u=>∃t,u=Value.str x t
 |.byt b,u=>∃t,u=Value.bytes b t
 |.flt b,u=>∃t,u=Value.float b t
 |.ref a,u=>u=Value.ref a
 |.ty n,u=>u=Value.type n
abbrev Vals:List V->List Value->Prop:=Paired RelV
theorem Vals.length{xs:List V}(r:Vals xs us):xs.length=us.length:=Paired.length r
def Qdi{P:α->β->Prop}{l l':List α}{r r':List β}(h:Paired P l r)(h':Paired P l' r'):Paired P (l++l') (r++r'):=by
 induction h with
 |nil=>exact h'
 |cons a _ ih=>exact .cons a ih
def QaJ{P:α->β->Prop}{l:List α}{r:List β}(h:Paired P l r)(n:Nat):Paired P (l.take n) (r.take n):=by
 induction h generalizing n with
 |nil=>rw[List.take_nil,List.take_nil];exact .nil
 |cons a _ ih=>
  cases n with
  |zero=>exact .nil
  |succ n=>exact .cons a (ih n)
def QaK{P:α->β->Prop}{l:List α}{r:List β}(h:Paired P l r)(n:Nat):Paired P (l.drop n) (r.drop n):=by
 induction h generalizing n with
 |nil=>rw[List.drop_nil,List.drop_nil];exact .nil
 |cons a t ih=>
  cases n with
  |zero=>exact .cons a t
  |succ n=>exact ih n
def Zb{P:α->β->Prop}{l:List α}{r:List β}{i:Nat}{a:α}(h:Paired P l r)(e:l[i]?=some a):∃b,r[i]?=some b/\P a b:=by
 induction h generalizing i with
 |nil=>cases e
 |cons x _ ih=>
  cases i with
  |zero=>cases(show some _=some _ from e);exact⟨_,rfl,x⟩
  |succ i=>exact ih e
def Vals.get{xs:List V}{i:Nat}{x:V}(h:Vals xs us)(e:xs[i]?=some x):∃u,us[i]?=some u/\RelV x u:=Zb h e
theorem Vals.set{x:V}{u:Value}(r:RelV x u):∀{xs:List V} {us:List Value} (i:Nat),Vals xs us->Vals (xs.set i x) (us.set i u)
 |_,_,_,.nil=>.nil
 |_,_,0,.cons _ t=>.cons r t
 |_,_,i+1,.cons q t=>.cons q (Vals.set r i t)
def Vals.append{xs ys:List V}{ws:List Value}(h:Vals xs us)(h':Vals ys ws):Vals (xs++ys) (us++ws):=Qdi h h'
theorem Vals.take{xs:List V}(n:Nat)(h:Vals xs us):Vals (xs.take n) (us.take n):=QaJ h n
theorem Vals.drop{xs:List V}(n:Nat)(h:Vals xs us):Vals (xs.drop n) (us.drop n):=QaK h n
def RelO:Option V->Option Value->Prop
 |some v,some u=>RelV v u
 |none,none=>True
 |_,_=>False
def KV{κ:Type}:List (κ×V)->List (κ×Value)->Prop:=Paired λ(p:κ×V) (q:κ×Value)=>p.1=q.1/\RelV p.2 q.2
noncomputable def kV:Key->V
 |.inl i=>.int i
 |.inr x=>.str x
inductive HO where
 /-- a list -/
 |lst (xs:List V)
 /-- a tuple (never changes) -/
 |tup (xs:List V)
 /-- a dict whose keys are ints and texts;one whose keys are tuples of ints and texts (the empty one is both) -/
 |dK (kvs:List (Key×V))|dT (kvs:List (List Key×V))
 /-- a set of ints: its members,its size -/
 |set (S:Int->Bool) (n:Nat)
 /-- an instance of the class at C,its dict at dx,its attributes -/
 |ins (C dx:Addr) (fs:List (Str×V))
 /-- the dict of the instance at x -/
 |own (x:Addr)
 /-- the dict of an exception -/
 |xd (fs:List (Str×V))
 /-- a bound method,f of x -/
 |met (f x:Addr)
 /-- a range object lo,lo+1,.. below hi -/
 |rng (lo hi:Int)
 /-- a thing that is known to the object (the script;a dict while a loop walks it): read,never written while it is so -/
 |frz (o:Obj) (u:HO)
 /-- a code object's table -/
 |tbl (ps:Array Value)
 /-- any other thing,by what is true of its one object (a def of one's own: SetO a S n:=HO.ext λh=>..) -/
 |ext (φ:Heap->Prop)
abbrev Hp:=Addr->Option HO
noncomputable def upd(H:Hp)(a:Addr)(o:HO):Hp:=λb=>if b=a then some o else H b
def Qp{H:Hp}{o:HO}:upd H a o a=some o:=by unfold upd;rw[if_pos rfl]
def Qe{H:Hp}{b:Addr}{o:HO}(h:b≠a):upd H a o b=H b:=by unfold upd;rw[if_neg h]
def Q8{H:Hp}{b:Addr}{o:HO}(h:H a=some o)(h':H b=none):a≠b:=by
 intro e;subst e;rw[h]at h';cases h'
section
variable (P:Program)(w:World)
def ObjOk(H:Hp)(h:Heap)(a:Addr):HO->Prop
 |.lst xs=>xs.length<=sizeLine/\∃(its:List Value) (n:Nat),Vals xs its/\h.get? a=some {cls:=.type "list",data:=.seq its.toArray n}
 |.tup xs=>xs.length<=sizeLine/\∃its:List Value,Vals xs its/\IsTup h a its.toArray
 |.dK kvs=>kvs.length<=sizeLine/\(a==sysModules)=false/\∃vs,KV kvs vs/\h.DictOf (Yw P w) a vs
 |.dT kvs=>kvs.length<=sizeLine/\(a==sysModules)=false/\∃xs:List (List Key×Addr×Value),
   Paired (λ(p:List Key×V) (q:List Key×Addr×Value)=>p.1=q.1/\H q.2.1=some (.tup (p.1.map kV))/\RelV p.2 q.2.2) kvs xs /\
   ∃o es ep,h.get? a=some o/\o.ExactDict/\o.data=.dict es ep/\es.toList=xs.map (entryOfKey (tupleKind (Yw P w)))/\(xs.map (·.1)).Nodup
 |.set S n=>h.SetOf (intKind P w) a S n
 |.ins C dx fs=>H dx=some (.own a)/\fs.length<=1000/\dx≠a/\h.get? a=some (W.instObj C dx) /\
   ∃mA,h.Ns1 dx mA/\(∀f,RelO (fs.lookup f) (mA f))/\PySem.Within mA (fs.map (·.1))
 |.own _=>∃o,h.get? a=some o
 |.xd fs=>∃mA,h.Ns1 a mA/\∀f,RelO (fs.lookup f) (mA f)
 |.rng lo hi=>∃t u v,h.get? a=some {cls:=.type "range",data:=.fields #[.int lo t,.int hi u,.int 1 v]}
 |.frz o u=>h.get? a=some o/\ObjOk H h a u
 |.tbl ps=>h.get? a=some {cls:=.none,data:=.fields ps}
 |.met f x=>h.get? a=some (W.methodObj (.ref f) (.ref x))
 |.ext φ=>φ h/\(∃o,h.get? a=some o)/\∀h1 h2:Heap,φ h1->(∀o,h1.get? a=some o->h2.get? a=some o)->φ h2
def HOk(H:Hp)(h:Heap):Prop:=∀a o,H a=some o->ObjOk P w H h a o
end
section
variable {H H':Hp}{o:HO}
theorem ObjOk.lt(x:ObjOk P w H h a o):a<h.objs.size:=by
 cases o with
 |lst xs=>obtain⟨_,_,_,_,e⟩:=x;exact Xl e
 |tup xs=>obtain⟨_,_,_,p⟩:=x;exact p.lt
 |dK kvs=>obtain⟨_,_,_,_,o,_,_,e,_⟩:=x;exact Xl e
 |dT kvs=>obtain⟨_,_,_,_,o,_,_,e,_⟩:=x;exact Xl e
 |set S n=>obtain⟨o,_,_,_,e,_⟩:=x;exact Xl e
 |ins C dx fs=>obtain⟨_,_,_,e,_⟩:=x;exact Xl e
 |own y=>obtain⟨_,e⟩:=x;exact Xl e
 |xd fs=>obtain⟨_,⟨_,_,_,e,_⟩,_⟩:=x;exact Xl e
 |rng lo hi=>obtain⟨_,_,_,e⟩:=x;exact Xl e
 |frz ob u=>obtain⟨e,_⟩:=x;exact Xl e
 |tbl ps=>exact Xl (show h.get? a=some _ from x)
 |met f y=>exact Xl (show h.get? a=some _ from x)
 |ext φ=>obtain⟨_,⟨_,e⟩,_⟩:=x;exact Xl e
def Paired.mapP{F G:α->β->Prop}{l₁:List α}{l₂:List β}(h:Paired F l₁ l₂)(f:∀a b,F a b->G a b):Paired G l₁ l₂:=PySem.Paired.mono f h
def ObjOk.stay(x:ObjOk P w H h a o)(k:∀b u,(b=a\/H b=some (.own a))->h.get? b=some u->h'.get? b=some u)
  (ho:∀b,H b=some (.own a)->H' b=some (.own a)) (ht:∀b xs,H b=some (.tup xs)->H' b=some (.tup xs)):ObjOk P w H' h' a o:=by
 induction o with
 |lst xs=>obtain⟨z,its,n,r,e⟩:=x;exact⟨z,its,n,r,k _ _ (.inl rfl) e⟩
 |tup xs=>obtain⟨z,its,r,ob,e,c⟩:=x;exact⟨z,its,r,ob,k _ _ (.inl rfl) e,c⟩
 |dK kvs=>obtain⟨z,y,vs,r,ob,es,ep,e,c⟩:=x;exact⟨z,y,vs,r,ob,es,ep,k _ _ (.inl rfl) e,c⟩
 |dT kvs=>
  obtain⟨z,y,xs,r,ob,es,ep,e,c⟩:=x;exact⟨z,y,xs,Paired.mapP r λp q z=>⟨z.1,ht _ _ z.2.1,z.2.2⟩,ob,es,ep,k _ _ (.inl rfl) e,c⟩
 |set S n=>obtain⟨ob,es,ep,t,e,c⟩:=x;exact⟨ob,es,ep,t,k _ _ (.inl rfl) e,c⟩
 |ins C dx fs=>
  obtain⟨d,z,ne,e,mA,⟨od,es,ep,e2,c⟩,r⟩:=x;exact⟨ho _ d,z,ne,k _ _ (.inl rfl) e,mA,⟨od,es,ep,k _ _ (.inr d) e2,c⟩,r⟩
 |own y=>obtain⟨ob,e⟩:=x;exact⟨ob,k _ _ (.inl rfl) e⟩
 |xd fs=>obtain⟨mA,⟨od,es,ep,e,c⟩,r⟩:=x;exact⟨mA,⟨od,es,ep,k _ _ (.inl rfl) e,c⟩,r⟩
 |rng lo hi=>obtain⟨t,u,v,e⟩:=x;exact⟨t,u,v,k _ _ (.inl rfl) e⟩
 |frz ob u ih=>obtain⟨e,q⟩:=x;exact⟨k _ _ (.inl rfl) e,ih q⟩
 |tbl ps=>
  have e:h.get? a=some {cls:=.none,data:=.fields ps}:=x;show h'.get? a=some {cls:=.none,data:=.fields ps};exact k a _ (.inl rfl) e
 |met f y=>
  have e:h.get? a=some (W.methodObj (.ref f) (.ref y)):=x;show h'.get? a=some (W.methodObj (.ref f) (.ref y));exact k a _ (.inl rfl) e
 |ext φ=>obtain⟨p,⟨o,e⟩,st⟩:=x;exact⟨st _ _ p λo q=>k _ _ (.inl rfl) q,⟨o,k _ _ (.inl rfl) e⟩,st⟩
theorem HOk.lt(x:HOk P w H h)(e:H a=some o):a<h.objs.size:=(x a o e).lt
def HOk.fresh(x:HOk P w H h)(e:h.objs.size<=a):H a=none:=by
 cases q:H a with
 |none=>rfl
 |some u=>exact absurd (Xu (x.lt q) e) (Vb _)
def HOk.kept(x:HOk P w H h)(k:∀b u,h.get? b=some u->h'.get? b=some u):HOk P w H h':=λa o e=>
 (x a o e).stay (λb u z q=>k b u q) (λz q=>q) λz z q=>q
def HOk.laid(x:HOk P w H h)(k:∀b u,h.get? b=some u->h'.get? b=some u)(hp:h.objs.size<=a)(new:ObjOk P w (upd H a o) h' a o):HOk P w (upd H a o) h':=λb u e=>by
 have hn:=x.fresh hp;by_cases hb:b=a
 ·subst hb;rw[Qp]at e;cases e;exact new
 ·rw[Qe hb]at e
  exact(x b u e).stay (λc v z q=>k c v q) (λc q=>by rw[Qe (Q8 q hn)];exact q) λc xs q=>by rw[Qe (Q8 q hn)];exact q
end
def Rd(H:Hp)(a:Addr)(u:HO):Prop:=H a=some u\/∃o,H a=some (.frz o u)
def Rd.ok{H:Hp}{u:HO}(r:Rd H a u)(x:HOk P w H h):ObjOk P w H h a u:=by
 rcases r with r|⟨o,r⟩
 ·exact x a u r
 ·obtain⟨_,q⟩:=x a _ r;exact q
def Mut:Option HO->Prop
 |some (.lst _)=>True
 |some (.dK _)=>True
 |some (.dT _)=>True
 |some (.set _ _)=>True
 |some (.ins _ _ _)=>True
 |some (.ext _)=>True
 |_=>False
section
variable {H:Hp}{x e:Addr}{o':HO}
def HOk.write(ok:HOk P w H h)(mu:Mut (H x))(he:e=x\/H e=some (.own x))(k:∀b u,b≠e->h.get? b=some u->h'.get? b=some u)(heo:∃u,h'.get? e=some u)
  (new:ObjOk P w (upd H x o') h' x o'):HOk P w (upd H x o') h':=λb u q=>by
 have nown:∀c y,H c=some (.own y)->c≠x:=λc y r z=>by subst z;rw[r]at mu;exact mu
 have ntup:∀c xs,H c=some (.tup xs)->c≠x:=λc xs r z=>by subst z;rw[r]at mu;exact mu
 by_cases hb:b=x
 ·subst hb;rw[Qp]at q;cases q;exact new
 ·rw[Qe hb]at q;by_cases hbe:b=e
  ·have q':H b=some (.own x):=by
    rcases he with z|z
    ·exact absurd (hbe.trans z) hb
    ·rw[hbe];exact z
   rw[q]at q';cases q';obtain⟨v,hv⟩:=heo
   exact⟨v,by rw[hbe];exact hv⟩
  ·refine(ok b u q).stay (λc v hc r=>k c v ?_ r) (λc r=>by rw[Qe (nown c b r)];exact r) λc xs r=>by rw[Qe (ntup c xs r)];exact r
   rcases hc with rfl|hc
   ·exact hbe
   ·rintro rfl
    rcases he with z|z
    ·exact nown c b hc z
    ·rw[hc]at z;cases z;exact hb rfl
end
structure Un(fs ex:List Addr)(H H':Hp)(h h':Heap):Prop where
 keep:∀b o,h.get? b=some o->H b=none->b∉fs->b∉ex->h'.get? b=some o
 slot:∀b o,h.get? b=some o->H b=none->b∈fs->b∉ex->∃sl,h'.get? b=some {o with slots:=sl}
 free:∀b o,h.get? b=some o->H b=none->b∉ex->H' b=none
 there:∀b o,h.get? b=some o->b∉ex->∃o',h'.get? b=some o'
 tups:∀b xs,H b=some (.tup xs)->H' b=some (.tup xs)
 frzs:∀b o u,H b=some (.frz o u)->H' b=some (.frz o u)
 tbls:∀b ps,H b=some (.tbl ps)->∃more,H' b=some (.tbl (ps++more))
section
variable {fs ex:List Addr}{H H1:Hp}{h1:Heap}{x e:Addr}{o:HO}
def Un.any(u:Un fs ex H H1 h h1){b:Addr}{ob:Obj}(q:h.get? b=some ob)(n:H b=none)(hx:b∉ex):∃sl,h1.get? b=some {ob with slots:=sl}:=by
 by_cases hb:b∈fs
 ·exact u.slot b ob q n hb hx
 ·exact⟨ob.slots,u.keep b ob q n hb hx⟩
def Un.kept(k:∀b u,h.get? b=some u->h'.get? b=some u):Un fs ex H H h h' :=
 ⟨λb ob q z z z=>k b ob q,λb ob q z z z=>⟨ob.slots,k b ob q⟩,λz z z n z=>n,λb ob q z=>⟨ob,k b ob q⟩,λz z q=>q,λz z z q=>q,λz ps q=>⟨#[],by rw[q];simp⟩⟩
def Un.refl:Un fs ex H H h h:=Un.kept λz z q=>q
def Un.laid(k:∀b u,h.get? b=some u->h'.get? b=some u)(hp:h.objs.size<=a)(hn:H a=none):Un fs ex H (upd H a o) h h' where
 keep:=λb u q z z z=>k b u q
 slot:=λb u q z z z=>⟨u.slots,k b u q⟩
 free:=λb u q n z=>by rw[Qe (X4 (Xu (Xl q) hp))];exact n
 there:=λb u q z=>⟨u,k b u q⟩
 tups:=λb xs q=>by rw[Qe (Q8 q hn)];exact q
 frzs:=λb u xs q=>by rw[Qe (Q8 q hn)];exact q
 tbls:=λb ps q=>⟨#[],by rw[Qe (Q8 q hn),q];simp⟩
def Un.write(mu:Mut (H x))(he:e=x\/H e=some (.own x))(k:∀b u,b≠e->h.get? b=some u->h'.get? b=some u)(heo:∃u,h'.get? e=some u):Un fs ex H (upd H x o) h h':=by
 have hx:∀b,H b=none->b≠x:=λb n z=>by subst z;rw[n]at mu;exact mu
 have hb:∀b,H b=none->b≠e:=λb n z=>by
  subst z
  rcases he with r|r
  ·exact hx b n r
  ·rw[n]at r;cases r
 have hm:∀b u,H b=some u->¬Mut (some u)->b≠x:=λb u q nm z=>by subst z;rw[q]at mu;exact nm mu
 refine⟨λb u q n y y=>k b u (hb b n) q,λb u q n y y=>⟨u.slots,k b u (hb b n) q⟩,λb u q n y=>by rw[Qe (hx b n)];exact n,λb u q y=>?_,
  λb xs q=>by rw[Qe (hm b _ q λz=>z)];exact q,λb u xs q=>by rw[Qe (hm b _ q λz=>z)];exact q,λb ps q=>⟨#[],by rw[Qe (hm b _ q λz=>z),q];simp⟩⟩
 by_cases hbe:b=e
 ·subst hbe;exact heo
 ·exact⟨u,k b u hbe q⟩
end
noncomputable def trk(h:Heap)(H:Hp):List Addr:=(List.range h.objs.size).filter λa=>(H a).isSome
noncomputable def Qfu(h:Heap)(H:Hp):Heap:=W.hideAll h (trk h H)
def QdO(h:Heap)(H:Hp):(Qfu h H).objs.size=h.objs.size:=W.hideAll_size _ _
def Qft{H:Hp}{b:Addr}{o:Obj}(e:h.get? b=some o)(n:H b=none):(Qfu h H).get? b=some o :=
 W.hideAll_get _ e λhm=>by
  have q:(H b).isSome=true:=(List.mem_filter.mp hm).2;rw[n]at q;simp at q
def QhF{H:Hp}{b:Addr}{o:Obj}(e:(Qfu h H).get? b=some o):h.get? b=some o/\H b=none:=by
 have e':h.get? b=some o:=W.of_hideAll (trk h H) e;refine⟨e',?_⟩
 cases q:H b with
 |none=>rfl
 |some x=>
  have hm:b∈trk h H:=List.mem_filter.mpr ⟨List.mem_range.mpr (Xl e'),by simp[q]⟩
  have z:(Qfu h H).get? b=none:=W.hideAll_none (trk h H) hm;rw[z]at e;cases e
end
section
variable {A:Around}{ch:List Addr}{M:Model}{i t':Nat}{x:Str}
structure Mod(K:W.Frag)(mg:Str->Option Value)(base:Heap):Prop where
 kin:K.In base
 glob:base.Ns mainGlobals mg
 blt:∃mb,base.Ns builtinsNs mb/\∀x:Str,x≠"__name__"->mb x=bootBuiltins x
 nolimit:base.NoLimit
structure Cx where
 prog:Program
 w:World
 K:W.Frag
 mg:Str->Option Value
 base:Heap
 A:Around
 N:List Str
 s₀:Shared
 H₀:Hp
 env:Env
 outer:List Env
 stack:List Env
 ex:List Addr
 fn:Str->Bool
 calm:Bool
 pn:List (Addr×Obj)
 xe:Value->Shared->Prop
noncomputable def frs(l:List Env):List Addr:=l.filterMap (·.frame)
noncomputable abbrev Cx.fs(X:Cx):List Addr:=frs X.outer
def Vis(sc:Scope)(x:Str):Prop:=sc.names.lookup x=some .local\/sc.names.lookup x=some .cell\/sc.names.lookup x=some .free
def Loc(sc:Scope)(x:Str):Prop:=sc.names.lookup x=some .local\/sc.names.lookup x=some .cell
noncomputable def QpK(env:Env)(h:Heap)(m:Str->Option Value)(x:Str)(u:Value):Prop :=
 (env.kindOf x=some .local/\m x=some u)\/((env.kindOf x=some .cell\/env.kindOf x=some .free)/\∃c,env.cells.lookup x=some c/\h.IsCell c (some u))
structure Cx.Ok(X:Cx):Prop where
 mod:Mod X.K X.mg X.base
 kind:X.env.scope.kind=.function
 glob:X.env.globals=mainGlobals
 blt:X.env.builtins=builtinsNs
 above:X.s₀.heap.objs.size<=X.env.locals
 inj:∀x y c,X.env.cells.lookup x=some c->X.env.cells.lookup y=some c->x=y
 has:∀x,(X.env.kindOf x=some .cell\/X.env.kindOf x=some .free)->∃c,X.env.cells.lookup x=some c
 cab:∀x c,X.fn x=true->X.env.cells.lookup x=some c->X.s₀.heap.objs.size<=c
 hd:X.calm=true->X.A.handled=none
 frames:X.A.frames=some X.stack
 stk:X.stack=X.outer\/(X.stack=X.env::X.outer/\X.env.frame=some X.env.locals)
 exf:∀b∈X.ex,b≠X.env.locals/\∀x c,X.env.cells.lookup x=some c->c≠b
 bs:∀b o,X.base.get? b=some o->X.s₀.heap.get? b=some o/\X.H₀ b=none
 bsz:X.base.objs.size<=X.s₀.heap.objs.size
 noex:∀b o,X.base.get? b=some o->b∉X.ex
 exfs:∀b∈X.ex,b∉X.fs
 funs:X.s₀.heap.FunFrames X.base X.outer
 frf:∀b∈X.fs,X.H₀ b=none
structure Inv(X:Cx)(pins:List (Addr×Obj))(Y:List (Option V))(H:Hp)(s:Shared):Prop where
 ok:X.Ok
 os:s.os=X.s₀.os
 bare:AllBare s.gens
 base:Un X.fs X.ex X.H₀ H X.s₀.heap s.heap
 loc:∃m,s.heap.Ns X.env.locals m/\∀(i:Nat) (x:Str) (v:V),X.N[i]?=some x->Y[i]?=some (some v)->Vis X.env.scope x->∃u,RelV v u/\QpK X.env s.heap m x u
 cell:∀x c,X.env.cells.lookup x=some c->∃v,s.heap.IsCell c v
 free:H X.env.locals=none
 freeC:∀x c,X.env.cells.lookup x=some c->H c=none
 pin:∀p∈X.pn++pins,s.heap.get? p.1=some p.2/\H p.1=none/\p.1≠X.env.locals/\p.1∉X.fs/\∀v,p.2.data≠.cell v
 hok:HOk X.prog X.w H s.heap
 len:Y.length=X.N.length
section
variable {X:Cx}{pins:List (Addr×Obj)}{Y:List (Option V)}{H H':Hp}{s:Shared}{h':Heap}
def Cx.Ok.nofr(ok:X.Ok){b:Addr}{o:Obj}(e:X.base.get? b=some o):b∉X.fs:=λhb=>by
 have:=(ok.funs.mem hb).1;rw[e]at this;cases this
theorem Inv.bs(I:Inv X pins Y H s):∀b o,X.base.get? b=some o->s.heap.get? b=some o/\H b=none:=λb o e=>
 ⟨I.base.keep b o (I.ok.bs b o e).1 (I.ok.bs b o e).2 (I.ok.nofr e) (I.ok.noex b o e),I.base.free b o (I.ok.bs b o e).1 (I.ok.bs b o e).2 (I.ok.noex b o e)⟩
def Inv.bk(I:Inv X pins Y H s):∀b o,X.base.get? b=some o->s.heap.get? b=some o:=λb o e=>(I.bs b o e).1
theorem Inv.mod(I:Inv X pins Y H s):Mod X.K X.mg X.base:=I.ok.mod
def Inv.kIn(I:Inv X pins Y H s):X.K.In s.heap:=I.ok.mod.kin.keeps I.bk
theorem Inv.lt(I:Inv X pins Y H s):X.env.locals<s.heap.objs.size:=by obtain⟨_,hn,_⟩:=I.loc;exact hn.lt
def Inv.sz(I:Inv X pins Y H s):X.s₀.heap.objs.size<=s.heap.objs.size:=X2 I.ok.above (Nat.le_of_lt I.lt)
def Inv.nofs(I:Inv X pins Y H s){a:Addr}(h:s.heap.objs.size<=a):a∉X.fs:=λhb=>by
 obtain⟨_,o,ho,_⟩:=I.ok.funs.mem hb;exact absurd (Xu (Xl ho) (X2 I.sz h)) (Vb _)
def Inv.cne(I:Inv X pins Y H s):∀x c,X.env.cells.lookup x=some c->c≠X.env.locals:=λx c e z=>by
 obtain⟨v,o,ho,hd⟩:=I.cell x c e;obtain⟨m,⟨o',es,ep,ho',hd',_⟩,_⟩:=I.loc;rw[z,ho']at ho;cases ho;rw[hd']at hd;cases hd
theorem Inv.funs(I:Inv X pins Y H s):s.heap.FunFrames X.base X.outer:=by
 have all:∀(l:List Env),(∀b∈frs l,b∈X.fs)->X.s₀.heap.FunFrames X.base l->s.heap.FunFrames X.base l:=by
  intro l
  induction l with
  |nil=>intro _ _;trivial
  |cons env r ih=>
   intro hs hl;obtain⟨hk,⟨L,o,hf,hn,ho,hd⟩,hr⟩:=hl
   have hL:L∈X.fs:=hs L (by unfold frs;rw[Tk,hf];exact Xo)
   obtain⟨sl,e⟩:=I.base.slot L o ho (I.ok.frf L hL) hL λz=>I.ok.exfs L z hL
   exact⟨hk,⟨L,_,hf,hn,e,hd⟩,ih (λb hb=>hs b (by unfold frs;rw[Tk,hf];exact Xk _ hb)) hr⟩
 exact all X.outer (λy hb=>hb) I.ok.funs
theorem Inv.stack(I:Inv X pins Y H s):s.heap.FunFrames X.base X.stack:=by
 rcases I.ok.stk with e|⟨e,hf⟩
 ·rw[e];exact I.funs
 ·rw[e];obtain⟨m,hn,_⟩:=I.loc
  refine .cons (by rw[I.ok.kind];decide) hf hn ?_ I.funs
  exact Heap.get?_none_of_le (X2 I.ok.bsz I.ok.above)
def Inv.stkSub(I:Inv X pins Y H s):∀b∈frs X.stack,b∈X.env.locals::X.fs:=λb hb=>by
 rcases I.ok.stk with e|⟨e,hf⟩
 ·rw[e]at hb;exact Xk _ hb
 ·rw[e]at hb;unfold frs at hb;rw[Tk,hf]at hb;exact hb
def Inv.stkFree(I:Inv X pins Y H s):∀b∈frs X.stack,H b=none:=λb hb=>by
 rcases Xm.mp (I.stkSub b hb)with e|hb
 ·rw[e];exact I.free
 ·obtain⟨_,o,ho,_⟩:=I.ok.funs.mem hb;exact I.base.free b o ho (I.ok.frf b hb) λz=>I.ok.exfs b z hb
def Inv.step{g':Array GenState}{d':Drawn}(I:Inv X pins Y H s)
  (hch:∀b∈ch,(b∈X.ex\/X.s₀.heap.objs.size<=b)/\b≠X.env.locals/\(∀x c,X.env.cells.lookup x=some c->c≠b)/\∀p∈X.pn++pins,p.1≠b)
  (keep:∀b o,b≠X.env.locals->b∉X.fs->b∉ch->s.heap.get? b=some o->H b=none->h'.get? b=some o)
  (slot:∀b o,b≠X.env.locals->b∈X.fs->b∉ch->s.heap.get? b=some o->H b=none->∃sl,h'.get? b=some {o with slots:=sl}) (free:∀b o,b∉ch->s.heap.get? b=some o->H b=none->H' b=none)
  (there:∀b o,b∉ch->s.heap.get? b=some o->∃o',h'.get? b=some o')
  (tups:∀b xs,H b=some (.tup xs)->H' b=some (.tup xs)) (frzs:∀b o u,H b=some (.frz o u)->H' b=some (.frz o u)) (tbls:∀b ps,H b=some (.tbl ps)->∃more,H' b=some (.tbl (ps++more)))
  (ns:∀m,s.heap.Ns X.env.locals m->h'.Ns X.env.locals m) (hok:HOk X.prog X.w H' h') (hg:AllBare g'):
  Inv X pins Y H' {s with heap:=h',gens:=g',drawn:=d',toks:=t'}:=by
 have neL:∀b o,X.s₀.heap.get? b=some o->b≠X.env.locals:=λb o e=>X4 (Xu (Xl e) I.ok.above)
 have neC:∀b o,X.s₀.heap.get? b=some o->b∉X.ex->b∉ch:=λb o e hx hb=>by
  rcases (hch b hb).1 with z|z
  ·exact hx z
  ·exact absurd (Xu (Xl e) z) (Vb _)
 have cellK:∀x c,X.env.cells.lookup x=some c->∀v,s.heap.IsCell c v->h'.IsCell c v:=λx c e v y=>by
  obtain⟨o,ho,hd⟩:=y
  have nch:c∉ch:=λz=>(hch c z).2.2.1 x c e rfl;by_cases hc:c∈X.fs
  ·obtain⟨sl,q⟩:=slot c o (I.cne x c e) hc nch ho (I.freeC x c e);exact⟨_,q,hd⟩
  ·exact⟨o,keep c o (I.cne x c e) hc nch ho (I.freeC x c e),hd⟩
 refine⟨I.ok,I.os,hg,⟨λb o e n hb hx=>?_,λb o e n hb hx=>?_,λb o e n hx=>?_,λb o e hx=>?_,λb xs e=>tups b xs (I.base.tups b xs e),λb o xs e=>frzs b o xs (I.base.frzs b o xs e),λb ps e=>?_⟩,?_,λx c e=>?_,?_,λx c e=>?_,λp hp=>?_,hok,I.len⟩
 ·exact keep b o (neL b o e) hb (neC b o e hx) (I.base.keep b o e n hb hx) (I.base.free b o e n hx)
 ·obtain⟨sl,e1⟩:=I.base.slot b o e n hb hx;obtain⟨sl',e2⟩:=slot b _ (neL b o e) hb (neC b o e hx) e1 (I.base.free b o e n hx);exact⟨sl',e2⟩
 ·obtain⟨o',e1⟩:=I.base.there b o e hx;exact free b o' (neC b o e hx) e1 (I.base.free b o e n hx)
 ·obtain⟨o',e1⟩:=I.base.there b o e hx;exact there b o' (neC b o e hx) e1
 ·obtain⟨m1,e1⟩:=I.base.tbls b ps e;obtain⟨m2,e2⟩:=tbls b _ e1
  exact⟨m1++m2,by rw[e2,Array.append_assoc]⟩
 ·obtain⟨m,hn,hl⟩:=I.loc;refine⟨m,ns m hn,λi x v e1 e2 e3=>?_⟩;obtain⟨u,r,l⟩:=hl i x v e1 e2 e3;refine⟨u,r,?_⟩
  rcases l with l|⟨k,c,e,z⟩
  ·exact .inl l
  ·exact .inr ⟨k,c,e,cellK x c e _ z⟩
 ·obtain⟨v,z⟩:=I.cell x c e;exact⟨v,cellK x c e v z⟩
 ·obtain⟨m,⟨o,_,_,ho,_⟩,_⟩:=I.loc;exact free _ o (λz=>(hch _ z).2.1 rfl) ho I.free
 ·obtain⟨v,o,ho,hd⟩:=I.cell x c e;exact free c o (λz=>(hch c z).2.2.1 x c e rfl) ho (I.freeC x c e)
 ·obtain⟨e,n,ne,nf,d⟩:=I.pin p hp;have nch:p.1∉ch:=λz=>(hch p.1 z).2.2.2 p hp rfl;exact⟨keep p.1 p.2 ne nf nch e n,free p.1 p.2 nch e n,ne,nf,d⟩
def Inv.un(I:Inv X pins Y H s)(u:Un X.fs [] H H' s.heap h')(hok:HOk X.prog X.w H' h'):Inv X pins Y H' {s with heap:=h',toks:=t'}:=by
 obtain⟨m,⟨o,es,ep,ho,r⟩,_⟩:=id I.loc
 obtain⟨sl,hL⟩:=u.any ho I.free (by simp)
 exact I.step (g':=s.gens) (d':=s.drawn) (ch:=[]) (λy z=>nomatch z) (λb o y hb y e n=>u.keep b o e n hb (by simp)) (λb o y hb y e n=>u.slot b o e n hb (by simp)) (λb o y e n=>u.free b o e n (by simp)) (λb o y e=>u.there b o e (by simp)) u.tups u.frzs u.tbls (λm' hm=>by
  obtain⟨o',es',ep',ho',r'⟩:=hm;rw[ho]at ho';cases ho'
  exact⟨_,es',ep',hL,r'⟩) hok I.bare
def Inv.call{g':Array GenState}{d':Drawn}(I:Inv X pins Y H s)(u:Un (frs X.stack) ch H H' s.heap h')(hok:HOk X.prog X.w H' h')(hg:AllBare g')
  (hch:∀b∈ch,(b∈X.ex\/X.s₀.heap.objs.size<=b)/\b≠X.env.locals/\(∀x c,X.env.cells.lookup x=some c->c≠b)/\∀p∈X.pn++pins,p.1≠b):
  Inv X pins Y H' {s with heap:=h',gens:=g',drawn:=d',toks:=t'}:=by
 obtain⟨m,⟨o,es,ep,ho,r⟩,_⟩:=id I.loc;obtain⟨sl,hL⟩:=u.any ho I.free λz=>(hch _ z).2.1 rfl
 exact I.step (ch:=ch) hch (λb o hL hb hc e n=>u.keep b o e n (λz=>(Xm.mp (I.stkSub b z)).elim hL hb) hc) (λb o y y hc e n=>u.any e n hc) (λb o hc e n=>u.free b o e n hc) (λb o hc e=>u.there b o e hc) u.tups u.frzs u.tbls (λm' hm=>by
  obtain⟨o',es',ep',ho',r'⟩:=hm;rw[ho]at ho';cases ho'
  exact⟨_,es',ep',hL,r'⟩) hok hg
def Inv.turned{it:Addr}(I:Inv X pins Y H s)(k:∀b o,b≠it->s.heap.get? b=some o->h'.get? b=some o)(hn:H it=none)(hL:it≠X.env.locals)
  (h1:it∈X.ex\/X.s₀.heap.objs.size<=it) (h2:∀x c,X.env.cells.lookup x=some c->c≠it) (h3:∀p∈X.pn++pins,p.1≠it):Inv X pins Y H {s with heap:=h',toks:=t'}:=by
 have nit:∀b u,H b=some u->b≠it:=λb u e z=>by rw[z,hn]at e;cases e
 refine I.step (g':=s.gens) (d':=s.drawn) (ch:=[it]) (λb hb=>?_) (λb o y y hc e y=>k b o (λz=>hc (by simp[z])) e) (λb o y y hc e y=>⟨o.slots,k b o (λz=>hc (by simp[z])) e⟩) (λy y y y n=>n)
  (λb o hc e=>⟨o,k b o (λz=>hc (by simp[z])) e⟩) (λy y e=>e) (λy y y e=>e) (λb ps e=>⟨#[],by rw[e];simp⟩) (λm hm=>?_) (λb u e=>?_) I.bare
 ·have e:b=it:=by simpa using hb
  subst e;exact⟨h1,hL,h2,h3⟩
 ·obtain⟨o,es,ep,ho,r⟩:=hm;exact⟨o,es,ep,k _ o (Wy hL) ho,r⟩
 ·refine(I.hok b u e).stay (λc v hc q=>k c v ?_ q) (λy q=>q) λy y q=>q
  rcases hc with z|z
  ·rw[z];exact nit b u e
  ·exact nit c _ z
def Inv.tok(I:Inv X pins Y H s)(t:Nat):Inv X pins Y H {s with toks:=t}:=I.un (h':=s.heap) (t':=t) Un.refl I.hok
theorem Inv.kept(I:Inv X pins Y H s)(k:∀b u,s.heap.get? b=some u->h'.get? b=some u):Inv X pins Y H {s with heap:=h',toks:=t'}:=I.un (Un.kept k) (I.hok.kept k)
theorem Inv.laid{a:Addr}{o:HO}(I:Inv X pins Y H s)(k:∀b u,s.heap.get? b=some u->h'.get? b=some u)(hp:s.heap.objs.size<=a)(new:ObjOk X.prog X.w (upd H a o) h' a o):
  Inv X pins Y (upd H a o) {s with heap:=h',toks:=t'}:=I.un (Un.laid k hp (I.hok.fresh hp)) (I.hok.laid k hp new)
theorem Inv.write{x e:Addr}{o:HO}(I:Inv X pins Y H s)(mu:Mut (H x))(he:e=x\/H e=some (.own x))(k:∀b u,b≠e->s.heap.get? b=some u->h'.get? b=some u)(heo:∃u,h'.get? e=some u)
  (new:ObjOk X.prog X.w (upd H x o) h' x o):Inv X pins Y (upd H x o) {s with heap:=h',toks:=t'}:=I.un (Un.write mu he k heo) (I.hok.write mu he k heo new)
def Inv.pins_of{pins':List (Addr×Obj)}(I:Inv X pins Y H s)(h:∀p∈pins',s.heap.get? p.1=some p.2/\H p.1=none/\p.1≠X.env.locals/\p.1∉X.fs/\∀v,p.2.data≠.cell v):Inv X pins' Y H s :=
 ⟨I.ok,I.os,I.bare,I.base,I.loc,I.cell,I.free,I.freeC,λp hp=>(Uj.mp hp).elim (λz=>I.pin p (List.mem_append_left _ z)) (h p),I.hok,I.len⟩
def Jn{N:List Str}(hN:N.Nodup){j:Nat}(a:N[i]?=some x)(b:N[j]?=some x):i=j:=by
 obtain⟨h1,e1⟩:=Xf.mp a;obtain⟨h2,e2⟩:=Xf.mp b;exact(List.getElem_inj hN).mp (e1.trans e2.symm)
def QcY{E:Value->Shared->Prop}{v:V}{u:Value}{Q:Unit->Shared->Prop}(I:Inv X pins Y H s)(hN:X.N.Nodup)(hi:X.N[i]?=some x)(hx:Loc X.env.scope x)(r:RelV v u)
  (h:∀s',Inv X pins (Y.set i (some v)) H s'->(∃a,Heap.SameBut a s.heap s'.heap/\(a=X.env.locals\/X.env.cells.lookup x=some a))->Q () s') (hf:X.fn x=true\/X.env.scope.names.lookup x=some .local:=by first|exact .inl rfl|exact .inr rfl|assumption):wpAny M A (storeName X.env x u) Q E s:=by
 obtain⟨m,hn,hl⟩:=id I.loc
 have hcls:(X.env.scope.kind==.class||(X.env.scope.kind==.module&&X.env.locals != X.env.globals))=false:=by rw[I.ok.kind];rfl
 have hiY:i < Y.length:=by rw[I.len];exact(Xf.mp hi).1
 have cne:=I.cne
 have tracked:∀{a:Addr} {h':Heap},(∃o,s.heap.get? a=some o/\H a=none)->Heap.SameBut a s.heap h'->HOk X.prog X.w H h':=λ{a h'} ha hs b ob e=>by
  obtain⟨_,_,hfree⟩:=ha;refine(I.hok b ob e).stay (λc w' hc q=>(hs.2 c ?_).trans q) (λt q=>q) λt t q=>q;rintro rfl
  rcases hc with rfl|hc
  ·rw[hfree]at e;cases e
  ·rw[hfree]at hc;cases hc
 rcases hx with hk|hk
 ·refine wpAny_storeName_local hk hn (λh' hn' hs=>?_) hcls;obtain⟨oL,_,_,hoL,_⟩:=id hn
  refine h _ ⟨I.ok,I.os,I.bare,⟨λb o e n hb hx=>?_,λb o e n hb hx=>?_,I.base.free,λb o e hx=>?_,I.base.tups,I.base.frzs,I.base.tbls⟩,⟨_,hn',λj y v' e1 e2 e3=>?_⟩,λy c e=>?_,I.free,I.freeC,λp hp=>?_,tracked ⟨oL,hoL,I.free⟩ hs,by simpa using I.len⟩ ⟨_,hs,.inl rfl⟩
  ·exact(hs.2 b (X4 (Xu (Xl e) I.ok.above))).trans (I.base.keep b o e n hb hx)
  ·obtain⟨sl,e1⟩:=I.base.slot b o e n hb hx;exact⟨sl,(hs.2 b (X4 (Xu (Xl e) I.ok.above))).trans e1⟩
  ·obtain⟨o',e1⟩:=I.base.there b o e hx;exact⟨o',(hs.2 b (X4 (Xu (Xl e) I.ok.above))).trans e1⟩
  ·by_cases hj:j=i
   ·subst hj;rw[hi]at e1;cases e1;rw[Wd hiY]at e2;cases e2
    exact⟨u,r,.inl ⟨hk,by simp⟩⟩
   ·rw[X8 (Wy hj)]at e2;obtain⟨u',r',q⟩:=hl j y v' e1 e2 e3;refine⟨u',r',?_⟩
    rcases q with⟨k,e⟩|⟨k,c,e,z⟩
    ·refine .inl ⟨k,?_⟩;have:y≠x:=λe=>hj (Jn hN e1 (e▸hi));simp[this,e]
    ·exact .inr ⟨k,c,e,z.sameBut hs (cne y c e)⟩
  ·obtain⟨w',z⟩:=I.cell y c e;exact⟨w',z.sameBut hs (cne y c e)⟩
  ·obtain⟨e,n,ne,nf,d⟩:=I.pin p hp;exact⟨(hs.2 p.1 ne).trans e,n,ne,nf,d⟩
 ·have hfn:X.fn x=true:=by
   rcases hf with z|z
   ·exact z
   ·rw[z]at hk;cases hk
  obtain⟨c,hc⟩:=I.ok.has x (.inl hk);obtain⟨w',z⟩:=I.cell x c hc;refine wpAny_storeName_cell I.ok.kind hk hc z (λh' hc' hs=>?_);obtain⟨oc,hoc,hocd⟩:=id z
  refine h {s with heap:=h'} ⟨I.ok,I.os,I.bare,⟨λb o e n hb hx=>?_,λb o e n hb hx=>?_,I.base.free,λb o e hx=>?_,I.base.tups,I.base.frzs,I.base.tbls⟩,⟨m,hn.sameBut hs (Wy (cne x c hc)),λj y v' e1 e2 e3=>?_⟩,λy c' e=>?_,I.free,I.freeC,λp hp=>?_,tracked ⟨oc,hoc,I.freeC x c hc⟩ hs,by simpa using I.len⟩ ⟨c,hs,.inr hc⟩
  ·exact(hs.2 b (X4 (Xu (Xl e) (I.ok.cab x c hfn hc)))).trans (I.base.keep b o e n hb hx)
  ·obtain⟨sl,e1⟩:=I.base.slot b o e n hb hx;exact⟨sl,(hs.2 b (X4 (Xu (Xl e) (I.ok.cab x c hfn hc)))).trans e1⟩
  ·obtain⟨o',e1⟩:=I.base.there b o e hx;exact⟨o',(hs.2 b (X4 (Xu (Xl e) (I.ok.cab x c hfn hc)))).trans e1⟩
  ·by_cases hj:j=i
   ·subst hj;rw[hi]at e1;cases e1;rw[Wd hiY]at e2;cases e2;exact⟨u,r,.inr ⟨.inl hk,c,hc,hc'⟩⟩
   ·rw[X8 (Wy hj)]at e2;obtain⟨u',r',q⟩:=hl j y v' e1 e2 e3;refine⟨u',r',?_⟩
    rcases q with q|⟨k,c',e,z'⟩
    ·exact .inl q
    ·refine .inr ⟨k,c',e,z'.sameBut hs ?_⟩;rintro rfl;exact hj (Jn hN e1 (I.ok.inj _ _ _ e hc▸hi))
  ·by_cases hcc:c'=c
   ·subst hcc;exact⟨_,hc'⟩
   ·obtain⟨w2,z2⟩:=I.cell y c' e;exact⟨w2,z2.sameBut hs hcc⟩
  ·obtain⟨e,n,ne,nf,d⟩:=I.pin p hp;refine⟨(hs.2 p.1 ?_).trans e,n,ne,nf,d⟩;intro q;rw[q,hoc]at e;have q':oc=p.2:=Xn e
   exact d w' (by rw[<-q'];exact hocd)
def Z8{E:Value->Shared->Prop}{v:V}{u:Value}{Q:Unit->Shared->Prop}(I:Inv X pins Y H s)(hN:X.N.Nodup)(hi:X.N[i]?=some x)(hx:Loc X.env.scope x)(r:RelV v u)
  (h:∀s',Inv X pins (Y.set i (some v)) H s'->Q () s') (hf:X.fn x=true\/X.env.scope.names.lookup x=some .local:=by first|exact .inl rfl|exact .inr rfl|assumption):wpAny M A (storeName X.env x u) Q E s :=
 QcY I hN hi hx r (λs' I' z=>h s' I') hf
def Inv.call'{s':Shared}(I:Inv X pins Y H s)(ho:s'.os=s.os)(u:Un (frs X.stack) ch H H' s.heap s'.heap)(hok:HOk X.prog X.w H' s'.heap)(hg:AllBare s'.gens)
  (hch:∀b∈ch,(b∈X.ex\/X.s₀.heap.objs.size<=b)/\b≠X.env.locals/\(∀x c,X.env.cells.lookup x=some c->c≠b)/\∀p∈X.pn++pins,p.1≠b):Inv X pins Y H' s':=by
 obtain⟨h',g',d',t',o'⟩:=s';have e:o'=s.os:=ho;subst e;exact I.call (g':=g') (t':=t') (d':=d') u hok hg hch
end
abbrev XK:=Value->Option Addr->Hp->Prop
abbrev St:=List (Option V)
abbrev VK:=V->Hp->Prop
abbrev TE:=St->Hp->VK->Prop
abbrev TT:=St->Hp->(Bool->Hp->Prop)->Prop
abbrev TA:=St->Hp->(List V->Hp->Prop)->Prop
structure Ends where
 nx:St->Hp->Prop
 rt:VK
 bk:St->Hp->Prop:=λ_ _=>False
 ct:St->Hp->Prop:=λ_ _=>False
abbrev TS:=Ends->St->Hp->Prop
def EP(X:Cx)(pins:List (Addr×Obj))(Y:St)(Q:VK)(u:Value)(s':Shared):Prop:=∃v H',Inv X pins Y H' s'/\RelV v u/\Q v H'
def TP(X:Cx)(pins:List (Addr×Obj))(Y:St)(Q:Bool->Hp->Prop)(b:Bool)(s':Shared):Prop:=∃H',Inv X pins Y H' s'/\Q b H'
def AP(X:Cx)(pins:List (Addr×Obj))(Y:St)(Q:List V->Hp->Prop)(us:List Value)(s':Shared):Prop:=∃vs H',Inv X pins Y H' s'/\Vals vs us/\Q vs H'
noncomputable def SP(X:Cx)(pins:List (Addr×Obj))(D:Ends)(f:Flow)(s':Shared):Prop :=
 match f with
 |.next=>∃Y' H',Inv X pins Y' H' s'/\D.nx Y' H'
 |.brk=>∃Y' H',Inv X pins Y' H' s'/\D.bk Y' H'
 |.cont=>∃Y' H',Inv X pins Y' H' s'/\D.ct Y' H'
 |.ret u=>∃v Y' H',Inv X pins Y' H' s'/\RelV v u/\D.rt v H'
noncomputable def PE(X:Cx)(e:Expr)(t:TE):Prop :=
 ∀(pins:List (Addr×Obj)) (s:Shared) (Y:St) (H:Hp) (Q:VK),Inv X pins Y H s->t Y H Q->wpAny (model X.prog X.w) X.A (eval e X.env) (EP X pins Y Q) X.xe s
noncomputable def PT(X:Cx)(e:Expr)(t:TT):Prop :=
 ∀(pins:List (Addr×Obj)) (s:Shared) (Y:St) (H:Hp) (Q:Bool->Hp->Prop),Inv X pins Y H s->t Y H Q->wpAny (model X.prog X.w) X.A (isTrue e X.env (eval e X.env)) (TP X pins Y Q) X.xe s
noncomputable def PW(X:Cx)(e:Expr)(t:TT):Prop :=
 ∀(whole:Sem Value) (pins:List (Addr×Obj)) (s:Shared) (Y:St) (H:Hp) (Q:Bool->Hp->Prop),Inv X pins Y H s->t Y H Q->wpAny (model X.prog X.w) X.A (isTrue e X.env whole) (TP X pins Y Q) X.xe s
def PW.pt{X:Cx}{e:Expr}{t:TT}(h:PW X e t):PT X e t:=h _
noncomputable def PA(X:Cx)(es:List Expr)(t:TA):Prop :=
 ∀(pos:Pos) (pins:List (Addr×Obj)) (s:Shared) (Y:St) (H:Hp) (Q:List V->Hp->Prop),Inv X pins Y H s->t Y H Q->wpAny (model X.prog X.w) X.A (spliced (backTo pos (starEach es X.env))) (AP X pins Y Q) X.xe s
noncomputable def PS(X:Cx)(st:Stmt)(t:TS):Prop :=
 ∀(pins:List (Addr×Obj)) (s:Shared) (Y:St) (H:Hp) (D:Ends),Inv X pins Y H s->t D Y H->wpAny (model X.prog X.w) X.A (exec st X.env) (SP X pins D) X.xe s
noncomputable def PSs(X:Cx)(st:List Stmt)(t:TS):Prop :=
 ∀(pins:List (Addr×Obj)) (s:Shared) (Y:St) (H:Hp) (D:Ends),Inv X pins Y H s->t D Y H->wpAny (model X.prog X.w) X.A (execs st X.env) (SP X pins D) X.xe s
def thn{α:Type}{t:Sem α}{Q Q':α->Shared->Prop}{E:Value->Shared->Prop}{s:Shared}(h:wpAny M A t Q E s)(hQ:∀a s,Q a s->Q' a s):wpAny M A t Q' E s:=Xz h hQ λz z x=>x
end
section
variable {pos:Pos}{x:Str}{u:Value}
section
variable {X:Cx}
def Qoz(i:Nat):TE:=λY H Q=>∃v,Y[i]?=some (some v)/\Q v H
def tC(v:V):TE:=λz H Q=>Q v H
def QjS{i:Nat}(hN:X.N[i]?=some x)(hv:Vis X.env.scope x)(hd:(x==("__debug__":Str))=false:=by decide)(hcd:(x==("__classdict__":Str))=false:=by decide):PE X (.Name x pos) (Qoz i):=by
 intro pins s Y H Q I h;obtain⟨v,e,h⟩:=h;obtain⟨m,hn,hl⟩:=I.loc;obtain⟨u,r,l⟩:=hl i x v hN e hv;have fin:EP X pins Y Q u s:=⟨v,H,I,r,h⟩
 rcases l with⟨hk,hm⟩|⟨hk,c,hc,hcell⟩
 ·exact wpAny_Name (wpAny_loadName_local I.ok.kind hk hn hm fin) hd
 ·rcases hk with hk|hk
  ·exact wpAny_Name (wpAny_loadName_cell I.ok.kind hk hc hcell fin) hd
  ·exact wpAny_Name (wpAny_loadName_free I.ok.kind hk hc hcell fin hcd) hd
def QjX{i j pos}:PE X (.Constant (.int i) j pos) (tC (.int i)):=λz z z H z I h=>wpAny_Constant_int ⟨.int i,H,I.tok _,⟨_,rfl⟩,h⟩
def Qmv{b j pos}:PE X (.Constant (.bool b) j pos) (tC (.bl b)):=λz z z H z I h=>Constant_bool ⟨.bl b,H,I,rfl,h⟩
def QjV{j pos}:PE X (.Constant .none j pos) (tC .non):=λz z z H z I h=>Constant_none ⟨.non,H,I,rfl,h⟩
def QjU{x j pos}:PE X (.Constant (.str x) j pos) (tC (.str x)):=λz z z H z I h=>Calls.Constant_str ⟨.str x,H,I.tok _,⟨_,rfl⟩,h⟩
def Gl(X:Cx)(x:Str):Prop:=X.env.kindOf x=some .globalImplicit
def Zi{E:Value->Shared->Prop}{pins:List (Addr×Obj)}{s:Shared}{Y:St}{H:Hp}{Q:Value->Shared->Prop}(I:Inv X pins Y H s)(hg:Gl X x)(hm:X.mg x=some u)(h:Q u s)
  (hd:(x==("__debug__":Str))=false:=by decide):wpAny (model X.prog X.w) X.A (eval (.Name x pos) X.env) Q E s :=
 Uf I.ok.kind hg (Calls.loadGlobal_global (by rw[I.ok.glob];exact I.mod.glob.keeps I.bk) hm h) hd
def ZW{E:Value->Shared->Prop}{pins:List (Addr×Obj)}{s:Shared}{Y:St}{H:Hp}{Q:Value->Shared->Prop}(I:Inv X pins Y H s)(hg:Gl X x)(hm:X.mg x=none)(hv:bootBuiltins x=some u)(h:Q u s)
  (hn:x≠"__name__":=by decide) (hd:(x==("__debug__":Str))=false:=by decide):wpAny (model X.prog X.w) X.A (eval (.Name x pos) X.env) Q E s:=by
 obtain⟨mb,h1,h2⟩:=I.mod.blt
 exact Uf I.ok.kind hg (Calls.loadGlobal_builtin (by rw[I.ok.glob];exact I.mod.glob.keeps I.bk) hm (by rw[I.ok.blt];exact h1.keeps I.bk) ((h2 x hn).trans hv) h) hd
def QaM{v:V}(hg:Gl X x)(hm:X.mg x=some u)(r:RelV v u)(hd:(x==("__debug__":Str))=false:=by decide):PE X (.Name x pos) (tC v):=
 λz z z H z I h=>Zi I hg hm ⟨v,H,I,r,h⟩ hd
def Qhu{v:V}(hg:Gl X x)(hm:X.mg x=none)(hv:bootBuiltins x=some u)(r:RelV v u)(hn:x≠"__name__":=by decide)(hd:(x==("__debug__":Str))=false:=by decide):PE X (.Name x pos) (tC v):=
 λz z z H z I h=>ZW I hg hm hv ⟨v,H,I,r,h⟩ hn hd
variable {a b:Expr}{ta tb:TE}
variable {tA tB':TT}{rest:List Expr}
def QoL(t u:TT):TT:=λY H Q=>t Y H λc H1=>if c=true then u Y H1 Q else Q false H1
def tOr(t u:TT):TT:=λY H Q=>t Y H λc H1=>if c=true then Q true H1 else u Y H1 Q
def QoE(t:TT):TT:=λY H Q=>t Y H λc H1=>Q (!c) H1
def Qhd(ha:PT X a tA):PW X (.BoolOp .And [a] pos) tA:=by
 intro wh pins s Y H Q I h;refine isTrue_and (thn (ha pins s Y H Q I h) λc s1 e=>?_)
 cases c with
 |true=>exact isTrue_and_nil e
 |false=>exact e
def QjF(ha:PT X a tA):PW X (.BoolOp .Or [a] pos) tA:=by
 intro wh pins s Y H Q I h;refine isTrue_or (thn (ha pins s Y H Q I h) λc s1 e=>?_)
 cases c with
 |false=>exact isTrue_or_nil e
 |true=>exact e
def QjG(ha:PT X a tA)(hb:PW X (.BoolOp .And (b::rest) pos) tB'):PW X (.BoolOp .And (a::b::rest) pos) (QoL tA tB'):=by
 intro wh pins s Y H Q I h;refine isTrue_and (thn (ha pins s Y H _ I h) λc s1 z=>?_);obtain⟨H1,I1,q1⟩:=z
 cases c with
 |true=>exact hb wh pins s1 Y H1 Q I1 q1
 |false=>exact⟨H1,I1,q1⟩
def Qmp(ha:PT X a tA)(hb:PW X (.BoolOp .Or (b::rest) pos) tB'):PW X (.BoolOp .Or (a::b::rest) pos) (tOr tA tB'):=by
 intro wh pins s Y H Q I h;refine isTrue_or (thn (ha pins s Y H _ I h) λc s1 z=>?_);obtain⟨H1,I1,q1⟩:=z
 cases c with
 |true=>exact⟨H1,I1,q1⟩
 |false=>exact hb wh pins s1 Y H1 Q I1 q1
def QjI(ha:PT X a tA):PT X (.UnaryOp .Not a pos) (QoE tA):=by
 intro pins s Y H Q I h;exact isTrue_not (ha pins s Y H (λc H1=>Q (!c) H1) I h)
def Qma(ta tb:TE):TE:=λY H Q=>ta Y H λx H1=>∃c,x=.bl c/\if c=true then tb Y H1 Q else Q (.bl false) H1
def QoD(ta tb:TE):TE:=λY H Q=>ta Y H λx H1=>∃c,x=.bl c/\if c=true then Q (.bl true) H1 else tb Y H1 Q
def Qge{op}{t:TE}(h:PE X a t):PE X (.BoolOp op [a] pos) t:=λpins s Y H Q I hw=>BoolOp_one (h pins s Y H Q I hw)
def Qj0(ha:PE X a ta)(hb:PE X (.BoolOp .And (b::rest) pos) tb):PE X (.BoolOp .And (a::b::rest) pos) (Qma ta tb):=by
 intro pins s Y H Q I h;refine BoolOp_and (thn (ha pins s Y H _ I h) λv s1 z=>?_);obtain⟨x,H1,I1,r1,q1⟩:=z;obtain⟨c,rfl,q1⟩:=q1;cases r1;refine V8 ?_
 cases c with
 |true=>exact hb pins s1 Y H1 Q I1 q1
 |false=>exact⟨.bl false,H1,I1,rfl,q1⟩
def Qmr(ha:PE X a ta)(hb:PE X (.BoolOp .Or (b::rest) pos) tb):PE X (.BoolOp .Or (a::b::rest) pos) (QoD ta tb):=by
 intro pins s Y H Q I h;refine BoolOp_or (thn (ha pins s Y H _ I h) λv s1 z=>?_);obtain⟨x,H1,I1,r1,q1⟩:=z;obtain⟨c,rfl,q1⟩:=q1;cases r1;refine V8 ?_
 cases c with
 |false=>exact hb pins s1 Y H1 Q I1 q1
 |true=>exact⟨.bl true,H1,I1,rfl,q1⟩
def tIf(t:TT)(ta tb:TE):TE:=λY H Q=>t Y H λc H1=>if c=true then ta Y H1 Q else tb Y H1 Q
def Qe9{c:Expr}(hc:PT X c tA)(ha:PE X a ta)(hb:PE X b tb):PE X (.IfExp c a b pos) (tIf tA ta tb):=by
 intro pins s Y H Q I h;refine wpAny_IfExp (thn (hc pins s Y H _ I h) λd s1 z=>?_);obtain⟨H1,I1,q1⟩:=z
 cases d with
 |true=>exact ha pins s1 Y H1 Q I1 q1
 |false=>exact hb pins s1 Y H1 Q I1 q1
end
end
section
variable {X:Cx}{e tg:Expr}{H:Hp}{pins:List (Addr×Obj)}{i:Nat}{pos:Pos}{P:Program}{s:Shared}{Y:St}{x:Str}{te:TE}{u:Value}{w:World}
noncomputable def SqL(K:W.Frag)(H:Hp)(a:Addr)(xs:List V):Prop :=
 Rd H a (.lst xs) \/
  ∃(o:Obj) (its:Array Value) (n:Nat),K.lookup a=some o/\o.cls=.type "list"/\o.dict=none/\o.data=.seq its n/\its.size<=sizeLine/\Vals xs its.toList
noncomputable def SqT(K:W.Frag)(H:Hp)(a:Addr)(xs:List V):Prop :=
 Rd H a (.tup xs) \/
  ∃(o:Obj) (its:Array Value) (n:Nat),K.lookup a=some o/\o.cls=.type "tuple"/\o.data=.seq its n/\its.size<=sizeLine/\Vals xs its.toList
noncomputable def QpI:Value->Option V
 |.none=>some .non
 |.bool b=>some (.bl b)
 |.int i _=>some (.int i)
 |.str x _=>some (.str x)
 |.bytes b _=>some (.byt b)
 |.float b _=>some (.flt b)
 |.ref a=>some (.ref a)
 |.type n=>some (.ty n)
 |_=>none
def RelV.abs{x:V}(r:RelV x u):QpI u=some x:=by
 cases x with
 |non=>cases r;rfl
 |bl _=>cases r;rfl
 |int _=>obtain⟨t,rfl⟩:=r;rfl
 |str _=>obtain⟨t,rfl⟩:=r;rfl
 |byt _=>obtain⟨t,rfl⟩:=r;rfl
 |flt _=>obtain⟨t,rfl⟩:=r;rfl
 |ref _=>cases r;rfl
 |ty _=>cases r;rfl
def RelV.inj{x y:V}(r:RelV x u)(q:RelV y u):x=y:=Xn (r.abs.symm.trans q.abs)
theorem Vals.inj{xs ys:List V}{us:List Value}(h:Vals xs us)(h':Vals ys us):xs=ys:=by
 induction h generalizing ys with
 |nil=>cases h';rfl
 |cons r _ ih=>
  cases h' with
  |cons r' t'=>rw[r.inj r',ih t']
section
variable {a:Addr}{xs ys:List V}
def SqL.of{K:W.Frag}(h:H a=some (.lst xs)):SqL K H a xs:=.inl (.inl h)
def SqT.of{K:W.Frag}(h:H a=some (.tup xs)):SqT K H a xs:=.inl (.inl h)
def Inv.list(I:Inv X pins Y H s)(h:SqL X.K H a xs):∃its:List Value,Vals xs its/\PlainL s.heap a its.toArray/\xs.length<=sizeLine:=by
 rcases h with h|⟨o,its,n,hk,hc,hd,hs,hz,r⟩
 ·obtain⟨z,its,n,r,e⟩:=h.ok I.hok;exact⟨its,r,⟨_,n,e,rfl,rfl,rfl⟩,z⟩
 ·refine⟨its.toList,r,⟨o,n,I.kIn a o hk,hc,hd,by simpa using hs⟩,?_⟩
  have e:=r.length;simp only[Tl]at e;omega
def Inv.tuple(I:Inv X pins Y H s)(h:SqT X.K H a xs):∃its:List Value,Vals xs its/\IsTup s.heap a its.toArray/\xs.length<=sizeLine:=by
 rcases h with h|⟨o,its,n,hk,hc,hs,hz,r⟩
 ·obtain⟨z,its,r,p⟩:=h.ok I.hok;exact⟨its,r,p,z⟩
 ·refine⟨its.toList,r,⟨o,I.kIn a o hk,hc,n,by simpa using hs⟩,?_⟩
  have e:=r.length;simp only[Tl]at e;omega
def Inv.list_inj(I:Inv X pins Y H s)(h:SqL X.K H a xs)(h':SqL X.K H a ys):xs=ys:=by
 obtain⟨its,r,⟨o,n,e,_,_,d⟩,_⟩:=I.list h;obtain⟨its',r',⟨o',n',e',_,_,d'⟩,_⟩:=I.list h';rw[e]at e';cases e';rw[d]at d';injection d' with d1 _
 have:its=its':=by simpa using congrArg Array.toList d1
 subst this;exact r.inj r'
def Inv.tuple_inj(I:Inv X pins Y H s)(h:SqT X.K H a xs)(h':SqT X.K H a ys):xs=ys:=by
 obtain⟨its,r,⟨o,e,_,n,d⟩,_⟩:=I.tuple h;obtain⟨its',r',⟨o',e',_,n',d'⟩,_⟩:=I.tuple h';rw[e]at e';cases e';rw[d]at d';injection d' with d1 _
 have:its=its':=by simpa using congrArg Array.toList d1
 subst this;exact r.inj r'
end
noncomputable abbrev Cx.wish(X:Cx)(E:Value->Shared->Prop):Cx:={X with xe:=E}
noncomputable abbrev Cx.nox(X:Cx):Cx:=X.wish λz z=>False
theorem Cx.Ok.wish(ok:X.Ok)(E:Value->Shared->Prop):(X.wish E).Ok :=
 ⟨ok.mod,ok.kind,ok.glob,ok.blt,ok.above,ok.inj,ok.has,ok.cab,ok.hd,ok.frames,ok.stk,ok.exf,ok.bs,ok.bsz,ok.noex,ok.exfs,ok.funs,ok.frf⟩
def Cx.Ok.unwish{E:Value->Shared->Prop}(ok:(X.wish E).Ok):X.Ok :=
 ⟨ok.mod,ok.kind,ok.glob,ok.blt,ok.above,ok.inj,ok.has,ok.cab,ok.hd,ok.frames,ok.stk,ok.exf,ok.bs,ok.bsz,ok.noex,ok.exfs,ok.funs,ok.frf⟩
section
variable {E:Value->Shared->Prop}
theorem Inv.wish(I:Inv X pins Y H s)(E:Value->Shared->Prop):Inv (X.wish E) pins Y H s:=⟨I.ok.wish E,I.os,I.bare,I.base,I.loc,I.cell,I.free,I.freeC,I.pin,I.hok,I.len⟩
theorem Inv.unwish(I:Inv (X.wish E) pins Y H s):Inv X pins Y H s:=⟨I.ok.unwish,I.os,I.bare,I.base,I.loc,I.cell,I.free,I.freeC,I.pin,I.hok,I.len⟩
theorem SP.unwish{D:Ends}{f:Flow}{s':Shared}(h:SP (X.wish E) pins D f s'):SP X pins D f s':=by
 cases f with
 |next=>obtain⟨Y',H',I,q⟩:=h;exact⟨Y',H',I.unwish,q⟩
 |brk=>obtain⟨Y',H',I,q⟩:=h;exact⟨Y',H',I.unwish,q⟩
 |cont=>obtain⟨Y',H',I,q⟩:=h;exact⟨Y',H',I.unwish,q⟩
 |ret u=>obtain⟨v,Y',H',I,r,q⟩:=h;exact⟨v,Y',H',I.unwish,r,q⟩
theorem PT.nox{t:TT}(h:PT X.nox e t):PT X e t:=λpins s Y H Q I hw=>
 Xz (h pins s Y H Q (I.wish _) hw) (λy y x=>by obtain⟨H',I',q⟩:=x;exact⟨H',I'.unwish,q⟩) λy y z=>False.elim z
theorem PSs.nox{st:List Stmt}{t:TS}(h:PSs X.nox st t):PSs X st t:=λpins s Y H D I hw=>
 Xz (h pins s Y H D (I.wish _) hw) (λy y q=>q.unwish) λy y z=>False.elim z
end
section
variable {st:Stmt}{rest:List Stmt}{t u:TS}
def QgT:TS:=λD Y H=>D.nx Y H
def QoB(t u:TS):TS:=λD Y H=>t {D with nx:=u D} Y H
def Qdb:PSs X [] QgT:=λz z Y H z I h=>Uk ⟨Y,H,I,h⟩
def Yb(h1:PS X st t)(h2:PSs X rest u):PSs X (st::rest) (QoB t u):=by
 intro pins s Y H D I h;refine wpAny_execs_cons (thn (h1 pins s Y H {D with nx:=u D} I h) λf s1 q=>?_)
 cases f with
 |next=>
  obtain⟨Y',H',I',q⟩:=q;exact h2 pins s1 Y' H' D I' q
 |ret v=>exact q
 |brk=>exact q
 |cont=>exact q
def Qhf(h1:PS X st t):PSs X [st] t:=by
 intro pins s Y H D I h;refine wpAny_execs_cons (thn (h1 pins s Y H D I h) λf s1 q=>?_)
 cases f with
 |next=>exact Uk q
 |ret v=>exact q
 |brk=>exact q
 |cont=>exact q
def Qi9:TS:=λD Y H=>D.bk Y H
def Ql9:TS:=λD Y H=>D.ct Y H
def Qhh:PS X (.Pass pos) QgT:=λz z Y H z I h=>wpAny_Pass ⟨Y,H,I,h⟩
def Qe3:PS X (.Break pos) Qi9:=λz z Y H z I h=>wpAny_Break ⟨Y,H,I,h⟩
def QaH:PS X (.Continue pos) Ql9:=λz z Y H z I h=>wpAny_Continue ⟨Y,H,I,h⟩
def Inv.quiet(I:Inv X pins Y H s):interactive X.env=false:=by simp[interactive,I.ok.kind]
def QjL{x j pos pos'}:PS X (.Expr (.Constant (.str x) j pos) pos') QgT:=λz s Y H z I h=>wpAny_Expr (Calls.Constant_str (show SP X _ _ .next {s with toks:=s.toks+1}from⟨Y,H,I.tok _,h⟩)) I.quiet
def Ql8(te:TE):TS:=λD Y H=>te Y H λz H1=>D.nx Y H1
def QaG(he:PE X e te)(hs:swapsWith e none pos.line X.env=pure false:=by rfl):PS X (.Expr e pos) (Ql8 te):=by
 intro pins s Y H D I h;exact wpAny_Expr_any (thn (he pins s Y H _ I h) λv s1 z=>by obtain⟨x,H1,I1,r1,q1⟩:=z;exact⟨Y,H1,I1,q1⟩) I.quiet hs
def QoC(te:TE):TS:=λD Y H=>te Y H D.rt
def Qdc(he:PE X e te):PS X (.Return (some e) pos) (QoC te):=by
 intro pins s Y H D I h;exact wpAny_Return_some (thn (he pins s Y H _ I h) λv s1 z=>by obtain⟨x,H1,I1,r1,q1⟩:=z;exact⟨x,Y,H1,I1,r1,q1⟩)
def Ql6:TS:=λD z H=>D.rt .non H
def Qhg:PS X (.Return none pos) Ql6:=λz z Y H z I h=>wpAny_Return_none ⟨.non,Y,H,I,rfl,h⟩
def QoG(c:TT)(t u:TS):TS:=λD Y H=>c Y H λb H1=>if b=true then t D Y H1 else u D Y H1
def QjJ{c:Expr}{a b:List Stmt}{tc:TT}(hc:PT X c tc)(ha:PSs X a t)(hb:PSs X b u):PS X (.If c a b pos) (QoG tc t u):=by
 intro pins s Y H D I h;refine wpAny_If (thn (hc pins s Y H _ I h) λd s1 z=>?_);obtain⟨H1,I1,q1⟩:=z
 cases d with
 |true=>exact ha pins s1 Y H1 D I1 q1
 |false=>exact hb pins s1 Y H1 D I1 q1
end
abbrev TG:=V->St->Hp->(St->Hp->Prop)->Prop
abbrev TGs:=List V->St->Hp->(St->Hp->Prop)->Prop
noncomputable def PG(X:Cx)(target:Expr)(t:TG):Prop :=
 ∀(pins:List (Addr×Obj)) (s:Shared) (Y:St) (H:Hp) (v:V) (u:Value) (Q:St->Hp->Prop),Inv X pins Y H s->RelV v u->t v Y H Q ->
  wpAny (model X.prog X.w) X.A (assign target X.env u) (λz s'=>∃Y' H',Inv X pins Y' H' s'/\Q Y' H') X.xe s
noncomputable def PGs(X:Cx)(ts:List Expr)(t:TGs):Prop :=
 ∀(pins:List (Addr×Obj)) (s:Shared) (Y:St) (H:Hp) (vs:List V) (us:List Value) (Q:St->Hp->Prop),Inv X pins Y H s->Vals vs us->t vs Y H Q ->
  wpAny (model X.prog X.w) X.A (assignInOrder ((assignEach ts X.env).map (·.2)) us) (λz s'=>∃Y' H',Inv X pins Y' H' s'/\Q Y' H') X.xe s
abbrev QlL:=V->V->V->Hp->(Hp->Prop)->Prop
noncomputable def QiA(X:Cx)(t:QlL):Prop :=
 ∀(pins:List (Addr×Obj)) (s:Shared) (Y:St) (H:Hp) (o i v:V) (ov iv u:Value) (Q:Hp->Prop),Inv X pins Y H s->RelV o ov->RelV i iv->RelV v u->t o i v H Q ->
  wpAny (model X.prog X.w) X.A (setItem ov iv u) (λz s'=>∃H',Inv X pins Y H' s'/\Q H') X.xe s
abbrev TIp:=V->V->Hp->VK->Prop
noncomputable def PIp(X:Cx)(op:Operator)(t:TIp):Prop :=
 ∀(pins:List (Addr×Obj)) (s:Shared) (Y:St) (H:Hp) (x y:V) (v u:Value) (Q:VK),Inv X pins Y H s->RelV x v->RelV y u->t x y H Q ->
  wpAny (model X.prog X.w) X.A (inplaceOp op v u) (EP X pins Y Q) X.xe s
section

def Qad(i:Nat):TG:=λv Y H Q=>Q (Y.set i (some v)) H
def ZO(hN:X.N.Nodup)(hi:X.N[i]?=some x)(hx:Loc X.env.scope x)(hf:X.fn x=true\/X.env.scope.names.lookup x=some .local:=by first|exact .inl rfl|exact .inr rfl|assumption):PG X (.Name x pos) (Qad i):=by
 intro pins s Y H v u Q I r h;exact wpAny_assign_Name (Z8 I hN hi hx r (λs' I'=>⟨_,H,I',h⟩) hf)
def Qm9:TGs:=λvs Y H Q=>vs=[]/\Q Y H
def Qfz(t:TG)(u:TGs):TGs:=λvs Y H Q=>∃v r,vs=v::r/\t v Y H λY' H'=>u r Y' H' Q
def Jk:PGs X [] Qm9:=by
 intro pins s Y H vs us Q I r h;obtain⟨e,h⟩:=h;subst e;cases r;exact assignInOrder_nil ⟨Y,H,I,h⟩
def Zp{es:List Expr}{t:TG}{u:TGs}(h1:PG X e t)(h2:PGs X es u)
  (hs:(assignEach (e::es) X.env).map (·.2)=assign e X.env::(assignEach es X.env).map (·.2):=by rfl):PGs X (e::es) (Qfz t u):=by
 intro pins s Y H vs us Q I r h;obtain⟨v,vr,e1,h⟩:=h;subst e1
 cases r with
 |cons r rr=>
  rw[hs];refine assignInOrder_cons (thn (h1 pins s Y H _ _ _ I r h) λz s1 y=>?_);obtain⟨σ1,H1,I1,q1⟩:=y;exact h2 pins s1 σ1 H1 _ _ Q I1 rr q1
def Qm8(K:W.Frag)(n:Nat)(t:TGs):TG:=λv Y H Q=>∃a xs,v=.ref a/\SqT K H a xs/\xs.length=n/\t xs Y H Q
def JY{es:List Expr}{k:Nat}{t:TGs}{n:Nat}(hc:X.calm=true)(h:PGs X es t)
  (hn:(assignEach es X.env).length=n:=by rfl) (hst:(assignEach es X.env).findIdx? (·.1)=none:=by rfl):PG X (.Tuple es k pos) (Qm8 X.K n t):=by
 intro pins s Y H v u Q I r hw;obtain⟨a,xs,e1,hq,hl,hw⟩:=hw;subst e1;cases r;obtain⟨its,rv,ht,hz⟩:=I.tuple hq
 refine assign_Tuple_tuple (I.ok.hd hc) ht (by simp[hn,<-hl,rv.length]) hst λh' hx=>?_
 have I1:Inv X pins Y H {s with heap:=h'}:=I.kept (t':=s.toks) λb o e=>hx b o (X4 (Xl e)) e
 exact h pins _ Y H xs _ Q I1 (by simpa using rv) hw
def Qpd(to ti:TE)(t:QlL):TG:=λv Y H Q=>to Y H λo H1=>ti Y H1 λi H2=>t o i v H2 λH3=>Q Y H3
def QjR{o i:Expr}{to ti:TE}{t:QlL}(ho:PE X o to)(hi:PE X i ti)(hs:QiA X t)
  (ha:∀v,assign (.Subscript o i pos) X.env v=(do
   let ov <-holding [v] (eval o X.env);let iv <-holding [v,ov] (eval i X.env)
   standAt pos
   holding [v,ov,iv] (setItem ov iv v)
   release [v,ov,iv] []):=by intro _;rfl):PG X (.Subscript o i pos) (Qpd to ti t):=by
 intro pins s Y H v u Q I r h;rw[ha];refine Xa (V2 (thn (ho pins s Y H _ I h) λov s1 z=>?_));obtain⟨x,H1,I1,r1,q1⟩:=z;refine Xa (V2 (thn (hi pins s1 Y H1 _ I1 q1) λiv s2 w=>?_));obtain⟨y,H2,I2,r2,q2⟩:=w;refine Xa (wpAny_standAt (Xa (V2 (thn (hs pins s2 Y H2 x y v ov iv u _ I2 r1 r2 r q2) λq s3 p=>?_))));obtain⟨H3,I3,q3⟩:=p;exact wpAny_release ⟨Y,H3,I3,q3⟩
def QnM(te:TE)(g:TG):TS:=λD Y H=>te Y H λx H1=>g x Y H1 D.nx
def Qdf{g:TG}(he:PE X e te)(hg:PG X tg g)(hs:swapsWithSole [tg] e pos.line X.env=pure false:=by rfl)(hw:swappedStores [tg] e X.env=pure none:=by rfl)
  (h1:(assignEach [tg] X.env).map (·.2)=[assign tg X.env]:=by rfl):PS X (.Assign [tg] e pos) (QnM te g):=by
 intro pins s Y H D I h;refine wpAny_Assign_stores (thn (he pins s Y H _ I h) λv s1 z=>?_) hs hw;obtain⟨x,H1,I1,r1,q1⟩:=z;rw[h1];exact thn (hg pins s1 Y H1 x v _ I1 r1 q1) λy s2 q=>q
def Qbt{pos':Pos}(hN:X.N.Nodup)(hi:X.N[i]?=some x)(hx:Loc X.env.scope x)(he:PE X e te)(hs:swapsWith e (some (.Name x pos')) pos.line X.env=pure false:=by rfl)(hf:X.fn x=true\/X.env.scope.names.lookup x=some .local:=by first|exact .inl rfl|exact .inr rfl|assumption):
  PS X (.Assign [.Name x pos'] e pos) (QnM te (Qad i)):=by
 intro pins s Y H D I h;refine wpAny_Assign_Name (thn (he pins s Y H _ I h) λv s1 z=>?_) hs;obtain⟨y,H1,I1,r1,q1⟩:=z;exact Z8 I1 hN hi hx r1 (λs2 I2=>⟨_,H1,I2,q1⟩) hf
def QoK(i:Nat)(te:TE)(ti:TIp):TS:=λD Y H=>∃x,Y[i]?=some (some x)/\te Y H λy H1=>ti x y H1 λz H2=>D.nx (Y.set i (some z)) H2
def QjM{op:Operator}{ti:TIp}{pos':Pos}(hN:X.N.Nodup)(hi:X.N[i]?=some x)(hx:Loc X.env.scope x)(he:PE X e te)(ho:PIp X op ti)(hf:X.fn x=true\/X.env.scope.names.lookup x=some .local:=by first|exact .inl rfl|exact .inr rfl|assumption):
  PS X (.AugAssign (.Name x pos') op e pos) (QoK i te ti):=by
 intro pins s Y H D I h;obtain⟨v,e1,h⟩:=h;obtain⟨m,hn,hl⟩:=I.loc
 have vis:Vis X.env.scope x:=by rcases hx with k|k;exact .inl k;exact .inr (.inl k)
 obtain⟨u,r,l⟩:=hl i x v hi e1 vis;refine wpAny_AugAssign_Name ?_
 have go:wpAny (model X.prog X.w) X.A (eval e X.env) (λw s₂=>wpAny (model X.prog X.w) X.A (inplaceOp op u w) (λr s₃=>wpAny (model X.prog X.w) X.A (storeName X.env x r) (λt=>SP X pins D .next) X.xe s₃) X.xe s₂) X.xe s:=by
  refine thn (he pins s Y H _ I h) λw s1 q=>?_;obtain⟨y,H1,I1,r1,q1⟩:=q;refine thn (ho pins s1 Y H1 v y u w _ I1 r r1 q1) λz s2 p=>?_;obtain⟨zv,H2,I2,r2,q2⟩:=p;exact Z8 I2 hN hi hx r2 (λs3 I3=>⟨_,H2,I3,q2⟩) hf
 rcases l with⟨hk,hm⟩|⟨hk,c,hc,hcell⟩
 ·exact wpAny_loadName_local I.ok.kind hk hn hm go
 ·rcases hk with hk|hk
  ·exact wpAny_loadName_cell I.ok.kind hk hc hcell go
  ·rcases hx with k|k
   ·have:X.env.scope.names.lookup x=some .free:=hk;rw[k]at this;cases this
   ·have:X.env.scope.names.lookup x=some .free:=hk;rw[k]at this;cases this
end
section

end
structure It where
 go:Nat->Hp->Prop
 yld:Nat->Hp->V->Hp->Prop
 stop:Nat->Hp->Prop
noncomputable def Qa5(X:Cx)(pins:List (Addr×Obj))(H:Hp)(b:Addr):Prop :=
 H b=none/\b≠X.env.locals/\b∉X.fs/\(b∈X.ex\/X.s₀.heap.objs.size<=b)/\(∀x c,X.env.cells.lookup x=some c->c≠b)/\∀p∈X.pn++pins,p.1≠b
def Inv.fpOk{H':Hp}{b:Addr}(I:Inv X pins Y H s)(hb:s.heap.objs.size<=b)(hn:H' b=none):Qa5 X pins H' b:=by
 refine⟨hn,Nat.ne_of_gt (Xu I.lt hb),I.nofs hb,.inr (X2 I.sz hb),λx c e z=>?_,λp hp z=>?_⟩
 ·obtain⟨v,q⟩:=I.cell x c e
  exact absurd (Xu q.lt (by rw[z];exact hb)) (Vb _)
 ·exact absurd (Xu (Xl (I.pin p hp).1) (by rw[z];exact hb)) (Vb _)
structure Turn(P:Program)(w:World)(K:W.Frag)(tg:Expr)(J:It)(fp:List Addr)(it:Addr)(tn:Nat->Heap->Prop):Prop where
 mem:it∈fp
 obj:∀i h,tn i h->∀b∈fp,∃o,h.get? b=some o/\∀v,o.data≠.cell v
 keep:∀i h h',tn i h->(∀b∈fp,∀o,h.get? b=some o->h'.get? b=some o)->tn i h'
 item:∀(X:Cx),X.prog=P->X.w=w->X.K=K->X.calm=true->∀(i:Nat) (pins:List (Addr×Obj)) (s:Shared) (Y:St) (H:Hp) (E:Value->Shared->Prop),Inv X pins Y H s->(∀b∈fp,Qa5 X pins H b)->tn i s.heap->J.go i H ->
  wpAny (model P w) X.A (pyNext (.ref it)) (λr s1=>∃u,r=some u /\
   wpAny (model P w) X.A (letOwnedTupleGo tg (.ref it) u) (λ_ s2=>∃x H',Inv X pins Y H' s2/\RelV x u/\J.yld i H x H'/\tn (i+1) s2.heap/\∀b∈fp,H' b=none) E s1) E s
 done:∀(X:Cx),X.prog=P->X.w=w->X.K=K->X.calm=true->∀(i:Nat) (pins:List (Addr×Obj)) (s:Shared) (Y:St) (H:Hp) (E:Value->Shared->Prop),Inv X pins Y H s->(∀b∈fp,Qa5 X pins H b)->tn i s.heap->J.stop i H ->
  wpAny (model P w) X.A (pyNext (.ref it)) (λr s1=>r=none/\Inv X pins Y H s1) E s
 self:∀(A:Around) (i:Nat) (s:Shared) (Q:Value->Shared->Prop) (E:Value->Shared->Prop),tn i s.heap->Q (.ref it) s->wpAny (model P w) A (pyIter (.ref it)) Q E s
abbrev TI:=St->Hp->(It->Hp->Prop)->Prop
noncomputable def PIE(X:Cx)(pins:List (Addr×Obj))(Y:St)(tg:Expr)(R:It->Hp->Prop)(itv:Value)(s2:Shared):Prop :=
 ∃(it:Addr) (fp:List Addr) (tn:Nat->Heap->Prop) (J:It) (H':Hp),itv=.ref it/\Inv X pins Y H' s2/\Turn X.prog X.w X.K tg J fp it tn/\tn 0 s2.heap/\(∀b∈fp,Qa5 X pins H' b)/\R J H'
noncomputable def PI(X:Cx)(tg iter:Expr)(wi:TI):Prop :=
 ∀(pins:List (Addr×Obj)) (s:Shared) (Y:St) (H:Hp) (R:It->Hp->Prop),Inv X pins Y H s->wi Y H R ->
  wpAny (model X.prog X.w) X.A (eval iter X.env) (λv s1=>wpAny (model X.prog X.w) X.A (pyIter v) (PIE X pins Y tg R) X.xe s1) X.xe s
def Qfw{M:Model}{A:Around}{E:Value->Shared->Prop}{it:Addr}{o:Obj}{n:String}{vs:Array Value}{Q:Unit->Shared->Prop}(ho:s.heap.get? it=some o)(hc:o.cls=.type n)(hd:o.data=.fields vs)
  (hn:["enumerate","zip","dict_itemiterator","dict_reverseitemiterator","odict_iterator","itertools.zip_longest","itertools.pairwise"].contains n=false) (hQ:Q () s):wpAny M A (letOwnedTupleGo tg (.ref it) u) Q E s:=by
 unfold letOwnedTupleGo
 cases tg<;>first
  |exact Xi hQ
  | (cases u<;>first
    |exact Xi hQ
    | (refine Xa (wpAny_load ho ?_)
       rw[hc,hd];show wpAny M A (if(["enumerate","zip","dict_itemiterator","dict_reverseitemiterator","odict_iterator","itertools.zip_longest","itertools.pairwise"].contains n&&vs[0]?==some (rawInt _))=true then _ else _) Q E s
       rw[if_neg (by intro h;rw[hn,Bool.false_and]at h;cases h)]
       exact Xi hQ))
noncomputable def Itl(K:W.Frag)(a:Addr):It :=
 ⟨λi H=>∃xs x,SqL K H a xs/\xs[i]?=some x,λi H x H'=>H'=H/\∀xs,SqL K H a xs->xs[i]?=some x,λi H=>∃xs,SqL K H a xs/\xs.length<=i⟩
noncomputable def Itt(K:W.Frag)(a:Addr):It :=
 ⟨λi H=>∃xs x,SqT K H a xs/\xs[i]?=some x,λi H x H'=>H'=H/\∀xs,SqT K H a xs->xs[i]?=some x,λi H=>∃xs,SqT K H a xs/\xs.length<=i⟩
noncomputable def Itr(lo:Int)(n:Nat):It:=⟨λi z=>i<n,λi H x H'=>H'=H/\x=.int (lo+i),λi z=>n<=i⟩
def QcS{K:W.Frag}(a it:Addr):Turn P w K tg (Itl K a) [it] it (λi h=>h.IsListIter it a i) where
 mem:=by simp
 obj:=λi h st b hb=>by
  have e:b=it:=by simpa using hb
  subst e;obtain⟨o,e,c,d⟩:=st
  exact⟨o,e,λv z=>by rw[d]at z;cases z⟩
 keep:=λi h h' st k=>st.at λo e=>k it (by simp) o e
 item:=by
  intro X hP hw hK hc i pins s Y H E I hf st hg;subst hP hw hK;obtain⟨xs,x,hq,hx⟩:=hg;obtain⟨its,rv,p,hz⟩:=I.list hq;obtain⟨u,hu,ru⟩:=rv.get hx
  obtain⟨f0,f1,f2,f3,f4,f5⟩:=hf it (by simp)
  refine wpAny_pyNext_list_item st p.isList (x:=u) (by simpa using hu) λh' st' sb=>?_
  have I1:Inv X pins Y H {s with heap:=h'}:=I.turned (t':=s.toks) (λb o hb e=>(sb.2 b hb).trans e) f0 f1 f3 f4 f5;obtain⟨o,e,c,d⟩:=id st'
  exact⟨u,rfl,Qfw (s:={s with heap:=h'}) e c d (by decide) ⟨x,H,I1,ru,⟨rfl,λys hy=>by rw[I.list_inj hy hq];exact hx⟩,st',λb hb=>(hf b hb).1⟩⟩
 done:=by
  intro X hP hw hK hc i pins s Y H E I hf st hg;subst hP hw hK;obtain⟨xs,hq,hx⟩:=hg;obtain⟨its,rv,p,hz⟩:=I.list hq
  obtain⟨f0,f1,f2,f3,f4,f5⟩:=hf it (by simp)
  have hl:=rv.length
  exact wpAny_pyNext_list_end (I.ok.hd hc) st p.isList (by simp;omega) λh' eb=>⟨rfl,I.turned (t':=s.toks) (λb o hb e=>eb b o hb e) f0 f1 f3 f4 f5⟩
 self:=λy y y y y st h=>wpAny_pyIter_listiter st h
def Qb4{K:W.Frag}(a it:Addr):Turn P w K tg (Itt K a) [it] it (λi h=>h.IsTupleIter it a i) where
 mem:=by simp
 obj:=λi h st b hb=>by
  have e:b=it:=by simpa using hb
  subst e;obtain⟨o,e,c,d⟩:=st
  exact⟨o,e,λv z=>by rw[d]at z;cases z⟩
 keep:=λi h h' st k=>st.at λo e=>k it (by simp) o e
 item:=by
  intro X hP hw hK hc i pins s Y H E I hf st hg;subst hP hw hK;obtain⟨xs,x,hq,hx⟩:=hg;obtain⟨its,rv,p,hz⟩:=I.tuple hq;obtain⟨u,hu,ru⟩:=rv.get hx
  obtain⟨f0,f1,f2,f3,f4,f5⟩:=hf it (by simp)
  refine wpAny_pyNext_tuple_item st (show s.heap.IsTuple a its.toArray from p) (x:=u) (by simpa using hu) λh' st' sb=>?_
  have I1:Inv X pins Y H {s with heap:=h'}:=I.turned (t':=s.toks) (λb o hb e=>(sb.2 b hb).trans e) f0 f1 f3 f4 f5;obtain⟨o,e,c,d⟩:=id st'
  exact⟨u,rfl,Qfw (s:={s with heap:=h'}) e c d (by decide) ⟨x,H,I1,ru,⟨rfl,λys hy=>by rw[I.tuple_inj hy hq];exact hx⟩,st',λb hb=>(hf b hb).1⟩⟩
 done:=by
  intro X hP hw hK hc i pins s Y H E I hf st hg;subst hP hw hK;obtain⟨xs,hq,hx⟩:=hg;obtain⟨its,rv,p,hz⟩:=I.tuple hq
  obtain⟨f0,f1,f2,f3,f4,f5⟩:=hf it (by simp)
  have hl:=rv.length
  exact wpAny_pyNext_tuple_end (I.ok.hd hc) st (show s.heap.IsTuple a its.toArray from p) (by simp;omega) λh' eb=>⟨rfl,I.turned (t':=s.toks) (λb o hb e=>eb b o hb e) f0 f1 f3 f4 f5⟩
 self:=λy y y y y st h=>wpAny_pyIter_tupleiter st h
def Qb5{K:PySem.W.Frag}(it:Addr)(lo:Int)(n:Nat):Turn P w K tg (Itr lo n) [it] it (λi h=>IsRangeIter h it (lo+(i:Nat)*1) ((n:Int) - (i:Nat)) 1) where
 mem:=by simp
 obj:=λi h st b hb=>by
  have e:b=it:=by simpa using hb
  subst e
  exact⟨_,st,λv z=>by
   have z':Data.fields _=Data.cell v:=z
   cases z'⟩
 keep:=λi h h' st k=>k it (by simp) _ st
 item:=by
  intro X hP hw hK hc i pins s Y H E I hf st hg;subst hP hw hK
  obtain⟨f0,f1,f2,f3,f4,f5⟩:=hf it (by simp)
  have W:=Walks.range (prog:=X.prog) (w:=X.w) (I.ok.hd hc) it lo 1 n;refine W.item i s _ _ hg st λv h' tk hv st' kk=>?_;obtain⟨t,rfl⟩:=hv
  have I1:Inv X pins Y H {s with heap:=h',toks:=tk}:=I.turned (λb o hb e=>kk b o (by simpa using hb) e) f0 f1 f3 f4 f5
  refine⟨_,rfl,Qfw (s:={s with heap:=h',toks:=tk}) (n:="range_iterator") st' rfl rfl (by decide) ⟨.int (lo+i),H,I1,⟨t,?_⟩,⟨rfl,rfl⟩,st',λb hb=>(hf b hb).1⟩⟩
  rw[Int.mul_one]
 done:=by
  intro X hP hw hK hc i pins s Y H E I hf st hg;subst hP hw hK
  obtain⟨f0,f1,f2,f3,f4,f5⟩:=hf it (by simp)
  exact wpAny_pyNext_range_end (I.ok.hd hc) st (by have:n<=i:=hg;omega) λh' eb=>⟨rfl,I.turned (t':=s.toks) (λb o hb e=>eb b o hb e) f0 f1 f3 f4 f5⟩
 self:=λy y y y y st h=>wpAny_pyIter_rangeiter st h
end
section
variable {H:Hp}{pins:List (Addr×Obj)}{fp:List Addr}{s:Shared}{Y:St}
section
variable {X:Cx}{tg:Expr}
def Qm1(K:W.Frag)(tl:TE):TI:=λY H R=>tl Y H λx H1=>∃a,x=.ref a/\(∃xs,SqL K H1 a xs)/\R (Itl K a) H1
def Qpa(K:W.Frag)(tl:TE):TI:=λY H R=>tl Y H λx H1=>∃a,x=.ref a/\(∃xs,SqT K H1 a xs)/\R (Itt K a) H1
def Qhp{l:Expr}{tl:TE}(hl:PE X l tl):PI X tg l (Qm1 X.K tl):=by
 intro pins s Y H R I h;refine thn (hl pins s Y H _ I h) λv s1 z=>?_;obtain⟨x,H1,I1,r1,q1⟩:=z;obtain⟨a,e,⟨xs,hq⟩,q⟩:=q1;subst e;cases r1;obtain⟨its,rv,p,hz⟩:=I1.list hq;refine Wr p.isList ?_;refine⟨s1.heap.objs.size,[s1.heap.objs.size],_,_,H1,rfl,I1.kept (t':=s1.toks) λb o e=>Xb _ e,QcS a _,⟨_,Xr _ rfl,rfl,rfl⟩,λb hb=>?_,q⟩
 have e:b=s1.heap.objs.size:=by simpa using hb
 subst e;exact I1.fpOk (Xe _) (I1.hok.fresh (Xe _))
def QjO{l:Expr}{tl:TE}(hl:PE X l tl):PI X tg l (Qpa X.K tl):=by
 intro pins s Y H R I h;refine thn (hl pins s Y H _ I h) λv s1 z=>?_;obtain⟨x,H1,I1,r1,q1⟩:=z;obtain⟨a,e,⟨xs,hq⟩,q⟩:=q1;subst e;cases r1;obtain⟨its,rv,p,hz⟩:=I1.tuple hq;refine Vq (show s1.heap.IsTuple a its.toArray from p) ?_;refine⟨s1.heap.objs.size,[s1.heap.objs.size],_,_,H1,rfl,I1.kept (t':=s1.toks) λb o e=>Xb _ e,Qb4 a _,⟨_,Xr _ rfl,rfl,rfl⟩,λb hb=>?_,q⟩
 have e:b=s1.heap.objs.size:=by simpa using hb
 subst e;exact I1.fpOk (Xe _) (I1.hok.fresh (Xe _))
def Qe0{R:It->Hp->Prop}{E:Value->Shared->Prop}{lo hi:Int}{t u v:Tok}{tk:Nat}(I:Inv X pins Y H s)(h1:-(2 ^ 62)<=lo)(h2:lo<2 ^ 62)(h3:-(2 ^ 62)<=hi)(h4:hi<2 ^ 62)
  (q:R (Itr lo (hi-lo).toNat) H):wpAny (model X.prog X.w) X.A (pyIter (.ref s.heap.objs.size)) (PIE X pins Y tg R) E {s with heap:=s.heap.push {cls:=.type "range",data:=.fields #[.int lo t,.int hi u,.int 1 v]},toks:=tk}:=by
 refine wpAny_pyIter_range (IsRange.new ..) (small_one h1 h2 h3 h4) ?_;have I1:Inv X pins Y H {s with heap:=s.heap.push {cls:=.type "range",data:=.fields #[.int lo t,.int hi u,.int 1 v]},toks:=tk}:=I.kept λb o e=>Xb _ e
 refine⟨(s.heap.push {cls:=.type "range",data:=.fields #[.int lo t,.int hi u,.int 1 v]}).objs.size,[(s.heap.push {cls:=.type "range",data:=.fields #[.int lo t,.int hi u,.int 1 v]}).objs.size],_,_,H,rfl,
  I1.kept (t':=tk) λb o e=>Xb _ e,Qb5 _ lo (hi-lo).toNat,?_,λb hb=>?_,q⟩
 ·have e1:lo+((0:Nat):Int)*1=lo:=by simp
  have e2:(((hi-lo).toNat:Nat):Int) - ((0:Nat):Int)=Builtin.Range.rangeSize lo hi 1:=by rw[rangeSize_one];split<;>omega
  show IsRangeIter _ _ (lo+((0:Nat):Int)*1) ((((hi-lo).toNat:Nat):Int) - ((0:Nat):Int)) 1;rw[e1,e2];exact Xr _ rfl
 ·have e:b=(s.heap.push {cls:=.type "range",data:=.fields #[.int lo t,.int hi u,.int 1 v]}).objs.size:=by simpa using hb
  subst e;exact I1.fpOk (Xe _) (I1.hok.fresh (Xe _))
def Qm0(ta:TA):TI:=λY H R=>ta Y H λvs H1=>∃j:Int,vs=[.int j]/\-(2 ^ 62)<=j/\j<2 ^ 62/\R (Itr 0 j.toNat) H1
def Qdm{a:Expr}{ta:TA}{p pos:Pos}(hg:Gl X "range")(hm:X.mg "range"=none)(ha:PA X [a] ta)(hs:starEach [a] X.env=[(false,eval a X.env)]:=by rfl):PI X tg (.Call (.Name "range" p) [a] [] pos) (Qm0 ta):=by
 intro pins s Y H R I h;refine Call_ (ZW I hg hm boot_range (Ww (thn (ha pos pins s Y H _ I h) λus s1 z=>?_) hs rfl));obtain⟨vs,H1,I1,r1,q1⟩:=z;obtain⟨j,e,q1,q2,q⟩:=q1;subst e
 cases r1 with
 |cons r rr=>
  cases rr;obtain⟨t,rfl⟩:=r
  exact call_range_1 (Qe0 I1 (by omega) (by omega) q1 q2 (by simpa using q))
def QoH(wi:TI)(g:TG)(tb:TS):TS:=λD Y H=>wi Y H λJ H1=>∃W:Nat->Nat->St->Hp->Prop,(∃m,W 0 m Y H1)/\∀i m Y H,W i m Y H ->
 (J.stop i H/\D.nx Y H)\/(J.go i H/\∃N:St->Hp->Prop,(∀Y' H',N Y' H'->∃m',m'<m/\W (i+1) m' Y' H')/\∀x H',J.yld i H x H'->g x Y H' λσ2 H2=>tb {D with nx:=N,ct:=N,bk:=D.nx} σ2 H2)
noncomputable def Yt(fp:List Addr)(h:Heap):List (Addr×Obj):=fp.filterMap λb=>(h.get? b).map λo=>(b,o)
def Zk{h:Heap}{b:Addr}{o:Obj}(hb:b∈fp)(e:h.get? b=some o):(b,o)∈Yt fp h:=To.mpr ⟨b,hb,by rw[e];rfl⟩
def Qdq{h:Heap}{p:Addr×Obj}(hp:p∈Yt fp h):p.1∈fp/\h.get? p.1=some p.2:=by
 obtain⟨b,hb,e⟩:=To.mp hp
 cases q:h.get? b with
 |none=>rw[q]at e;cases e
 |some o=>
  rw[q]at e;have e':(b,o)=p:=Xn e;subst e';exact⟨hb,q⟩
def Inv.pinned(I:Inv X pins Y H s)(hf:∀b∈fp,Qa5 X pins H b)(ho:∀b∈fp,∃o,s.heap.get? b=some o/\∀v,o.data≠.cell v):Inv X (pins++Yt fp s.heap) Y H s :=
 I.pins_of λp hp=>(Uj.mp hp).elim (λz=>I.pin p (Wb _ z)) λz=>by
  obtain⟨hb,e⟩:=Qdq z;obtain⟨f0,f1,f2,_⟩:=hf p.1 hb;obtain⟨o,e',d⟩:=ho p.1 hb;rw[e]at e';cases e';exact⟨e,f0,f1,f2,d⟩
def Inv.unpinned{pl:List (Addr×Obj)}(I:Inv X (pins++pl) Y H s):Inv X pins Y H s:=I.pins_of λp hp=>I.pin p (Wb _ (List.mem_append_left _ hp))
def Qde{iter:Expr}{body:List Stmt}{wi:TI}{g:TG}{tb:TS}{pos:Pos}(hp:PassesOwn (model X.prog X.w) X.A X.env X.xe)(hc:X.calm=true)(hi:PI X tg iter wi)(hg:PG X tg g)(hb:PSs X body tb)
  (hs:∀x,foldedSetIterable iter X.env x=pure x:=by intro _;rfl):PS X (.For tg iter body [] pos) (QoH wi g tb):=by
 intro pins s Y H D I h;refine wpAny_For (thn (hi pins s Y H _ I h) λv s1 h1=>thn h1 λitv s2 h2=>?_) hs;obtain⟨it,fp,tn,J,H2,e,I2,T,st2,f2,W,⟨m0,w0⟩,turn⟩:=h2;subst e
 have stat:∀{H':Hp},(∀b∈fp,H' b=none)->∀b∈fp,Qa5 X pins H' b:=λhn b hb=>⟨hn b hb,(f2 b hb).2⟩;refine codeAny_forLoop_any (λn s'=>∃i Y' H',Inv X pins Y' H' s'/\tn i s'.heap/\(∀b∈fp,H' b=none)/\W i n Y' H') ?_ m0 ⟨0,Y,H2,I2,st2,λb hb=>(f2 b hb).1,w0⟩;rintro n s3 ⟨i,σ3,H3,I3,st3,fr3,w3⟩
 rcases turn i n σ3 H3 w3 with⟨stop,qn⟩|⟨go,N,hN,step⟩
 ·refine Ul hp (thn (T.done X rfl rfl rfl hc i pins s3 σ3 H3 X.xe I3 (stat fr3) st3 stop) λr s4 z=>?_);obtain⟨hr,I4⟩:=z;subst hr;exact Uk ⟨σ3,H3,I4,qn⟩
 ·refine Ul hp (thn (T.item X rfl rfl rfl hc i pins s3 σ3 H3 X.xe I3 (stat fr3) st3 go) λr s4 y=>?_);obtain⟨u,hr,h4⟩:=y;subst hr;refine Ul hp (thn h4 λt s5 q=>?_);obtain⟨x,H5,I5,r5,y5,st5,fr5⟩:=q;have I5':=I5.pinned (stat fr5) (T.obj _ _ st5);refine Ul hp (thn (hg _ s5 σ3 H5 x u _ I5' r5 (step x H5 y5)) λt s6 p=>?_);obtain⟨σ6,H6,I6,q6⟩:=p;refine Ul hp (thn (hb _ s6 σ6 H6 _ I6 q6) λf s7 q7=>?_)
  have again:∀{σ7:St} {H7:Hp},Inv X (pins++Yt fp s5.heap) σ7 H7 s7->N σ7 H7->∃m,m<n/\∃i Y' H',Inv X pins Y' H' s7/\tn i s7.heap/\(∀b∈fp,H' b=none)/\W i m Y' H':=λ{σ7 H7} I7 n7=>by
   obtain⟨m',hm,w7⟩:=hN σ7 H7 n7;refine⟨m',hm,i+1,σ7,H7,I7.unpinned,T.keep _ _ _ st5 λb hb o e=>(I7.pin (b,o) (Wb _ (Wb _ (Zk hb e)))).1,λb hb=>?_,w7⟩;obtain⟨o,e,d⟩:=T.obj _ _ st5 b hb;exact(I7.pin (b,o) (Wb _ (Wb _ (Zk hb e)))).2.1
  cases f with
  |next=>obtain⟨σ7,H7,I7,n7⟩:=q7;exact again I7 n7
  |cont=>obtain⟨σ7,H7,I7,n7⟩:=q7;exact again I7 n7
  |brk=>obtain⟨σ7,H7,I7,q7⟩:=q7;exact⟨σ7,H7,I7.unpinned,q7⟩
  |ret v=>obtain⟨x7,σ7,H7,I7,r7,q7⟩:=q7;exact⟨x7,σ7,H7,I7.unpinned,r7,q7⟩
end
end
section
variable {f:Value->Value->Sem Value}
abbrev R2:=V->V->Hp->VK->Prop
noncomputable def OpR(X:Cx)(f:Value->Value->Sem Value)(r:R2):Prop :=
 ∀(pins:List (Addr×Obj)) (s:Shared) (Y:St) (H:Hp) (x y:V) (v u:Value) (Q:VK),Inv X pins Y H s->RelV x v->RelV y u->r x y H Q ->
  wpAny (model X.prog X.w) X.A (f v u) (EP X pins Y Q) X.xe s
noncomputable def UnR(X:Cx)(f:Value->Sem Value)(r:V->Hp->VK->Prop):Prop :=
 ∀(pins:List (Addr×Obj)) (s:Shared) (Y:St) (H:Hp) (x:V) (v:Value) (Q:VK),Inv X pins Y H s->RelV x v->r x H Q ->
  wpAny (model X.prog X.w) X.A (f v) (EP X pins Y Q) X.xe s
noncomputable def CallR(X:Cx)(f:Value)(r:List V->Hp->VK->Prop):Prop :=
 ∀(pins:List (Addr×Obj)) (s:Shared) (Y:St) (H:Hp) (xs:List V) (us:List Value) (Q:VK),Inv X pins Y H s->Vals xs us->r xs H Q ->
  wpAny (model X.prog X.w) X.A (call f us) (EP X pins Y Q) X.xe s
noncomputable def QpJ(X:Cx)(r:V->Hp->(Bool->Hp->Prop)->Prop):Prop :=
 ∀(pins:List (Addr×Obj)) (s:Shared) (Y:St) (H:Hp) (x:V) (v:Value) (Q:Bool->Hp->Prop),Inv X pins Y H s->RelV x v->r x H Q ->
  wpAny (model X.prog X.w) X.A (truthy v) (TP X pins Y Q) X.xe s
def tOp(r:R2)(ta tb:TE):TE:=λY H Q=>ta Y H λx H1=>tb Y H1 λy H2=>r x y H2 Q
def tUn(r:V->Hp->VK->Prop)(ta:TE):TE:=λY H Q=>ta Y H λx H1=>r x H1 Q
def rI(C:Int->Int->Prop)(g:Int->Int->V):R2:=λx y H Q=>∃i j,x=.int i/\y=.int j/\C i j/\Q (g i j) H
def rI0(g:Int->Int->V):R2:=λx y H Q=>∃i j,x=.int i/\y=.int j/\Q (g i j) H
def rU(g:Int->V):V->Hp->VK->Prop:=λx H Q=>∃i,x=.int i/\Q (g i) H
section
variable {X:Cx}{a b:Expr}{ta tb:TE}{pos:Pos}
def Qnx(ha:PE X a ta)(hb:PE X b tb){pins:List (Addr×Obj)}{s:Shared}{Y:St}{H:Hp}{R:V->V->Hp->Prop}(I:Inv X pins Y H s)
  (h:ta Y H λx H1=>tb Y H1 λy H2=>R x y H2) {Q:Value->Shared->Prop}
  (hf:∀v u s2 x y H2,Inv X pins Y H2 s2->RelV x v->RelV y u->R x y H2->wpAny (model X.prog X.w) X.A (f v u) Q X.xe s2):
  wpAny (model X.prog X.w) X.A (eval a X.env) (λv s₁=>wpAny (model X.prog X.w) X.A (eval b X.env) (λu s₂=>wpAny (model X.prog X.w) X.A (f v u) Q X.xe s₂) X.xe s₁) X.xe s:=by
 refine thn (ha pins s Y H _ I h) λv s1 z=>?_;obtain⟨x,H1,I1,r1,q1⟩:=z;refine thn (hb pins s1 Y H1 _ I1 q1) λu s2 t=>?_;obtain⟨y,H2,I2,r2,q2⟩:=t;exact hf v u s2 x y H2 I2 r1 r2 q2
def Qms{op:Operator}{r:R2}(ho:OpR X (binaryOp op) r)(ha:PE X a ta)(hb:PE X b tb):PE X (.BinOp a op b pos) (tOp r ta tb):=by
 intro pins s Y H Q I h;exact wpAny_BinOp (Qnx ha hb I h λv u s2 x y H2 I2 rx ry q=>ho pins s2 Y H2 x y v u Q I2 rx ry q)
def Qmq{op:UnaryOp}{r:V->Hp->VK->Prop}(ho:UnR X (unaryOp op) r)(ha:PE X a ta):PE X (.UnaryOp op a pos) (tUn r ta):=by
 intro pins s Y H Q I h;exact UnaryOp_ (thn (ha pins s Y H _ I h) λv s1 z=>by obtain⟨x,H1,I1,r1,q1⟩:=z;exact ho pins s1 Y H1 x v Q I1 r1 q1)
def opI{C:Int->Int->Prop}{g:Int->Int->Int}
  (rule:∀(i j:Int) (t u:Tok) (s:Shared) (Q:Value->Shared->Prop) (E:Value->Shared->Prop),C i j->Q (.int (g i j) s.toks) {s with toks:=s.toks+1}->wpAny (model X.prog X.w) X.A (f (.int i t) (.int j u)) Q E s):
  OpR X f (rI C λi j=>.int (g i j)):=by
 intro pins s Y H x y v u Q I rx ry h;obtain⟨i,j,rfl,rfl,hc,q⟩:=h;obtain⟨t,rfl⟩:=rx;obtain⟨t',rfl⟩:=ry;exact rule i j t t' s _ _ hc ⟨.int (g i j),H,I.tok _,⟨_,rfl⟩,q⟩
def Qlx{g:Int->Int->Int}
  (rule:∀(i j:Int) (t u:Tok) (s:Shared) (Q:Value->Shared->Prop) (E:Value->Shared->Prop),Q (.int (g i j) s.toks) {s with toks:=s.toks+1}->wpAny (model X.prog X.w) X.A (f (.int i t) (.int j u)) Q E s):
  OpR X f (rI0 λi j=>.int (g i j)):=by
 intro pins s Y H x y v u Q I rx ry h;obtain⟨i,j,rfl,rfl,q⟩:=h;obtain⟨t,rfl⟩:=rx;obtain⟨t',rfl⟩:=ry;exact rule i j t t' s _ _ ⟨.int (g i j),H,I.tok _,⟨_,rfl⟩,q⟩
def Qly{g:Int->Int->Bool}
  (rule:∀(i j:Int) (t u:Tok) (s:Shared) (Q:Value->Shared->Prop) (E:Value->Shared->Prop),Q (.bool (g i j)) s->wpAny (model X.prog X.w) X.A (f (.int i t) (.int j u)) Q E s):
  OpR X f (rI0 λi j=>.bl (g i j)):=by
 intro pins s Y H x y v u Q I rx ry h;obtain⟨i,j,rfl,rfl,q⟩:=h;obtain⟨t,rfl⟩:=rx;obtain⟨t',rfl⟩:=ry;exact rule i j t t' s _ _ ⟨.bl (g i j),H,I,rfl,q⟩
def QpL(i j:Int):Prop:=0<=j/\j<=1000000/\i.natAbs<2 ^ 64
def CMul(i j:Int):Prop:=(-(2 ^ 64) < i/\i<2 ^ 64)\/(-(2 ^ 64) < j/\j<2 ^ 64)
def CMul.ok{i j:Int}(h:CMul i j):IntMulOk i j:=by
 rcases h with⟨h1,h2⟩|⟨h1,h2⟩
 ·exact .of_left (intBits_le_64 h1 h2)
 ·exact .of_right (intBits_le_64 h1 h2)
def Qke:OpR X (binaryOp .Add) (rI0 λi j=>.int (i+j)):=Qlx λz z z z z z z q=>add_int q
def Qj1:OpR X (binaryOp .Sub) (rI0 λi j=>.int (i-j)):=Qlx λz z z z z z z q=>sub_int q
def Qj7:OpR X (binaryOp .Mod) (rI (λz j=>0<j) λi j=>.int (i % j)):=opI λi j z z z z z hc q=>by
 have h1:(0:Int) < j:=hc
 exact mod_int' (by omega) (by rw[Int.fmod_eq_emod_of_nonneg i (by omega)];exact q)
def Qj3:OpR X (binaryOp .Pow) (rI QpL λi j=>.int (i ^ j.toNat)):=opI λz z z z z z z hc q=>pow_int_small hc.1 hc.2.1 hc.2.2 q
def QhS:OpR X (inplaceOp .Add) (rI0 λi j=>.int (i+j)):=Qlx λz z z z z z z q=>iadd_int q
def QhR:OpR X (inplaceOp .Sub) (rI0 λi j=>.int (i-j)):=Qlx λz z z z z z z q=>isub_int q
def unI{f:Value->Sem Value}{g:Int->Int}
  (rule:∀(i:Int) (t:Tok) (s:Shared) (Q:Value->Shared->Prop) (E:Value->Shared->Prop),Q (.int (g i) s.toks) {s with toks:=s.toks+1}->wpAny (model X.prog X.w) X.A (f (.int i t)) Q E s):
  UnR X f (rU λi=>.int (g i)):=by
 intro pins s Y H x v Q I rx h;obtain⟨i,rfl,q⟩:=h;obtain⟨t,rfl⟩:=rx;exact rule i t s _ _ ⟨.int (g i),H,I.tok _,⟨_,rfl⟩,q⟩
def QiY:UnR X (unaryOp .USub) (rU λi=>.int (-i)):=unI λz z z z z q=>neg_int q
end
noncomputable def Qmd:V->V->Bool
 |.non,.non=>true|.non,.int _=>true|.int _,.non=>true|.non,.bl _=>true|.bl _,.non=>true|.non,.str _=>true|.str _,.non=>true
 |.int _,.int _=>true|.bl _,.bl _=>true|.str _,.str _=>true|.byt _,.byt _=>true
 |.int _,.str _=>true|.str _,.int _=>true|.bl _,.str _=>true|.str _,.bl _=>true
 |_,_=>false
def rEq:R2:=λx y H Q=>Qmd x y=true/\Q (.bl (decide (x=y))) H
def rNe:R2:=λx y H Q=>Qmd x y=true/\Q (.bl (!decide (x=y))) H
def Qd0{i j:Int}:decide (V.int i=V.int j)=(i==j):=by
 rw[U8];simp
def Qgo{i j:Bool}:decide (V.bl i=V.bl j)=(i==j):=by
 rw[U8];simp
def QdZ{i j:Str}:decide (V.str i=V.str j)=(i==j):=by
 rw[U8];simp
def Qd1{i j:Array UInt8}:decide (V.byt i=V.byt j)=(i.toList==j.toList):=by
 rw[U8];cases i;cases j;simp
section
variable {X:Cx}{a b c:Expr}{ta tb:TE}{pos:Pos}
def Qy{pins:List (Addr×Obj)}{Y:St}{H:Hp}{s:Shared}{Q:VK}{k k':Bool}(I:Inv X pins Y H s)(q:Q (.bl k) H)(e:k=k'):EP X pins Y Q (.bool k') s:=by
 subst e;exact⟨.bl k,H,I,rfl,q⟩
def QmB:OpR X (compareOp .Eq) rEq:=by
 intro pins s Y H x y v u Q I rx ry h;obtain⟨hs,q⟩:=h
 cases x with
 |non=>
  cases rx
  cases y with
  |non=>cases ry;exact PySem.EqNone.eq_none_none (Qy I q (by simp))
  |bl j=>cases ry;exact PySem.EqNone.eq_none_bool (Qy I q (by simp))
  |int j=>obtain⟨t',rfl⟩:=ry;exact PySem.EqNone.eq_none_int (Qy I q (by simp))
  |str j=>obtain⟨t',rfl⟩:=ry;exact PySem.EqNone.eq_none_str (Qy I q (by simp))
  |_=>exact absurd (show false=true from hs) Xh
 |bl i=>
  cases rx
  cases y with
  |non=>cases ry;exact PySem.EqNone.eq_bool_none (Qy I q (by simp))
  |bl j=>cases ry;exact eq_bool (Qy I q Qgo)
  |str j=>obtain⟨t',rfl⟩:=ry;exact PySem.EqMixed.eq_bool_str (Qy I q (by simp))
  |_=>exact absurd (show false=true from hs) Xh
 |int i=>
  obtain⟨t,rfl⟩:=rx
  cases y with
  |non=>cases ry;exact PySem.EqNone.eq_int_none (Qy I q (by simp))
  |int j=>obtain⟨t',rfl⟩:=ry;exact eq_int (Qy I q Qd0)
  |str j=>obtain⟨t',rfl⟩:=ry;exact PySem.EqMixed.eq_int_str (Qy I q (by simp))
  |_=>exact absurd (show false=true from hs) Xh
 |str i=>
  obtain⟨t,rfl⟩:=rx
  cases y with
  |non=>cases ry;exact PySem.EqNone.eq_str_none (Qy I q (by simp))
  |bl j=>cases ry;exact PySem.EqMixed.eq_str_bool (Qy I q (by simp))
  |int j=>obtain⟨t',rfl⟩:=ry;exact PySem.EqMixed.eq_str_int (Qy I q (by simp))
  |str j=>obtain⟨t',rfl⟩:=ry;exact eq_str (Qy I q QdZ)
  |_=>exact absurd (show false=true from hs) Xh
 |byt i=>
  obtain⟨t,rfl⟩:=rx
  cases y with
  |byt j=>obtain⟨t',rfl⟩:=ry;exact W.eq_bytes (Qy I q Qd1)
  |_=>exact absurd (show false=true from hs) Xh
 |_=>cases y<;>exact absurd (show false=true from hs) Xh
def Qmw:OpR X (compareOp .NotEq) rNe:=by
 intro pins s Y H x y v u Q I rx ry h;obtain⟨hs,q⟩:=h
 cases x with
 |non=>
  cases rx
  cases y with
  |non=>cases ry;exact PySem.EqNone.ne_none_none (Qy I q (by simp))
  |bl j=>cases ry;exact PySem.EqNone.ne_none_bool (Qy I q (by simp))
  |int j=>obtain⟨t',rfl⟩:=ry;exact PySem.EqNone.ne_none_int (Qy I q (by simp))
  |str j=>obtain⟨t',rfl⟩:=ry;exact PySem.EqNone.ne_none_str (Qy I q (by simp))
  |_=>exact absurd (show false=true from hs) Xh
 |bl i=>
  cases rx
  cases y with
  |non=>cases ry;exact PySem.EqNone.ne_bool_none (Qy I q (by simp))
  |bl j=>cases ry;exact ne_bool (Qy I q (congrArg not Qgo))
  |str j=>obtain⟨t',rfl⟩:=ry;exact PySem.EqMixed.ne_bool_str (Qy I q (by simp))
  |_=>exact absurd (show false=true from hs) Xh
 |int i=>
  obtain⟨t,rfl⟩:=rx
  cases y with
  |non=>cases ry;exact PySem.EqNone.ne_int_none (Qy I q (by simp))
  |int j=>obtain⟨t',rfl⟩:=ry;exact ne_int (Qy I q (congrArg not Qd0))
  |str j=>obtain⟨t',rfl⟩:=ry;exact PySem.EqMixed.ne_int_str (Qy I q (by simp))
  |_=>exact absurd (show false=true from hs) Xh
 |str i=>
  obtain⟨t,rfl⟩:=rx
  cases y with
  |non=>cases ry;exact PySem.EqNone.ne_str_none (Qy I q (by simp))
  |bl j=>cases ry;exact PySem.EqMixed.ne_str_bool (Qy I q (by simp))
  |int j=>obtain⟨t',rfl⟩:=ry;exact PySem.EqMixed.ne_str_int (Qy I q (by simp))
  |str j=>obtain⟨t',rfl⟩:=ry;exact ne_str (Qy I q (congrArg not QdZ))
  |_=>exact absurd (show false=true from hs) Xh
 |byt i=>
  obtain⟨t,rfl⟩:=rx
  cases y with
  |byt j=>obtain⟨t',rfl⟩:=ry;exact W.ne_bytes (Qy I q (congrArg not Qd1))
  |_=>exact absurd (show false=true from hs) Xh
 |_=>cases y<;>exact absurd (show false=true from hs) Xh
def Qmx:OpR X (compareOp .Lt) (rI0 λi j=>.bl (decide (i<j))):=Qly λz z z z z z z q=>lt_int q
def Qmy:OpR X (compareOp .LtE) (rI0 λi j=>.bl (decide (i<=j))):=Qly λz z z z z z z q=>le_int q
def Qmz:OpR X (compareOp .Gt) (rI0 λi j=>.bl (decide (j<i))):=Qly λz z z z z z z q=>gt_int q
def QmA:OpR X (compareOp .GtE) (rI0 λi j=>.bl (decide (j<=i))):=Qly λz z z z z z z q=>ge_int q
def Qj8:OpR X (compareOp .Is) (λx y H Q=>y=.non/\Q (.bl (decide (x=.non))) H):=by
 intro pins s Y H x y v u Q I rx ry h;obtain⟨rfl,q⟩:=h;cases ry;refine is_none_gen (Qy I q ?_)
 cases x<;>first
  | (cases rx;rfl)
  | (obtain⟨t,rfl⟩:=rx;rfl)
def Qhw:OpR X (compareOp .IsNot) (λx y H Q=>y=.non/\Q (.bl (!decide (x=.non))) H):=by
 intro pins s Y H x y v u Q I rx ry h;obtain⟨rfl,q⟩:=h;cases ry;refine isnot_none_gen (Qy I q ?_)
 cases x<;>first
  | (cases rx;rfl)
  | (obtain⟨t,rfl⟩:=rx;rfl)
def OpR.or{r r':R2}(h:OpR X f r)(h':OpR X f r'):OpR X f (λx y H Q=>r x y H Q\/r' x y H Q):=by
 intro pins s Y H x y v u Q I rx ry q
 rcases q with q|q
 ·exact h pins s Y H x y v u Q I rx ry q
 ·exact h' pins s Y H x y v u Q I rx ry q
def Qht{op:CmpOp}{r:R2}(ho:OpR X (compareOp op) r)(ha:PE X a ta)(hb:PE X b tb)(hm:behindInMarks op b=false):PE X (.Compare a [op] [b] pos) (tOp r ta tb):=by
 intro pins s Y H Q I h;exact wpAny_Compare1 (Qnx ha hb I h λv u s2 x y H2 I2 rx ry q=>ho pins s2 Y H2 x y v u Q I2 rx ry q) hm
def Ql5(t:TE):TT:=λY H Q=>t Y H λx H'=>∃k,x=.bl k/\Q k H'
def Qhe{op:CmpOp}{r:R2}(ho:OpR X (compareOp op) r)(ha:PE X a ta)(hb:PE X b tb)(hm:behindInMarks op b=false):PT X (.Compare a [op] [b] pos) (Ql5 (tOp r ta tb)):=by
 intro pins s Y H Q I h
 refine wpAny_isTrue_Compare1 (thn (ha pins s Y H _ I h) λv s1 ⟨x,H1,I1,r1,q1⟩=>thn (hb pins s1 Y H1 _ I1 q1) λu s2 ⟨y,H2,I2,r2,q2⟩=>
  thn (ho pins s2 Y H2 x y v u _ I2 r1 r2 q2) λc s3 ⟨z,H3,I3,r3,k,e,q3⟩=>?_) hm
 subst e;cases r3;exact V8 ⟨H3,I3,q3⟩
noncomputable def Qlg(K:W.Frag)(x:V)(H:Hp)(k:Bool):Prop :=
 match x with
 |.non=>k=false
 |.bl b=>k=b
 |.int i=>k=(i != 0)
 |.str y=>y.length<=sizeLine/\k=((y.length:Int) != 0)
 |.byt y=>y.size<=sizeLine/\k=((y.size:Int) != 0)
 |.ref p=>(∃xs,SqL K H p xs/\k=!xs.isEmpty)\/(∃xs,SqT K H p xs/\k=!xs.isEmpty)\/∃kvs,H p=some (.dK kvs)/\k=!kvs.isEmpty
 |_=>False
def Qco{κ:Type}{kvs:List (κ×V)}{vs:List (κ×Value)}(r:KV kvs vs):(!vs.isEmpty)=!kvs.isEmpty:=by
 cases r<;>rfl
def Y7{xs:List V}{its:List Value}(r:Vals xs its):(!its.toArray.isEmpty)=!xs.isEmpty:=by
 cases r<;>simp
def Yy:(sizeLine:Nat) < 2 ^ 63:=by rw[sizeLine_eq];decide
def Qf6:QpJ X (λx H Q=>∃k,Qlg X.K x H k/\Q k H):=by
 intro pins s Y H x v Q I rx h;obtain⟨k,e,q⟩:=h;have hl:=Yy;have hs:sizeLine=16777216:=sizeLine_eq
 cases x with
 |non=>
  cases rx;have e':k=false:=e;subst e';exact truthy_none ⟨H,I,q⟩
 |bl b=>
  cases rx;have e':k=b:=e;subst e';exact V8 ⟨H,I,q⟩
 |int i=>
  obtain⟨t,rfl⟩:=rx;have e':k=(i != 0):=e;subst e';exact PySem.P.truthy_int ⟨H,I,q⟩
 |str y=>
  obtain⟨t,rfl⟩:=rx;obtain⟨hy,e'⟩:y.length<=sizeLine/\k=((y.length:Int) != 0):=e;subst e'
  exact PySem.P.truthy_str (by omega) ⟨H,I.tok _,q⟩
 |byt y=>
  obtain⟨t,rfl⟩:=rx;obtain⟨hy,e'⟩:y.size<=sizeLine/\k=((y.size:Int) != 0):=e;subst e'
  exact W.truthy_bytes (by omega) ⟨H,I.tok _,q⟩
 |ref p=>
  cases rx;have e':(∃xs,SqL X.K H p xs/\k=!xs.isEmpty)\/(∃xs,SqT X.K H p xs/\k=!xs.isEmpty)\/∃kvs,H p=some (.dK kvs)/\k=!kvs.isEmpty:=e
  rcases e' with⟨xs,hx,e'⟩|⟨xs,hx,e'⟩|⟨kvs,hx,e'⟩
  ·subst e';obtain⟨its,r,pl,hz⟩:=I.list hx;have hlen:=r.length
   exact wpAny_truthy_list pl.isList (by simp only[Xp];omega) ⟨H,I.tok _,by rw[Y7 r];exact q⟩
  ·subst e';obtain⟨its,r,pl,hz⟩:=I.tuple hx;have hlen:=r.length
   exact truthy_tuple pl (by simp only[Xp];omega) ⟨H,I.tok _,by rw[Y7 r];exact q⟩
  ·subst e';obtain⟨hz,hS,vs,r,m⟩:kvs.length<=sizeLine/\(p==sysModules)=false/\∃vs,KV kvs vs/\s.heap.DictOf (Yw X.prog X.w) p vs:=I.hok p _ hx;have hlen:kvs.length=vs.length:=Paired.length r
   exact wpAny_truthy_dict hS m (by omega) ⟨H,I.tok _,by rw[Qco r];exact q⟩
 |_=>exact(show False from e).elim
def Qe1(ha:PE X a ta)(he:∀whole,isTrue a X.env whole=(do let v <-whole;standAt a.pos;holding [v] (truthy v))):
  PT X a (λY H Q=>ta Y H λx H'=>∃k,Qlg X.K x H' k/\Q k H'):=by
 intro pins s Y H Q I h;exact isTrue_plain (thn (ha pins s Y H _ I h) λv s1 z=>by obtain⟨x,H1,I1,r1,q1⟩:=z;exact Qf6 pins s1 Y H1 x v Q I1 r1 q1) (he _)
def JN{x:V}{us:List Value}(r:Vals [x] us):∃u,us=[u]/\RelV x u:=by
 cases r with
 |cons r1 r2=>cases r2;exact⟨_,rfl,r1⟩
def QgM{x y:V}{us:List Value}(r:Vals [x,y] us):∃u w',us=[u,w']/\RelV x u/\RelV y w':=by
 cases r with
 |cons r1 r2=>
  cases r2 with
  |cons r3 r4=>cases r4;exact⟨_,_,rfl,r1,r3⟩
def Qef:CallR X (.type "int") (λxs H Q=>(∃i,xs=[.int i]/\Q (.int i) H)\/∃k,xs=[.bl k]/\Q (.int (if k then 1 else 0)) H):= by
 intro pins s Y H xs us Q I r h
 rcases h with⟨i,rfl,q⟩|⟨k,rfl,q⟩
 ·obtain⟨u,rfl,t,rfl⟩:=JN r;exact call_int_int ⟨.int i,H,I,⟨_,rfl⟩,q⟩
 ·obtain⟨u,rfl,r1⟩:=JN r;cases r1;exact call_int_bool ⟨.int (if k then 1 else 0),H,I.tok _,⟨_,rfl⟩,q⟩
end
end
section
variable {C dx:Addr}{A:Around}{X:Cx}{h:Heap}{H:Hp}{s:Shared}{f:Str}{mA:Str->Option Value}{v:V}{u:Value}{Q:Value->Shared->Prop}{w:World}
structure ObjM(h:Heap)(x dx C:Addr)(mA:Str->Option Value):Prop where
 obj:h.get? x=some (W.instObj C dx)
 ns:h.Ns1 dx mA
 ne:dx≠x
def QdD(n:h.Ns1 dx mA):∃od,h.get? dx=some od/\∀name,W.lookIn name od=some (mA name):=by
 obtain⟨o,es,ep,ho,hd,hk,_,hm⟩:=n;refine⟨o,ho,λname=>?_⟩;have e:=hm name;unfold nsFind findBy at e;rw[<-Array.find?_toList]at e;unfold W.lookIn;rw[hd];dsimp only;split
 ·rename_i y q;rw[q]at e;exact congrArg some e
 ·rename_i q;rw[q]at e
  have a:es.toList.any (·.refKey)=false:=by
   rw[List.any_eq_false];intro y hy;obtain⟨z,t,hkey⟩:=hk y (Array.mem_toList_iff.mp hy);simp[DictEntry.refKey,hkey]
  have a':¬es.toList.any (·.refKey)=true:=by rw[a];exact Xh
  rw[if_neg a'];exact congrArg some e
def ObjM.look{x:Addr}(I:ObjM h x dx C mA):∃od,W.InstAt h x (W.instObj C dx) C (some od)/\∀name,W.lookIn name od=some (mA name):=
 let ⟨od,ho,hl⟩:=QdD I.ns
 ⟨od,⟨I.obj,rfl,rfl,ho⟩,hl⟩
section
variable {prog:Program}{E:Value->Shared->Prop}{K:W.Frag}{x f:Addr}{name:Str}{v:Value}
def QhW{expr:Bool}(X:K.In s.heap)(I:ObjM s.heap x dx C mA)(hg:W.plainGet K C name=true)(hh:W.hasDictIn K C=true)
  (ha:W.findIn K (.ref C) name=some none) (hv:mA name=some v) (hv':W.handedIn v=true) (h:Q v {s with toks:=s.toks+1}):
  wpAny (model prog w) A (getAttr (.ref x) name expr) Q E s:=by
 obtain⟨od,J,hl⟩:=I.look
 exact W.get_value X J (W.plainGet_of hg).1 (W.findObj_own hh ha rfl (by rw[hl,hv])) hv' h
def Qfx{pl:Sem Bool}{Q:Value×List Value->Shared->Prop}(X:K.In s.heap)(I:ObjM s.heap x dx C mA)(hg:W.plainGet K C name=true)
  (hf:W.findIn K (.ref C) name=some (some (.ref f))) (ht:W.isFn K (.ref f)=true) (hv:mA name=none) (h:Q (.ref f,[.ref x]) s):
  wpAny (model prog w) A (getMethod (.ref x) name pl) Q E s:=by
 obtain⟨od,J,hl⟩:=I.look
 exact W.method_fn X J (W.plainGet_of hg).1 (W.plainGet_of hg).2 hf (We.mp ht) (by show(W.lookIn name od).map (·.isSome)=some false;rw[hl,hv];rfl) h
def Qg0{ns:List Str}{Q:Unit->Shared->Prop}(X:K.In s.heap)(I:ObjM s.heap x dx C mA)
  (hs:W.findIn K (.ref C) "__setattr__"=some (some (.builtin "object.__setattr__"))) (hp:W.plainOver K C=true) (ht:W.takerIn K C name=some none) (hh:W.hasDictIn K C=true)
  (hw:PySem.Within mA ns) (hsz:ns.length<=sizeLine)
  (h:∀h',ObjM h' x dx C (λy=>if y=name then some v else mA y)->Heap.SameBut dx s.heap h'->Q () {s with heap:=h',toks:=s.toks+2}):
  wpAny (model prog w) A (setAttr (.ref x) name v) Q E s:=by
 obtain⟨od,J,hl⟩:=I.look;refine W.set_plain X J hs (W.osa_open (s:={s with toks:=s.toks+1}) (r:=none) X J hp ht λb=>?_);obtain⟨cd,hc,hd'⟩:=W.any_some hh;have hx:s.heap.get? x=some ⟨.ref C,some dx,.plain,#[]⟩:=I.obj;refine Xa (Xi (Xa (Xa (wpAny_loadPart hx (Xa (W.Looks.here (s:={s with toks:=s.toks+1}) (W.looks_clsIn X hc) ?_))))));rw[hd'];refine Xi (a:=some dx) (Xa (Xi (Xa ?_)));refine wpAny_nsSet1 (s:={s with toks:=s.toks+1}) I.ns λh' hn2 hs2=>?_;obtain⟨oD,esD,epD,hoD,hdD,hcD⟩:=hn2.count (PySem.Within.cons name v hw)
 refine Xa (wpAny_lookBehind hoD (by rw[hdD];exact pastItsLine_dict (X2 hcD (by rw[Ve];omega))) ?_)
 exact Xi (h _ ⟨(hs2.2 _ (Wy I.ne)).trans I.obj,hn2,I.ne⟩ hs2)
def Qfm{R:Result->Shared->Prop}{vs:List Value}{kw:List (Str×Value)}(X:K.In s.heap)(hm:W.makesIn K C=true)
  (hi:W.findIn K (.ref C) "__init__"=some (some (.ref f))) (hf:W.typeIn K (.ref f)=some (.type "function"))
  (h:codeAny (model prog w) (A.under (.builtin "type.__call__" ⟨.ref C::vs,kw⟩)) (.call (.ref f) ⟨.ref (s.heap.objs.size+1)::vs,kw⟩) (W.InitBack (s.heap.objs.size+1) R)
   {s with heap:=(s.heap.push W.emptyDict).push (W.instObj C s.heap.objs.size)}):
  codeAny (model prog w) A (.call (.ref C) ⟨vs,kw⟩) R s:=by
 obtain⟨hh,g,d,t,os⟩:=s;exact W.make_core (W.makes_of X hm) (W.looks_findIn X hi) (λself=>W.bind_fn X self hf) (.inl rfl) h
def QdB{R:Result->Shared->Prop}(X:K.In s.heap)(hm:W.makesIn K C=true)
  (hi:W.findIn K (.ref C) "__init__"=some (some (.builtin "object.__init__")))
  (hb:∀self,W.Looks (model prog w) s.heap (bindSpecial (.builtin "object.__init__") self) (.builtin "object.__init__",[self]))
  (h:codeAny (model prog w) (A.under (.builtin "type.__call__" ⟨[.ref C],[]⟩)) (.call (.builtin "object.__init__") ⟨[.ref (s.heap.objs.size+1)],[]⟩) (W.InitBack (s.heap.objs.size+1) R)
   {s with heap:=(s.heap.push W.emptyDict).push (W.instObj C s.heap.objs.size)}):
  codeAny (model prog w) A (.call (.ref C) ⟨[],[]⟩) R s:=by
 obtain⟨hh,g,d,t,os⟩:=s;exact W.make_core (W.makes_of X hm) (W.looks_findIn X hi) hb (.inr ⟨rfl,rfl⟩) h
end
noncomputable def Jj(f:Str)(v:V):List (Str×V)->List (Str×V)
 |[]=>[(f,v)]
 | (g,x)::r=>if g=f then(g,v)::r else(g,x)::Jj f v r
theorem Yx(f g:Str)(v:V):∀fs:List (Str×V),(Jj f v fs).lookup g=if g=f then some v else fs.lookup g
 |[]=>by
  show List.lookup g [(f,v)]=_;by_cases h:g=f
  ·have hb:(g==f)=true:=We.mpr h;simp only[List.lookup,hb,if_pos h]
  ·have hb:(g==f)=false:=W3.mpr h;simp only[List.lookup,hb,if_neg h]
 | (k,x)::r=>by
  have ih:=Yx f g v r;rw[show Jj f v ((k,x)::r)=(if k=f then(k,v)::r else(k,x)::Jj f v r)from rfl];by_cases hk:k=f
  ·rw[if_pos hk];by_cases h:g=k
   ·have hb:(g==k)=true:=We.mpr h;simp only[List.lookup,hb,if_pos (h.trans hk)]
   ·have hb:(g==k)=false:=W3.mpr h;simp only[List.lookup,hb,if_neg (λe:g=f=>h (e.trans hk.symm))]
  ·rw[if_neg hk];by_cases h:g=k
   ·have hb:(g==k)=true:=We.mpr h;simp only[List.lookup,hb,if_neg (λe:g=f=>hk (h.symm.trans e))]
   ·have hb:(g==k)=false:=W3.mpr h;simp only[List.lookup,hb];exact ih
theorem YC(f:Str)(v:V):∀fs:List (Str×V),f∈(Jj f v fs).map (·.1)/\∀g,g∈fs.map (·.1)->g∈(Jj f v fs).map (·.1)
 |[]=>⟨by simp[Jj],λg h=>by simp at h⟩
 | (k,x)::r=>by
  obtain⟨i1,i2⟩:=YC f v r;rw[show Jj f v ((k,x)::r)=(if k=f then(k,v)::r else(k,x)::Jj f v r)from rfl];by_cases hk:k=f
  ·rw[if_pos hk];subst hk
   exact⟨by simp,λg h=>by simpa using h⟩
  ·rw[if_neg hk];refine⟨?_,λg h=>?_⟩
   ·rw[X7];exact Xk _ i1
   ·rw[X7]at h ⊢
    rcases Xm.mp h with e|e
    ·exact Xm.mpr (.inl e)
    ·exact Xk _ (i2 g e)
theorem Yz(f:Str)(v:V):∀fs:List (Str×V),(Jj f v fs).length<=fs.length+1
 |[]=>by simp[Jj]
 | (k,x)::r=>by
  have ih:=Yz f v r;rw[show Jj f v ((k,x)::r)=(if k=f then(k,v)::r else(k,x)::Jj f v r)from rfl];by_cases hk:k=f
  ·rw[if_pos hk,Ve,Ve];omega
  ·rw[if_neg hk,Ve,Ve];omega
def RelO.some_of{o:Option Value}(r:RelO (some v) o):∃u,o=some u/\RelV v u:=by
 cases o with
 |none=>exact(show False from r).elim
 |some u=>exact⟨u,rfl,r⟩
def RelO.none_of{o:Option Value}(r:RelO none o):o=none:=by
 cases o with
 |none=>rfl
 |some u=>exact(show False from r).elim
def QdQ(r:RelV v u):W.handedIn u=true:=by
 cases v with
 |non=>cases(show u=Value.none from r);rfl
 |bl b=>cases(show u=Value.bool b from r);rfl
 |int i=>obtain⟨t,e⟩:=(show ∃t,u=Value.int i t from r);cases e;rfl
 |str x=>obtain⟨t,e⟩:=(show ∃t,u=Value.str x t from r);cases e;rfl
 |byt b=>obtain⟨t,e⟩:=(show ∃t,u=Value.bytes b t from r);cases e;rfl
 |flt b=>obtain⟨t,e⟩:=(show ∃t,u=Value.float b t from r);cases e;rfl
 |ref a=>cases(show u=Value.ref a from r);rfl
 |ty n=>cases(show u=Value.type n from r);rfl
section
variable {P:Program}{a:Addr}{fs:List (Str×V)}
def Jt(hok:HOk P w H h)(e:H a=some (.ins C dx fs)):∃mA,ObjM h a dx C mA/\(∀f,RelO (fs.lookup f) (mA f))/\PySem.Within mA (fs.map (·.1))/\fs.length<=1000/\H dx=some (.own a):=by
 obtain⟨d,z,ne,ob,mA,n,r,q⟩:=(show ObjOk P w H h a (.ins C dx fs)from hok a _ e);exact⟨mA,⟨ob,n,ne⟩,r,q,z,d⟩
end
structure Cls(K:W.Frag)(C:Addr):Prop where
 pg:W.plainGet K C Str.empty=true
 hd:W.hasDictIn K C=true
 po:W.plainOver K C=true
 sa:W.findIn K (.ref C) "__setattr__"=some (some (.builtin "object.__setattr__"))
def Cls.get{K:W.Frag}(c:Cls K C)(f:Str):W.plainGet K C f=true:=c.pg
def NoAttr(K:W.Frag)(C:Addr)(f:Str):Prop:=W.findIn K (.ref C) f=some none
def NoAttr.taker{K:W.Frag}(n:NoAttr K C f):W.takerIn K C f=some none:=by
 unfold W.takerIn;rw[show W.findIn K (.ref C) f=some none from n];rfl
structure Meth(K:W.Frag)(C:Addr)(m:Str)(f:Addr):Prop where
 at_:W.findIn K (.ref C) m=some (some (.ref f))
 fn:W.isFn K (.ref f)=true
 kp:W.keepIn K (.ref f)=true
section
variable {pins:List (Addr×Obj)}{Y:St}{a:Addr}{fs:List (Str×V)}{E:Value->Shared->Prop}
def Qcr{b:Bool}(I:Inv X pins Y H s)(e:H a=some (.ins C dx fs))(c:Cls X.K C)(n:NoAttr X.K C f)(l:fs.lookup f=some v)
  (h:∀u s',Inv X pins Y H s'->RelV v u->Q u s'):wpAny (model X.prog X.w) A (getAttr (.ref a) f b) Q E s:=by
 obtain⟨mA,O,r,_,_,_⟩:=Jt I.hok e
 obtain⟨u,hu,ru⟩:=RelO.some_of (v:=v) (o:=mA f) (by rw[<-l];exact r f)
 exact QhW I.kIn O (c.get f) c.hd n hu (QdQ ru) (h u _ (I.tok _) ru)
def Qcq{m:Str}{g:Addr}{pl:Sem Bool}{Q:Value×List Value->Shared->Prop}(I:Inv X pins Y H s)(e:H a=some (.ins C dx fs))(c:Cls X.K C)(k:Meth X.K C m g)(l:fs.lookup m=none)
  (h:Q (.ref g,[.ref a]) s):wpAny (model X.prog X.w) A (getMethod (.ref a) m pl) Q E s:=by
 obtain⟨mA,O,r,_,_,_⟩:=Jt I.hok e
 have hn:mA m=none:=RelO.none_of (by rw[<-l];exact r m)
 exact Qfx I.kIn O (c.get m) k.at_ k.fn hn h
def Qb7{y:V}{Q:Unit->Shared->Prop}(I:Inv X pins Y H s)(e:H a=some (.ins C dx fs))(c:Cls X.K C)(n:NoAttr X.K C f)(hl:fs.length<1000)(ry:RelV y u)
  (h:∀s',Inv X pins Y (upd H a (.ins C dx (Jj f y fs))) s'->Q () s'):wpAny (model X.prog X.w) A (setAttr (.ref a) f u) Q E s:=by
 obtain⟨mA,O,r,wi,_,ho⟩:=Jt I.hok e
 have hz:(fs.map (·.1)).length<=sizeLine:=by rw[X6,sizeLine_eq];omega
 refine Qg0 I.kIn O c.sa c.po n.taker c.hd wi hz λh' O' sb=>h _ ?_;have hd:∃o,h'.get? dx=some o:=let ⟨o,_,_,e',_⟩:=O'.ns;⟨o,e'⟩
 refine I.write (x:=a) (e:=dx) (by rw[e];exact True.intro) (.inr ho) (λb q hb z=>(sb.2 b hb).trans z) hd ?_
 refine⟨by rw[Qe O.ne];exact ho,?_,O.ne,O'.obj,_,O'.ns,λg=>?_,λg hg=>?_⟩
 ·have:=Yz f y fs;omega
 ·show RelO ((Jj f y fs).lookup g) (if g=f then some u else mA g);rw[Yx];by_cases q:g=f
  ·rw[if_pos q,if_pos q];exact ry
  ·rw[if_neg q,if_neg q];exact r g
 ·by_cases q:g=f
  ·rw[q];exact(YC f y fs).1
  ·refine(YC f y fs).2 g (wi g λz=>hg ?_);show(if g=f then some u else mA g)=none;rw[if_neg q];exact z
def Inv.made(I:Inv X pins Y H s):Inv X pins Y (upd (upd H s.heap.objs.size (.own (s.heap.objs.size+1))) (s.heap.objs.size+1) (.ins C s.heap.objs.size []))
  {s with heap:=(s.heap.push W.emptyDict).push (W.instObj C s.heap.objs.size)}:=by
 have e1:(s.heap.push W.emptyDict).get? s.heap.objs.size=some W.emptyDict:=Xr s.heap rfl
 have e2:((s.heap.push W.emptyDict).push (W.instObj C s.heap.objs.size)).get? (s.heap.objs.size+1)=some (W.instObj C s.heap.objs.size):=by
  have:=Xr (s.heap.push W.emptyDict) (o:=W.instObj C s.heap.objs.size) rfl;rwa [X1]at this
 have e3:(s.heap.push W.emptyDict).Ns s.heap.objs.size (λz=>none):=⟨W.emptyDict,#[],_,e1,rfl,(λe he=>absurd he (by simp)),λz=>rfl⟩
 have I1:=I.laid (a:=s.heap.objs.size) (o:=.own (s.heap.objs.size+1)) (h':=s.heap.push W.emptyDict) (t':=s.toks) (λb u q=>Xb _ q) (Xe _) ⟨_,e1⟩;refine I1.laid (a:=s.heap.objs.size+1) (o:=.ins C s.heap.objs.size []) (t':=s.toks) (λb u q=>Xb _ q) (Nat.le_of_eq (X1 _ _)) ?_;have ne:s.heap.objs.size≠s.heap.objs.size+1:=X4 (W6 _)
 refine⟨by rw[Qe ne,Qp],Wq _,ne,e2,λz=>none,(Heap.Ns1.of_empty e3).at λo q=>Xb _ q,λz=>True.intro,λy hy=>absurd rfl hy⟩
def Qik{prog:Program}{env:Env}{e:Expr}{f:Str}{pos:Pos}{s:Shared}(hb:attributeBase e f env (eval e env)=eval e env)
  (h:wpAny (model prog w) A (eval e env) (λo s₁=>wpAny (model prog w) A (getAttr o f true) Q E s₁) E s):wpAny (model prog w) A (eval (.Attribute e f pos) env) Q E s :=
 Attribute_any_ h (by rw[arm_eval_Attribute,hb])
end
def QoI(K:W.Frag)(ta:TE)(f:Str):TE:=λY H Q=>ta Y H λx H1=>∃a C dx fs v,x=.ref a/\H1 a=some (.ins C dx fs)/\Cls K C/\NoAttr K C f/\fs.lookup f=some v/\Q v H1
def QoW(K:W.Frag)(ta tv:TE)(f:Str):TS:=λD Y H=>tv Y H λy H1=>ta Y H1 λx H2=>∃a C dx fs,x=.ref a/\H2 a=some (.ins C dx fs)/\Cls K C/\NoAttr K C f/\fs.length<1000 /\
 D.nx Y (upd H2 a (.ins C dx (Jj f y fs)))
section
variable {o e value:Expr}{pos pos':Pos}{ta tv:TE}
def QjY(he:PE X e ta)(hb:attributeBase e f X.env (eval e X.env)=eval e X.env):PE X (.Attribute e f pos) (QoI X.K ta f):=by
 intro pins s Y H Q I h;refine Qik hb (thn (he pins s Y H _ I h) λu s1 z=>?_);obtain⟨x,H1,I1,rx,a,C,dx,fs,v,ex,ea,c,n,l,q⟩:=z;subst ex;obtain rfl:u=Value.ref a:=rx;exact Qcr I1 ea c n l λu' s2 I2 ru=>⟨v,H1,I2,ru,q⟩
def QjK(ha:PE X o ta)(hv:PE X value tv)(hs:swapsWith value (some (.Attribute o f pos')) pos.line X.env=pure false):PS X (.Assign [.Attribute o f pos'] value pos) (QoW X.K ta tv f):=by
 intro pins s Y H D I h;refine plainObj_wpAny_Assign_Attribute (thn (hv pins s Y H _ I h) λu s1 ⟨y,H1,I1,ry,q⟩=>thn (ha pins s1 Y H1 _ I1 q) λov s2 z=>?_) hs;obtain⟨x,H2,I2,rx,a,C,dx,fs,ex,ea,c,n,l,q2⟩:=z;subst ex;obtain rfl:ov=Value.ref a:=rx;exact Qb7 I2 ea c n l ry λs3 I3=>⟨Y,_,I3,q2⟩
end
section
variable {pins:List (Addr×Obj)}{Y:St}{E:Value->Shared->Prop}{c:Value}{b:Bool}
inductive TyOf(K:W.Frag)(H:Hp):V->Value->Prop where
 |non:TyOf K H .non (.type "NoneType")
 |bl (x:Bool):TyOf K H (.bl x) (.type "bool")
 |int (i:Int):TyOf K H (.int i) (.type "int")
 |str (x:Str):TyOf K H (.str x) (.type "str")
 |flt (x:UInt64):TyOf K H (.flt x) (.type "float")
 |lst {a:Addr} {xs:List V} (e:H a=some (.lst xs)):TyOf K H (.ref a) (.type "list")
 |frz {a:Addr} {o:Obj} {xs:List V} (e:H a=some (.frz o (.lst xs))):TyOf K H (.ref a) (.type "list")
 |tup {a:Addr} {xs:List V} (e:H a=some (.tup xs)):TyOf K H (.ref a) (.type "tuple")
 |dK {a:Addr} {kvs:List (Key×V)} (e:H a=some (.dK kvs)):TyOf K H (.ref a) (.type "dict")
 |dT {a:Addr} {kvs:List (List Key×V)} (e:H a=some (.dT kvs)):TyOf K H (.ref a) (.type "dict")
 |ins {a C dx:Addr} {fs:List (Str×V)} (e:H a=some (.ins C dx fs)) (cl:Cls K C) (ha:W.findIn K (.ref C) "__class__"=some (some (.builtin "object.__class__")))
   (hn:W.specialIn K (.builtin "object.__class__") "__get__"=some (some (.builtin "getset_descriptor.__get__"))) (htk:W.takesIn K (.builtin "object.__class__")=some true)
   (hm:W.mroIn K C (.type "object")=some true):TyOf K H (.ref a) (.ref C)
def QdM{x:V}{t:Value}(I:Inv X pins Y H s)(rx:RelV x u)(ty:TyOf X.K H x t)(e:W.kitOne X.K t c=some b)(h:∀tk,Q (.bool b) {s with toks:=tk}):
  wpAny (model X.prog X.w) A (call (.builtin "isinstance") [u,c]) Q E s:=by
 cases ty with
 |non=>cases(show u=Value.none from rx);exact Vr W.kitx_none I.kIn True.intro e (λz=>nomatch z) h
 |bl y=>cases(show u=Value.bool y from rx);exact Vr W.kitx_bool I.kIn True.intro e (λz=>nomatch z) h
 |int i=>obtain⟨t,q⟩:=(show ∃t,u=Value.int i t from rx);cases q;exact Vr W.kitx_int I.kIn True.intro e (λz=>nomatch z) h
 |str y=>obtain⟨t,q⟩:=(show ∃t,u=Value.str y t from rx);cases q;exact Vr W.kitx_str I.kIn True.intro e (λz=>nomatch z) h
 |flt y=>obtain⟨t,q⟩:=(show ∃t,u=Value.float y t from rx);cases q;exact Vr W.kitx_float I.kIn True.intro e (λz=>nomatch z) h
 | @lst a xs ea=>
  cases(show u=Value.ref a from rx);obtain⟨_,_,n,_,h1⟩:=(show ObjOk X.prog X.w H s.heap a (.lst xs)from I.hok a _ ea);exact Vr W.kitx_list I.kIn ⟨_,h1,rfl⟩ e (λz=>nomatch z) h
 | @frz a ob xs ea=>
  cases(show u=Value.ref a from rx);obtain⟨_,_,_,n,_,h1⟩:=(show ObjOk X.prog X.w H s.heap a (.frz ob (.lst xs))from I.hok a _ ea);exact Vr W.kitx_list I.kIn ⟨_,h1,rfl⟩ e (λz=>nomatch z) h
 | @tup a xs ea=>
  cases(show u=Value.ref a from rx);obtain⟨_,_,_,p⟩:=(show ObjOk X.prog X.w H s.heap a (.tup xs)from I.hok a _ ea);obtain⟨o,h1,h2,_⟩:=p;exact Vr W.kitx_tuple I.kIn ⟨o,h1,h2⟩ e (λz=>nomatch z) h
 | @dK a kvs ea=>
  cases(show u=Value.ref a from rx);obtain⟨_,_,vs,_,p⟩:=(show ObjOk X.prog X.w H s.heap a (.dK kvs)from I.hok a _ ea);obtain⟨o,es,ep,h1,h2,_⟩:=p;exact Vr W.kitx_dict I.kIn ⟨o,h1,h2.1⟩ e (λz=>nomatch z) h
 | @dT a kvs ea=>
  cases(show u=Value.ref a from rx);obtain⟨_,_,xs,_,o,es,ep,h1,h2,_⟩:=(show ObjOk X.prog X.w H s.heap a (.dT kvs)from I.hok a _ ea);exact Vr W.kitx_dict I.kIn ⟨o,h1,h2.1⟩ e (λz=>nomatch z) h
 | @ins a C dx fs ea cl ha hn htk hm=>
  cases(show u=Value.ref a from rx);obtain⟨mA,O,_⟩:=Jt I.hok ea;obtain⟨od,J,_⟩:=O.look;exact Vr (W.kitx_own (cl.get _) cl.hd ha hn htk hm) I.kIn J e (λz=>nomatch z) h
end
end
section
variable {C f:Addr}{A:Around}{X:Cx}{e:Expr}{fd:FuncData}{base:Heap}{H:Hp}{pins:List (Addr×Obj)}{es:List Expr}{vs:List V}{us:List Value}{k:Nat}{pos:Pos}{P:Program}{s:Shared}{Y:St}{x:Str}{mg:Str->Option Value}{t:TA}{Q:VK}{w:World}
structure Room(k:Nat)(A:Around):Prop where
 hd:A.handled=none
 dp:A.depth+3*k+5<recursionLimit
 un:A.units+16*k+200<cLine
def Room.mono{j:Nat}(r:Room k A)(h:j<=k):Room j A:=⟨r.hd,by have:=r.dp;omega,by have:=r.un;omega⟩
theorem Room.deeper(r:Room (k+1) A)(env:Env):Room k (A.deeper env):=
 ⟨r.hd,by have:=r.dp;show A.depth+1+3*k+5<_;omega,by have:=r.un;show A.units+3+16*k+200<_;omega⟩
def Qck{kw:List (Str×Value)}:(A.under (.builtin "type.__call__" ⟨.ref C::us,kw⟩)).depth=A.depth+1:=by
 first|rfl|simp[Around.under,Code.weight,Code.isCreation,Code.isGuard,Code.isCaller,Code.frames,Code.isFrame,guardIds]
def Qcj{kw:List (Str×Value)}:(A.under (.builtin "type.__call__" ⟨.ref C::us,kw⟩)).units=A.units+1:=by
 first|rfl|simp[Around.under,Code.cUnits,Code.frames,Code.isFrame]
def Room.make(r:Room (k+1) A)(C:Addr)(us:List Value)(kw:List (Str×Value)):Room k (A.under (.builtin "type.__call__" ⟨.ref C::us,kw⟩)):=
 ⟨r.hd,by have:=r.dp;rw[Qck];omega,by have:=r.un;rw[Qcj];omega⟩
theorem Room.depth(r:Room k A):A.depth<recursionLimit:=by have:=r.dp;omega
theorem Room.units(r:Room k A):A.units+64<cLine:=by have:=r.un;omega
def Qlr:TA:=λz H Q=>Q [] H
def QgV(ta:TE)(tr:TA):TA:=λY H Q=>ta Y H λx H1=>tr Y H1 λxs H2=>Q (x::xs) H2
section
variable {te:TE}
def J0:PA X [] Qlr:=λz z z z H Q I h=>Calls.spliced_nil ⟨[],H,I,.nil,h⟩
def ZD(ha:PE X e te)(hr:PA X es t)(hs:starEach (e::es) X.env=(false,eval e X.env)::starEach es X.env:=by rfl):PA X (e::es) (QgV te t):=by
 intro pos pins s Y H Q I h;rw[hs];show wpAny _ _ (spliced ((false,eval e X.env)::backTo pos (starEach es X.env))) _ _ s;refine Calls.spliced_cons (thn (ha pins s Y H _ I h) λu s1 z=>?_);obtain⟨x,H1,I1,r1,q1⟩:=z;exact thn (hr pos pins s1 Y H1 _ I1 q1) λus s2 y=>by obtain⟨xs,H2,I2,r2,q2⟩:=y;exact⟨x::xs,H2,I2,.cons r1 r2,q2⟩
def QoA(t:TA):TE:=λY H Q=>t Y H λxs H1=>xs.length<=sizeLine/\∀p,H1 p=none->Q (.ref p) (upd H1 p (.tup xs))
def QoF(t:TA):TE:=λY H Q=>t Y H λxs H1=>xs.length<=sizeLine/\∀p,H1 p=none->Q (.ref p) (upd H1 p (.lst xs))
def QjT{x1}(h:PA X es t):PE X (.Tuple es x1 pos) (QoA t):=by
 intro pins s Y H Q I hq
 refine wpAny_Tuple_spliced (thn (h pos pins s Y H _ I hq) λus s1 ⟨xs,H1,I1,r,z,q⟩=>⟨by rw[<-r.length];exact z,?_⟩)
 have hf:H1 s1.heap.objs.size=none:=I1.hok.fresh (Xe _);refine⟨.ref s1.heap.objs.size,upd H1 s1.heap.objs.size (.tup xs),I1.laid (t':=s1.toks) (λb u e=>Xb _ e) (Xe _) ?_,rfl,q _ hf⟩;exact⟨z,us,r,⟨_,Xr _ rfl,rfl,_,rfl⟩⟩
def QjW(h:PA X es t):PE X (.List es pos) (QoF t):=by
 intro pins s Y H Q I hq
 refine wpAny_List_spliced (thn (h pos pins s Y H _ I hq) λus s1 ⟨xs,H1,I1,r,z,q⟩=>⟨by rw[<-r.length];exact z,?_⟩)
 have hf:H1 s1.heap.objs.size=none:=I1.hok.fresh (Xe _);refine⟨.ref s1.heap.objs.size,upd H1 s1.heap.objs.size (.lst xs),I1.laid (t':=s1.toks) (λb u e=>Xb _ e) (Xe _) ?_,rfl,q _ hf⟩;exact⟨z,us,0,r,Xr _ rfl⟩
end
abbrev Sp:=List V->Hp->VK->XK->Prop
abbrev CXT:=List Env->Hp->Shared->XK->Value->Shared->Prop
structure Env0(P:Program)(w:World)(K:W.Frag)(mg:Str->Option Value)(base:Heap)(A:Around)(outer:List Env)(s:Shared)(H:Hp):Prop where
 frames:A.frames=some outer
 mod:Mod K mg base
 bs:∀b o,base.get? b=some o->s.heap.get? b=some o/\H b=none
 bsz:base.objs.size<=s.heap.objs.size
 funs:s.heap.FunFrames base outer
 frf:∀b∈frs outer,H b=none
 hok:HOk P w H s.heap
 bare:AllBare s.gens
noncomputable def CE(outer:List Env)(P:Program)(w:World)(H:Hp)(s:Shared)(Q:VK)(u:Value)(s':Shared):Prop :=
 ∃v H',s'.os=s.os/\AllBare s'.gens/\Un (frs outer) [] H H' s.heap s'.heap/\HOk P w H' s'.heap/\RelV v u/\Q v H'
noncomputable def CR(CX:CXT)(outer:List Env)(P:Program)(w:World)(H:Hp)(s:Shared)(Q:VK)(E:XK)(r:Result)(s':Shared):Prop :=
 match r with
 |.ok (.ret u)=>CE outer P w H s Q u s'
 |.ok _=>False
 |.error e=>CX outer H s E e s'
structure FnOk(P:Program)(w:World)(K:W.Frag)(mg:Str->Option Value)(base:Heap)(CX:CXT)(k:Nat)(f:Addr)(fd:FuncData)(ps:List Str)(sp:Sp):Prop where
 len:∀vs H Q E,sp vs H Q E->vs.length=ps.length
 run:∀(A:Around) (outer:List Env) (s:Shared) (H:Hp) (args:Args) (us:List Value) (vs:List V) (Q:VK) (E:XK),Room k A->Env0 P w K mg base A outer s H->BindsTo s fd args (ps.zip us)->Vals vs us->sp vs H Q E ->
  codeAny (model P w) A (.call (.ref f) args) (CR CX outer P w H s Q E) s
theorem FnOk.mono{K:W.Frag}{CX:CXT}{j:Nat}{ps:List Str}{sp:Sp}(F:FnOk P w K mg base CX j f fd ps sp)(h:j<=k):
  FnOk P w K mg base CX k f fd ps sp:=⟨F.len,λA outer s H args us vs Q E hr=>F.run A outer s H args us vs Q E (hr.mono h)⟩
def FnOk.imp{K:W.Frag}{CX:CXT}{ps:List Str}{sp sp':Sp}(F:FnOk P w K mg base CX k f fd ps sp)
  (h:∀vs H Q E,sp' vs H Q E->sp vs H Q E):FnOk P w K mg base CX k f fd ps sp' :=
 ⟨λvs H Q E q=>F.len vs H Q E (h _ _ _ _ q),λA outer s H args us vs Q E hr he hb hv hs=>F.run A outer s H args us vs Q E hr he hb hv (h _ _ _ _ hs)⟩
def Env0.make{K:W.Frag}{outer:List Env}(e:Env0 P w K mg base A outer s H)(C:Addr)(us:List Value)(kw:List (Str×Value)):
  Env0 P w K mg base (A.under (.builtin "type.__call__" ⟨.ref C::us,kw⟩)) outer s H:=⟨by first|exact e.frames|(simpa[Around.under,Code.envs,Code.isFrame,pushEnvs]using e.frames),e.mod,e.bs,e.bsz,e.funs,e.frf,e.hok,e.bare⟩
section
variable {s':Shared}
def Inv.env0(I:Inv X pins Y H s):Env0 X.prog X.w X.K X.mg X.base X.A X.stack s H :=
 ⟨I.ok.frames,I.ok.mod,I.bs,X2 I.ok.bsz I.sz,I.stack,I.stkFree,I.hok,I.bare⟩
def Inv.after{u:Value}(I:Inv X pins Y H s)(h:CE X.stack X.prog X.w H s Q u s'):EP X pins Y Q u s':=by
 obtain⟨v,H',os,bare,un,hok,r,q⟩:=h;obtain⟨hh,g,d,t,os'⟩:=s';obtain rfl:os'=s.os:=os
 exact⟨v,H',I.call (h':=hh) (g':=g) (d':=d) (t':=t) (ch:=[]) un hok bare (λb z=>absurd z (by simp)),r,q⟩
end
def QeP(sp:Sp)(dvs:List V)(E:XK)(t:TA):TE:=λY H Q=>t Y H λvs H1=>sp (vs++dvs) H1 Q E
def Qi8(C:Addr)(sp:Sp)(dvs:List V)(E:XK)(t:TA):TE:=λY H Q=>t Y H λvs H1=>∀x dx,H1 x=none->H1 dx=none->dx≠x ->
 sp (.ref x::(vs++dvs)) (upd (upd H1 dx (.own x)) x (.ins C dx [])) (λv H2=>v=.non/\Q (.ref x) H2) E
noncomputable def Binds(K:W.Frag)(fd:FuncData)(ps:List Str)(ds:List Value):Prop :=
 ∀(s:Shared) (us:List Value),K.In s.heap->(us++ds).length=ps.length->BindsTo s fd ⟨us,[]⟩ (ps.zip (us++ds))
def Binds.all{K:W.Frag}{ps:List Str}(h:∀us:List Value,us.length=ps.length->bindArgs fd ⟨us,[]⟩=pure (ps.zip us)):Binds K fd ps []:=λs us z hl=>by
 rw[W4]at hl ⊢;exact .of_eq (h us hl)
def YN(CX:CXT)(X:Cx)(E:XK):Prop:=∀(pins:List (Addr×Obj)) (Y:St) (H:Hp) (s:Shared) (e:Value) (s':Shared),Inv X pins Y H s->CX X.stack H s E e s'->X.xe e s'
section
variable {CX:CXT}{ps:List Str}{sp:Sp}{dvs:List V}{ds:List Value}{E:XK}{p:Pos}
def Qc6(F:FnOk X.prog X.w X.K X.mg X.base CX k f fd ps sp)(hr:Room k X.A)(hb:Binds X.K fd ps ds)(hd:Vals dvs ds)(hx:YN CX X E)
  (I:Inv X pins Y H s) (r:Vals vs us) (h:sp (vs++dvs) H Q E):wpAny (model X.prog X.w) X.A (call (.ref f) us) (EP X pins Y Q) X.xe s:=by
 have r2:Vals (vs++dvs) (us++ds):=r.append hd
 have hl:(us++ds).length=ps.length:=by rw[<-r2.length];exact F.len _ _ _ _ h
 refine Ut (Uq (F.run X.A X.stack s H ⟨us,[]⟩ (us++ds) (vs++dvs) Q E hr I.env0 (hb s us I.kIn hl) r2 h) λr s' hq=>?_)
 cases r with
 |error e=>exact hx pins Y H s e s' I hq
 |ok fl=>
  cases fl with
  |ret u=>exact I.after hq
  |next=>exact False.elim hq
  |brk=>exact False.elim hq
  |cont=>exact False.elim hq
def Qdp(F:FnOk X.prog X.w X.K X.mg X.base CX k f fd ps sp)(hr:Room k X.A)(hg:Gl X x)(hm:X.mg x=some (.ref f))(hk:W.keepIn X.K (.ref f)=true)(hb:Binds X.K fd ps ds)(hd:Vals dvs ds)(hx:YN CX X E)
  (ha:PA X (e::es) t) (hdb:(x==("__debug__":Str))=false:=by decide) (he:starEach (e::es) X.env=(false,eval e X.env)::starEach es X.env:=by rfl) (hpl:(backTo pos (starEach es X.env)).any (·.1)=false:=by rfl):
  PE X (.Call (.Name x p) (e::es) [] pos) (QeP sp dvs E t):=by
 intro pins s Y H Q I h;refine Wx (Zi I hg hm ?_ hdb);refine W.callWith_K (h₀:=X.base) I.ok.mod.kin hk (thn (ha pos pins s Y H _ I h) λus s1 ⟨vs,H1,I1,r,q⟩=>⟨I1.kIn,?_⟩) he hpl;exact Qc6 F hr hb hd hx I1 r q
def QbA(F:FnOk X.prog X.w X.K X.mg X.base CX k f fd ps sp)(hr:Room k X.A)(hg:Gl X x)(hm:X.mg x=some (.ref f))(hk:W.keepIn X.K (.ref f)=true)(hb:Binds X.K fd ps ds)(hd:Vals dvs ds)(hx:YN CX X E)
  (hdb:(x==("__debug__":Str))=false:=by decide):PE X (.Call (.Name x p) [] [] pos) (QeP sp dvs E Qlr):=by
 intro pins s Y H Q I h;refine Wx (Zi I hg hm ?_ hdb);exact W.callWith_K0 I.kIn hk (Qc6 (us:=[]) F hr hb hd hx I .nil h)
structure Mk(K:W.Frag)(C f:Addr):Prop where
 makes:W.makesIn K C=true
 init:W.findIn K (.ref C) "__init__"=some (some (.ref f))
 fn:W.isFn K (.ref f)=true
 kp:W.keepIn K (.ref C)=true
def Qbo(M:Mk X.K C f)(F:FnOk X.prog X.w X.K X.mg X.base CX k f fd ps sp)(hr:Room (k+1) X.A)(hb:Binds X.K fd ps ds)(hd:Vals dvs ds)
  (hx:YN CX X E) (I:Inv X pins Y H s) (r:Vals vs us)
  (h:∀x dx,H x=none->H dx=none->dx≠x->sp (.ref x::(vs++dvs)) (upd (upd H dx (.own x)) x (.ins C dx [])) (λv H2=>v=.non/\Q (.ref x) H2) E):
  wpAny (model X.prog X.w) X.A (call (.ref C) us) (EP X pins Y Q) X.xe s:=by
 have hq:=h (s.heap.objs.size+1) s.heap.objs.size (I.hok.fresh (Uh _)) (I.hok.fresh (Xe _)) (X4 (W6 _));have I2:=Inv.made (C:=C) I;have r2:Vals (V.ref (s.heap.objs.size+1)::(vs++dvs)) (Value.ref (s.heap.objs.size+1)::(us++ds)):=.cons rfl (r.append hd)
 have hl:(Value.ref (s.heap.objs.size+1)::us++ds).length=ps.length:=by
  have e:=r2.length;rw[F.len _ _ _ _ hq]at e;exact e.symm
 refine Ut (Qfm (f:=f) I.kIn M.makes M.init (We.mp M.fn) (Uq (F.run _ X.stack _ _ ⟨Value.ref (s.heap.objs.size+1)::us,[]⟩ (Value.ref (s.heap.objs.size+1)::(us++ds)) _ _ E (hr.make C us [])
  (I2.env0.make C us []) (hb _ (Value.ref (s.heap.objs.size+1)::us) I2.kIn hl) r2 hq) λr s' hq'=>?_))
 cases r with
 |error e=>exact hx pins Y _ _ e s' I2 hq'
 |ok fl=>
  cases fl with
  |ret u=>
   obtain⟨v,H',I3,rv,ev,q3⟩:=I2.after hq';subst ev;exact⟨rv,⟨V.ref (s.heap.objs.size+1),H',I3,rfl,q3⟩⟩
  |next=>exact False.elim hq'
  |brk=>exact False.elim hq'
  |cont=>exact False.elim hq'
def Qhs(M:Mk X.K C f)(F:FnOk X.prog X.w X.K X.mg X.base CX k f fd ps sp)(hr:Room (k+1) X.A)(hg:Gl X x)(hm:X.mg x=some (.ref C))(hb:Binds X.K fd ps ds)(hd:Vals dvs ds)(hx:YN CX X E)
  (ha:PA X (e::es) t) (hdb:(x==("__debug__":Str))=false:=by decide) (he:starEach (e::es) X.env=(false,eval e X.env)::starEach es X.env:=by rfl) (hpl:(backTo pos (starEach es X.env)).any (·.1)=false:=by rfl):
  PE X (.Call (.Name x p) (e::es) [] pos) (Qi8 C sp dvs E t):=by
 intro pins s Y H Q I h;refine Wx (Zi I hg hm ?_ hdb);refine W.callWith_K (h₀:=X.base) I.ok.mod.kin M.kp (thn (ha pos pins s Y H _ I h) λus s1 ⟨vs,H1,I1,r,q⟩=>⟨I1.kIn,?_⟩) he hpl;exact Qbo M F hr hb hd hx I1 r q
def Qe8(M:Mk X.K C f)(F:FnOk X.prog X.w X.K X.mg X.base CX k f fd ps sp)(hr:Room (k+1) X.A)(hg:Gl X x)(hm:X.mg x=some (.ref C))(hb:Binds X.K fd ps ds)(hd:Vals dvs ds)(hx:YN CX X E)
  (hdb:(x==("__debug__":Str))=false:=by decide):PE X (.Call (.Name x p) [] [] pos) (Qi8 C sp dvs E Qlr):=by
 intro pins s Y H Q I h;refine Wx (Zi I hg hm ?_ hdb);exact W.callWith_K0 I.kIn M.kp (Qbo (us:=[]) M F hr hb hd hx I .nil h)
end
structure FnScope(N P:List Str)(sc:Scope):Prop where
 kind:sc.kind=.function
 co:sc.isCoroutine=false
 gen:sc.isGenerator=false
 nd:N.Nodup
 pre:N.take P.length=P
 par:∀x∈P,sc.names.lookup x=some .local\/sc.names.lookup x=some .cell
 nofree:∀y∈sc.names,y.2≠.free
theorem Qam{kindOf:Str->Option NameKind}{x:Str}:∀{binds:List (Str×Value)} {m:Str->Option Value},(∀v,(x,v)∉binds)->bindL kindOf binds m x=m x
 |[],_,_=>rfl
 | (n,v)::r,m,h=>by
  unfold bindL;rw[Qam λw hw=>h w (Xk _ hw)];split
  ·have:x≠n:=by rintro rfl;exact h v Xo
   simp[this]
  ·rfl
theorem Qao{kindOf:Str->Option NameKind}{x:Str}:∀{binds:List (Str×Value)} {m:Str->Option Value},(∀v,(x,v)∉binds)->bindC kindOf binds m x=m x
 |[],_,_=>rfl
 | (n,v)::r,m,h=>by
  unfold bindC;rw[Qao λw hw=>h w (Xk _ hw)];split
  ·rfl
  ·have:x≠n:=by rintro rfl;exact h v Xo
   simp[this]
theorem Qan{kindOf:Str->Option NameKind}{x:Str}{v:Value}:∀{P:List Str} {vs:List Value} {i:Nat} {m:Str->Option Value},P.Nodup->P[i]?=some x->vs[i]?=some v->kindOf x=some .local ->
  bindL kindOf (P.zip vs) m x=some v
 |[],_,_,_,_,h,_,_=>by simp at h
 |_::_,[],_,_,_,_,h,_=>by simp at h
 |p::P,w::vs,0,m,nd,h1,h2,hk=>by
  simp at h1 h2;subst h1;subst h2;show bindL kindOf ((p,w)::P.zip vs) m p=_;unfold bindL;rw[Qam λv hv=>(U9.mp nd).1 (Um hv).1,if_pos hk];simp
 |p::P,w::vs,i+1,m,nd,h1,h2,hk=>by
  show bindL kindOf ((p,w)::P.zip vs) m x=_;unfold bindL
  exact Qan (i:=i) (U9.mp nd).2 (by simpa using h1) (by simpa using h2) hk
theorem Qap{kindOf:Str->Option NameKind}{x:Str}{v:Value}:∀{P:List Str} {vs:List Value} {i:Nat} {m:Str->Option Value},P.Nodup->P[i]?=some x->vs[i]?=some v->kindOf x≠some .local ->
  bindC kindOf (P.zip vs) m x=some v
 |[],_,_,_,_,h,_,_=>by simp at h
 |_::_,[],_,_,_,_,h,_=>by simp at h
 |p::P,w::vs,0,m,nd,h1,h2,hk=>by
  simp at h1 h2;subst h1;subst h2;show bindC kindOf ((p,w)::P.zip vs) m p=_;unfold bindC;rw[Qao λv hv=>(U9.mp nd).1 (Um hv).1,if_neg hk];simp
 |p::P,w::vs,i+1,m,nd,h1,h2,hk=>by
  show bindC kindOf ((p,w)::P.zip vs) m x=_;unfold bindC
  exact Qap (i:=i) (U9.mp nd).2 (by simpa using h1) (by simpa using h2) hk
noncomputable def start(N:List Str)(vs:List V):St:=vs.map some++List.replicate (N.length-vs.length) none
noncomputable def Qd2(CX:CXT)(P:Program)(w:World)(K:W.Frag)(mg:Str->Option Value)(base:Heap)(N:List Str)(qual:Str)(scope:Scope)(f:Addr)(cd:Value)(A:Around)(outer:List Env)(s:Shared)(H:Hp)(E:XK):Cx where
 prog:=P
 w:=w
 K:=K
 mg:=mg
 base:=base
 A:=A.deeper (envOfC qual scope s.heap.objs.size f cd)
 N:=N
 s₀:=s
 H₀:=H
 env:=envOfC qual scope s.heap.objs.size f cd
 outer:=outer
 stack:=envOfC qual scope s.heap.objs.size f cd::outer
 ex:=[]
 calm:=true
 fn:=λz=>true
 pn:=[]
 xe:=λe s'=>wpAny (model P w) (A.deeper (envOfC qual scope s.heap.objs.size f cd)) (leaving (envOfC qual scope s.heap.objs.size f cd) e) (λz s''=>CX outer H s E e s'') (λe' s''=>CX outer H s E e' s'') s'
def QbY{sc:Scope}{n:Nat}(h:sc.names.lookup x=some .cell):∃c,(cellsFrom n sc.names []).lookup x=some c:=by
 have q:=W.cellsFrom_some sc.names n [] (.inl h);exact W7.mp q
def QdN{CX:CXT}{K:W.Frag}{N ps:List Str}{qual:Str}{scope:Scope}{cd:Value}{outer:List Env}{s1:Shared}{E:XK}
  (S:FnScope N ps scope) (hd:A.handled=none) (e0:Env0 P w K mg base A outer s H) (hl:vs.length=ps.length) (r:Vals vs us)
  (x:InCallC s s.heap.objs.size (bindL (envOfC qual scope s.heap.objs.size f cd).kindOf (ps.zip us) λt=>none) (cellsFrom (s.heap.objs.size+1) scope.names []) (bindC (envOfC qual scope s.heap.objs.size f cd).kindOf (ps.zip us) λt=>none) s1):
  Inv (Qd2 CX P w K mg base N qual scope f cd A outer s H E) [] (start N vs) H s1:=by
 have hpl:ps.length<=N.length:=by have:=congrArg List.length S.pre;rw[Vn]at this;omega
 obtain⟨h1,tk,rfl,hk⟩:=x.done
 have noA:∀b:Addr,b∉(Qd2 CX P w K mg base N qual scope f cd A outer s H E).ex:=λb z=>absurd (show b∈([]:List Addr)from z) (by simp)
 refine⟨⟨e0.mod,S.kind,rfl,rfl,Xe _,λy z c h1 h2=>?_,λy hy=>?_,λy c t h=>?_,λt=>hd,Around.frames_deeper e0.frames,.inr ⟨rfl,rfl⟩,λb z=>absurd z (noA b),e0.bs,e0.bsz,λb t t=>noA b,λb z=>absurd z (noA b),e0.funs,e0.frf⟩,
  rfl,e0.bare,Un.kept hk,⟨_,x.toInCall.ns,λi y v h1 h2 h3=>?_⟩,λy c h=>⟨_,x.cell y c h⟩,e0.hok.fresh (Xe _),λy c h=>?_,λp hp=>absurd (show p∈([]:List (Addr×Obj))from hp) (by simp),e0.hok.kept hk,?_⟩
 ·exact name_of_addr x.apart (Vy h1) (Vy h2)
 ·have hy:scope.names.lookup y=some .cell\/scope.names.lookup y=some .free:=hy
  rcases hy with hy|hy
  ·exact QbY hy
  ·exact absurd rfl (S.nofree _ (Vy hy))
 ·exact Nat.le_of_lt (x.above y c (Vy h))
 ·have hi:i<vs.length:=by
   unfold start at h2;by_cases hi:i<vs.length
   ·exact hi
   ·rw[X3 (by simpa using hi)]at h2
    rw[Uv]at h2;split at h2<;>cases h2
  have ha:vs[i]?=some v:=by
   unfold start at h2
   rw[Xs (by simpa using hi),Wt]at h2
   cases e:vs[i]? with
   |none=>rw[e]at h2;cases h2
   |some a=>rw[e]at h2;cases h2;rfl
  obtain⟨u,hu,rv⟩:=r.get ha
  have hp:ps[i]?=some y:=by
   rw[<-S.pre,List.getElem?_take_of_lt (by omega)];exact h1
  have ndP:ps.Nodup:=by rw[<-S.pre];exact S.nd.sublist (List.take_sublist _ _)
  refine⟨u,rv,?_⟩
  rcases S.par y (X0 hp)with k|k
  ·exact .inl ⟨k,Qan ndP hp hu k⟩
  ·obtain⟨c,e⟩:=QbY (n:=s.heap.objs.size+1) k;refine .inr ⟨.inl k,c,e,?_⟩;have q:=x.cell y c e
   rw[Qap ndP hp hu (by show scope.names.lookup y≠_;rw[k];decide)]at q
   exact q
 ·exact e0.hok.fresh (Nat.le_of_lt (x.above y c (Vy h)))
 ·unfold start;show _=N.length;rw[Xv,X6,List.length_replicate];omega
def QkF{CX:CXT}{K:W.Frag}{name qual:Str}{params:Arguments}{body:List Stmt}{scope:Scope}{dV kV doc pm cdv ct oc:Value}{an od:Option Addr}
  {osl:Array (Option Value)} {N ps:List Str} {sp:Sp} (lk:K.lookup f=some ⟨oc,od,.func (W.fnOf name qual params body scope dV kV doc pm an cdv ct),osl⟩) (hcd:W.codeIn K cdv qual=true) (S:FnScope N ps scope)
  (len:∀vs H Q E,sp vs H Q E->vs.length=ps.length)
  (hbody:∀(A:Around) (outer:List Env) (s:Shared) (H:Hp) (vs:List V) (Q:VK) (E:XK),Room k (A.deeper (envOfC qual scope s.heap.objs.size f cdv))->sp vs H Q E ->
   ∃t,PSs (Qd2 CX P w K mg base N qual scope f cdv A outer s H E) body t/\t {nx:=λz H'=>Q .non H',rt:=Q} (start N vs) H):
  FnOk P w K mg base CX (k+1) f (W.fnOf name qual params body scope dV kV doc pm an cdv ct) ps sp:=by
 refine⟨len,λA outer s H args us vs Q E hr e0 hb r hsp=>?_⟩;have hl:=len _ _ _ _ hsp;have KX:K.In s.heap:=e0.mod.kin.keeps λb o e=>(e0.bs b o e).1;have lim:s.heap.NoLimit:=e0.mod.nolimit.keeps λb o e=>(e0.bs b o e).1
 have hkind:∀y∈ps.zip us,scope.names.lookup y.1=some .local\/(scope.names.lookup y.1=some .cell/\((cellsFrom (s.heap.objs.size+1) scope.names []).lookup y.1).isSome=true):=λp hy=>by
  obtain⟨n,v⟩:=p
  rcases S.par n (Um hy).1 with q|q
  ·exact .inl q
  ·exact .inr ⟨q,W.cellsFrom_some _ _ _ (.inl q)⟩
 refine codeAny_call_function hr.depth (KX _ _ lk) rfl S.co S.gen rfl (W.codeRec_of KX hcd) (hb _ _ _ _ ?_);refine wpAny_newFunctionEnv_cells S.kind hkind λenv he s1 x=>?_;subst he;refine⟨lim.keeps x.toInCall.keep,codeAny_func ?_⟩;obtain⟨t,ht,hq⟩:=hbody A outer s H vs Q E (hr.deeper _) hsp;have I:Inv (Qd2 CX P w K mg base N qual scope f cdv A outer s H E) [] (start N vs) H s1:=QdN S hr.hd e0 hl r x;refine Xz (ht [] s1 (start N vs) H _ I hq) (λfl s' hs=>?_) λe s' hs=>hs
 have fin:∀{Y':St} {H':Hp} {v:V} {u:Value},Inv (Qd2 CX P w K mg base N qual scope f cdv A outer s H E) [] Y' H' s'->RelV v u->Q v H'->CE outer P w H s Q u s' :=
  λ{Y' H' v u} J rv q=>⟨v,H',J.os,J.bare,J.base,J.hok,rv,q⟩
 cases fl with
 |ret u=>
  obtain⟨v,Y',H',J,rv,q⟩:=hs;exact fin J rv q
 |next=>
  obtain⟨Y',H',J,q⟩:=hs;exact fin (v:=V.non) (u:=Value.none) J rfl q
 |brk=>
  obtain⟨_,_,_,q⟩:=hs;exact False.elim q
 |cont=>
  obtain⟨_,_,_,q⟩:=hs;exact False.elim q
end
section
section
variable {X:Cx}{x:Str}{p pos:Pos}{e:Expr}{es:List Expr}{t:TA}{id T:String}{r:List V->Hp->VK->Prop}
def tCB(r:List V->Hp->VK->Prop)(t:TA):TE:=λY H Q=>t Y H λvs H1=>r vs H1 Q
def Yd(hc:CallR X (.builtin id) r)(hg:Gl X x)(hm:X.mg x=none)(hv:bootBuiltins x=some (.builtin id))(ha:PA X (e::es) t)(hn:x≠"__name__":=by decide)(hdb:(x==("__debug__":Str))=false:=by decide)
  (he:starEach (e::es) X.env=(false,eval e X.env)::starEach es X.env:=by rfl) (hpl:(backTo pos (starEach es X.env)).any (·.1)=false:=by rfl):PE X (.Call (.Name x p) (e::es) [] pos) (tCB r t):=by
 intro pins s Y H Q I h;refine Wx (ZW I hg hm hv ?_ hn hdb);exact PyProof.Rows.callWith_builtin1 (thn (ha pos pins s Y H _ I h) λus s1 z=>by obtain⟨vs,H1,I1,r1,q1⟩:=z;exact hc pins s1 Y H1 vs us Q I1 r1 q1) he hpl
def Yu(hc:CallR X (.type T) r)(hg:Gl X x)(hm:X.mg x=none)(hv:bootBuiltins x=some (.type T))(ha:PA X (e::es) t)(hn:x≠"__name__":=by decide)(hdb:(x==("__debug__":Str))=false:=by decide)
  (he:starEach (e::es) X.env=(false,eval e X.env)::starEach es X.env:=by rfl) (hpl:(backTo pos (starEach es X.env)).any (·.1)=false:=by rfl):PE X (.Call (.Name x p) (e::es) [] pos) (tCB r t):=by
 intro pins s Y H Q I h;refine Wx (ZW I hg hm hv ?_ hn hdb);exact Ww (thn (ha pos pins s Y H _ I h) λus s1 z=>by obtain⟨vs,H1,I1,r1,q1⟩:=z;exact hc pins s1 Y H1 vs us Q I1 r1 q1) he hpl
end
end
end L2
namespace HT
open PySem PyProof.Rows
section
open PySem.SeqAt
open PySem.AutoSeq1 (wpAny_loadPart')
open PySem.MeetsSeq PySem.MeetsSeq2 PySem.MeetsSeq3
end
section
variable {prog:Program}{w:World}{A:Around}{E:Value->Shared->Prop}{s:Shared}
def cat_tup{t b:Addr}{vs ws:List Value}{Q:Value->Shared->Prop}(ht:IsTup s.heap t vs.toArray)(hb:IsTup s.heap b ws.toArray)(hv:vs≠[])
  (h1:ws=[]->Q (.ref t) s) (h2:ws≠[]->Q (.ref s.heap.objs.size) {s with heap:=s.heap.push {cls:=.type "tuple",data:=.seq (vs++ws).toArray} })
  (hsz:vs.length+ws.length<=sizeLine):wpAny (model prog w) A (binaryOp .Add (.ref t) (.ref b)) Q E s:=by
 obtain⟨⟨cls,dd,data,sl⟩,ho,hc,n,hd⟩:=id ht;obtain⟨⟨cls2,dd2,data2,sl2⟩,ho2,hc2,n2,hd2⟩:=id hb;simp only at hc hd hc2 hd2;subst hc hd hc2 hd2
 have e:vs.toArray++ws.toArray=(vs++ws).toArray:=by simp
 by_cases hw:ws=[]
 ·exact concat_meets ⟨_,ho,rfl⟩ ⟨_,ho2,rfl⟩ noFill_tuple_add seq_tuple_add U0 Uw (Ur _ _)
   (tuple_addW1 t b vs.toArray ws.toArray n n2 dd dd2 sl sl2 (by simpa using hv) (by simp[hw])) ⟨ho,ho2,h1 hw⟩
 ·refine concat_meets ⟨_,ho,rfl⟩ ⟨_,ho2,rfl⟩ noFill_tuple_add seq_tuple_add U0 Uw (Ur _ _)
   (tuple_addW2 t b vs.toArray ws.toArray n n2 dd dd2 sl sl2 (by simpa using hv) (by simpa using hw) (by rw[Xp,Xp];exact hsz)) ⟨ho,ho2,?_⟩
  rw[e];exact h2 hw
noncomputable def sIx(n d:Nat):Option Int->Nat
 |none=>d
 |some v=>if v<0 then(v+(n:Int)).toNat else min v.toNat n
def Qjs(n d:Nat)(hd:d<=n)(o:Option Int):sIx n d o<=n:=by
 cases o with
 |none=>exact hd
 |some v=>
  show(if v<0 then(v+(n:Int)).toNat else min v.toNat n)<=n;by_cases hv:v<0
  ·rw[if_pos hv];omega
  ·rw[if_neg hv];exact Nat.min_le_right _ _
def Qd9(v:Int)(n d:Nat):(if v<0 then max (v+(n:Int)) 0 else min v (n:Int))=((sIx n d (some v):Nat):Int):=by
 show(if v<0 then max (v+(n:Int)) 0 else min v (n:Int))=(((if v<0 then(v+(n:Int)).toNat else min v.toNat n):Nat):Int);by_cases hv:v<0
 ·simp only[if_pos hv];omega
 ·simp only[if_neg hv];omega
def QcB(lo hi:Option Int)(n:Nat):Builtin.Slice.sliceAdjust lo hi 1 (n:Int)=(((sIx n 0 lo:Nat):Int),((sIx n n hi:Nat):Int)):=by
 have h1:¬((1:Int) < 0):=by omega
 unfold Builtin.Slice.sliceAdjust;simp only[h1,V7];refine Uc ?_ ?_
 ·cases lo with
  |none=>rfl
  |some v=>exact Qd9 v n 0
 ·cases hi with
  |none=>rfl
  |some v=>exact Qd9 v n n
def Qce(i j:Nat):Builtin.Slice.slicePlaces (i:Int) (j:Int) 1=j-i:=by
 unfold Builtin.Slice.slicePlaces
 have h1:(1:Int) > 0:=by omega
 simp only[h1,Wo,Int.ediv_one];split<;>omega
def Y2{v:Value}{o:Option Int}{Q:Option Int->Shared->Prop}(p:IsPart v o)(h:Q o s):wpAny (model prog w) A (Builtin.Slice.slicePartIndex v) Q E s:=by
 cases p with
 |none=>exact slicePart_none h
 |int i t=>exact slicePart_int h
def Z1{sl:Addr}{vl vu:Value}{lo hi:Option Int}{n:Nat}{Q:Int×Int×Nat->Shared->Prop}(hs:s.heap.IsSliceOf sl vl vu .none)(pl:IsPart vl lo)(pu:IsPart vu hi)
  (h:Q (((sIx n 0 lo:Nat):Int),1,sIx n n hi-sIx n 0 lo) s):wpAny (model prog w) A (Builtin.Slice.sliceApplied (.ref sl) (pure (n:Int))) Q E s:=by
 obtain⟨os,hos,hcs,hds⟩:=id hs;unfold Builtin.Slice.sliceApplied Builtin.Slice.sliceFields;refine Xa (Xa (Wa hos hds (x:=vl) rfl (Xa (Wa hos hds (x:=vu) rfl (Xa (Wa hos hds (x:=.none) rfl (Xi ?_)))))));refine Xa (slicePart_none ?_);show wpAny _ _ (if((1:Int)==0)=true then _ else _) _ _ s
 rw[if_neg (by decide)]
 refine Xa (Y2 pl (Xa (Y2 pu (Xa (Xi ?_)))))
 show wpAny _ _ (match Builtin.Slice.sliceAdjust lo hi 1 (n:Int)with|(lo,hi)=>pure (lo,(1:Int),Builtin.Slice.slicePlaces lo hi 1)) _ _ s
 rw[QcB lo hi n];show wpAny _ _ (pure (((sIx n 0 lo:Nat):Int),(1:Int),Builtin.Slice.slicePlaces ((sIx n 0 lo:Nat):Int) ((sIx n n hi:Nat):Int) 1)) _ _ s;rw[Qce];exact Xi h
def Qe6(xs:Array Value)(i k:Nat):((List.range k).filterMap λ(m:Nat)=>xs[((i:Int)+(m:Int)*1).toNat]?).toArray=((xs.toList.drop i).take k).toArray:=by
 have e:(λ(m:Nat)=>xs[((i:Int)+(m:Int)*1).toNat]?)=λm=>xs[i+m]?:=by
  funext m
  have:((i:Int)+(m:Int)*1).toNat=i+m:=by omega
  rw[this]
 rw[e];have:=pick_run xs i k;rw[List.filterMap_map]at this;have e2:((λx=>xs[x]?)∘λx=>i+x)=λm=>xs[i+m]?:=rfl;rw[e2]at this;rw[this]
def getItem_tuple_cut{t sl:Addr}{items:Array Value}{vl vu:Value}{lo hi:Option Int}{Q:Value->Shared->Prop}(ht:IsTup s.heap t items)(hs:s.heap.IsSliceOf sl vl vu .none)(pl:IsPart vl lo)(pu:IsPart vu hi)
  (hw:¬(sIx items.size 0 lo=0/\sIx items.size items.size hi=items.size))
  (h:Q (.ref s.heap.objs.size) {s with heap:=s.heap.push {cls:=.type "tuple",data:=.seq ((items.toList.drop (sIx items.size 0 lo)).take (sIx items.size items.size hi-sIx items.size 0 lo)).toArray} })
  (hsz:items.size<=sizeLine):wpAny (model prog w) A (getItem (.ref t) (.ref sl)) Q E s:=by
 have htake:sizeOk (.seq ((items.toList.drop (sIx items.size 0 lo)).take (sIx items.size items.size hi-sIx items.size 0 lo)).toArray):=by
  show((items.toList.drop (sIx items.size 0 lo)).take (sIx items.size items.size hi-sIx items.size 0 lo)).toArray.size<=sizeLine;rw[Xp,Vn,List.length_drop,Tl];omega
 have hj:sIx items.size items.size hi<=items.size:=Qjs _ _ (Xe _) hi;obtain⟨os,hos,hcs,hds⟩:=id hs;have hTs:s.TypeIs (.ref sl) "slice":=⟨os,hos,hcs⟩;unfold getItem
 try with_reducible refine V2 ?_
 first|refine Xa (Xi ?_)|skip
 refine Xa (wpAny_sequenceKey ht.typeIs (by decide) ?_)
 refine Xa (Wz (name:=Str.ofString "__getitem__") ht.typeIs V1
  (Vo V1 ht.typeIs entry_tuple_getitem ?_ (args_tuple_getitem _ _)))
 show wpAny _ _ (Builtin.Tuple.tupleItemsOf (.ref t) >>= _) _ _ s;refine Xa (tupleItemsOf_ ht ?_);refine Xa (wpAny_typeOf hTs ?_)
 rw[if_pos (by decide)]
 refine Xa (Z1 hs pl pu ?_)
 have hno:¬((((sIx items.size 0 lo:Nat):Int)==0&&(1:Int)==1&&(sIx items.size items.size hi-sIx items.size 0 lo)==items.size)=true):=by
  intro q;rw[Xg,Xg]at q;have q1:((sIx items.size 0 lo:Nat):Int)=0:=eq_of_beq q.1.1;have q2:sIx items.size items.size hi-sIx items.size 0 lo=items.size:=eq_of_beq q.2
  exact hw ⟨by omega,by omega⟩
 show wpAny _ _ (if(((sIx items.size 0 lo:Nat):Int)==0&&(1:Int)==1&&(sIx items.size items.size hi-sIx items.size 0 lo)==items.size)=true then _ else _) _ _ s;rw[if_neg hno,Qe6]
 first
  |exact Xa (m:=Builtin.Tuple.tupleExact _) (Vk (Xi ⟨_,rfl,Xi h⟩) htake)
  |exact Xa (m:=Builtin.Tuple.tupleExact _) (Vk (Xa (Xi (Xi ⟨_,rfl,Xi h⟩))) htake)
  |exact Xa (Xa (m:=Builtin.Tuple.tupleExact _) (Vk (Xi (Xi ⟨_,rfl,Xi h⟩)) htake))
  |exact Xa (Xa (m:=Builtin.Tuple.tupleExact _) (Vk (Xi ⟨_,rfl,Xi h⟩) htake))
end
end HT
namespace L2
open PySem PySem.Spec PyProof.Rows
section
abbrev TO:=St->Hp->(Option Int->Hp->Prop)->Prop
noncomputable def PO(X:Cx)(e:Option Expr)(t:TO):Prop :=
 ∀(pins:List (Addr×Obj)) (s:Shared) (Y:St) (H:Hp) (Q:Option Int->Hp->Prop),Inv X pins Y H s->t Y H Q ->
  wpAny (model X.prog X.w) X.A (evalPart e X.env) (λu s'=>∃o H',Inv X pins Y H' s'/\IsPart u o/\Q o H') X.xe s
def QgS:TO:=λz H Q=>Q none H
def Ql7(t:TE):TO:=λY H Q=>t Y H λx H1=>∃i,x=.int i/\Q (some i) H1
section
variable {X:Cx}{e:Expr}{te:TE}{lo hi:Option Expr}{tl th:TO}{pos p2:Pos}
def Qhl:PO X none QgS:=by
 intro pins s Y H Q I h;rw[evalPart_none];exact Xi ⟨none,H,I,.none,h⟩
def Qhk(h:PE X e te):PO X (some e) (Ql7 te):=by
 intro pins s Y H Q I hw;rw[evalPart_some];refine thn (h pins s Y H _ I hw) λu s1 z=>?_;obtain⟨x,H1,I1,r1,q1⟩:=z;obtain⟨i,rfl,q⟩:=q1;obtain⟨t,rfl⟩:=r1;exact⟨some i,H1,I1,.int i t,q⟩
noncomputable def SlR(X:Cx)(r:V->Option Int->Option Int->Hp->VK->Prop):Prop :=
 ∀(pins:List (Addr×Obj)) (s:Shared) (Y:St) (H:Hp) (x:V) (v vl vu:Value) (lo hi:Option Int) (sl:Addr) (Q:VK),Inv X pins Y H s->RelV x v->s.heap.IsSliceOf sl vl vu .none->IsPart vl lo->IsPart vu hi->r x lo hi H Q ->
  ∃T id,typeLookup (.type T) "__getitem__"=pure (some (.builtin id))/\s.TypeIs v T/\wpAny (model X.prog X.w) X.A (getItem v (.ref sl)) (EP X pins Y Q) X.xe s
def SlR.or{r r':V->Option Int->Option Int->Hp->VK->Prop}(h:SlR X r)(h':SlR X r'):SlR X (λx lo hi H Q=>r x lo hi H Q\/r' x lo hi H Q):=by
 intro pins s Y H x v vl vu lo hi sl Q I rx hs pl pu q
 rcases q with q|q
 ·exact h pins s Y H x v vl vu lo hi sl Q I rx hs pl pu q
 ·exact h' pins s Y H x v vl vu lo hi sl Q I rx hs pl pu q
def tSl(r:V->Option Int->Option Int->Hp->VK->Prop)(te:TE)(tl th:TO):TE:=λY H Q=>te Y H λx H1=>tl Y H1 λl H2=>th Y H2 λu H3=>r x l u H3 Q
def Qe7{r:V->Option Int->Option Int->Hp->VK->Prop}(hr:SlR X r)(he:PE X e te)(hl:PO X lo tl)(hu:PO X hi th):PE X (.Subscript e (.Slice lo hi none p2) pos) (tSl r te tl th):=by
 intro pins s Y H Q I h;refine Subscript_ (thn (he pins s Y H _ I h) λv s1 z=>?_);obtain⟨x,H1,I1,r1,q1⟩:=z;refine wpAny_Slice (thn (hl pins s1 Y H1 _ I1 q1) λvl s2 ⟨l,H2,I2,pl,q2⟩=>thn (hu pins s2 Y H2 _ I2 q2) λvu s3 y=>?_);obtain⟨u,H3,I3,pu,q3⟩:=y;rw[evalPart_none];refine Xi ?_;have I4:Inv X pins Y H3 {s3 with heap:=s3.heap.push {cls:=.type "slice",data:=.fields #[vl,vu,.none]} }:=I3.kept (t':=s3.toks) λb ob q=>Xb _ q;obtain⟨T,id,hT,ht,hg⟩:=hr pins {s3 with heap:=s3.heap.push {cls:=.type "slice",data:=.fields #[vl,vu,.none]} } Y H3 x v vl vu l u s3.heap.objs.size Q I4 r1 (Heap.IsSliceOf.new ..) pl pu q3;show wpAny (model X.prog X.w) X.A (subscriptTail e (.Slice lo hi none p2) v (.ref s3.heap.objs.size)) (EP X pins Y Q) X.xe {s3 with heap:=s3.heap.push {cls:=.type "slice",data:=.fields #[vl,vu,.none]} }
 exact tail_any (ops:=[.ref s3.heap.objs.size,v]) ht hT hg (by with_unfolding_all rfl)
noncomputable def Qgp(xs:List V)(lo hi:Option Int):List V:=(xs.drop (HT.sIx xs.length 0 lo)).take (HT.sIx xs.length xs.length hi-HT.sIx xs.length 0 lo)
def YF(xs:List V)(lo hi:Option Int):(Qgp xs lo hi).length<=xs.length:=by
 unfold Qgp;rw[Vn,List.length_drop];omega
def QnU(K:W.Frag):V->Option Int->Option Int->Hp->VK->Prop:=λx lo hi H Q=>∃a xs,x=.ref a/\SqT K H a xs /\
 ¬(HT.sIx xs.length 0 lo=0/\HT.sIx xs.length xs.length hi=xs.length)/\∀p,H p=none->Q (.ref p) (upd H p (.tup (Qgp xs lo hi)))
def Qjb:SlR X (QnU X.K):=by
 intro pins s Y H x v vl vu lo hi sl Q I rx hs pl pu h;obtain⟨a,xs,rfl,hx,hw,q⟩:=h;cases rx;obtain⟨its,r,ht,hz⟩:=I.tuple hx
 have hlen:its.toArray.size=xs.length:=by rw[Xp];exact r.length.symm
 refine⟨"tuple",_,V1.lookup,ht.typeIs,?_⟩
 refine HT.getItem_tuple_cut ht hs pl pu (by rw[hlen];exact hw) ?_ (by rw[hlen];exact hz)
 rw[hlen];refine⟨.ref s.heap.objs.size,_,I.laid (t':=s.toks) (o:=.tup (Qgp xs lo hi)) (λb ob q=>Xb _ q) (Xe _) ?_,rfl,q _ (I.hok.fresh (Xe _))⟩;exact⟨X2 (YF xs lo hi) hz,_,(r.drop (HT.sIx xs.length 0 lo)).take (HT.sIx xs.length xs.length hi-HT.sIx xs.length 0 lo),IsTup.new _ _⟩
def Qmm(K:W.Frag):R2:=λx y H Q=>∃a b xs ys,x=.ref a/\y=.ref b/\SqT K H a xs/\SqT K H b ys/\xs≠[]/\xs.length+ys.length<=sizeLine /\
 (ys=[]->Q (.ref a) H)/\(ys≠[]->∀p,H p=none->Q (.ref p) (upd H p (.tup (xs++ys))))
def Vals.nil_iff{xs:List V}{us:List Value}(r:Vals xs us):us=[]↔xs=[]:=by
 cases r with
 |nil=>simp
 |cons _ _=>simp
def Qhz:OpR X (binaryOp .Add) (Qmm X.K):=by
 intro pins s Y H x y v u Q I rx ry h;obtain⟨a,b,xs,ys,rfl,rfl,ha,hb,hx,hz,q1,q2⟩:=h;cases rx;cases ry;obtain⟨its,r1,p1,_⟩:=I.tuple ha;obtain⟨its2,r2,p2,_⟩:=I.tuple hb
 refine HT.cat_tup p1 p2 (λz=>hx (r1.nil_iff.mp z)) (λz=>⟨.ref a,H,I,rfl,q1 (r2.nil_iff.mp z)⟩) (λz=>?_) (by rw[<-r1.length,<-r2.length];exact hz)
 refine⟨.ref s.heap.objs.size,_,I.laid (t':=s.toks) (o:=.tup (xs++ys)) (λb ob q=>Xb _ q) (Xe _) ?_,rfl,q2 (λw=>z (r2.nil_iff.mpr w)) _ (I.hok.fresh (Xe _))⟩
 exact⟨by rw[Xv];exact hz,_,r1.append r2,IsTup.new _ _⟩
end
end
section
variable {H:Hp}{pins:List (Addr×Obj)}{s:Shared}{Y:St}
noncomputable def ixN(n:Nat)(i:Int):Option Nat:=if 0<=i then(if i<n then some i.toNat else none)else if -(n:Int)<=i then some (i+n).toNat else none
noncomputable def atI{α:Type}(xs:List α)(i:Int):Option α:=(ixN xs.length i).bind λj=>xs[j]?
def QdL{n:Nat}{i:Int}{j:Nat}(h:ixN n i=some j):seqIndex? i n=some j/\j<n/\-(n:Int)<=i/\i<n:=by
 unfold ixN at h;by_cases h0:0<=i
 ·rw[if_pos h0]at h;by_cases h1:i<n
  ·rw[if_pos h1]at h;have e:i.toNat=j:=Xn h
   exact⟨by rw[seqIndex_of h0 h1,e],by omega,by omega,h1⟩
  ·rw[if_neg h1]at h;cases h
 ·rw[if_neg h0]at h;by_cases h1:-(n:Int)<=i
  ·rw[if_pos h1]at h;have e:(i+n).toNat=j:=Xn h
   exact⟨by rw[seqIndex_neg (by omega) h1,e],by omega,h1,by omega⟩
  ·rw[if_neg h1]at h;cases h
def Qa1{α:Type}{xs:List α}{i:Int}{v:α}(h:atI xs i=some v):∃j,seqIndex? i xs.length=some j/\xs[j]?=some v/\j<xs.length/\-(xs.length:Int)<=i/\i<xs.length:=by
 unfold atI at h
 cases e:ixN xs.length i with
 |none=>rw[e]at h;cases h
 |some j=>
  rw[e]at h;obtain⟨h1,h2,h3,h4⟩:=QdL e;exact⟨j,h1,h,h2,h3,h4⟩
def Qey(b:Expr):Prop:=∀o i,subscripted b false o i=operate [o,i] (getItem o i)
noncomputable def IxR(X:Cx)(r:R2):Prop :=
 ∀(value slice:Expr) (pins:List (Addr×Obj)) (s:Shared) (Y:St) (H:Hp) (x y:V) (v u:Value) (Q:VK),Inv X pins Y H s->RelV x v->RelV y u->r x y H Q ->
  subscripted slice false v u=operate [v,u] (getItem v u)->wpAny (model X.prog X.w) X.A (subscriptTail value slice v u) (EP X pins Y Q) X.xe s
noncomputable def MtR(X:Cx)(id:String)(r:V->List V->Hp->VK->Prop):Prop :=
 ∀(pins:List (Addr×Obj)) (s:Shared) (Y:St) (H:Hp) (x:V) (xs:List V) (v:Value) (us:List Value) (Q:VK),Inv X pins Y H s->RelV x v->Vals xs us->r x xs H Q ->
  wpAny (model X.prog X.w) X.A (call (.builtin id) (v::us)) (EP X pins Y Q) X.xe s
section
variable {X:Cx}{a b:Expr}{ta tb:TE}{pos:Pos}
def IxR.or{r r':R2}(h:IxR X r)(h':IxR X r'):IxR X (λx y H Q=>r x y H Q\/r' x y H Q):=by
 intro value slice pins s Y H x y v u Q I rx ry q hs
 rcases q with q|q
 ·exact h value slice pins s Y H x y v u Q I rx ry q hs
 ·exact h' value slice pins s Y H x y v u Q I rx ry q hs
def Qmt{r:R2}(hr:IxR X r)(ha:PE X a ta)(hb:PE X b tb)(hs:Qey b):PE X (.Subscript a b pos) (tOp r ta tb):=by
 intro pins s Y H Q I h;exact Subscript_ (Qnx ha hb I h λv u s2 x y H2 I2 rx ry q=>hr a b pins s2 Y H2 x y v u Q I2 rx ry q (hs _ _))
def QnZ(K:W.Frag):R2:=λx y H Q=>∃p xs i v,x=.ref p/\y=.int i/\SqL K H p xs/\atI xs i=some v/\Q v H
def QnX(K:W.Frag):R2:=λx y H Q=>∃p xs i v,x=.ref p/\y=.int i/\SqT K H p xs/\atI xs i=some v/\Q v H
def QnY:R2:=λx y H Q=>∃z i c,x=.str z/\y=.int i/\z.length<=sizeLine/\atI z.cps.toList i=some c/\Q (.str ⟨#[c]⟩) H
def ix_list:IxR X (QnZ X.K):=by
 intro value slice pins s Y H x y v u Q I rx ry h hs;obtain⟨p,xs,i,z,rfl,rfl,hq,he,q⟩:=h;cases rx;obtain⟨t,rfl⟩:=ry;obtain⟨its,r,pl,hz⟩:=I.list hq;obtain⟨j,h1,h2,h3,h4,h5⟩:=Qa1 he;obtain⟨w,ew,rw'⟩:=r.get h2;have hl:=r.length;have hn:=Yy;have fin:EP X pins Y Q w s:=⟨z,H,I,rw',q⟩;by_cases h0:0<=i
 ·have hj:i.toNat=j:=by
   rw[seqIndex_of h0 h5]at h1;exact Xn h1
  exact item_listR pl.isList h0 (by omega) (by rw[hj];simpa using ew) fin hs
 ·have hj:(i+(its.toArray.size:Int)).toNat=j:=by
   rw[seqIndex_neg (by omega) h4]at h1
   rw[Xp,<-hl];exact Xn h1
  exact subscriptTail_builtinR (x:=w) pl.isList.typeIs slot_list_getitem.lookup
   (wpAny_getItem_list_neg (Q:=λr s'=>r=w/\EP X pins Y Q r s') pl.isList (by omega) (by rw[Xp]<;>omega) (by omega) (by rw[hj];simpa using ew) ⟨rfl,fin⟩) hs
def ix_tup:IxR X (QnX X.K):=by
 intro value slice pins s Y H x y v u Q I rx ry h hs;obtain⟨p,xs,i,z,rfl,rfl,hq,he,q⟩:=h;cases rx;obtain⟨t,rfl⟩:=ry;obtain⟨its,r,pl,hz⟩:=I.tuple hq;obtain⟨j,h1,h2,h3,h4,h5⟩:=Qa1 he;obtain⟨w,ew,rw'⟩:=r.get h2;have hl:=r.length;have hn:=Yy;have fin:EP X pins Y Q w s:=⟨z,H,I,rw',q⟩
 exact subscriptTail_builtinR (x:=w) pl.typeIs slot_tuple_getitem.lookup
  (getItem_tuple (j:=j) (Q:=λr s'=>r=w/\EP X pins Y Q r s') pl (by omega) (by omega) (by rw[Xp,<-hl];exact h1) (by simpa using ew) ⟨rfl,fin⟩) hs
def Qkw:IxR X QnY:=by
 intro value slice pins s Y H x y v u Q I rx ry h hs;obtain⟨z,i,c,rfl,rfl,hz,he,q⟩:=h;obtain⟨t,rfl⟩:=rx;obtain⟨t',rfl⟩:=ry;obtain⟨j,h1,h2,h3,h4,h5⟩:=Qa1 he
 have hl:z.cps.toList.length=z.length:=by simp[Str.length]
 rw[hl]at h1 h4 h5;have hn:=Yy
 exact tail_any (typeIs_str s z t) slot_str_getitem.lookup (getItem_str (c:=c) (by
  have e1:decide (i < -(2 ^ 63:Int))=false:=Xy (by omega)
  have e2:decide (i≥2 ^ 63)=false:=Xy (by omega)
  rw[e1,e2,Bool.or_false]) (by rw[h1];simpa using h2) ⟨.str ⟨#[c]⟩,H,I.tok _,⟨_,rfl⟩,q⟩) hs
def rIx(K:W.Frag):R2:=λx y H Q=>QnZ K x y H Q\/QnX K x y H Q\/QnY x y H Q
def ix_seq:IxR X (rIx X.K):=ix_list.or (ix_tup.or Qkw)
def Qci(its:List Value)(n j:Nat)(u:Value):Obj.mapSeq (·.setIfInBounds j u) {cls:=.type "list",data:=.seq its.toArray n}={cls:=.type "list",data:=.seq (its.set j u).toArray n}:=by
 simp[Obj.mapSeq]
theorem Inv.lst{p:Addr}{xs:List V}(I:Inv X pins Y H s)(h:H p=some (.lst xs)):
  ∃(its:List Value) (n:Nat),Vals xs its/\s.heap.get? p=some {cls:=.type "list",data:=.seq its.toArray n}/\xs.length<=sizeLine:=by
 obtain⟨z,its,n,r,e⟩:=I.hok p _ h;exact⟨its,n,r,e,z⟩
def Inv.lstUpd{p:Addr}{xs ys:List V}{its its':List Value}{n n':Nat}{f:Obj->Obj}(I:Inv X pins Y H s)(h:H p=some (.lst xs))
  (ho:s.heap.get? p=some {cls:=.type "list",data:=.seq its.toArray n}) (hf:f {cls:=.type "list",data:=.seq its.toArray n}={cls:=.type "list",data:=.seq its'.toArray n'}) (r:Vals ys its') (hz:ys.length<=sizeLine) (t:Nat):
  Inv X pins Y (upd H p (.lst ys)) {s with heap:=s.heap.update p f,toks:=t}:=by
 have e:(s.heap.update p f).get? p=some {cls:=.type "list",data:=.seq its'.toArray n'}:=by
  rw[V9 f ho (by rw[hf]<;>rfl),hf]
 refine I.write (x:=p) (e:=p) (by rw[h];trivial) (.inl rfl) (λb u hb q=>(Heap.get?_update_other _ _ (Wy hb)).trans q) ⟨_,e⟩ ?_
 exact⟨hz,its',n',r,e⟩
def Qmj:V->V->V->Hp->(Hp->Prop)->Prop:=λo i v H Q=>∃p xs k j,o=.ref p/\i=.int k/\H p=some (.lst xs)/\ixN xs.length k=some j/\Q (upd H p (.lst (xs.set j v)))
def QeT:QiA X Qmj:=by
 intro pins s Y H o i v ov iv u Q I ro ri rv h;obtain⟨p,xs,k,j,rfl,rfl,hp,hj,q⟩:=h;cases ro;obtain⟨t,rfl⟩:=ri;obtain⟨its,n,r,ho,hz⟩:=I.lst hp;obtain⟨h1,h2,h3,h4⟩:=QdL hj;have hl:=r.length;have hn:=Yy
 have I':Inv X pins Y (upd H p (.lst (xs.set j v))) {s with heap:=s.heap.update p (Obj.mapSeq (·.setIfInBounds j u))}:=
  I.lstUpd hp ho (Qci its n j u) (r.set rv j) (by rw[List.length_set];exact hz) s.toks
 by_cases h0:0<=k
 ·have hk:k.toNat=j:=by
   rw[seqIndex_of h0 h4]at h1;exact Xn h1
  exact W.ki_setAt ho h0 (by omega) (by rw[Xp,<-hl];exact h4) (by rw[hk];exact⟨_,I',q⟩)
 ·have hk:(k+(its.toArray.size:Int)).toNat=j:=by
   rw[seqIndex_neg (by omega) h3]at h1
   rw[Xp,<-hl];exact Xn h1
  exact W.ki_setBack ho (by omega) (by rw[Xp,<-hl];exact h3) (by omega) (by rw[hk];exact⟨_,I',q⟩)
def JU(lo hi:Option Int)(n:Nat):(sliceBounds lo hi none n).1=((HT.sIx n 0 lo:Nat):Int)/\(sliceBounds lo hi none n).2.1=((HT.sIx n n hi:Nat):Int)/\(sliceBounds lo hi none n).2.2=1:=by
 refine⟨?_,?_,rfl⟩
 ·cases lo with
  |none=>simp[sliceBounds,HT.sIx]
  |some i=>
   simp only[sliceBounds,HT.sIx,Option.getD_none,show(1:Int) > 0 by decide,Wo]
   by_cases h:i<0
   ·simp only[h,Wo]<;>omega
   ·simp only[h,V7]<;>omega
 ·cases hi with
  |none=>simp[sliceBounds,HT.sIx]
  |some i=>
   simp only[sliceBounds,HT.sIx,Option.getD_none,show(1:Int) > 0 by decide,Wo]
   by_cases h:i<0
   ·simp only[h,Wo]<;>omega
   ·simp only[h,V7]<;>omega
def Jh(its:List Value)(lo hi:Option Int):slicePick its.toArray lo hi none=((its.drop (HT.sIx its.length 0 lo)).take (HT.sIx its.length its.length hi-HT.sIx its.length 0 lo)).toArray:=by
 obtain⟨h1,h2,h3⟩:=JU lo hi its.toArray.size;unfold slicePick;rw[h1,h2,h3];simp only[sliceRange_one,pick_run,Xp]<;>rfl
def QnV(K:W.Frag):V->Option Int->Option Int->Hp->VK->Prop:=λx lo hi H Q=>∃a xs,x=.ref a/\SqL K H a xs/\∀p,H p=none->Q (.ref p) (upd H p (.lst (Qgp xs lo hi)))
def sl_list:SlR X (QnV X.K):=by
 intro pins s Y H x v vl vu lo hi sl Q I rx hs pl pu h;obtain⟨a,xs,rfl,hx,q⟩:=h;cases rx;obtain⟨its,r,ht,hz⟩:=I.list hx;have hlen:=r.length;refine⟨"list",_,slot_list_getitem.lookup,ht.isList.typeIs,?_⟩
 refine wpAny_getItem_list_slice ht.isList hs pl pu .none (by simp) ?_ (by rw[Xp]<;>omega)
 rw[Jh,<-hlen];refine⟨.ref s.heap.objs.size,_,I.laid (t':=s.toks) (o:=.lst (Qgp xs lo hi)) (λb ob q=>Xb _ q) (Xe _) ?_,rfl,q _ (I.hok.fresh (Xe _))⟩;exact⟨X2 (YF xs lo hi) hz,_,0,(r.drop (HT.sIx xs.length 0 lo)).take (HT.sIx xs.length xs.length hi-HT.sIx xs.length 0 lo),Xr _ rfl⟩
def Qai:CallR X (.builtin "len") (λxs H Q=>∃p ys,xs=[.ref p]/\(SqL X.K H p ys\/SqT X.K H p ys)/\Q (.int ys.length) H):= by
 intro pins s Y H xs us Q I r h;obtain⟨p,ys,rfl,hq,q⟩:=h;obtain⟨u,rfl,rx⟩:=JN r;cases rx;have hn:=Yy
 rcases hq with hq|hq
 ·obtain⟨its,r',pl,hz⟩:=I.list hq;have hlen:=r'.length
  exact Calls.call_len_list pl.isList (by simp only[Xp]<;>omega) ⟨.int ys.length,H,I.tok _,⟨s.toks+1,by rw[Xp,hlen]⟩,q⟩
 ·obtain⟨its,r',pl,hz⟩:=I.tuple hq;have hlen:=r'.length
  exact len_tuple pl (by simp only[Xp]<;>omega) ⟨.int ys.length,H,I.tok _,⟨s.toks+1,by rw[Xp,hlen]⟩,q⟩
def Qah:CallR X (.builtin "len") (λxs H Q=>∃z,xs=[.str z]/\z.length<=sizeLine/\Q (.int z.length) H):= by
 intro pins s Y H xs us Q I r h;obtain⟨z,rfl,hz,q⟩:=h;obtain⟨u,rfl,t,rfl⟩:=JN r;have hn:=Yy
 exact len_str (by omega) ⟨.int z.length,H,I.tok _,⟨_,rfl⟩,q⟩
def CallR.or{f:Value}{r r':List V->Hp->VK->Prop}(h:CallR X f r)(h':CallR X f r'):CallR X f (λxs H Q=>r xs H Q\/r' xs H Q):=by
 intro pins s Y H xs us Q I rs q
 rcases q with q|q
 ·exact h pins s Y H xs us Q I rs q
 ·exact h' pins s Y H xs us Q I rs q
def Jy:CallR X (.type "tuple") (λxs H Q=>∃p ys,xs=[.ref p]/\((SqL X.K H p ys/\∀l,H l=none->Q (.ref l) (upd H l (.tup ys)))\/(SqT X.K H p ys/\Q (.ref p) H))):= by
 intro pins s Y H xs us Q I r h;obtain⟨p,ys,rfl,h⟩:=h;obtain⟨u,rfl,rx⟩:=JN r;cases rx
 rcases h with⟨hq,q⟩|⟨hq,q⟩
 ·obtain⟨its,r',pl,hz⟩:=I.list hq;have hlen:=r'.length
  refine call_tuple_list pl.isList (λh' kp=>?_) (by simp only[Xp]<;>omega)
  have I1:Inv X pins Y H {s with heap:=h'}:=I.kept (t':=s.toks) kp
  have I2:Inv X pins Y (upd H h'.objs.size (.tup ys)) {s with heap:=h'.push {cls:=.type "tuple",data:=.seq its.toArray} }:=
   I1.laid (t':=s.toks) (λb o e=>Xb _ e) (Xe _) (show ObjOk X.prog X.w _ _ _ (.tup ys)from⟨hz,its,r',IsTup.new _ _⟩)
  exact⟨.ref h'.objs.size,_,I2,rfl,q _ (I1.hok.fresh (Xe _))⟩
 ·obtain⟨its,r',pl,hz⟩:=I.tuple hq;exact call_tuple_same pl ⟨.ref p,H,I,rfl,q⟩
def tyV(K:W.Frag)(T:String)(x:V)(H:Hp):Prop:=match x with
 |.str _=>T="str"
 |.int _=>T="int"
 |.ref p=>(T="list"/\∃xs,SqL K H p xs)\/(T="tuple"/\∃o,K.lookup p=some o/\o.cls=.type "tuple"/\o.dict=none) \/
   (T="dict"/\((∃kvs,H p=some (.dK kvs))\/∃kvs,H p=some (.dT kvs)))\/(T="set"/\∃S n,H p=some (.set S n))
 |_=>False
def Qf4{T:String}{x:V}{v:Value}(I:Inv X pins Y H s)(r:RelV x v)(ty:tyV X.K T x H):
  s.TypeIs v T/\∀a,v=.ref a->∃ob,s.heap.get? a=some ob/\ob.dict=none:=by
 cases x with
 |str z=>
  obtain⟨t,rfl⟩:=r;cases(show T="str" from ty);exact⟨typeIs_str s z t,λy e=>nomatch e⟩
 |int i=>
  obtain⟨t,rfl⟩:=r;cases(show T="int" from ty);exact⟨typeIs_int s i t,λy e=>nomatch e⟩
 |ref p=>
  cases r
  rcases ty with⟨rfl,xs,hq⟩|⟨rfl,o,hk,hc,hd⟩|⟨rfl,hk⟩|⟨rfl,S,n,hk⟩
  ·obtain⟨its,_,pl,_⟩:=I.list hq;refine⟨pl.isList.typeIs,λa e=>?_⟩;cases e;obtain⟨o,n,e,c,hd,_⟩:=pl;exact⟨o,e,hd⟩
  ·refine⟨⟨o,I.kIn p o hk,hc⟩,λa e=>?_⟩;cases e;exact⟨o,I.kIn _ o hk,hd⟩
  ·have z:∃o,s.heap.get? p=some o/\o.ExactDict:=by
    rcases hk with⟨kvs,hk⟩|⟨kvs,hk⟩
    ·obtain⟨_,_,_,_,o,_,_,e,ex,_⟩:=I.hok p _ hk;exact⟨o,e,ex⟩
    ·obtain⟨_,_,_,_,o,_,_,e,ex,_⟩:=I.hok p _ hk;exact⟨o,e,ex⟩
   obtain⟨o,e,ex⟩:=z;refine⟨⟨o,e,ex.1⟩,λa e2=>?_⟩;cases e2;exact⟨o,e,ex.2.1⟩
  ·obtain⟨o,_,_,_,e,ex,_⟩:=I.hok p _ hk;refine⟨⟨o,e,ex.1⟩,λa e2=>?_⟩;cases e2;exact⟨o,e,ex.2.1⟩
 |_=>exact False.elim ty
def QoJ(K:W.Frag)(T:String)(r:V->List V->Hp->VK->Prop)(to:TE):TE:=λY H Q=>to Y H λx H1=>tyV K T x H1/\r x [] H1 Q
def tBM(K:W.Frag)(T:String)(r:V->List V->Hp->VK->Prop)(to:TE)(t:TA):TE:=λY H Q=>to Y H λx H1=>tyV K T x H1/\t Y H1 λxs H2=>r x xs H2 Q
variable {o e:Expr}{es:List Expr}{to:TE}{t:TA}{name:Str}{apos cpos:Pos}{T id:String}{r:V->List V->Hp->VK->Prop}
def QjZ(pa:PlainAttrs T)(slot:Slot T name id)(hty:typeOf (.builtin id)=pure (.type "method_descriptor"))(hm:MtR X id r)(ho:PE X o to)
  (hbase:attributeBase o name X.env (eval o X.env)=eval o X.env:=by rfl) (hline:(apos.endLine==cpos.line)=true:=by rfl):PE X (.Call (.Attribute o name apos) [] [] cpos) (QoJ X.K T r to):=by
 intro pins s Y H Q I h;refine wpAny_Call_method0_late hbase hline (thn (ho pins s Y H _ I h) λv s1 z=>?_);obtain⟨x,H1,I1,r1,ty,q1⟩:=z;obtain⟨h1,h2⟩:=Qf4 I1 r1 ty;exact⟨T,id,pa,slot,hty,h1,h2,Calls.callWith_builtin rfl (PySem.evalArgs_none (hm pins s1 Y H1 x [] v [] Q I1 r1 .nil q1))⟩
def Qmu(pa:PlainAttrs T)(slot:Slot T name id)(hty:typeOf (.builtin id)=pure (.type "method_descriptor"))(hm:MtR X id r)(ho:PE X o to)(ha:PA X (e::es) t)
  (hbase:attributeBase o name X.env (eval o X.env)=eval o X.env:=by rfl)
  (hfew:((backTo cpos (starEach (e::es) X.env)).all (λx=>!x.1)&&(backToKw cpos (keywordEach [] X.env)).all (λx=>x.1.isSome)
   && decide ((e::es).length+([]:List Keyword).length+(if([]:List Keyword).isEmpty then 0 else 1) < 30))=true:=by rfl)
  (hline:(apos.endLine==cpos.line)=true:=by rfl) (hs:starEach (e::es) X.env=(false,eval e X.env)::starEach es X.env:=by rfl) (hplain:(backTo cpos (starEach es X.env)).any (·.1)=false:=by rfl):
  PE X (.Call (.Attribute o name apos) (e::es) [] cpos) (tBM X.K T r to t):=by
 intro pins s Y H Q I h;refine wpAny_Call_method_late hbase hfew hline rfl (thn (ho pins s Y H _ I h) λv s1 z=>?_);obtain⟨x,H1,I1,r1,ty,q1⟩:=z;obtain⟨h1,h2⟩:=Qf4 I1 r1 ty;refine⟨T,id,pa,slot,hty,h1,h2,?_⟩;have hA:=ha cpos pins s1 Y H1 _ I1 q1;rw[hs]at hA ⊢
 refine Calls.callWith_builtin (by show(false||(backTo cpos (starEach es X.env)).any (·.1))=false;rw[hplain]<;>rfl) (Calls.evalArgs_plain ?_)
 exact thn hA λus s2 y=>by obtain⟨vs,H2,I2,r2,q2⟩:=y;exact hm pins s2 Y H2 x vs v us Q I2 r1 r2 q2
end
end
section
variable {X:Cx}
noncomputable def MtM(X:Cx)(id:String)(r:V->List V->Hp->VK->Prop):Prop :=
 ∀(pins:List (Addr×Obj)) (s:Shared) (Y:St) (H:Hp) (x:V) (xs:List V) (v:Value) (us:List Value) (Q:VK),Inv X pins Y H s->RelV x v->Vals xs us->r x xs H Q ->
  wpAny (model X.prog X.w) X.A (call (.builtin id) (v::us)) (EP X pins Y Q) X.xe s
def Vals.one{x:V}{us:List Value}(h:Vals [x] us):∃u,us=[u]/\RelV x u:=by
 cases h with
 |cons r t=>cases t;exact⟨_,rfl,r⟩
def Vals.two{x y:V}{us:List Value}(h:Vals [x,y] us):∃u v,us=[u,v]/\RelV x u/\RelV y v:=by
 cases h with
 |cons r t=>obtain⟨v,rfl,q⟩:=Vals.one t;exact⟨_,_,rfl,r,q⟩
theorem Vals.rep{xs:List V}{us:List Value}(h:Vals xs us):∀k:Nat,Vals (List.replicate k xs).flatten (List.replicate k us).flatten
 |0=>.nil
 |k+1=>by
  rw[Wh,Wh,Wu,Wu];exact Vals.append h (Vals.rep h k)
theorem Qae(its:List Value):∀(k:Nat) (acc:List Value),
  List.foldl (λx1 x2=>x1++x2) acc.toArray (List.replicate k its.toArray)=(acc++(List.replicate k its).flatten).toArray
 |0,acc=>by simp
 |k+1,acc=>by
  have e:acc.toArray++its.toArray=(acc++its).toArray:=by simp
  have e2:(acc++its)++(List.replicate k its).flatten=acc++(List.replicate (k+1) its).flatten:=by
   rw[Wh,Wu,Vc]
  rw[<-e2,<-Qae its k (acc++its),<-e,Wh,List.foldl_cons]
section
variable {pins:List (Addr×Obj)}{Y:St}{H:Hp}{s:Shared}{l:Addr}{xs ys:List V}
def Inv.lset{its its':List Value}{n:Nat}{f:Array Value->Array Value}{t':Nat}(I:Inv X pins Y H s)(hH:H l=some (.lst xs))
  (e:s.heap.get? l=some {cls:=.type "list",data:=.seq its.toArray n}) (hf:f its.toArray=its'.toArray) (hv:Vals ys its') (hz:ys.length<=sizeLine):
  Inv X pins Y (upd H l (.lst ys)) {s with heap:=s.heap.update l (Obj.mapSeq f),toks:=t'}:=by
 have q:=PySem.IsL.update e f;rw[hf]at q
 refine I.write (x:=l) (e:=l) (by rw[hH];exact trivial) (.inl rfl) (λb' u hb hu=>(Heap.get?_update_other s.heap (Obj.mapSeq f) (Wy hb)).trans hu) ⟨_,q⟩ ?_
 exact⟨hz,its',_,hv,q⟩
def Inv.lnew{its:List Value}{t':Nat}(I:Inv X pins Y H s)(hv:Vals ys its)(hz:ys.length<=sizeLine):
  Inv X pins Y (upd H s.heap.objs.size (.lst ys)) {s with heap:=s.heap.push {cls:=.type "list",data:=.seq its.toArray},toks:=t'}:=
 I.laid (λz z q=>Xb _ q) (Xe _) ⟨hz,its,0,hv,Xr _ rfl⟩
theorem Inv.fresh(I:Inv X pins Y H s):H s.heap.objs.size=none:=I.hok.fresh (Xe _)
def Inv.lstM(I:Inv X pins Y H s)(hH:H l=some (.lst xs)): xs.length<=sizeLine/\∃(its:List Value) (n:Nat),Vals xs its/\xs.length=its.length/\s.heap.get? l=some {cls:=.type "list",data:=.seq its.toArray n}:= by
 obtain⟨z,its,n,r,e⟩:=I.hok l _ hH;exact⟨z,its,n,r,r.length,e⟩
def QbF{n:Nat}(h:n<=sizeLine):Builtin.List.listTooLong n=false:=by
 unfold Builtin.List.listTooLong
 exact Xy (by omega)
end
section

def Qhb:V->List V->Hp->VK->Prop:=λx vs H Q=>∃l xs y,x=.ref l/\vs=[y]/\H l=some (.lst xs)/\xs.length<sizeLine/\Q .non (upd H l (.lst (xs++[y])))
def Qac:MtM X "list.append" Qhb:=by
 intro pins s Y H x vs v us Q I rx rv h;obtain⟨l,xs,y,rfl,rfl,hH,hz,q⟩:=h;cases rx;obtain⟨u,rfl,ru⟩:=rv.one;obtain⟨z,its,n,r,hl,e⟩:=I.lstM hH
 refine call_meets F.slot_list_append ⟨_,e,rfl⟩ F.entry_list_append (F.args_list_append_2 _ _) (PySem.list_append l its.toArray n u (by rw[Xp];omega)) ⟨e,?_⟩
 refine⟨.non,_,I.lset (its':=its++[u]) hH e (by simp) (r.append (.cons ru .nil)) ?_,rfl,q⟩
 rw[Xv,Ua];omega
def Qha:V->List V->Hp->VK->Prop:=λx vs H Q=>∃l b xs zs,x=.ref l/\vs=[.ref b]/\H l=some (.lst xs)/\H b=some (.lst zs)/\xs.length+zs.length<=sizeLine/\Q .non (upd H l (.lst (xs++zs)))
def QdA:MtM X "list.extend" Qha:=by
 intro pins s Y H x vs v us Q I rx rv h;obtain⟨l,b,xs,zs,rfl,rfl,hH,hB,hz,q⟩:=h;cases rx;obtain⟨u,rfl,ru⟩:=rv.one;cases ru;obtain⟨z,its,n,r,hl,e⟩:=I.lstM hH;obtain⟨z2,its2,n2,r2,hl2,e2⟩:=I.lstM hB
 have hsz:its.toArray.size+its2.toArray.size<=sizeLine:=by rw[Xp,Xp];omega
 have hlong:¬(!its.toArray.isEmpty&&Builtin.List.listTooLong (its.toArray.size+its2.toArray.size))=true:=by
  rw[QbF hsz,Bool.and_false];exact Xh
 refine call_meets F.slot_list_extend ⟨_,e,rfl⟩ F.entry_list_extend (F.args_list_extend_2 _ _)
  (AutoSeq1.list_extend_list_list_0 l its.toArray n b its2.toArray n2 hlong (by rw[Xp];omega) (by omega)) ⟨e,e2,?_⟩
 refine⟨.non,_,I.lset (its':=its++its2) hH e (by simp) (r.append r2) ?_,rfl,q⟩
 rw[Xv];omega
def Qo1:R2:=λx y H Q=>∃l b xs zs,x=.ref l/\y=.ref b/\H l=some (.lst xs)/\H b=some (.lst zs)/\xs.length+zs.length<=sizeLine/\∀p,H p=none->Q (.ref p) (upd H p (.lst (xs++zs)))
def Qkd:OpR X (binaryOp .Add) Qo1:=by
 intro pins s Y H x y v u Q I rx ry h;obtain⟨l,b,xs,zs,rfl,rfl,hH,hB,hz,q⟩:=h;cases rx;cases ry;obtain⟨z,its,n,r,hl,e⟩:=I.lstM hH;obtain⟨z2,its2,n2,r2,hl2,e2⟩:=I.lstM hB
 refine PySem.P.add_list e e2 ?_ (by rw[Xp,Xp];omega)
 have ea:its.toArray++its2.toArray=(its++its2).toArray:=by simp
 rw[ea]
 exact⟨.ref _,_,I.lnew (t':=s.toks) (r.append r2) (by rw[Xv];omega),rfl,q _ I.fresh⟩
def QoZ:R2:=λx y H Q=>∃l k xs,x=.ref l/\y=.int k/\H l=some (.lst xs)/\-(2 ^ 63)<=k/\k<2 ^ 63/\xs.length*k.toNat<=sizeLine /\
 ∀p,H p=none->Q (.ref p) (upd H p (.lst (List.replicate k.toNat xs).flatten))
def QhM{α:Type}(xs:List α)(k:Nat):(List.replicate k xs).flatten.length=k*xs.length:=by
 induction k with
 |zero=>simp
 |succ k ih=>rw[Wh,Wu,Xv,ih,Tc,Nat.add_comm]
def Qj2:OpR X (binaryOp .Mult) QoZ:=by
 intro pins s Y H x y v u Q I rx ry h;obtain⟨l,k,xs,rfl,rfl,hH,h1,h2,hz,q⟩:=h;cases rx;obtain⟨t,rfl⟩:=ry;obtain⟨z,its,n,r,hl,e⟩:=I.lstM hH
 have hlen:its.toArray.size*k.toNat<=sizeLine:=by rw[Xp,<-hl];exact hz
 have hcap:¬its.toArray.size*k.toNat>(2 ^ 63-1) / 8:=by
  have:(sizeLine:Nat)<=(2 ^ 63-1) / 8:=by decide
  omega
 have hfit:¬(!Builtin.List.listFitsIndex k)=true:=by
  rw[fitsIndex_both h1 h2];exact Xh
 have hlong:¬Builtin.List.listTooLong (its.toArray.size*k.toNat)=true:=by
  rw[QbF hlen];exact Xh
 have hnew:List.foldl (λx1 x2=>x1++x2) #[] (List.replicate (if its.toArray.isEmpty=true then 0 else k.toNat) its.toArray)=(List.replicate k.toNat its).flatten.toArray:=by
  have f0:∀m:Nat,List.foldl (λx1 x2=>x1++x2) #[] (List.replicate m its.toArray)=(List.replicate m its).flatten.toArray:=λm=>by
   have:=Qae its m [];rw[List.nil_append]at this;exact this
  rw[f0]
  cases its with
  |nil=>simp
  |cons a r'=>rw[if_neg (by simp)]
 refine wpAny_binaryOp_repeat_ref (T:="list") (U:="int") (by decide) ⟨_,e,rfl⟩ (λs'=>typeIs_int s' k t) noFill_list_mul F.fills_int_mul F.slot_int_rmul repeat_list F.slot_int_index.lookup
  (call_meets F.slot_int_rmul (typeIs_int s k t) F.entry_int_rmul (F.args_int_rmul_2 _ _) (int___rmul___int_list k t l its.toArray n)
   ⟨e,rfl,⟨_,e,rfl⟩,call_meets F.slot_list_mul ⟨_,e,rfl⟩ F.entry_list_mul (F.args_list_mul_2 _ _) (AutoListH.list___mul___list_int_3 l its.toArray n k t hfit hcap hlong) ⟨e,?_⟩⟩)
 rw[hnew]
 exact⟨.ref _,_,I.lnew (t':=s.toks) (r.rep k.toNat) (by rw[QhM,Nat.mul_comm];exact hz),rfl,q _ I.fresh⟩
end
section
set_option maxRecDepth 100000 in
end
section

end
end
section
variable {H:Hp}
section
variable {κ:Type}[DecidableEq κ]
end
abbrev KT(H:Hp):List (List Key×V)->List (List Key×Addr×Value)->Prop:=Paired λp q=>p.1=q.1/\H q.2.1=some (.tup (p.1.map kV))/\RelV p.2 q.2.2
abbrev VV:List (V×V)->List (Value×Value)->Prop:=Paired λp q=>RelV p.1 q.1/\RelV p.2 q.2
end
end L2
namespace Att
open PySem PySem.W PySem.Calls PyProof.Rows
def YE{P:Params}{h:Heap}:∀(ns:List Int) (vs:List Value),WellAll P h vs (ns.map WData.int)->IntsAre vs ns:=by
 intro ns
 induction ns with
 |nil=>
  intro vs w;rw[List.map_nil]at w;cases w;exact .nil
 |cons n ns ih=>
  intro vs w;rw[X7]at w
  cases w with
  |cons a b=>
   cases a;exact .cons _ _ (ih _ b)
def Qc2{l:OpenLaw}{n:Nat}(hn:l.most=some n){P:Params}{h:Heap}{args:List WData}{vals:List Value}
  (hpre:l.row.toRowW.claim.pre args=true) (hwl:WellAll P h vals args):
  ∃a vs ns,vals=[Value.ref a]/\args=[WData.list (ns.map WData.int)]/\h.get? a=some {cls:=.type "list",data:=.seq vs.toArray}/\IntsAre vs ns/\ns.length<=n:=by
 have hsh:WShape.hasAll [] args [.list .int]=true:=(pre_splitW hpre).1;have hc:l.pre.holds [] {args:=args}=true:=(pre_splitW hpre).2;obtain⟨d,r,rfl,h1,h2⟩:=hasAllW_cons hsh;obtain rfl:=hasAllW_nil h2;obtain⟨xs,rfl,h3⟩:=hasW_list h1;obtain⟨ns,rfl⟩:=items_int h3
 have hlen:ns.length<=n:=by
  unfold OpenLaw.pre at hc
  have h4:(WTm.not (.lt (.lit (.int (n:Int))) (.len (.arg 0)))).holds [] {args:=[.list (ns.map .int)]}=true:=by
   have h4:=(holds_andW hc).1;rw[hn]at h4;exact h4
  have h5:=condW_of h4 (w_not (w_lt w_lit (w_len_list (w_arg rfl))));rw[X6]at h5;refine U2 λq=>?_
  have q':(n:Int) < ((ns.length:Nat):Int):=by omega
  first
   | (rw[X9 q']at h5;exact absurd h5 (by decide))
   | (simp at h5;omega)
 cases hwl with
 |cons w1 w2=>
  cases w2
  cases w1 with
  |list ho hall=>exact⟨_,_,ns,rfl,rfl,ho,YE ns _ hall,hlen⟩
def Qdj(l:OpenLaw)(args:List WData):l.row.toRowW.claim.post args (.bool true) args=true :=
 postW_of (r:=l.row.toRowW) (X:=(true==true))
  (show WShape.has [] (.bool true) .bool=true by first|rfl|decide|simp[WShape.has,WShape.arms,WShape.armsAll])
  (show(WTm.eq .res (.lit (.bool true))).value [] {args:=args,res:=some (.bool true),after:=args}=some (.bool (true==true))from w_eq_bool (w_res rfl) w_lit) rfl
def attach_call{l:OpenLaw}{n:Nat}{q:Program}{loose:List Str}{XP:(Str->Option Value)->Heap->Prop}{YP:World->Heap->Prop}{d:DefRec}
  (hn:l.most=some n) (hdf:d.params.defaults=[])
  (call:∀(w:World) (s₀ s₁:Shared) (mg mb:Str->Option Value) (fa:Addr) (o:Obj) (pm cd doc:Value) (a:Addr) (vs:List Value) (ns:List Int),
   Ground q loose [] XP w s₀ mg mb s₁.heap->YP w s₁.heap ->
   s₁.heap.get? fa=some o->o.data=.func (docDef d.name d.params d.body d.scope pm cd doc)->s₁.heap.CodeRec cd d.name->mg d.name=some (.ref fa) ->
   s₁.heap.get? a=some {cls:=.type "list",data:=.seq vs.toArray}->IntsAre vs ns->ns.length<=n->s₁.gens=#[] ->
   codeAny (model l.prog w) callerA (.call (.ref fa) ⟨[.ref a],[]⟩) (λr s'=>r=.ok (.ret (.bool true))/\OldK s₁.heap s'.heap/\s'.os=s₁.os/\AllBare s'.gens) s₁):
  WalkO q loose XP YP l.row.toRowW d [] (λf vs=>PySem.call f vs):=by
 intro w s₀ s₁ mg mb G Yyy fa o pm cd doc dV kV ho hd hcd hD hmg hg args vals as hpre hlay hrd hwl hlo;obtain rfl:dV=.none:=Dflts.none hD hdf;obtain rfl:kV=.none:=Dflts.noKw hD;obtain⟨a,vs,ns,rfl,rfl,hobj,hints,hlen⟩:=Qc2 hn hpre hwl;refine enter_call (Uq (call w s₀ s₁ mg mb fa o pm cd doc a vs ns G Yyy ho (fd_plain hd) hcd hmg hobj hints hlen hg) λr s' hq=>?_);obtain⟨rfl,h2,h3,h4⟩:=hq;exact⟨.inl ⟨.bool true,.bool true,[],rfl,λz=>rfl,.bool true,Qdj l _,λz=>⟨List.Pairwise.nil,λz hm=>(nomatch hm)⟩⟩,h2,h3,h4⟩
end Att
namespace L2
open PySem PySem.Spec PyProof.Rows
section
theorem JM:∀{vs:List Value} {ns:List Int},IntsAre vs ns->Vals (ns.map V.int) vs
 |_,_,.nil=>.nil
 |_,_,.cons n t h=>.cons ⟨t,rfl⟩ (JM h)
def QlM(H:Hp):Prop:=∀b,H b=none\/∃o xs,H b=some (.frz o (.lst xs))
def Qfo{P:Program}{w:World}{K:W.Frag}{mg mb:Str->Option Value}{CX:CXT}{k:Nat}{fa a:Addr}{fd:FuncData}{x:Str}{sp:Sp}{s₁:Shared}{vs:List Value}{ns:List Int}
  (KX:K.In s₁.heap) (hns:s₁.heap.Ns mainGlobals mg) (hb:s₁.heap.Ns builtinsNs mb) (hbb:∀x:Str,x≠"__name__"->mb x=bootBuiltins x) (hlim:s₁.heap.NoLimit) (hg:s₁.gens=#[])
  (ha:s₁.heap.get? a=some {cls:=.type "list",data:=.seq vs.toArray}) (hi:IntsAre vs ns) (hl:ns.length<=sizeLine) (hr:Room k callerA)
  (F:∀base:Heap,K.In base->base.Ns mainGlobals mg->FnOk P w K mg base CX k fa fd [x] sp) (hbind:∀(s:Shared) (u:Value),BindsTo s fd ⟨[u],[]⟩ [(x,u)])
  (hsp:∀H:Hp,QlM H->SqL K H a (ns.map V.int)->sp [.ref a] H (λv y=>v=.bl true) λy y y=>False)
  (hCX:∀H e s',CX [] H s₁ (λy y y=>False) e s'->False):
  codeAny (model P w) callerA (.call (.ref fa) ⟨[.ref a],[]⟩) (λr s'=>r=.ok (.ret (.bool true))/\OldK s₁.heap s'.heap/\s'.os=s₁.os/\AllBare s'.gens) s₁:=by
 have rv:=JM hi;have lenV:=hi.length
 have core:∀H:Hp,QlM H->SqL K H a (ns.map V.int)->HOk P w H s₁.heap->(∀b,H b≠none->b=a)->(H a≠none->K.lookup a=none) ->
   codeAny (model P w) callerA (.call (.ref fa) ⟨[.ref a],[]⟩) (λr s'=>r=.ok (.ret (.bool true))/\OldK s₁.heap s'.heap/\s'.os=s₁.os/\AllBare s'.gens) s₁:=by
  intro H hO hS hok hA hK;have base_of:∀{b:Addr} {o:Obj},s₁.heap.get? b=some o->H b=none->(Qfu s₁.heap H).get? b=some o:=λe n=>Qft e n
  have noA:∀{b:Addr} {o:Obj} {es:Array DictEntry} {ep:Nat},s₁.heap.get? b=some o->o.data=.dict es ep->H b=none:=λ{b o es ep} e d=>by
   cases q:H b with
   |none=>rfl
   |some u=>
    have e':b=a:=hA b (by rw[q];simp)
    subst e';rw[ha]at e;cases e;have d':Data.seq vs.toArray _=Data.dict es ep:=d;cases d'
  have nsK:∀{b:Addr} {m:Str->Option Value},s₁.heap.Ns b m->(Qfu s₁.heap H).Ns b m:=λ{b m} ⟨o,es,ep,e,d,r⟩=>⟨o,es,ep,base_of e (noA e d),d,r⟩
  have hKb:K.In (Qfu s₁.heap H):=λb o e=>base_of (KX b o e) (by
   cases q:H b with
   |none=>rfl
   |some u=>
    have e':b=a:=hA b (by rw[q];simp)
    subst e'
    rw[hK (by rw[q];simp)]at e;cases e)
  have hM:Mod K mg (Qfu s₁.heap H):=⟨hKb,nsK hns,⟨mb,nsK hb,hbb⟩,let ⟨mc,h1,h2⟩:=hlim;⟨mc,nsK h1,h2⟩⟩
  have e0:Env0 P w K mg (Qfu s₁.heap H) callerA [] s₁ H:=⟨rfl,hM,λb o e=>QhF e,Nat.le_of_eq (QdO _ _),trivial,λb hb=>absurd (show b∈([]:List Addr)from hb) (by simp),hok,.of_eq hg⟩
  refine Uq ((F _ hKb (nsK hns)).run callerA [] s₁ H ⟨[.ref a],[]⟩ [.ref a] [.ref a] _ _ hr e0 (hbind s₁ (.ref a)) (.cons rfl .nil) (hsp H hO hS)) λr s' h=>?_
  cases r with
  |error e=>exact(hCX H e s' h).elim
  |ok fl=>
   cases fl with
   |next=>exact False.elim h
   |brk=>exact False.elim h
   |cont=>exact False.elim h
   |ret u=>
    obtain⟨v,H',os,bare,un,hok',r',q⟩:=h;have q':v=.bl true:=q;subst q';obtain rfl:u=Value.bool true:=r';refine⟨rfl,OldK.of_keep λb o e=>?_,os,bare⟩
    cases q:H b with
    |none=>exact un.keep b o e q (by intro z;exact absurd (show b∈([]:List Addr)from z) (by simp)) (by simp)
    |some u=>
     rcases hO b with z|⟨ob,xs,z⟩
     ·rw[q]at z;cases z
     ·have z2:=un.frzs b ob _ z;obtain⟨e1,_⟩:=hok b _ z;obtain⟨e2,_⟩:=hok' b _ z2;rw[e]at e1;cases e1;exact e2
 cases hk:K.lookup a with
 |some o=>
  have e:=KX a o hk;rw[ha]at e;cases e
  refine core (λy=>none) (λy=>.inl rfl) (.inr ⟨_,vs.toArray,_,hk,rfl,rfl,rfl,by rw[Xp,lenV];exact hl,by simpa using rv⟩) (λb u z=>by have z':(none:Option HO)=some u:=z;cases z') (λb z=>absurd rfl z) λz=>absurd rfl z
 |none=>
  refine core (λb=>if b=a then some (.frz {cls:=.type "list",data:=.seq vs.toArray} (.lst (ns.map V.int)))else none) (λb=>?_) (.inl (.inr ⟨{cls:=.type "list",data:=.seq vs.toArray},if_pos rfl⟩)) (λb u z=>?_) (λb z=>?_) λy=>hk
  ·by_cases hb:b=a
   ·exact .inr ⟨_,_,if_pos hb⟩
   ·exact .inl (if_neg hb)
  ·by_cases hb:b=a
   ·have z':=(if_pos hb).symm.trans z;cases z';subst hb
    exact⟨ha,by rw[X6];exact hl,vs,_,rv,ha⟩
   ·have z':=(if_neg hb).symm.trans z;cases z'
  ·by_cases hb:b=a
   ·exact hb
   ·exact absurd (if_neg hb) z
end
section
noncomputable abbrev KOf{K:W.Frag}{h:Heap}(_:K.In h):W.Frag:=K
def walk_of{l:W.OpenLaw}{n k:Nat}{q:Program}{loose:List Str}{XP:(Str->Option Value)->Heap->Prop}{YP:World->Heap->Prop}{d:DefRec}{K:Params->W.Frag}{CX:World->CXT}{sp:World->Sp}{x:Str}
  (hn:l.most=some n) (hn2:n<=sizeLine) (hdf:d.params.defaults=[]) (hr:Room k callerA)
  (hY:∀(w:World) (h:Heap),YP w h->(K w.params).In h)
  (F:∀(w:World) (mg:Str->Option Value) (fa:Addr) (h:Heap),(K w.params).In h->h.Ns mainGlobals mg->mg d.name=some (.ref fa) ->
   ∃fd:FuncData,(∀(s:Shared) (u:Value),BindsTo s fd ⟨[u],[]⟩ [(x,u)]) /\
    ∀base:Heap,(K w.params).In base->base.Ns mainGlobals mg->FnOk l.prog w (K w.params) mg base (CX w) k fa fd [x] (sp w))
  (hsp:∀(w:World) (H:Hp) (a:Addr) (ns:List Int),ns.length<=n->QlM H->SqL (K w.params) H a (ns.map V.int)->sp w [.ref a] H (λv z=>v=.bl true) λz z z=>False)
  (hCX:∀(w:World) (H:Hp) (s:Shared) (e:Value) (s':Shared),CX w [] H s (λz z z=>False) e s'->False):
  W.WalkO q loose XP YP l.row.toRowW d [] (λf vs=>PySem.call f vs):=by
 refine Att.attach_call hn hdf λw s₀ s₁ mg mb fa o pm cd doc a vs ns G Yyy ho hd hcd hmg hobj hints hlen hg=>?_;have KX:=hY w _ Yyy;obtain⟨fd,hb,hF⟩:=F w mg fa _ KX G.T.g hmg;exact Qfo KX G.T.g G.T.b G.T.builtins G.T.nolimit hg hobj hints (X2 hlen hn2) hr hF hb (λH hO hS=>hsp w H a ns hlen hO hS) λH e s'=>hCX w H s₁ e s'
end
section
noncomputable def Qh(s:Stmt)(j:Nat):Stmt:=match s with
 |.ClassDef _ _ _ body _ _ _ _ _ _ _=>body.getD j (.Pass ⟨0,0,0,0⟩)
 |_=>.Pass ⟨0,0,0,0⟩
noncomputable def Jw(s:Stmt):Arguments:=match s with
 |.FunctionDef _ a _ _ _ _ _ _ _ _=>a
 |_=>{posonlyargs:=[],args:=[],vararg:=none,kwonlyargs:=[],kw_defaults:=[],kwarg:=none,defaults:=[]}
noncomputable def Zq(s:Stmt):List Stmt:=match s with
 |.FunctionDef _ _ b _ _ _ _ _ _ _=>b
 |_=>[]
noncomputable def Qv(s:Stmt):Scope:=match s with
 |.FunctionDef _ _ _ _ _ _ sc _ _ _=>sc
 |_=>{kind:=.function,names:=[],isGenerator:=false,isCoroutine:=false}
abbrev CX0:CXT:=λz z z z z z=>False
abbrev E0:XK:=λz z z=>False
def QaN{X:Cx}:YN CX0 X E0:=λz z z z z z z h=>h.elim
def Qm3{A:Around}{k:Nat}(hr:Room k A):A.units+1<cLine:=Nat.lt_of_le_of_lt (Nat.add_le_add_left (by decide:1<=64) _) hr.units
section
variable {κ:Type}[DecidableEq κ]
end
end
end L2
namespace Iv
open PySem PySem.W PySem.Spec PyProof.Rows
variable {g0:Bool}{c:Code}{loose:List Str}{N n:Nat}{p' pos:Pos}{p q:Program}{Xt:Shared->Bool}{s s':SharedT}{α β Y:Type}
noncomputable def topRunT(tb:String->Option Builtin)(p:Program)(w:World)(n₀:Nat)(ann:Option Value):Nat->SharedT->Thread->Option SharedT
 |0,_,_=>none
 |n+1,s,t=>match through t with
  |true=>some s
  |false=>match stepOk n₀ ann t with
   |false=>none
   |true=>match stepT (denote tb) p w s t with
    |some (s',t')=>topRunT tb p w n₀ ann n s' t'
    |none=>none
theorem JR{tb:String->Option Builtin}{p:Program}{w:World}{n₀:Nat}{ann:Option Value}:∀{n:Nat} {s s':SharedT} {t:Thread},topRunT tb p w n₀ ann n s t=some s'->topRun tb p w n₀ ann n s.abs t=some s'.abs
 |0,_,_,_,h=>by cases h
 |n+1,s,s',t,h=>by
  unfold topRunT at h;unfold topRun
  cases he:through t with
  |true=>rw[he]at h;cases h;rfl
  |false=>
   rw[he]at h
   cases hk:stepOk n₀ ann t with
   |false=>rw[hk]at h;cases h
   |true=>
    rw[hk]at h
    cases hs:stepT (denote tb) p w s t with
    |none=>rw[hs]at h;cases h
    |some r=>obtain⟨s₂,t₂⟩:=r;rw[hs]at h;rw[stepT_spec hs];exact JR h
structure BootT where
 t:Params->BT
 n:Nat
 life:Life
noncomputable def BootT.at(B:BootT)(w:World)(os:OsState):SharedT:=⟨B.t w.params,B.n,B.life,Array.mk [],boot_drawn,boot_toks,os⟩
noncomputable abbrev RunT(p q:Program)(loose:List Str)(Xt:Shared->Bool){α:Type}(Yf:Shared->α)(Ya:World->α)(N:Nat)(g0:Bool)(B:BootT)(m₀:Nat)(ann:Option Value)(w:World):Prop :=
 ∀os:OsState,(topRunT treeTable p w m₀ ann N (B.at w os) (topStub p)).map (λs=>((staticsOk (importedModules p.main.body) (boot_heap w.params) s.abs.heap&&namesBound p s.abs.heap&&gensDone s.abs&&laidKept (boot_heap w.params) s.abs.heap),openSeen q loose (importedModules p.main.body) Xt g0 s.abs,Yf s.abs))=some (true,openGood q loose,Ya w)
def Qc7{x:Option Y}{f:Y->α}{g:Y->β}{a:α}{b:β}(h1:x.map f=some a)(h2:x.map g=some b):x.map (λs=>(f s,g s))=some (a,b):=by
 cases x with
 |none=>cases h1
 |some s=>cases h1;cases h2;rfl
section
variable (p q:Program)(loose:List Str)(Xt:Shared->Bool)(N:Nat)(g0:Bool)(B:BootT)(m₀:Nat)(ann:Option Value)
noncomputable abbrev QnE(w:World)(os:OsState):Option SharedT:=topRunT treeTable p w m₀ ann N (B.at w os) (topStub p)
abbrev PC(as:List Addr)(bs:List (Option Obj))(w:World):Prop:=∀os:OsState,(QnE p N B m₀ ann w os).map (λs=>as.map λa=>s.abs.heap.get? a)=some bs
variable {p q loose Xt N g0 B m₀ ann}
abbrev PL(p q:Program)(loose:List Str)(Xt:Shared->Bool)(N:Nat)(g0:Bool)(B:BootT)(m₀:Nat)(ann:Option Value)(w:World):Prop:=∀os:OsState,(QnE p N B m₀ ann w os).map (λs=>((staticsOk (importedModules p.main.body) (boot_heap w.params) s.abs.heap&&namesBound p s.abs.heap&&gensDone s.abs&&laidKept (boot_heap w.params) s.abs.heap),openSeen q loose (importedModules p.main.body) Xt g0 s.abs))=some (true,openGood q loose)
end
abbrev PX(p:Program)(N:Nat)(B:BootT)(m₀:Nat)(ann:Option Value){α:Type}(f:Shared->α)(a:α)(w:World):Prop:=∀os:OsState,(QnE p N B m₀ ann w os).map (λs=>f s.abs)=some a
noncomputable abbrev f1(q:Program)(s:Shared):=seen ((recsOf q).map (·.name)) (ownsOf q) [] {s with gens:=#[]}
noncomputable abbrev f2(s:Shared):=s.heap.bltView
noncomputable abbrev f3(q:Program)(loose:List Str)(s:Shared):Bool:=s.heap.keysOk (looseW q loose) ((recsOf q).map (·.name)) ((litsOf q).map (·.1)) ((clssOf q (looseW q loose)).map (·.name))
noncomputable abbrev f4(q:Program)(mods:List Str)(Xt:Shared->Bool)(g0:Bool)(s:Shared):Bool:=s.heap.accountedOkI mods&&s.heap.isNs mainGlobals&&s.heap.isNs builtinsNs&&tablesOk q s.heap&&Xt s&&(if g0 then s.gens.size==0 else !leftWithCleanup s.gens)
noncomputable abbrev f5(q:Program)(s:Shared):Bool:=tabsOk q s
noncomputable abbrev f6(q:Program)(loose:List Str)(s:Shared):=(pinSeenD q (drecsOf q) s,plainSeenE q (looseW q loose) s,plainSeenD q loose s)
noncomputable abbrev f7(q:Program)(loose:List Str)(s:Shared):=(wideSeen q s,clsSeenW q loose s)
def QeV{mods:List Str}{x:Option SharedT}(y1:x.map (λs=>f1 q s.abs)=some (expectedOf q))(y2:x.map (λs=>f2 s.abs)=some bltViewBooted)(y3:x.map (λs=>f3 q loose s.abs)=some true)
  (y4:x.map (λs=>f4 q mods Xt g0 s.abs)=some true) (y5:x.map (λs=>f5 q s.abs)=some true) (y6:x.map (λs=>f6 q loose s.abs)=some (pinGoodD (drecsOf q),plainGoodE q (looseW q loose),plainGoodD q loose))
  (y7:x.map (λs=>f7 q loose s.abs)=some (wideGood q,clsGoodW q loose)):x.map (λs=>openSeen q loose mods Xt g0 s.abs)=some (openGood q loose):=by
 cases x with
 |none=>cases y1
 |some s=>
  have z1:=Xn y1;have z2:=Xn y2;have z3:=Xn y3;have z4:=Xn y4;have z5:=Xn y5;have z6:=Td.mp (Xn y6);have z6b:=Td.mp z6.2;have z7:=Td.mp (Xn y7);simp only[f4,Xg]at z4;obtain⟨⟨⟨⟨⟨w1,w2⟩,w3⟩,w4⟩,w5⟩,w6⟩:=z4;have z3':s.abs.heap.keysOk (looseW q loose) ((recsOf q).map (·.name)) ((litsOf q).map (·.1)) ((clssOf q (looseW q loose)).map (·.name))=true:=z3;show some (openSeen q loose mods Xt g0 s.abs)=some (openGood q loose);unfold openSeen openGood;refine congrArg some (Uc z1 (Uc z2 (Uc ?_ (Uc z5 (Uc z6.1 (Uc z6b.1 (Uc z6b.2 (Uc z7.1 z7.2))))))));show(s.abs.heap.keysOk (looseW q loose) ((recsOf q).map (·.name)) ((litsOf q).map (·.1)) ((clssOf q (looseW q loose)).map (·.name))&&s.abs.heap.accountedOkI mods&&s.abs.heap.isNs mainGlobals&&s.abs.heap.isNs builtinsNs&&tablesOk q s.abs.heap&&Xt s.abs&&(if g0 then s.abs.gens.size==0 else !leftWithCleanup s.abs.gens))=true;rw[z3',w1,w2,w3,w4,w5];exact w6
def Qc5{x:Option Y}{f:Y->α}{g:Y->β}{a:α}{b:β}(h:x.map (λs=>(f s,g s))=some (a,b)):x.map f=some a:=by
 cases x with
 |none=>cases h
 |some s=>exact congrArg some (Td.mp (Xn h)).1
def QaD{x:Option Y}{f:Y->α}{g:Y->β}{a:α}{b:β}(h:x.map (λs=>(f s,g s))=some (a,b)):x.map g=some b:=by
 cases x with
 |none=>cases h
 |some s=>exact congrArg some (Td.mp (Xn h)).2
noncomputable abbrev fA(p:Program)(w:World)(s:Shared):Bool:=staticsOk (importedModules p.main.body) (boot_heap w.params) s.heap&&namesBound p s.heap&&gensDone s&&laidKept (boot_heap w.params) s.heap
abbrev Lk1(p q:Program)(N:Nat)(B:BootT)(m₀:Nat)(ann:Option Value)(w:World):Prop:=PX p N B m₀ ann (λs=>(fA p w s,f1 q s,f2 s)) (true,expectedOf q,bltViewBooted) w
abbrev Lk2(p q:Program)(loose:List Str)(Xt:Shared->Bool)(N:Nat)(g0:Bool)(B:BootT)(m₀:Nat)(ann:Option Value)(w:World):Prop:=PX p N B m₀ ann (λs=>(f3 q loose s,f4 q (importedModules p.main.body) Xt g0 s,f5 q s,f6 q loose s,f7 q loose s)) (true,true,true,(pinGoodD (drecsOf q),plainGoodE q (looseW q loose),plainGoodD q loose),(wideGood q,clsGoodW q loose)) w
abbrev Lk3(p q:Program)(loose:List Str)(N:Nat)(B:BootT)(m₀:Nat)(ann:Option Value)(w:World):Prop:=PX p N B m₀ ann (λs=>(f3 q loose s,f5 q s)) (true,true) w
abbrev Lk5(p q:Program)(Xt:Shared->Bool)(N:Nat)(g0:Bool)(B:BootT)(m₀:Nat)(ann:Option Value)(w:World):Prop:=PX p N B m₀ ann (f4 q (importedModules p.main.body) Xt g0) true w
abbrev Lk4(p q:Program)(loose:List Str)(N:Nat)(B:BootT)(m₀:Nat)(ann:Option Value)(w:World):Prop:=PX p N B m₀ ann (λs=>(f6 q loose s,f7 q loose s)) ((pinGoodD (drecsOf q),plainGoodE q (looseW q loose),plainGoodD q loose),(wideGood q,clsGoodW q loose)) w
noncomputable def segRunT(tb:String->Option Builtin)(p:Program)(w:World)(n₀:Nat)(ann:Option Value)(b:Nat):Nat->SharedT->Thread->Option (Flow×SharedT×Code×Pos)
 |0,_,_=>none
 |n+1,s,t=>match endAt b t with
  |some f=>some (f,s,t.code,t.pos)
  |none=>match stepOk n₀ ann t with
   |false=>none
   |true=>match stepT (denote tb) p w s t with
    |some (s',t')=>segRunT tb p w n₀ ann b n s' t'
    |none=>none
theorem Yq{tb:String->Option Builtin}{p:Program}{w:World}{n₀:Nat}{ann:Option Value}{b:Nat}:∀{n:Nat} {s s':SharedT} {t:Thread} {f:Flow} {c:Code} {q:Pos},segRunT tb p w n₀ ann b n s t=some (f,s',c,q)->segRun tb p w n₀ ann b n s.abs t=some (f,s'.abs,c,q)
 |0,_,_,_,_,_,_,h=>by cases h
 |n+1,s,s',t,f,c,q,h=>by
  unfold segRunT at h;unfold segRun
  cases he:endAt b t with
  |some g=>rw[he]at h;cases h;rfl
  |none=>
   rw[he]at h
   cases hk:stepOk n₀ ann t with
   |false=>rw[hk]at h;cases h
   |true=>
    rw[hk]at h
    cases hs:stepT (denote tb) p w s t with
    |none=>rw[hs]at h;cases h
    |some r=>obtain⟨s₂,t₂⟩:=r;rw[hs]at h;rw[stepT_spec hs];exact Yq h
noncomputable def topGoT(tb:String->Option Builtin)(p:Program)(w:World)(n₀:Nat)(ann:Option Value):Nat->SharedT->Thread->Option (SharedT×Thread)
 |0,s,t=>some (s,t)
 |n+1,s,t=>match through t with
  |true=>none
  |false=>match stepOk n₀ ann t with
   |false=>none
   |true=>match stepT (denote tb) p w s t with
    |some (s',t')=>topGoT tb p w n₀ ann n s' t'
    |none=>none
theorem Qbj{tb:String->Option Builtin}{p:Program}{w:World}{n₀:Nat}{ann:Option Value}:∀{n:Nat} {s s':SharedT} {t t':Thread},topGoT tb p w n₀ ann n s t=some (s',t')->topGo tb p w n₀ ann n s.abs t=some (s'.abs,t')
 |0,_,_,_,_,h=>by cases h;rfl
 |n+1,s,s',t,t',h=>by
  unfold topGoT at h;unfold topGo
  cases he:through t with
  |true=>rw[he]at h;cases h
  |false=>
   rw[he]at h
   cases hk:stepOk n₀ ann t with
   |false=>rw[hk]at h;cases h
   |true=>
    rw[hk]at h
    cases hs:stepT (denote tb) p w s t with
    |none=>rw[hs]at h;cases h
    |some r=>obtain⟨s₂,t₂⟩:=r;rw[hs]at h;rw[stepT_spec hs];exact Qbj h
def Gl2(p:Program)(w:World)(m₀:Nat)(ann:Option Value){α:Type}(F:Shared->α)(a:α)(N:Nat)(s:SharedT)(t:Thread):Prop:=∃r:SharedT,topRun treeTable p w m₀ ann N s.abs t=some r.abs/\F r.abs=a
section
variable {w:World}{m₀:Nat}{ann:Option Value}{F:Shared->α}{a:α}{env:Env}{q:Pos}
def ch_fin{t:Thread}(h:(topRunT treeTable p w m₀ ann N s t).map (λs=>F s.abs)=some a):Gl2 p w m₀ ann F a N s t:=by
 obtain⟨r,e,l⟩:=Xc.mp h;exact⟨r,JR e,l⟩
def QkQ{l rest:List Stmt}(h:segRunT treeTable p w m₀ ann 1 n s (piecesOf l env c pos [topFrame q])=some (.next,s',c,p'))
  (k:Gl2 p w m₀ ann F a N s' (restOf rest env c p' [topFrame q])):Gl2 p w m₀ ann F a (n+N) s (restOf (l++rest) env c pos [topFrame q]):=by
 obtain⟨r,e,l⟩:=k;exact⟨r,piece_app (Yq h) e,l⟩
def ch_cut(m:Nat){b:List Stmt}(h:segRunT treeTable p w m₀ ann 1 n s (piecesOf (b.take m) env c pos [topFrame q])=some (.next,s',c,p'))
  (k:Gl2 p w m₀ ann F a N s' (restOf (b.drop m) env c p' [topFrame q])):Gl2 p w m₀ ann F a (n+N) s (restOf b env c pos [topFrame q]):=by
 have z:=QkQ h k;rwa [Vh]at z
def ch_blk{b:List Stmt}(h:segRunT treeTable p w m₀ ann 1 n s (blockOf b env c pos [topFrame q])=some (.next,s',c,p'))
  (k:Gl2 p w m₀ ann F a N s' (restOf b env c p' [topFrame q])):Gl2 p w m₀ ann F a (n+N) s ⟨denote treeTable (.body b env),c,pos,[topFrame q]⟩:=by
 obtain⟨r,e,l⟩:=k;exact⟨r,piece_block (Yq h) e,l⟩
def ch_pre{t t':Thread}(h:topGoT treeTable p w m₀ ann n s t=some (s',t'))(k:Gl2 p w m₀ ann F a N s' t'):Gl2 p w m₀ ann F a (n+N) s t:=by
 obtain⟨r,e,l⟩:=k;exact⟨r,go_top (Qbj h) e,l⟩
end
noncomputable abbrev seenAll(p q:Program)(loose:List Str)(Xt:Shared->Bool){α:Type}(Yf:Shared->α)(g0:Bool)(w:World)(s:Shared):=((staticsOk (importedModules p.main.body) (boot_heap w.params) s.heap&&namesBound p s.heap&&gensDone s&&laidKept (boot_heap w.params) s.heap),openSeen q loose (importedModules p.main.body) Xt g0 s,Yf s)
def left_pieces{Yf:Shared->α}{Ya:World->α}{B:BootT}{m₀:Nat}{ann:Option Value}
  (op:opening p=plainProg p.main.scope.names) (hN:Nat.ble 600 N=true) (fm:∀s,fenceModules? p s=some s)
  (hB:∀w:World,absHeap (B.t w.params) B.n B.life=boot_heap w.params)
  (size:∀w:World,((boot_heap w.params).isNs mainGlobals,(boot_heap w.params).objs.size,(boot_heap w.params).nsMap mainGlobals "__annotations__")=(true,m₀,ann))
  (run:∀w os,Gl2 p w m₀ ann (seenAll p q loose Xt Yf g0 w) (true,openGood q loose,Ya w) N (B.at w os) (topStub p)):LeftO p q loose Xt Yf Ya N g0:=λw=>by
 obtain⟨⟨h,gs,d,k,os⟩,e,e'⟩:=Xc.mp (boot_open (N:=N) op hN fm w)
 obtain⟨rfl,rfl,rfl,rfl⟩:h=boot_heap w.params/\gs=Array.mk []/\d=boot_drawn/\k=boot_toks:=by simpa using e'
 obtain⟨z1,z2,z3⟩:_/\_/\_:=by simpa only[Prod.mk.injEq]using size w
 obtain⟨s1,r,l⟩:=run w os
 obtain⟨l1,l2,l3⟩:_/\_/\_:=by simpa only[Prod.mk.injEq]using l
 have ab:(B.at w os).abs=⟨boot_heap w.params,Array.mk [],boot_drawn,boot_toks,os⟩:=by
  unfold BootT.at SharedT.abs;rw[hB w]
 rw[ab]at r
 have t:topFrom treeTable p w N ⟨boot_heap w.params,Array.mk [],boot_drawn,boot_toks,os⟩=some s1.abs:=by
  unfold topFrom;dsimp only;rw[z1,z2,z3,r]
  show(match staticsOk (importedModules p.main.body) (boot_heap w.params) s1.abs.heap&&namesBound p s1.abs.heap&&gensDone s1.abs&&laidKept (boot_heap w.params) s1.abs.heap with|true=>_|false=>_)=_
  rw[l1]
 unfold openEnds;rw[e];show(topFrom treeTable p w N _).map _=_;rw[t];exact congrArg some (Uc l2 l3)
noncomputable abbrev vF(p q:Program)(w:World)(s:SharedT):=(fA p w s.abs,f1 q s.abs,f2 s.abs)
noncomputable abbrev gF(q:Program):=(true,expectedOf q,bltViewBooted)
noncomputable abbrev vK(p q:Program)(loose:List Str)(Xt:Shared->Bool)(g0:Bool)(s:SharedT):=(f3 q loose s.abs,f4 q (importedModules p.main.body) Xt g0 s.abs,f5 q s.abs)
noncomputable abbrev vL(q:Program)(loose:List Str)(s:SharedT):=(f6 q loose s.abs,f7 q loose s.abs)
noncomputable abbrev gL(q:Program)(loose:List Str):=((pinGoodD (drecsOf q),plainGoodE q (looseW q loose),plainGoodD q loose),(wideGood q,clsGoodW q loose))
def looks3{Yf:Shared->α}{Yyy:α}{w:World}{x:Option SharedT}(l1:x.map (vF p q w)=some (gF q))
  (l2:x.map (vK p q loose Xt g0)=some (true,true,true)) (l4:x.map (vL q loose)=some (gL q loose))
  (c:x.map (λs=>Yf s.abs)=some Yyy):x.map (λs=>seenAll p q loose Xt Yf g0 w s.abs)=some (true,openGood q loose,Yyy):=
 Qc7 (Qc5 l1) (Qc7 (QeV (Qc5 (QaD l1)) (QaD (QaD l1)) (Qc5 l2) (Qc5 (QaD l2)) (QaD (QaD l2)) (Qc5 l4) (QaD l4)) c)
end Iv
namespace K26
open PySem Iv L2
noncomputable def top(i:Nat):Stmt:=PySem.Challenge.pw_stitchroom_k26_too_many_rows.main.body.getD i (.Pass ⟨0,0,0,0⟩)
noncomputable abbrev so(x:String):Str:=Str.ofString x
noncomputable abbrev rf(a:Addr):Value:=.ref a
noncomputable abbrev sv(x:String)(n:Nat):Value:=.str (Str.ofString x) n
noncomputable abbrev dk(P:Params)(x:String)(n:Nat)(v:Value):DictEntry:=DictEntry.mk (PyData.keyHash P (Str.ofString x)) (.str (Str.ofString x) n) v
noncomputable abbrev tu(xs:Array Value)(n:Nat):Obj:=Obj.mk (.type "tuple") none (Data.seq xs n) #[]
noncomputable abbrev ob(c:String)(d:Data):Obj:=Obj.mk (.type c) none d #[]
noncomputable abbrev en(P:Params)(x:Str)(k v:Value):DictEntry:=DictEntry.mk (PyData.keyHash P x) k v
noncomputable abbrev de(P:Params)(x:Str)(n:Nat)(v:Value):DictEntry:=DictEntry.mk (PyData.keyHash P x) (.str x n) v
noncomputable abbrev fo(x q:String)(s:Stmt)(d:Value)(m:String)(n c:Nat):Obj:=⟨.type "function",none,.func (W.fnOf (so x) (so q) (Jw s) (Zq s) (Qv s) d .none .none (sv m n) none (rf c) .none),#[]⟩
noncomputable abbrev z0:Value:=.int 0 0
noncomputable abbrev i0(n:Int):Value:=.int n 0
noncomputable abbrev hF:Value:=.bool false
noncomputable abbrev hT:Value:=.bool true
noncomputable abbrev sr(a:Addr):Option Value:=some (.ref a)
noncomputable abbrev hC(n:Nat):Value:=.str (Str.ofString "/claim/cut.py") n
noncomputable abbrev oc(d:Array Value):Obj:=Obj.mk (.type "code") none (Data.fields d) #[]
noncomputable abbrev cO(x q:String)(a l:Nat)(n r s u v y t:Value)(m d:Nat):Obj:=oc (#[sv x a,sv q (a+1),hC (a+2),i0 l,n,z0,z0,i0 3,r,hT,i0 181,s,u,v,y,t,i0 m,i0 l,hC d])
noncomputable abbrev dm(P:Params)(n:Nat)(x:String)(m:Nat):DictEntry:=dk P "__module__" n (sv x m)
noncomputable abbrev dq(P:Params)(n:Nat)(x:String)(m:Nat):DictEntry:=dk P "__qualname__" n (sv x m)
noncomputable abbrev hD(P:Params)(n:Nat):DictEntry:=dk P "__doc__" n .none
noncomputable abbrev dl(P:Params)(n:Nat)(x:Int)(m:Nat):DictEntry:=dk P "__firstlineno__" n (.int x m)
noncomputable abbrev ds(P:Params)(n:Nat)(a:Addr):DictEntry:=dk P "__static_attributes__" n (.ref a)
noncomputable abbrev dR(P:Params)(x:String)(n:Nat)(a:Addr):DictEntry:=dk P x n (.ref a)
noncomputable abbrev hp:Program:=PySem.Challenge.pw_stitchroom_k26_too_many_rows
noncomputable abbrev hr:W.RowW:=(PySem.Challenge.rw_stitchroom_k26_too_many_rows).row.toRowW
noncomputable def hB:Iv.BootT:=⟨λP=>(.node (W.boot_o_0 P) (.node (W.boot_o_1 P) (.node (W.boot_o_3 P) (.node (W.boot_o_7 P) .nil .nil) .nil) (.node (W.boot_o_5 P) (.node (W.boot_o_9 P) .nil .nil) .nil)) (.node (W.boot_o_2 P) (.node (W.boot_o_4 P) (.node (W.boot_o_8 P) .nil .nil) .nil) (.node (W.boot_o_6 P) (.node (W.boot_o_10 P) .nil .nil) .nil))),11,{}⟩
noncomputable def hq:Program:=W.view hp [0,2,3,4,5,6,8,9,10,11,13,14,15,16,17,18,19,21,22,23,24,25,26,28,29,30,32,33,34,35,36,37,38,39,40,41,42,43,44,45,46,47,48,50,51,52,53,54,55,56,57,58,60,61,62,63,64,65,67,68,70,71,72,73,74,75]
noncomputable abbrev hlo:List Str:=["NoSum","choice_of"]
noncomputable def hA(a:Nat)(o:Obj)(r:W.Frag):W.Frag:=(a,o)::r
noncomputable def fA(x q:String)(a l n c m:Nat)(s:Stmt)(v:Value)(u:String×Nat)(r:W.Frag):W.Frag:=(c,cO x q a l (i0 n) (rf (c-5)) (rf (c-4)) .none (rf (c-3)) (rf (c-2)) (rf (c-1)) m (m+1))::(c+1,fo x q s v u.1 u.2 c)::r
noncomputable def fB(x q:String)(a l n c m:Nat)(s:Stmt)(v:Value)(u:String×Nat)(r:W.Frag):W.Frag:=(c,cO x q a l (i0 n) (rf (c-3)) (rf (c-2)) .none .none .none (rf (c-1)) m (m+1))::(c+1,fo x q s v u.1 u.2 c)::r
noncomputable def fC(x:String)(a l n c m k:Nat)(u:String×Nat)(r:W.Frag):W.Frag:=fA x x a l n c m (top k) .none u r
noncomputable def fD(x:String)(a l n c m k:Nat)(u:String×Nat)(r:W.Frag):W.Frag:=fB x x a l n c m (top k) .none u r
noncomputable def oC(x:String)(c d t v:Nat)(b:List Value)(r:W.Frag):W.Frag:=(c,Obj.mk (.type "type") none (Data.cls (ClassData.mk (so x) [.type "object"] [rf c,.type "object"] d (so x) true [] b false none false)) #[none,none,some (sv x t),some (sv x v),some (.builtin "object.__new__"),some hT])::r
noncomputable def eC(x:String)(e c d y t v:Nat)(r:W.Frag):W.Frag:=(c,Obj.mk (.type "type") none (Data.cls (ClassData.mk (so x) [rf e] [rf c,rf e,.type "ValueError",.type "Exception",.type "BaseException",.type "object"] d (so x) true [] [] false none false)) #[sr y,none,some (sv x t),some (sv x v),some (.builtin "ValueError.__new__"),some hT])::r
noncomputable def gS(a c t:Nat)(u:Nat)(r:W.Frag):W.Frag:=(a,ob "getset_descriptor" (Data.fields #[sv "__dict__" t,rf c,.builtin "function.__dict__",.builtin "function.__dict__#set"]))::(a+1,ob "getset_descriptor" (Data.fields #[sv "__weakref__" u,rf c,.builtin "ExceptionGroup.__weakref__",.none]))::r
noncomputable abbrev mo0:String×Nat:=("stitchroom.stitches",304)
noncomputable abbrev mo1:String×Nat:=("stitchroom.sums",470)
noncomputable abbrev mo2:String×Nat:=("stitchroom.counts",517)
noncomputable abbrev mo3:String×Nat:=("stitchroom.looker",593)
noncomputable abbrev mo4:String×Nat:=("stitchroom.rows",776)
noncomputable abbrev mo5:String×Nat:=("stitchroom.needles",859)
noncomputable abbrev mo6:String×Nat:=("stitchroom.patterns",1015)
noncomputable abbrev mo7:String×Nat:=("law_stitchroom_k26_too_many_rows",1056)
noncomputable def K:Params->W.Frag:=λP=>
 hA 2 (Obj.mk .none none (Data.dict #[] 0) #[]) <|
 hA 3 (ob "dict" (Data.dict #[(dk P "__name__" 165 (sv "law_stitchroom_k26_too_many_rows" 1056)),(hD P 166),(dk P "__package__" 167 .none),(dk P "__loader__" 168 (.builtin "__main__.__loader__#opaque")),(dk P "__spec__" 169 .none),(dR P "__annotations__" 170 6),(dR P "__builtins__" 171 4),(dk P "__file__" 173 (hC 172)),(dk P "__cached__" 174 .none),(dR P "_wall" 193 21),(dR P "StitchError" 213 31),(dR P "NoSum" 238 52),(dR P "NoPattern" 254 64),(dR P "TooMany" 270 76),(dR P "Miscount" 303 95),(dR P "KEEPERS" 310 98),(dR P "Stitch" 344 122),(dR P "Plain" 411 185),(dR P "Off" 469 239),(dR P "NOUGHT" 477 242),(dR P "plain_sum" 484 249),(dR P "total" 490 254),(dR P "product" 498 261),(dR P "repeated" 504 266),(dR P "worth" 510 271),(dR P "is_sized" 516 276),(dR P "counts" 524 281),(dR P "part_counts" 531 288),(dR P "stitch_counts" 537 293),(dR P "counts_added" 545 300),(dR P "totals" 551 305),(dR P "counts_times" 557 310),(dR P "choice_of" 564 316),(dR P "is_fit" 572 323),(dR P "choice_with" 583 330),(dR P "telling_size" 592 337),(dk P "MOST_ROWS" 596 (.int 300 595)),(dR P "Walk" 635 359),(dR P "walked" 645 370),(dR P "written_rows" 654 377),(dR P "counted_rows" 664 384),(dR P "row_counts" 670 389),(dR P "walked_many" 679 396),(dR P "walk_items" 689 403),(dR P "walk_block" 703 410),(dR P "walk_row" 717 417),(dR P "unit" 725 424),(dR P "times_of_rest" 731 429),(dR P "gap_of" 737 434),(dR P "kept_behind" 751 441),(dR P "choice_of_ones" 757 446),(dR P "raised" 764 453),(dR P "refuse_at" 775 460),(dk P "MOST_STITCHES" 779 (.int 3000 778)),(dR P "rows_at" 785 465),(dR P "unrolled" 795 472),(dR P "unrolled_often" 805 479),(dR P "stitches_many" 815 486),(dR P "worked_many" 825 493),(dR P "worked_steps" 838 500),(dR P "item_steps" 850 507),(dR P "parts_of" 858 514),(dR P "Needles" 947 577),(dR P "Course" 977 596),(dR P "knitted" 990 607),(dR P "new_names" 996 612),(dR P "new_many" 1002 617),(dR P "fetches_of" 1014 624),(dR P "Pattern" 1049 641),(dR P "own_copy" 1055 650),(dR P "_law_cell_at" 1065 657),(dR P "_law_often" 1075 664),(dR P "_law_is_too_many" 1082 671),(dR P "_law_refused" 1092 678),(dR P "_law_sum" 1100 685),(dR P "law" 1106 690)] 76)) <|
 hA 30 (ob "dict" (Data.dict #[(dm P 203 "stitchroom.errors" 194),(dl P 207 5 206),(ds P 208 29),(dR P "__weakref__" 210 32),(hD P 211)] 3)) <|
 hA 31 (Obj.mk (.type "type") none (Data.cls (ClassData.mk (so "StitchError") [(.type "ValueError")] [(rf 31),(.type "ValueError"),(.type "Exception"),(.type "BaseException"),(.type "object")] 30 (so "StitchError") true [] [(rf 52),(rf 64),(rf 76),(rf 95)] false none false)) #[(sr 22),none,(some (sv "StitchError" 196)),(some (sv "StitchError" 204)),(some (.builtin "ValueError.__new__")),(some hT)]) <|
 hA 32 (ob "getset_descriptor" (Data.fields #[(sv "__weakref__" 209),(rf 31),(.builtin "ExceptionGroup.__weakref__"),.none])) <|
 hA 51 (ob "dict" (Data.dict #[(dm P 221 "stitchroom.errors" 194),(dl P 225 7 224),(dR P "__init__" 233 49),(ds P 235 50),(hD P 236)] 2)) <|
 eC "NoSum" 31 52 51 35 214 222 <|
 hA 63 (ob "dict" (Data.dict #[(dm P 246 "stitchroom.errors" 194),(dl P 250 12 249),(ds P 251 62),(hD P 252)] 2)) <|
 eC "NoPattern" 31 64 63 55 239 247 <|
 hA 75 (ob "dict" (Data.dict #[(dm P 262 "stitchroom.errors" 194),(dl P 266 14 265),(ds P 267 74),(hD P 268)] 2)) <|
 eC "TooMany" 31 76 75 67 255 263 <|
 hA 94 (ob "dict" (Data.dict #[(dm P 278 "stitchroom.errors" 194),(dl P 282 16 281),(dR P "__init__" 294 92),(ds P 300 93),(hD P 301)] 2)) <|
 eC "Miscount" 31 95 94 79 271 279 <|
 hA 98 (tu #[(sv "w" 306),(sv "x" 307),(sv "y" 308),(sv "z" 309)] 0) <|
 fA "ties" "Stitch.ties" 323 29 1 111 327 (Qh (top 9) 0) .none mo0 <|
 fA "ends" "Stitch.ends" 330 32 1 118 334 (Qh (top 9) 1) .none mo0 <|
 hA 121 (ob "dict" (Data.dict #[(dm P 318 "stitchroom.stitches" 304),(dl P 322 27 321),(dR P "ties" 329 112),(dR P "ends" 336 119),(ds P 337 120),(dR P "__dict__" 339 123),(dR P "__weakref__" 341 124),(hD P 342)] 4)) <|
 oC "Stitch" 122 121 311 319 [(rf 185),(rf 239)] <|
 gS 123 122 338 340 <|
 fA "__init__" "Plain.__init__" 357 36 2 139 362 (Qh (top 10) 0) .none mo0 <|
 fA "takes" "Plain.takes" 365 39 1 146 369 (Qh (top 10) 1) .none mo0 <|
 fA "gives" "Plain.gives" 372 42 1 153 376 (Qh (top 10) 2) .none mo0 <|
 fA "ties" "Plain.ties" 379 45 1 160 383 (Qh (top 10) 3) .none mo0 <|
 hA 184 (ob "dict" (Data.dict #[(dm P 352 "stitchroom.stitches" 304),(dl P 356 34 355),(dR P "__init__" 364 140),(dR P "takes" 371 147),(dR P "gives" 378 154),(dR P "ties" 385 161),(dR P "mark" 392 168),(dR P "mirrored" 399 175),(dR P "turned" 406 182),(ds P 408 183),(hD P 409)] 2)) <|
 hA 185 (Obj.mk (.type "type") none (Data.cls (ClassData.mk (so "Plain") [(rf 122)] [(rf 185),(rf 122),(.type "object")] 184 (so "Plain") true [] [] false none false)) #[(sr 127),none,(some (sv "Plain" 345)),(some (sv "Plain" 353)),(some (.builtin "object.__new__")),(some hT)]) <|
 fA "takes" "Off.takes" 424 58 1 200 428 (Qh (top 11) 0) .none mo0 <|
 fA "gives" "Off.gives" 431 61 1 207 435 (Qh (top 11) 1) .none mo0 <|
 fA "ends" "Off.ends" 438 64 1 214 442 (Qh (top 11) 2) .none mo0 <|
 hA 238 (ob "dict" (Data.dict #[(dm P 419 "stitchroom.stitches" 304),(dl P 423 56 422),(dR P "takes" 430 201),(dR P "gives" 437 208),(dR P "ends" 444 215),(dR P "mark" 451 222),(dR P "mirrored" 458 229),(dR P "turned" 465 236),(ds P 466 237),(hD P 467)] 2)) <|
 hA 239 (Obj.mk (.type "type") none (Data.cls (ClassData.mk (so "Off") [(rf 122)] [(rf 239),(rf 122),(.type "object")] 238 (so "Off") true [] [] false none false)) #[(sr 188),none,(some (sv "Off" 412)),(some (sv "Off" 420)),(some (.builtin "object.__new__")),(some hT)]) <|
 hA 242 (tu #[(.int 0 472),(.int 0 473),(.int 0 474),(.int 0 475),(.int 0 476)] 0) <|
 fC "plain_sum" 478 77 1 248 482 14 mo1 <|
 fD "total" 485 79 2 253 488 15 mo1 <|
 fC "product" 491 81 2 260 496 16 mo1 <|
 fD "repeated" 499 87 2 265 502 17 mo1 <|
 fD "worth" 505 89 2 270 508 18 mo1 <|
 fD "is_sized" 511 91 1 275 514 19 mo1 <|
 fD "counts" 519 94 1 280 522 21 mo2 <|
 fC "part_counts" 525 99 1 287 529 22 mo2 <|
 fD "stitch_counts" 532 103 1 292 535 23 mo2 <|
 fC "counts_added" 538 109 2 299 543 24 mo2 <|
 fD "totals" 546 111 2 304 549 25 mo2 <|
 fD "counts_times" 552 113 2 309 555 26 mo2 <|
 hA 311 (tu #[(.int 0 558)] 0) <|
 fB "choice_of" "choice_of" 559 117 3 315 562 (top 27) (rf 311) mo2 <|
 fC "is_fit" 565 123 2 322 570 28 mo2 <|
 fC "choice_with" 573 127 4 329 581 29 mo2 <|
 fC "telling_size" 584 132 3 336 590 30 mo2 <|
 fB "__init__" "Walk.__init__" 609 140 3 348 612 (Qh (top 33) 0) .none mo3 <|
 fA "all_sums" "Walk.all_sums" 615 148 1 355 619 (Qh (top 33) 1) .none mo3 <|
 hA 358 (ob "dict" (Data.dict #[(dm P 604 "stitchroom.looker" 593),(dl P 608 138 607),(dR P "__init__" 614 349),(dR P "all_sums" 621 356),(ds P 628 357),(dR P "__dict__" 630 360),(dR P "__weakref__" 632 361),(hD P 633)] 4)) <|
 oC "Walk" 359 358 597 605 [] <|
 gS 360 359 629 631 <|
 fC "walked" 636 150 1 369 643 34 mo3 <|
 fC "written_rows" 646 158 1 376 652 35 mo3 <|
 fC "counted_rows" 655 163 1 383 662 36 mo3 <|
 fD "row_counts" 665 171 1 388 668 37 mo3 <|
 fC "walked_many" 671 178 1 395 677 38 mo3 <|
 fC "walk_items" 680 186 3 402 687 39 mo3 <|
 fC "walk_block" 690 194 3 409 701 40 mo3 <|
 fC "walk_row" 704 205 3 416 715 41 mo3 <|
 fC "unit" 718 219 2 423 723 42 mo3 <|
 fD "times_of_rest" 726 223 3 428 729 43 mo3 <|
 fD "gap_of" 732 227 2 433 735 44 mo3 <|
 fC "kept_behind" 738 229 3 440 749 45 mo3 <|
 fD "choice_of_ones" 752 238 2 445 755 46 mo3 <|
 fC "raised" 758 241 1 452 762 47 mo3 <|
 fC "refuse_at" 765 243 5 459 773 48 mo3 <|
 fD "rows_at" 780 248 2 464 783 51 mo4 <|
 fC "unrolled" 786 261 2 471 793 52 mo4 <|
 fC "unrolled_often" 796 269 3 478 803 53 mo4 <|
 fC "stitches_many" 806 272 2 485 813 54 mo4 <|
 fC "worked_many" 816 277 2 492 823 55 mo4 <|
 fC "worked_steps" 826 282 3 499 836 56 mo4 <|
 fC "item_steps" 839 290 3 506 848 57 mo4 <|
 fC "parts_of" 851 300 2 513 856 58 mo4 <|
 hA 576 (ob "dict" (Data.dict #[(dm P 868 "stitchroom.needles" 859),(dl P 872 305 871),(dR P "__init__" 878 527),(dR P "work" 884 533),(dR P "web" 890 538),(dR P "lying_on" 898 545),(dR P "refuse_misfit" 904 550),(dR P "work_stitch" 910 555),(dR P "seen" 916 560),(dR P "in_order" 924 567),(dR P "make_ready" 932 574),(ds P 940 575),(dR P "__dict__" 942 578),(dR P "__weakref__" 944 579),(hD P 945)] 4)) <|
 oC "Needles" 577 576 861 869 [] <|
 gS 578 577 941 943 <|
 hA 595 (ob "dict" (Data.dict #[(dm P 955 "stitchroom.needles" 859),(dl P 959 386 958),(dR P "__init__" 965 593),(ds P 970 594),(dR P "__dict__" 972 597),(dR P "__weakref__" 974 598),(hD P 975)] 4)) <|
 oC "Course" 596 595 948 956 [] <|
 gS 597 596 971 973 <|
 fC "knitted" 978 393 2 606 988 62 mo5 <|
 fA "__init__" "Pattern.__init__" 1029 419 4 637 1036 (Qh (top 67) 0) .none mo6 <|
 hA 640 (ob "dict" (Data.dict #[(dm P 1024 "stitchroom.patterns" 1015),(dl P 1028 417 1027),(dR P "__init__" 1038 638),(ds P 1042 639),(dR P "__dict__" 1044 642),(dR P "__weakref__" 1046 643),(hD P 1047)] 4)) <|
 oC "Pattern" 641 640 1017 1025 [] <|
 gS 642 641 1043 1045 <|
 fD "own_copy" 1050 423 1 649 1053 68 mo6 <|
 fC "_law_cell_at" 1058 430 2 656 1063 70 mo7 <|
 fC "_law_often" 1066 434 2 663 1073 71 mo7 <|
 fC "_law_is_too_many" 1076 439 1 670 1080 72 mo7 <|
 fC "_law_refused" 1083 443 2 677 1090 73 mo7 <|
 fC "_law_sum" 1093 457 2 684 1098 74 mo7 <|
 fD "law" 1101 459 1 689 1104 75 mo7 []
noncomputable def KA:List Addr:=[2,3,30,31,32,51,52,63,64,75,76,94,95,98,111,112,118,119,121,122,123,124,139,140,146,147,153,154,160,161,184,185,200,201,207,208,214,215,238,239,242,248,249,253,254,260,261,265,266,270,271,275,276,280,281,287,288,292,293,299,300,304,305,309,310,311,315,316,322,323,329,330,336,337,348,349,355,356,358,359,360,361,369,370,376,377,383,384,388,389,395,396,402,403,409,410,416,417,423,424,428,429,433,434,440,441,445,446,452,453,459,460,464,465,471,472,478,479,485,486,492,493,499,500,506,507,513,514,576,577,578,579,595,596,597,598,606,607,637,638,640,641,642,643,649,650,656,657,663,664,670,671,677,678,684,685,689,690]
def hKA:∀P,KA=(K P).map (·.1):=λz=>by kernel_rfl
noncomputable abbrev hXt:Shared->Bool:=λs=>W.xlAt hq [] s&&W.recOk (W.RowW.records hr) s
def hop:W.opening hp=W.plainProg hp.main.scope.names:=by kernel_rfl
def hfm:∀s,PySem.fenceModules? hp s=some s:=λs=>by kernel_rfl
def hbo:∀w:World,W.absHeap (hB.t w.params) hB.n hB.life=W.boot_heap w.params:=λw=>by kernel_rfl
def hsz:∀w:World,((W.boot_heap w.params).isNs mainGlobals,(W.boot_heap w.params).objs.size,(W.boot_heap w.params).nsMap mainGlobals "__annotations__")=(true,11,some (.ref 6)):=λw=>by kernel_rfl
noncomputable abbrev hYf:Shared->List (Option Obj):=λs=>KA.map s.heap.get?
noncomputable abbrev hYa:World->List (Option Obj):=λw=>(K w.params).map λp=>some p.2
noncomputable abbrev hN:Nat:=10126
noncomputable abbrev hn6:Option Value:=some (.ref 6)
abbrev hS(w:World):Prop:=Iv.RunT hp hq hlo hXt hYf hYa 10126 true hB 11 (some (.ref 6)) w
noncomputable abbrev fr(x q:Str)(s:Stmt)(d k:Value):Obj:=⟨.none,none,.func ⟨x,q,Jw s,.stmts (Zq s),Qv s,0,[],d,k,.none,.none,none,.none,.none,0⟩,#[]⟩
noncomputable abbrev hbd:List Stmt:=W.behindTheImports hp
noncomputable def eV:Env:={scope:=hp.main.scope,locals:=mainNs,globals:=mainNs,cells:=[],code:=(Value.ref 13),frame:=some 14}
noncomputable abbrev hcd:Code:=.body hbd eV
noncomputable abbrev hqp:Pos:=(Pos.mk 0 0 0 0)
noncomputable abbrev Qm(v:Obj)(l r:W.BT):W.BT:=.node v l r
noncomputable abbrev nl(v:Obj):W.BT:=.node v .nil .nil
noncomputable def n0(P:Params):Obj:=(Obj.mk .none none (Data.fields #[]) #[])
noncomputable def n1(P:Params):Obj:=(oc (#[(sv "<module>" 182),(sv "<module>" 183),(hC 184),(i0 1),z0,z0,z0,z0,(rf 11),hF,(i0 181),(rf 12),.none,.none,.none,.none,(i0 185),(i0 1),(hC 186)]))
noncomputable def n2(P:Params):Obj:=(Obj.mk (.type "frame") none Data.plain #[(sr 13),(sr 3),(sr 3),none,(some (sv "__main__" 164)),none,(sr 0)])
noncomputable def Ta(P:Params):W.BT:=(Qm (W.boot_o_0 P) (Qm (W.boot_o_1 P) (Qm (W.boot_o_3 P) (nl (W.boot_o_7 P)) (nl (tu #[] 0))) (Qm (W.boot_o_5 P) (nl (W.boot_o_9 P)) (nl (n1 P)))) (Qm (W.boot_o_2 P) (Qm (W.boot_o_4 P) (nl (W.boot_o_8 P)) (nl (n0 P))) (Qm (W.boot_o_6 P) (nl (W.boot_o_10 P)) (nl (n2 P)))))
noncomputable abbrev Sa(w:World)(os:OsState):W.SharedT:=⟨Ta w.params,15,(Life.mk [] [] [] 0 [] [] Bool.false #[] [] 0 Bool.false Bool.false Bool.false 0 [2000,10,10] Bool.false 0 Bool.true [] [] 0 Bool.false),Array.mk [],(Drawn.mk 0 0 0 0),187,os⟩
noncomputable def Tb(P:Params):W.BT:=(Qm (W.boot_o_0 P) (Qm (W.boot_o_1 P) (Qm (W.boot_o_3 P) (nl (W.boot_o_7 P)) (nl (tu #[] 0))) (Qm (W.boot_o_5 P) (nl (W.boot_o_9 P)) (nl (n1 P)))) (Qm (W.boot_o_2 P) (Qm (W.boot_o_4 P) (nl (W.boot_o_8 P)) (nl (n0 P))) (Qm (W.boot_o_6 P) (nl (W.boot_o_10 P)) (nl (n2 P)))))
noncomputable abbrev Sb(w:World)(os:OsState):W.SharedT:=⟨Tb w.params,15,(Life.mk [] [] [] 0 [] [] Bool.false #[] [] 0 Bool.false Bool.false Bool.false 0 [2000,10,10] Bool.false 0 Bool.true [] [] 0 Bool.false),Array.mk [],(Drawn.mk 0 0 0 0),187,os⟩
noncomputable def n3(P:Params):Obj:=(ob "builtin_function_or_method" (Data.fields #[(.builtin "type.__prepare__"),(.type "type")]))
noncomputable def n4(P:Params):Obj:=(tu #[(rf 31)] 0)
noncomputable def n5(P:Params):Obj:=(tu #[(rf 122)] 0)
noncomputable def T1(P:Params):W.BT:=(Qm (W.boot_o_0 P) (Qm (W.boot_o_1 P) (Qm (ob "dict" (Data.dict #[(dk P "__name__" 165 (sv "stitchroom.stitches" 304)),(hD P 166),(dk P "__package__" 167 .none),(dk P "__loader__" 168 (.builtin "__main__.__loader__#opaque")),(dk P "__spec__" 169 .none),(dR P "__annotations__" 170 6),(dR P "__builtins__" 171 4),(dk P "__file__" 173 (hC 172)),(dk P "__cached__" 174 .none),(dR P "_wall" 193 21),(dR P "StitchError" 213 31),(dR P "NoSum" 238 52),(dR P "NoPattern" 254 64),(dR P "TooMany" 270 76),(dR P "Miscount" 303 95),(dR P "KEEPERS" 310 98),(dR P "Stitch" 344 122),(dR P "Plain" 411 185),(dR P "Off" 469 239)] 19)) (Qm (W.boot_o_7 P) (Qm (tu #[] 0) (Qm (Obj.mk (.type "type") none (Data.cls (ClassData.mk (so "StitchError") [(.type "ValueError")] [(rf 31),(.type "ValueError"),(.type "Exception"),(.type "BaseException"),(.type "object")] 30 (so "StitchError") true [] [(rf 52),(rf 64),(rf 76),(rf 95)] false none false)) #[(sr 22),none,(some (sv "StitchError" 196)),(some (sv "StitchError" 204)),(some (.builtin "ValueError.__new__")),(some hT)]) (Qm (ob "dict" (Data.dict #[(dm P 246 "stitchroom.errors" 194),(dl P 250 12 249),(ds P 251 62),(hD P 252)] 2)) (nl (n5 P)) (nl (tu #[] 0))) (Qm (Obj.mk (.type "type") none (Data.cls (ClassData.mk (so "Miscount") [(rf 31)] [(rf 95),(rf 31),(.type "ValueError"),(.type "Exception"),(.type "BaseException"),(.type "object")] 94 (so "Miscount") true [] [] false none false)) #[(sr 79),none,(some (sv "Miscount" 271)),(some (sv "Miscount" 279)),(some (.builtin "ValueError.__new__")),(some hT)]) (nl (fr (so "ties") (so "Plain.ties") (Qh (top 10) 3) .none .none)) (nl (tu #[] 0)))) (Qm (fr (so "__init__") (so "NoSum.__init__") (Qh (top 3) 0) .none .none) (Qm (n4 P) (nl (tu #[(sv "self" 368)] 0)) (nl (cO "gives" "Off.gives" 431 61 (i0 1) (rf 202) (rf 203) .none (rf 204) (rf 205) (rf 206) 435 436))) (Qm (cO "ties" "Stitch.ties" 323 29 (i0 1) (rf 106) (rf 107) .none (rf 108) (rf 109) (rf 110) 327 328) (nl (fo "mirrored" "Plain.mirrored" (Qh (top 10) 5) .none "stitchroom.stitches" 304 174)) (nl (Obj.mk (.type "type") none (Data.cls (ClassData.mk (so "Off") [(rf 122)] [(rf 239),(rf 122),(.type "object")] 238 (so "Off") true [] [] false none false)) #[(sr 188),none,(some (sv "Off" 412)),(some (sv "Off" 420)),(some (.builtin "object.__new__")),(some hT)]))))) (Qm (n3 P) (Qm (Obj.mk .none none (Data.fields #[(i0 9),(i0 4),(rf 48)]) #[]) (Qm (n0 P) (nl (n0 P)) (nl (fr (so "takes") (so "Off.takes") (Qh (top 11) 0) .none .none))) (Qm (Obj.mk .none none (Data.fields #[(i0 29),(i0 4),(rf 111),(i0 32),(i0 4),(rf 118)]) #[]) (nl (cO "mark" "Plain.mark" 386 48 (i0 1) (rf 162) (rf 163) .none (rf 164) (rf 165) (rf 166) 390 391)) (nl (n0 P)))) (Qm (n4 P) (Qm (n0 P) (nl (tu #[] 0)) (nl (fo "ends" "Off.ends" (Qh (top 11) 2) .none "stitchroom.stitches" 304 214))) (Qm (fo "ends" "Stitch.ends" (Qh (top 9) 1) .none "stitchroom.stitches" 304 118) (nl (tu #[(sv "side" 407)] 0)) .nil)))) (Qm (tu #[] 0) (Qm (fr (so "_wall") (so "_wall") (top 0) .none .none) (Qm (n4 P) (Qm (n4 P) (nl (Obj.mk .none none (Data.fields #[(i0 36),(i0 4),(rf 139),(i0 39),(i0 4),(rf 146),(i0 42),(i0 4),(rf 153),(i0 45),(i0 4),(rf 160),(i0 48),(i0 4),(rf 167),(i0 51),(i0 4),(rf 174),(i0 54),(i0 4),(rf 181)]) #[])) (nl (tu #[] 0))) (Qm (tu #[] 0) (nl (n0 P)) (nl (fr (so "mirrored") (so "Off.mirrored") (Qh (top 11) 4) .none .none)))) (Qm (ob "dict" (Data.dict #[(dm P 221 "stitchroom.errors" 194),(dl P 225 7 224),(dR P "__init__" 233 49),(ds P 235 50),(hD P 236)] 2)) (Qm (Obj.mk .none none (Data.fields #[(i0 18),(i0 4),(rf 91)]) #[]) (nl (fo "takes" "Plain.takes" (Qh (top 10) 1) .none "stitchroom.stitches" 304 146)) (nl (tu #[(sv "self" 441)] 0))) (Qm (tu #[(sv "self" 333)] 0) (nl (tu #[] 0)) .nil))) (Qm (oc (#[(sv "StitchError" 198),(sv "StitchError" 199),(hC 200),(i0 5),z0,z0,z0,z0,(rf 25),hF,(i0 181),(rf 26),.none,.none,.none,.none,(i0 201),(i0 5),(hC 202)])) (Qm (tu #[] 0) (Qm (ob "dict" (Data.dict #[(dm P 262 "stitchroom.errors" 194),(dl P 266 14 265),(ds P 267 74),(hD P 268)] 2)) (nl (cO "__init__" "Plain.__init__" 357 36 (i0 2) (rf 134) (rf 135) .none (rf 136) (rf 137) (rf 138) 362 363)) (nl (n0 P))) (Qm (n0 P) (nl (tu #[(sv "self" 396)] 0)) (nl (cO "turned" "Off.turned" 459 73 (i0 1) (rf 230) (rf 231) .none (rf 232) (rf 233) (rf 234) 463 464)))) (Qm (n0 P) (Qm (cO "__init__" "Miscount.__init__" 283 18 (i0 6) (rf 86) (rf 87) .none (rf 88) (rf 89) (rf 90) 292 293) (nl (tu #[] 0)) (nl (tu #[] 0))) (Qm (ob "getset_descriptor" (Data.fields #[(sv "__dict__" 338),(rf 122),(.builtin "function.__dict__"),(.builtin "function.__dict__#set")])) (nl (ob "builtin_function_or_method" (Data.fields #[(.builtin "object.__init_subclass__"),(rf 185)]))) .nil))))) (Qm (W.boot_o_5 P) (Qm (W.boot_o_9 P) (Qm (tu #[(sv "k" 190)] 0) (Qm (ob "super" (Data.fields #[(rf 31),(rf 31),(rf 31)])) (Qm (ob "super" (Data.fields #[(rf 64),(rf 64),(rf 64)])) (nl (ob "dict" (Data.dict #[(dm P 352 "stitchroom.stitches" 304),(dq P 354 "Plain" 353),(dl P 356 34 355),(dR P "__init__" 364 140),(dR P "takes" 371 147),(dR P "gives" 378 154),(dR P "ties" 385 161),(dR P "mark" 392 168),(dR P "mirrored" 399 175),(dR P "turned" 406 182),(ds P 408 183)] 11))) (nl (oc (#[(sv "Off" 414),(sv "Off" 415),(hC 416),(i0 56),z0,z0,z0,z0,(rf 191),hF,(i0 181),(rf 192),.none,.none,.none,.none,(i0 417),(i0 56),(hC 418)])))) (Qm (ob "builtin_function_or_method" (Data.fields #[(.builtin "object.__init_subclass__"),(rf 95)])) (nl (fo "ties" "Plain.ties" (Qh (top 10) 3) .none "stitchroom.stitches" 304 160)) (nl (tu #[(sv "self" 455)] 0)))) (Qm (fo "__init__" "NoSum.__init__" (Qh (top 3) 0) (rf 42) "stitchroom.errors" 194 48) (Qm (ob "dict" (Data.dict #[(dm P 278 "stitchroom.errors" 194),(dq P 280 "Miscount" 279),(dl P 282 16 281),(dR P "__init__" 294 92),(ds P 300 93)] 5)) (nl (fr (so "takes") (so "Plain.takes") (Qh (top 10) 1) .none .none)) (nl (tu #[] 0))) (Qm (tu #[] 0) (nl (n0 P)) (nl (ob "builtin_function_or_method" (Data.fields #[(.builtin "object.__init_subclass__"),(rf 239)])))))) (Qm (tu #[] 0) (Qm (Obj.mk (.type "frame") none Data.plain #[(sr 40),(sr 3),(sr 37),none,(some (sv "stitchroom.errors" 194)),none,(sr 0)]) (Qm (Obj.mk (.type "frame") none Data.plain #[(sr 72),(sr 3),(sr 69),none,(some (sv "stitchroom.errors" 194)),none,(sr 0)]) (nl (tu #[] 0)) (nl (fo "takes" "Off.takes" (Qh (top 11) 0) .none "stitchroom.stitches" 304 200))) (Qm (Obj.mk (.type "frame") none Data.plain #[(sr 104),(sr 3),(sr 101),none,(some (sv "stitchroom.stitches" 304)),none,(sr 0)]) (nl (tu #[] 0)) (nl (tu #[] 0)))) (Qm (ob "dict" (Data.dict #[(dm P 246 "stitchroom.errors" 194),(dq P 248 "NoPattern" 247),(dl P 250 12 249),(ds P 251 62)] 4)) (Qm (tu #[] 0) (nl (cO "gives" "Plain.gives" 372 42 (i0 1) (rf 148) (rf 149) .none (rf 150) (rf 151) (rf 152) 376 377)) (nl (n0 P))) (Qm (ob "dict" (Data.dict #[(dm P 318 "stitchroom.stitches" 304),(dl P 322 27 321),(dR P "ties" 329 112),(dR P "ends" 336 119),(ds P 337 120),(dR P "__dict__" 339 123),(dR P "__weakref__" 341 124),(hD P 342)] 4)) (nl (Obj.mk (.type "type") none (Data.cls (ClassData.mk (so "Plain") [(rf 122)] [(rf 185),(rf 122),(.type "object")] 184 (so "Plain") true [] [] false none false)) #[(sr 127),none,(some (sv "Plain" 345)),(some (sv "Plain" 353)),(some (.builtin "object.__new__")),(some hT)])) .nil)))) (Qm (n1 P) (Qm (fo "_wall" "_wall" (top 0) .none "__main__" 164 20) (Qm (ob "dict" (Data.dict #[(dm P 221 "stitchroom.errors" 194),(dq P 223 "NoSum" 222),(dl P 225 7 224),(dR P "__init__" 233 49),(ds P 235 50)] 5)) (Qm (ob "dict" (Data.dict #[(dm P 262 "stitchroom.errors" 194),(dq P 264 "TooMany" 263),(dl P 266 14 265),(ds P 267 74)] 4)) (nl (Obj.mk (.type "frame") none Data.plain #[(sr 132),(sr 3),(sr 129),none,(some (sv "stitchroom.stitches" 304)),none,(sr 0)])) (nl (tu #[(sv "self" 427)] 0))) (Qm (ob "dict" (Data.dict #[(dm P 318 "stitchroom.stitches" 304),(dq P 320 "Stitch" 319),(dl P 322 27 321),(dR P "ties" 329 112),(dR P "ends" 336 119),(ds P 337 120)] 6)) (nl (tu #[] 0)) (nl (fo "mirrored" "Off.mirrored" (Qh (top 11) 4) .none "stitchroom.stitches" 304 228)))) (Qm (ob "super" (Data.fields #[(rf 52),(rf 52),(rf 52)])) (Qm (Obj.mk (.type "frame") none Data.plain #[(sr 84),(sr 3),(sr 81),none,(some (sv "stitchroom.errors" 194)),none,(sr 0)]) (nl (n0 P)) (nl (fr (so "ends") (so "Off.ends") (Qh (top 11) 2) .none .none))) (Qm (fr (so "ends") (so "Stitch.ends") (Qh (top 9) 1) .none .none) (nl (cO "turned" "Plain.turned" 400 54 (i0 1) (rf 176) (rf 177) .none (rf 178) (rf 179) (rf 180) 404 405)) .nil))) (Qm (tu #[] 0) (Qm (tu #[(sv "self" 229),(sv "row" 230)] 0) (Qm (ob "super" (Data.fields #[(rf 76),(rf 76),(rf 76)])) (nl (tu #[] 0)) (nl (tu #[] 0))) (Qm (tu #[] 0) (nl (fr (so "mirrored") (so "Plain.mirrored") (Qh (top 10) 5) .none .none)) (nl (tu #[] 0)))) (Qm (Obj.mk (.type "frame") none Data.plain #[(sr 60),(sr 3),(sr 57),none,(some (sv "stitchroom.errors" 194)),none,(sr 0)]) (Qm (tu #[(sv "asked" 295),(sv "choice" 296),(sv "lies" 297),(sv "place" 298),(sv "row" 299)] 0) (nl (tu #[(sv "self" 382)] 0)) (nl (cO "mark" "Off.mark" 445 67 (i0 1) (rf 216) (rf 217) .none (rf 218) (rf 219) (rf 220) 449 450))) (Qm (ob "super" (Data.fields #[(rf 122),(rf 122),(rf 122)])) (nl (n3 P)) .nil)))))) (Qm (W.boot_o_2 P) (Qm (W.boot_o_4 P) (Qm (W.boot_o_8 P) (Qm (n0 P) (Qm (ob "getset_descriptor" (Data.fields #[(sv "__weakref__" 209),(rf 31),(.builtin "ExceptionGroup.__weakref__"),.none])) (Qm (Obj.mk (.type "type") none (Data.cls (ClassData.mk (so "NoPattern") [(rf 31)] [(rf 64),(rf 31),(.type "ValueError"),(.type "Exception"),(.type "BaseException"),(.type "object")] 63 (so "NoPattern") true [] [] false none false)) #[(sr 55),none,(some (sv "NoPattern" 239)),(some (sv "NoPattern" 247)),(some (.builtin "ValueError.__new__")),(some hT)]) (nl (n3 P)) (nl (Obj.mk .none none (Data.fields #[(i0 58),(i0 4),(rf 200),(i0 61),(i0 4),(rf 207),(i0 64),(i0 4),(rf 214),(i0 67),(i0 4),(rf 221),(i0 70),(i0 4),(rf 228),(i0 73),(i0 4),(rf 235)]) #[]))) (Qm (ob "super" (Data.fields #[(rf 95),(rf 95),(rf 95)])) (nl (cO "ties" "Plain.ties" 379 45 (i0 1) (rf 155) (rf 156) .none (rf 157) (rf 158) (rf 159) 383 384)) (nl (n0 P)))) (Qm (cO "__init__" "NoSum.__init__" 226 9 (i0 2) (rf 43) (rf 44) .none (rf 45) (rf 46) (rf 47) 231 232) (Qm (n3 P) (nl (tu #[] 0)) (nl (fo "gives" "Off.gives" (Qh (top 11) 1) .none "stitchroom.stitches" 304 207))) (Qm (fo "ties" "Stitch.ties" (Qh (top 9) 0) .none "stitchroom.stitches" 304 111) (nl (tu #[] 0)) (nl (ob "super" (Data.fields #[(rf 239),(rf 239),(rf 239)])))))) (Qm (ob "dict" (Data.dict #[(dm P 203 "stitchroom.errors" 194),(dq P 205 "StitchError" 204),(dl P 207 5 206),(ds P 208 29)] 4)) (Qm (oc (#[(sv "NoSum" 216),(sv "NoSum" 217),(hC 218),(i0 7),z0,z0,z0,z0,(rf 38),hF,(i0 181),(rf 39),.none,.none,.none,.none,(i0 219),(i0 7),(hC 220)])) (Qm (oc (#[(sv "TooMany" 257),(sv "TooMany" 258),(hC 259),(i0 14),z0,z0,z0,z0,(rf 70),hF,(i0 181),(rf 71),.none,.none,.none,.none,(i0 260),(i0 14),(hC 261)])) (nl (tu #[(sv "self" 360),(sv "side" 361)] 0)) (nl (cO "takes" "Off.takes" 424 58 (i0 1) (rf 195) (rf 196) .none (rf 197) (rf 198) (rf 199) 428 429))) (Qm (oc (#[(sv "Stitch" 313),(sv "Stitch" 314),(hC 315),(i0 27),z0,z0,z0,z0,(rf 102),hF,(i0 181),(rf 103),.none,.none,.none,.none,(i0 316),(i0 27),(hC 317)])) (nl (fo "mark" "Plain.mark" (Qh (top 10) 4) .none "stitchroom.stitches" 304 167)) (nl (tu #[(sv "self" 462)] 0)))) (Qm (n3 P) (Qm (tu #[(sv "self" 286),(sv "row" 287),(sv "place" 288),(sv "choice" 289),(sv "lies" 290),(sv "asked" 291)] 0) (nl (fr (so "gives") (so "Plain.gives") (Qh (top 10) 2) .none .none)) (nl (tu #[] 0))) (Qm (tu #[] 0) (nl (ob "dict" (Data.dict #[(dm P 352 "stitchroom.stitches" 304),(dl P 356 34 355),(dR P "__init__" 364 140),(dR P "takes" 371 147),(dR P "gives" 378 154),(dR P "ties" 385 161),(dR P "mark" 392 168),(dR P "mirrored" 399 175),(dR P "turned" 406 182),(ds P 408 183),(hD P 409)] 2))) .nil)))) (Qm (Obj.mk .none none (Data.fields #[(i0 1),z0,(rf 20),(i0 5),z0,(rf 27),(i0 7),z0,(rf 40),(i0 12),z0,(rf 60),(i0 14),z0,(rf 72),(i0 16),z0,(rf 84),(i0 27),z0,(rf 104),(i0 34),z0,(rf 132),(i0 56),z0,(rf 193)]) #[]) (Qm (cO "_wall" "_wall" 187 1 (i0 1) (rf 15) (rf 16) .none (rf 17) (rf 18) (rf 19) 191 192) (Qm (n3 P) (Qm (n3 P) (nl (oc (#[(sv "Plain" 347),(sv "Plain" 348),(hC 349),(i0 34),z0,z0,z0,z0,(rf 130),hF,(i0 181),(rf 131),.none,.none,.none,.none,(i0 350),(i0 34),(hC 351)]))) (nl (n0 P))) (Qm (n3 P) (nl (tu #[(sv "self" 389)] 0)) (nl (cO "mirrored" "Off.mirrored" 452 70 (i0 1) (rf 223) (rf 224) .none (rf 225) (rf 226) (rf 227) 456 457)))) (Qm (Obj.mk (.type "type") none (Data.cls (ClassData.mk (so "NoSum") [(rf 31)] [(rf 52),(rf 31),(.type "ValueError"),(.type "Exception"),(.type "BaseException"),(.type "object")] 51 (so "NoSum") true [] [] false none false)) #[(sr 35),none,(some (sv "NoSum" 214)),(some (sv "NoSum" 222)),(some (.builtin "ValueError.__new__")),(some hT)]) (Qm (oc (#[(sv "Miscount" 273),(sv "Miscount" 274),(hC 275),(i0 16),z0,z0,z0,z0,(rf 82),hF,(i0 181),(rf 83),.none,.none,.none,.none,(i0 276),(i0 16),(hC 277)])) (nl (tu #[] 0)) (nl (tu #[] 0))) (Qm (tu #[] 0) (nl (fr (so "turned") (so "Plain.turned") (Qh (top 10) 6) .none .none)) .nil))) (Qm (Obj.mk (.type "frame") none Data.plain #[(sr 27),(sr 3),(sr 24),none,(some (sv "stitchroom.errors" 194)),none,(sr 0)]) (Qm (n0 P) (Qm (Obj.mk (.type "type") none (Data.cls (ClassData.mk (so "TooMany") [(rf 31)] [(rf 76),(rf 31),(.type "ValueError"),(.type "Exception"),(.type "BaseException"),(.type "object")] 75 (so "TooMany") true [] [] false none false)) #[(sr 67),none,(some (sv "TooMany" 255)),(some (sv "TooMany" 263)),(some (.builtin "ValueError.__new__")),(some hT)]) (nl (fo "__init__" "Plain.__init__" (Qh (top 10) 0) .none "stitchroom.stitches" 304 139)) (nl (tu #[(sv "self" 434)] 0))) (Qm (tu #[(sv "self" 326)] 0) (nl (tu #[] 0)) (nl (fo "turned" "Off.turned" (Qh (top 11) 5) .none "stitchroom.stitches" 304 235)))) (Qm (oc (#[(sv "NoPattern" 241),(sv "NoPattern" 242),(hC 243),(i0 12),z0,z0,z0,z0,(rf 58),hF,(i0 181),(rf 59),.none,.none,.none,.none,(i0 244),(i0 12),(hC 245)])) (Qm (fo "__init__" "Miscount.__init__" (Qh (top 6) 0) .none "stitchroom.errors" 194 91) (nl (n0 P)) (nl (fr (so "mark") (so "Off.mark") (Qh (top 11) 3) .none .none))) (Qm (ob "getset_descriptor" (Data.fields #[(sv "__weakref__" 340),(rf 122),(.builtin "ExceptionGroup.__weakref__"),.none])) (nl (n5 P)) .nil))))) (Qm (W.boot_o_6 P) (Qm (W.boot_o_10 P) (Qm (tu #[] 0) (Qm (ob "builtin_function_or_method" (Data.fields #[(.builtin "object.__init_subclass__"),(rf 31)])) (Qm (ob "builtin_function_or_method" (Data.fields #[(.builtin "object.__init_subclass__"),(rf 64)])) (nl (tu #[] 0)) (nl (Obj.mk (.type "frame") none Data.plain #[(sr 193),(sr 3),(sr 190),none,(some (sv "stitchroom.stitches" 304)),none,(sr 0)]))) (Qm (tu #[(sv "w" 306),(sv "x" 307),(sv "y" 308),(sv "z" 309)] 0) (nl (tu #[] 0)) (nl (tu #[] 0)))) (Qm (tu #[(sv "row" 234)] 0) (Qm (tu #[] 0) (nl (cO "takes" "Plain.takes" 365 39 (i0 1) (rf 141) (rf 142) .none (rf 143) (rf 144) (rf 145) 369 370)) (nl (n0 P))) (Qm (n0 P) (nl (tu #[(sv "self" 403)] 0)) .nil))) (Qm (n0 P) (Qm (tu #[.none] 0) (Qm (tu #[] 0) (nl (fr (so "__init__") (so "Plain.__init__") (Qh (top 10) 0) .none .none)) (nl (tu #[] 0))) (Qm (tu #[] 0) (nl (n0 P)) (nl (fr (so "turned") (so "Off.turned") (Qh (top 11) 5) .none .none)))) (Qm (tu #[] 0) (Qm (fr (so "__init__") (so "Miscount.__init__") (Qh (top 6) 0) .none .none) (nl (fo "gives" "Plain.gives" (Qh (top 10) 2) .none "stitchroom.stitches" 304 153)) (nl (tu #[(sv "self" 448)] 0))) (Qm (Obj.mk (.type "type") none (Data.cls (ClassData.mk (so "Stitch") [(.type "object")] [(rf 122),(.type "object")] 121 (so "Stitch") true [] [(rf 185),(rf 239)] false none false)) #[none,none,(some (sv "Stitch" 311)),(some (sv "Stitch" 319)),(some (.builtin "object.__new__")),(some hT)]) (nl (ob "super" (Data.fields #[(rf 185),(rf 185),(rf 185)]))) .nil)))) (Qm (n2 P) (Qm (tu #[(.type "ValueError")] 0) (Qm (tu #[] 0) (Qm (tu #[] 0) (nl (tu #[] 0)) (nl (tu #[] 0))) (Qm (tu #[] 0) (nl (fr (so "mark") (so "Plain.mark") (Qh (top 10) 4) .none .none)) (nl (tu #[] 0)))) (Qm (ob "builtin_function_or_method" (Data.fields #[(.builtin "object.__init_subclass__"),(rf 52)])) (Qm (tu #[] 0) (nl (tu #[(sv "self" 375)] 0)) (nl (cO "ends" "Off.ends" 438 64 (i0 1) (rf 209) (rf 210) .none (rf 211) (rf 212) (rf 213) 442 443))) (Qm (cO "ends" "Stitch.ends" 330 32 (i0 1) (rf 113) (rf 114) .none (rf 115) (rf 116) (rf 117) 334 335) (nl (fo "turned" "Plain.turned" (Qh (top 10) 6) .none "stitchroom.stitches" 304 181)) .nil))) (Qm (ob "dict" (Data.dict #[(dm P 203 "stitchroom.errors" 194),(dl P 207 5 206),(ds P 208 29),(dR P "__weakref__" 210 32),(hD P 211)] 3)) (Qm (tu #[] 0) (Qm (ob "builtin_function_or_method" (Data.fields #[(.builtin "object.__init_subclass__"),(rf 76)])) (nl (n0 P)) (nl (fr (so "gives") (so "Off.gives") (Qh (top 11) 1) .none .none))) (Qm (fr (so "ties") (so "Stitch.ties") (Qh (top 9) 0) .none .none) (nl (cO "mirrored" "Plain.mirrored" 393 51 (i0 1) (rf 169) (rf 170) .none (rf 171) (rf 172) (rf 173) 397 398)) (nl (ob "dict" (Data.dict #[(dm P 419 "stitchroom.stitches" 304),(dl P 423 56 422),(dR P "takes" 430 201),(dR P "gives" 437 208),(dR P "ends" 444 215),(dR P "mark" 451 222),(dR P "mirrored" 458 229),(dR P "turned" 465 236),(ds P 466 237),(hD P 467)] 2))))) (Qm (tu #[] 0) (Qm (ob "dict" (Data.dict #[(dm P 278 "stitchroom.errors" 194),(dl P 282 16 281),(dR P "__init__" 294 92),(ds P 300 93),(hD P 301)] 2)) (nl (tu #[] 0)) (nl (fo "mark" "Off.mark" (Qh (top 11) 3) .none "stitchroom.stitches" 304 221))) (Qm (ob "builtin_function_or_method" (Data.fields #[(.builtin "object.__init_subclass__"),(rf 122)])) (nl (ob "dict" (Data.dict #[(dm P 419 "stitchroom.stitches" 304),(dq P 421 "Off" 420),(dl P 423 56 422),(dR P "takes" 430 201),(dR P "gives" 437 208),(dR P "ends" 444 215),(dR P "mark" 451 222),(dR P "mirrored" 458 229),(dR P "turned" 465 236),(ds P 466 237)] 10))) .nil)))))))
noncomputable abbrev S1(w:World)(os:OsState):W.SharedT:=⟨T1 w.params,242,(Life.mk [] [] [] 0 [] [] Bool.false #[] [] 0 Bool.false Bool.false Bool.false 0 [2000,10,10] Bool.false 0 Bool.true [] [] 0 Bool.false),Array.mk [],(Drawn.mk 0 0 0 0),470,os⟩
abbrev PA(w:World):Prop:=∀os:OsState,Iv.topGoT treeTable hp w 11 hn6 12 (hB.at w os) (W.topStub hp)=some (Sa w os,⟨denote treeTable hcd,hcd,(Pos.mk 0 0 0 0),[W.topFrame hqp]⟩)
def QkD:∀w,PA w:=λw os=>by kernel_rfl
abbrev PB(w:World):Prop:=∀os:OsState,Iv.segRunT treeTable hp w 11 hn6 1 1 (Sa w os) (W.blockOf hbd eV hcd (Pos.mk 0 0 0 0) [W.topFrame hqp])=some (.next,Sb w os,hcd,(Pos.mk 0 0 0 0))
def QkC:∀w,PB w:=λw os=>by kernel_rfl
abbrev PC1(w:World):Prop:=∀os:OsState,Iv.segRunT treeTable hp w 11 hn6 1 2253 (Sb w os) (W.piecesOf (hbd.take 12) eV hcd (Pos.mk 0 0 0 0) [W.topFrame hqp])=some (.next,S1 w os,hcd,(Pos.mk 56 0 74 16))
def QhT:∀w,PC1 w:=λw os=>by kernel_rfl
abbrev PF(w:World):Prop:=∀os:OsState,(Iv.topRunT treeTable hp w 11 hn6 7860 (S1 w os) (W.restOf (hbd.drop 12) eV hcd (Pos.mk 56 0 74 16) [W.topFrame hqp])).map (Iv.vF hp hq w)=some (Iv.gF hq)
def QkB:∀w,PF w:=λw os=>by kernel_rfl
abbrev PK(w:World):Prop:=∀os:OsState,(Iv.topRunT treeTable hp w 11 hn6 7860 (S1 w os) (W.restOf (hbd.drop 12) eV hcd (Pos.mk 56 0 74 16) [W.topFrame hqp])).map (Iv.vK hp hq hlo hXt true)=some (true,true,true)
def Qkz:∀w,PK w:=λw os=>by kernel_rfl
abbrev PL(w:World):Prop:=∀os:OsState,(Iv.topRunT treeTable hp w 11 hn6 7860 (S1 w os) (W.restOf (hbd.drop 12) eV hcd (Pos.mk 56 0 74 16) [W.topFrame hqp])).map (Iv.vL hq hlo)=some (Iv.gL hq hlo)
def Qky:∀w,PL w:=λw os=>by kernel_rfl
abbrev PG(w:World):Prop:=∀os:OsState,(Iv.topRunT treeTable hp w 11 hn6 7860 (S1 w os) (W.restOf (hbd.drop 12) eV hcd (Pos.mk 56 0 74 16) [W.topFrame hqp])).map (λs=>hYf s.abs)=some (hYa w)
def QkA:∀w,PG w:=λw os=>by kernel_rfl
def Qpc(w:World)(os:OsState):Iv.Gl2 hp w 11 hn6 (Iv.seenAll hp hq hlo hXt hYf true w) (true,W.openGood hq hlo,hYa w) 10126 (hB.at w os) (W.topStub hp):=by
 have f:=Iv.ch_fin (F:=Iv.seenAll hp hq hlo hXt hYf true w) (a:=(true,W.openGood hq hlo,hYa w)) (Iv.looks3 (QkB w os) (Qkz w os) (Qky w os) (QkA w os));have f:=Iv.ch_cut 12 (QhT w os) f;exact Iv.ch_pre (QkD w os) (Iv.ch_blk (QkC w os) f)
def hleft:W.LeftO hp hq hlo hXt hYf hYa 10126 true:=Iv.left_pieces hop (by decide) hfm hbo hsz Qpc
end K26
namespace Iv
open PySem
noncomputable def QmX(sep:List Nat):List (List Nat)->List Nat
 |[]=>[]
 |[x]=>x
 |x::y::r=>x++sep++QmX sep (y::r)
noncomputable def Qga(c:Nat):List Nat->List (List Nat)
 |[]=>[[]]
 |a::r=>if a=c then []::Qga c r else match Qga c r with
  |[]=>[[a]]
  |p::ps=>(a::p)::ps
end Iv
namespace L2
open PySem PySem.Spec PyProof.Rows Builtin Builtin.Str
section
variable {X:Cx}
def Jz:CallR X (.type "int") (λxs H Q=>∃x,xs=[.str x]/\NumText.AllDigits x.cps.toList/\x.cps.toList≠[]/\x.length<=640/\Q (.int ((NumText.digitsVal x.cps.toList:Nat): Int)) H):= by
 intro pins s Y H xs us Q I r h;obtain⟨x,rfl,h1,h2,h3,q⟩:=h;obtain⟨u,rfl,t,rfl⟩:=JN r
 exact W.KIN.call_text (intText_digits h1 h2 (by omega)) h3 ⟨.int _,H,I.tok _,⟨_,rfl⟩,q⟩
end
end L2
namespace L2
open PySem PySem.Spec PyProof.Rows
section
variable {X:Cx}
theorem Qak:∀{bs:List Bool} {us:List Value},Vals (bs.map V.bl) us->∀(i:Nat) v,us[i]?=some v->∃b,bs[i]?=some b/\v=.bool b
 |[],us,r,i,v,e=>by rw[List.map_nil]at r;cases r;simp at e
 |b::bs,us,r,i,v,e=>by
  rw[X7]at r
  cases r with
  |cons h t=>
   cases(show _=Value.bool b from h)
   cases i with
   |zero=>simp at e;exact⟨b,rfl,e.symm⟩
   |succ i=>simpa using Qak t i v (by simpa using e)
def QpH(bs:List Bool):((List.range bs.length).any λi=>(bs[i]?).getD false)=bs.any id:=LSm.range_any bs
def Qeg(hc:X.calm=true): CallR X (.builtin "any") (λxs H Q=>∃(a:Addr) (bs:List Bool),xs=[.ref a]/\SqL X.K H a (bs.map V.bl)/\Q (.bl (bs.any id)) H):= by
 intro pins s Y H xs us Q I r h;obtain⟨a,bs,rfl,hq,q⟩:=h;obtain⟨u,rfl,rx⟩:=JN r;cases rx;obtain⟨its,rr,pl,hz⟩:=I.list hq;have hl:=pl.isList
 have hlt:a<s.heap.objs.size:=by obtain⟨_,e,_⟩:=hl;exact Xl e
 have hlen:=rr.length;rw[X6]at hlen;refine call_any_walk (Wr hl ?_)
 refine⟨s.heap.objs.size,[s.heap.objs.size,a],[s.heap.objs.size],its.toArray.size,_,_,λi=>(bs[i]?).getD false,rfl,Walks.list (A:=X.A.in1) (I.ok.hd hc) _ a (X4 hlt) its.toArray,
  ⟨⟨_,Xr _ rfl,rfl,rfl⟩,hl.push _⟩,λi v s' Q' E' hP hQ=>?_,λh' tk hk=>?_⟩
 ·obtain⟨b,e,rfl⟩:=Qak rr i v (by simpa using hP)
  simp only[e,W8]at hQ;exact V8 hQ
 ·have e:((List.range its.toArray.size).any λi=>(bs[i]?).getD false)=bs.any id:=by
   rw[Xp,<-hlen];exact QpH bs
  rw[e];exact⟨.bl _,H,I.kept (t':=tk) (LSm.kept_iter hk),rfl,q⟩
theorem QbP:∀{ns:List Int} {us:List Value},Vals (ns.map V.int) us->∀(i:Nat) v,us[i]?=some v->∃t,v=.int (ns.getD i 0) t
 |[],us,r,i,v,e=>by rw[List.map_nil]at r;cases r;simp at e
 |n::ns,us,r,i,v,e=>by
  rw[X7]at r
  cases r with
  |cons h t=>
   obtain⟨k,rfl⟩:=h
   cases i with
   |zero=>simp at e;exact⟨k,e.symm⟩
   |succ i=>simpa using QbP t i v (by simpa using e)
def QaI:∀(ns:List Int),preSum (λi=>ns.getD i 0) ns.length=ns.sum:=by
 have go:∀(k:Nat) (ns:List Int),preSum (λi=>ns.getD i 0) k=(ns.take k).sum:=by
  intro k
  induction k with
  |zero=>intro ns;simp[preSum]
  |succ k ih=>
   intro ns;rw[show preSum (λi=>ns.getD i 0) (k+1)=preSum (λi=>ns.getD i 0) k+ns.getD k 0 from rfl,ih,Wm,List.sum_append]
   cases e:ns[k]? with
   |none=>simp[List.getD,e]
   |some v=>simp[List.getD,e]
 intro ns;rw[go,Wf (Xe _)]
def Qec(hc:X.calm=true): CallR X (.builtin "sum") (λxs H Q=>∃(a:Addr) (ns:List Int),xs=[.ref a]/\SqL X.K H a (ns.map V.int)/\Q (.int ns.sum) H):= by
 intro pins s Y H xs us Q I r h;obtain⟨a,ns,rfl,hq,q⟩:=h;obtain⟨u,rfl,rx⟩:=JN r;cases rx;obtain⟨its,rr,pl,hz⟩:=I.list hq;have hl:=pl.isList
 have hlt:a<s.heap.objs.size:=by obtain⟨_,e,_⟩:=hl;exact Xl e
 have hlen:=rr.length;rw[X6]at hlen;refine call_sum_walkG (Wr hl ?_)
 refine⟨s.heap.objs.size,[s.heap.objs.size,a],[s.heap.objs.size],its.toArray.size,_,_,λi=>ns.getD i 0,rfl,Walks.list (A:=X.A.in1) (I.ok.hd hc) _ a (X4 hlt) its.toArray,
  ⟨⟨_,Xr _ rfl,rfl,rfl⟩,hl.push _⟩,λb hb=>?_,λi v hP=>QbP rr i v (by simpa using hP),λh' tk t' hk=>?_⟩
 ·have sz:(s.heap.push {cls:=.type "list_iterator",data:=.fields #[.ref a,.int 0 0]}).objs.size=s.heap.objs.size+1:=X1 ..
  rcases Xm.mp hb with rfl|hb
  ·show _<(s.heap.push _).objs.size;rw[X1];exact W6 _
  ·obtain rfl:=X5.mp hb;show _<(s.heap.push _).objs.size;rw[X1];exact Nat.lt_succ_of_lt hlt
 ·have e:preSum (λi=>ns.getD i 0) its.toArray.size=ns.sum:=by
   rw[Xp,<-hlen];exact QaI ns
  rw[e];exact⟨.int _,H,I.kept (t':=tk) (LSm.kept_iter hk),⟨_,rfl⟩,q⟩
end
end L2
namespace L2
open PySem PySem.Spec PySem.W PyProof.Rows
section
noncomputable def QnT{α:Type}(lt:Nat->Nat->Bool):KasT α->α
 |.ret a=>a
 |.ask i j k=>QnT lt (k (lt i j))
noncomputable def Qn4:List Int->List Int->Bool
 |[],[]=>false
 |[],_::_=>true
 |_::_,[]=>false
 |x::xs,y::ys=>if x=y then Qn4 xs ys else decide (x<y)
noncomputable def ltK(ks:List (List Int))(i j:Nat):Bool:=Qn4 (ks.getD i []) (ks.getD j [])
noncomputable def permK(ks:List (List Int))(n:Nat):List Nat:=if n<2 then List.range n else(QnT (ltK ks) (kas_sort n)).toList
end
end L2
namespace L2
open PySem
variable {env:Env}{scope:Scope}
noncomputable def Qcw(cells:List (Str×Addr)):List (Str×NameKind)->List (Str×Addr)->List (Str×Addr)
 |[],cs=>cs
 | (n,k)::r,cs=>Qcw cells r (if(k==.free)=true then(match cells.lookup n with|some c=>(n,c)::cs|none=>cs)else cs)
def Jc(h:∀y∈scope.names,y.2=.free->∃c,env.cells.lookup y.1=some c):closureFor scope env=pure (Qcw env.cells scope.names []):=by
 have all:∀(l:List (Str×NameKind)) (cs:List (Str×Addr)),(∀y∈l,y.2=.free->∃c,env.cells.lookup y.1=some c) ->
   (forIn l cs λ(x:Str×NameKind) (r:List (Str×Addr))=>match x with|(name,kind)=>if(kind==NameKind.free)=true then(do let y <-cellOf env name;pure (ForInStep.yield ((name,y)::r)))else(pure (ForInStep.yield r):Sem _))=(pure (Qcw env.cells l cs):Sem _):=by
  intro l
  induction l with
  |nil=>intro cs _;simp only[Uu];rfl
  |cons p r ih=>
   obtain⟨n,k⟩:=p;intro cs hy;rw[Uo];by_cases hk:(k==NameKind.free)=true
   ·obtain⟨c,hc⟩:=hy (n,k) Xo (by simpa using hk)
    have hc:env.cells.lookup n=some c:=hc
    have e:cellOf env n=pure c:=by unfold cellOf;rw[hc]
    simp only[hk,Wo,e,pure_bind];rw[ih _ λy m=>hy y (Xk _ m)];simp only[Qcw,hk,Wo,hc]
   ·simp only[hk,W9,V7,pure_bind];rw[ih _ λy m=>hy y (Xk _ m)];simp only[Qcw,hk,W9,V7]
 have:=all scope.names [] h;unfold closureFor;simp only[bind_pure_comp]at this ⊢;rw[this];rfl
theorem Qag{cells:List (Str×Addr)}{x:Str}{c:Addr}:∀{l:List (Str×NameKind)} {cs:List (Str×Addr)},(Qcw cells l cs).lookup x=some c->cs.lookup x=some c\/cells.lookup x=some c
 |[],_,h=>.inl h
 | (n,k)::r,cs,h=>by
  have h:(Qcw cells r (if(k==NameKind.free)=true then(match cells.lookup n with|some c=>(n,c)::cs|none=>cs)else cs)).lookup x=some c:=h
  rcases Qag h with h1|h1
  ·clear h;by_cases hk:(k==NameKind.free)=true
   ·rw[if_pos hk]at h1
    cases hc:cells.lookup n with
    |none=>rw[hc]at h1;exact .inl h1
    |some c'=>
     rw[hc]at h1;have h2:List.lookup x ((n,c')::cs)=some c:=h1;clear h1;rw[Va]at h2
     cases hx:x==n with
     |true=>
      rw[hx]at h2;have e:=eq_of_beq hx;subst e;exact .inr (hc.trans h2)
     |false=>rw[hx]at h2;exact .inl h2
   ·rw[if_neg hk]at h1;exact .inl h1
  ·exact .inr h1
theorem Jx{cells:List (Str×Addr)}{x:Str}{c:Addr}(hc:cells.lookup x=some c):∀{l:List (Str×NameKind)} {cs:List (Str×Addr)},((x,NameKind.free)∈l\/cs.lookup x=some c)->(Qcw cells l cs).lookup x=some c
 |[],_,h=>by
  rcases h with h|h
  ·cases h
  ·exact h
 | (n,k)::r,cs,h=>by
  show(Qcw cells r (if(k==NameKind.free)=true then(match cells.lookup n with|some c=>(n,c)::cs|none=>cs)else cs)).lookup x=some c
  refine Jx (l:=r) hc ?_
  rcases h with h|h
  ·rcases Xm.mp h with e|h
   ·cases e;refine .inr ?_
    rw[if_pos (by decide),hc]
    simp[Va]
   ·exact .inl h
  ·refine .inr ?_;split
   ·split
    ·rename_i c' h';rw[Va];split
     ·rename_i e;have e:=eq_of_beq e;subst e;exact h'.symm.trans hc
     ·exact h
    ·exact h
   ·exact h
noncomputable def mang(x:Str):Str:=⟨x.cps.push 33⟩
noncomputable def hideN(xs N:List Str):List Str:=N.map λy=>if xs.contains y then mang y else y
def ZK{xs N:List Str}:(hideN xs N).length=N.length:=by unfold hideN;rw[X6]
def Qfs{xs N:List Str}{i:Nat}{y:Str}(h:(hideN xs N)[i]?=some y):∃z,N[i]?=some z/\((z∈xs/\y=mang z)\/(z∉xs/\y=z)):=by
 unfold hideN at h;rw[Wt,Xc]at h;obtain⟨z,h1,h2⟩:=h;refine⟨z,h1,?_⟩;by_cases c:xs.contains z=true
 ·rw[if_pos c]at h2;exact .inl ⟨Vi.mp c,h2.symm⟩
 ·rw[if_neg c]at h2;exact .inr ⟨λm=>c (Vi.mpr m),h2.symm⟩
noncomputable def relN(outer:List (Str×NameKind))(names:List (Str×NameKind)):List (Str×NameKind):=names.map λ(n,k)=>if(k==.free&&outer.lookup n==some .cell)=true then(n,.cell)else(n,k)
def QY(h:env.scope.kind=.function):(relabel scope env).names=relN env.scope.names scope.names:=by
 unfold relabel relN;refine List.map_congr_left λp z=>?_;obtain⟨n,k⟩:=p;simp only[h,beq_self_eq_true,Bool.and_true];rfl
theorem Zv{outer:List (Str×NameKind)}{x:Str}:∀{l:List (Str×NameKind)},(relN outer l).lookup x=(l.lookup x).map λk=>if(k==.free&&outer.lookup x==some .cell)=true then .cell else k
 |[]=>rfl
 | (n,k)::r=>by
  have ih:=@Zv outer x r;show List.lookup x ((if(k==NameKind.free&&outer.lookup n==some .cell)=true then(n,NameKind.cell)else(n,k))::relN outer r)=_;rw[Va (as:=r)]
  cases hx:x==n with
  |true=>
   have e:=eq_of_beq hx;subst e;simp only[U7,Te];by_cases z:(k==NameKind.free&&outer.lookup x==some .cell)=true
   ·rw[if_pos z,if_pos z,U7]
   ·rw[if_neg z,if_neg z,U7]
  |false=>
   split
   ·simp[Va,hx,ih]
   ·simp[Va,hx,ih]
def Zw{κ β:Type}[BEq κ][LawfulBEq κ]{l:List (κ×β)}{k:κ}{b:β}(h:l.lookup k=some b):(k,b)∈l:=by
 induction l with
 |nil=>simp at h
 |cons p r ih=>
  obtain⟨a,c⟩:=p;rw[Va]at h;split at h
  ·rename_i e;have e:=eq_of_beq e;subst e;cases h;exact Xo
  ·exact Xk _ (ih h)
section
variable {prog:Program}{w:World}{A:Around}{R:Result->Shared->Prop}{s:Shared}
def QeG{E:Value->Shared->Prop}{tl:Option Expr}{Q:Bool->Shared->Prop}(h:match tl with|none=>Q true s|some c=>wpAny (model prog w) A (isTrue c env (eval c env)) Q E s):
  wpAny (model prog w) A (forIn tl.toList true λc r=>if r=true then do let ok <-isTrue c env (eval c env);pure (ForInStep.yield ok)else pure (ForInStep.yield r)) Q E s:=by
 cases tl with
 |none=>exact wpAny_tests_nil h
 |some c=>exact wpAny_tests_one h
def QaY{elt target iter:Expr}{tl:Option Expr}{pos:Pos}{it acc:Value}(I:Nat->Shared->Prop)
  (turn:∀n s,I n s->wpAny (model prog w) A (pyNext it) (λr s₁=>match r with
   |none=>R (.ok .next) s₁
   |some v=>wpAny (model prog w) A (letOwnedTupleGo target it v) (λz s₁'=>wpAny (model prog w) A (assign target env v) (λz s₂=>
     wpAny (model prog w) A (forIn tl.toList true λc r=>if r=true then do let ok <-isTrue c env (eval c env);pure (ForInStep.yield ok)else pure (ForInStep.yield r)) (λok s₃=>if ok=true then
      wpAny (model prog w) A (eval elt env) (λx s₄=>
       wpAny (model prog w) A (call (.builtin "list.append") [acc,x]) (λz s₅=>∃m,m<n/\I m s₅) (notedBy (model prog w) A env λe s'=>R (.error e) s') s₄) (notedBy (model prog w) A env λe s'=>R (.error e) s') s₃
      else ∃m,m<n/\I m s₃) (notedBy (model prog w) A env λe s'=>R (.error e) s') s₂)
        (notedBy (model prog w) A env λe s'=>R (.error e) s') s₁') (notedBy (model prog w) A env λe s'=>R (.error e) s') s₁) (notedBy (model prog w) A env λe s'=>R (.error e) s') s)
  (n:Nat) (h:I n s):codeAny (model prog w) A (.compLoop (.ListComp elt [⟨target,iter,tl.toList,0⟩] scope pos) 0 it acc env) R s:=by
 refine codeAny_loop rfl I (λn s hI=>?_) n h
 show wpAny _ A ((compTurn (.ListComp elt [⟨target,iter,tl.toList,0⟩] scope pos) 0 it acc env).onRaise (λx=>do noteFrame x env;theTreesLotGoes x)) _ _ s
 refine wpAny_noted ?_;rw[compTurn_list];refine Xa (wpAny_standAt (Xa (Xz (turn n s hI) (λr s₁ h₁=>?_) λz z h'=>h')))
 cases r with
 |none=>exact Xi h₁
 |some v=>
  refine Xa (Xz h₁ (λz s₁' h₁'=>?_) λz z h'=>h');refine Xa (Xz h₁' (λz s₂ h₂=>Xa (Xz h₂ (λok s₃ h₃=>?_) λz z h'=>h')) λz z h'=>h')
  cases ok with
  |true=>
   rw[if_pos rfl]at h₃;exact Xa (Xa (Xz h₃ (λx s₄ h₄=>Xa (Xz h₄ (λz s₅ h₅=>Xi (Xi ⟨rfl,h₅⟩)) λz z h'=>h')) λz z h'=>h'))
  |false=>
   rw[if_neg Xh]at h₃;exact Xa (Xi (Xi ⟨rfl,h₃⟩))
end
end L2
namespace L2
open PySem PySem.Spec PySem.W PyProof.Rows
variable {env:Env}{α:Type}{e:Value}
def KD{α:Type}:Sem α->Prop
 |.pure _=>True
 |.raise _=>True
 |.unsupported _=>True
 |.rule _ k=>KD (k ())
 |.at _ k=>KD (k ())
 |.load _ _ k=>∀o,KD (k o)
 |.loadIfAlive _ k=>∀o,KD (k o)
 |.update _ _ f k=>(∀o:Obj,(f o).dict=o.dict/\(o.isFreed=false->(f o).isFreed=false))/\KD (k ())
 |.point _ k=>KD (k ())
 |.alloc _ k=>∀a,KD (k a)
 |.fresh k=>∀a,KD (k a)
 |.ask k=>∀a,KD (k a)
 |.handled _ k=>∀a,KD (k a)
 |.stack k=>∀a,KD (k a)
 |.thread k=>∀a,KD (k a)
 |_=>False
theorem KD.bind{β:Type}{f:α->Sem β}(hf:∀a,KD (f a)):∀{m:Sem α},KD m->KD (m.bind f):=by
 intro m
 induction m with
 |pure a=>exact λz=>hf a
 |raise e=>exact λz=>trivial
 |unsupported w=>exact λz=>trivial
 |rule t k ih=>exact λh=>ih () h
 | «at» t k ih=>exact λh=>ih () h
 |load a p k ih=>exact λh o=>ih o (h o)
 |loadIfAlive a k ih=>exact λh o=>ih o (h o)
 |update a p g k ih=>exact λh=>⟨h.1,ih () h.2⟩
 |point l k ih=>exact λh=>ih () h
 |alloc o k ih=>exact λh a=>ih a (h a)
 |fresh k ih=>exact λh a=>ih a (h a)
 |ask k ih=>exact λh a=>ih a (h a)
 |handled o k ih=>exact λh a=>ih a (h a)
 |stack k ih=>exact λh a=>ih a (h a)
 |thread k ih=>exact λh a=>ih a (h a)
 |_=>exact λh=>False.elim h
def DK(h h':Heap):Prop:=∀b o,h.get? b=some o->∃o',h'.get? b=some o'/\o'.dict=o.dict
def DK.refl(h:Heap):DK h h:=λz o e=>⟨o,e,rfl⟩
theorem DK.trans{h h1 h2:Heap}(a:DK h h1)(b:DK h1 h2):DK h h2:=λx o e=>by
 obtain⟨o1,e1,d1⟩:=a x o e;obtain⟨o2,e2,d2⟩:=b x o1 e1;exact⟨o2,e2,d2.trans d1⟩
def DK.kept{h h':Heap}(k:∀b o,h.get? b=some o->h'.get? b=some o):DK h h':=λb o e=>⟨o,k b o e,rfl⟩
def QmW{M:Model}{Γ:PySem.Ctx}{Q:α->Pos->Shared->Prop}{E:Value->Pos->Shared->Prop}:∀{t:Sem α} {p:Pos} {s:Shared} {h0:Heap},KD t->DK h0 s.heap->Sem.wp M Γ t Q E p s ->
  Sem.wp M Γ t (λa p' s'=>Q a p' s'/\DK h0 s'.heap) (λe p' s'=>E e p' s'/\DK h0 s'.heap) p s:=by
 intro t
 induction t with
 |pure a=>exact λz d q=>⟨q,d⟩
 |raise e=>exact λz d q=>⟨q,d⟩
 |unsupported w=>exact λz z q=>q
 |rule t k ih=>exact λh d q=>ih () h d q
 | «at» t k ih=>exact λh d q=>ih () h d q
 |load a p k ih=>
  intro p s h0 h d q;obtain⟨o,e,q⟩:=q;exact⟨o,e,ih o (h o) d q⟩
 |loadIfAlive a k ih=>exact λh d q=>ih _ (h _) d q
 |update a p g k ih=>
  intro p s h0 h d q;obtain⟨e,q⟩:=q;refine⟨e,ih () h.2 (d.trans λb o ho=>?_) q⟩;by_cases hb:b=a
  ·subst hb;exact⟨g o,V9 _ ho ((h.1 o).2 (Heap.get?_some_iff.mp ho).2),(h.1 o).1⟩
  ·exact⟨o,(Heap.get?_update_ne _ _ _ _ hb).trans ho,rfl⟩
 |point l k ih=>exact λh d q=>ih () h d q
 |alloc o k ih=>exact λh d q=>ih _ (h _) (d.trans (DK.kept λb o e=>Xb _ e)) q
 |fresh k ih=>exact λh d q=>ih _ (h _) d q
 |ask k ih=>exact λh d q=>ih _ (h _) d q
 |handled o k ih=>exact λh d q=>ih _ (h _) d q
 |stack k ih=>exact λh d q=>ih _ (h _) d q
 |thread k ih=>exact λh d q=>ih _ (h _) d q
 |_=>exact λh=>False.elim h
def Y6{M:Model}{A:Around}{t:Sem α}{Q:α->Shared->Prop}{E:Value->Shared->Prop}{s:Shared}(h:KD t)(q:wpAny M A t Q E s):
  wpAny M A t (λa s'=>Q a s'/\DK s.heap s'.heap) (λe s'=>E e s'/\DK s.heap s'.heap) s:=fun Γ p i=>QmW h (DK.refl _) (q Γ p i)
def Qkv{f:Array Value->Array Value}(o:Obj):(Obj.mapFields f o).dict=o.dict/\(o.isFreed=false->(Obj.mapFields f o).isFreed=false):=by
 obtain⟨c,d,dt,sl⟩:=o;cases dt<;>exact⟨rfl,λh=>h⟩
def KD.b{β:Type}{m:Sem α}{f:α->Sem β}(h:KD m)(hf:∀a,KD (f a)):KD (m >>= f):=KD.bind hf h
def QaT{a:Addr}:KD (load a):=λz=>trivial
def Yg{i:Nat}:KD (field e i):=by
 unfold field fieldsOf
 refine KD.b ?_ λvs=>by split<;>exact trivial
 split
 ·exact KD.b QaT λo=>by split<;>exact trivial
 ·exact trivial
def QdJ{i:Nat}{x:Value}:KD (setField e i x):=by
 unfold setField;split
 ·unfold updateField;refine KD.b QaT λo=>?_;split
  ·split
   ·exact⟨Qkv,trivial⟩
   ·exact trivial
  ·exact trivial
 ·exact trivial
def ZI{f:Option Addr}:KD (setFlight e f):=by
 unfold setFlight;refine KD.b Yg λtb=>?_;split
 ·exact QdJ
 ·exact trivial
theorem QbK:∀l:List Env,KD (readyFrames l)
 |[]=>trivial
 |env::outer=>by
  unfold readyFrames;split
  ·refine KD.b QaT λo=>?_;split
   ·exact trivial
   ·refine KD.b ?_ λim=>KD.b ?_ λback=>KD.b (show KD (update _ _)from⟨λo=>⟨rfl,by obtain⟨c,d,dt,sl⟩:=o;cases dt<;>exact λh=>h⟩,trivial⟩) λz=>QbK outer
    ·unfold behindIsImport
     repeat (first|exact trivial|exact KD.b Yg λz=>trivial|split|refine KD.b trivial λz=>?_)
    ·unfold keptBack;split
     ·split
      ·exact trivial
      ·unfold underTheClaimsCaller
       repeat (first|exact trivial|exact λz=>trivial|split|refine KD.b ?_ λz=>?_)
     ·exact trivial
  ·exact trivial
def Qfq:KD (PySem.frameOf env):=by
 unfold PySem.frameOf frameEnvs
 refine KD.b ?_ λl=>KD.b ?_ λo=>by split<;>exact trivial
 ·exact KD.b (λz=>trivial) λz=>trivial
 ·unfold frameObject;split
  ·exact trivial
  ·exact KD.b (QbK _) λz=>trivial
def QdK:KD (noteFrame e env):=by
 have place:∀{f:Addr} {b:Bool},KD (entryPlaceOf f b):=λ{f b}=>by
  unfold entryPlaceOf
  exact KD.b (λz=>trivial) λacts=>by split<;>exact trivial
 have fin:∀{hd:Value} {f:Addr},KD (do setField e 1 (<-EntryCells.newEntry hd (<-PySem.frameOf env) .none (rawInt f) .none (<-entryPlaceOf f (hd != .none)))):=λ{hd f}=>by
  refine KD.b Qfq λa=>KD.b place λpl=>KD.b ?_ λb=>QdJ;unfold EntryCells.newEntry newFields newObj newObjAsIs;dsimp only
  split<;>split<;>first|exact trivial|exact λz=>trivial|exact KD.b trivial λz=>KD.b (λz=>trivial) λz=>trivial
 unfold noteFrame;split
 ·refine KD.b Yg λhd=>?_;split
  ·refine KD.b Yg λfl=>?_;split
   ·exact trivial
   ·exact KD.b QdJ λz=>fin
  ·exact fin
 ·exact trivial
def QbL:KD (leaving env e):=by
 unfold leaving;exact KD.b QdK λz=>ZI
end L2
namespace L2
open PySem PySem.Spec PySem.W PyProof.Rows PySem.Calls PySem.Builtin PySem.Builtin.ObjectAttr PySem.Builtin.Getset_descriptor
variable {C a:Addr}{M:Model}
structure ErrCls(K:W.Frag)(C:Addr):Prop where
 ga:findIn K (.ref C) "__getattribute__"=some (some (.builtin "BaseException.__getattribute__"))
 gh:findIn K (.ref C) "__getattr__"=some none
 cl:findIn K (.ref C) "__class__"=some (some (.builtin "object.__class__"))
 gg:specialIn K (.builtin "object.__class__") "__get__"=some (some (.builtin "getset_descriptor.__get__"))
 tk:takesIn K (.builtin "object.__class__")=some true
 sb:subIn K (.ref C) (.type "BaseException")=some true
 so:subIn K (.ref C) (.type "object")=some true
 is:(clsIn K C).isSome=true
def YQ(a C:Addr)(dd:Option Addr)(h:Heap):Prop:=∃o vs,h.get? a=some o/\o.cls=.ref C/\o.data=.fields vs/\o.dict=dd
section
variable {prog:Program}{w:World}{A:Around}{E:Value->Shared->Prop}{K:W.Frag}{h:Heap}{g:Array GenState}{d:Drawn}{t:Nat}{os:OsState}{dd:Option Addr}
def Y8(p:YQ a C dd h):Looks M h (typeOf (.ref a)) (.ref C):=by
 obtain⟨o,vs,h1,h2,_⟩:=p;exact h2▸(Looks.ld h1).andThen .now
def QfC(Yyy:ErrCls K C)(X:K.In h):Looks M h (find (.ref a) (.ref C) "__class__") (.bind (.builtin "getset_descriptor.__get__") (.builtin "object.__class__")):=by
 have L1:=looks_findIn (M:=M) X Yyy.cl;have L2:Looks M h (getOf (some (.builtin "object.__class__"))) (some (.builtin "getset_descriptor.__get__")):=looks_specialIn X Yyy.gg
 have L3:Looks M h (dataDescriptor? (some (.builtin "object.__class__")) (some (.builtin "getset_descriptor.__get__"))) (some (.builtin "getset_descriptor.__get__",.builtin "object.__class__")):=by
  unfold dataDescriptor?;refine(looks_takesIn X Yyy.tk).andThen ?_;exact .now
 refine L1.andThen (L2.andThen (L3.andThen ?_));exact Looks.tag .now
def QaW{R:Result->Shared->Prop}(Yyy:ErrCls K C)(X:K.In h)(p:YQ a C dd h)(hq:R (.ok (.ret (.ref C))) ⟨h,g,d,t,os⟩):
  codeAny (model prog w) A (.call (.builtin "getset_descriptor.__get__") ⟨[.builtin "object.__class__",.ref a,.ref C],[]⟩) R ⟨h,g,d,t,os⟩:=by
 have L1:=looks_subIn (M:=model prog w) X Yyy.so;have L0:=Y8 (M:=model prog w) p;refine codeAny_call_builtin KF.slot_gs.plain KF.entry_gs (KF.slot_gs.check _ _ _ _ _ _ _ _ KF.type_class (KF.args_gs _ _ _) ?_);unfold Builtin.«getset_descriptor.__get__» descrGet;rw[dga_obj];refine Xa (Xi ?_);unfold descrGetter descrCheckInstance descrNameAndClass isInstance;simp only[KF.owner_class]
 repeat lk
 refine⟨Code.quiet_builtin _ (by decide +kernel),codeAny_builtin KF.entry_class ?_⟩
 unfold Builtin.«object.__class__» shownTypeOf
 repeat lk
 exact hq
def QdY{nameV:Value}{Q:Unit->Shared->Prop}(Yyy:ErrCls K C)(X:K.In h)(p:YQ a C dd h)(hq:Q () ⟨h,g,d,t,os⟩):wpAny M A (checkBuiltinCall "BaseException.__getattribute__" ⟨[.ref a,nameV],[]⟩) Q E ⟨h,g,d,t,os⟩:=by
 have hk:builtinKind "BaseException.__getattribute__"=some .slot:=by decide +kernel
 have hsplit:splitId "BaseException.__getattribute__"=some ("BaseException","__getattribute__"):=by decide +kernel
 have ha:=PySem.F.args_bexc_ga (.ref a) nameV;have L2:Looks M h (isInstance (.ref a) (.type "BaseException")) true:=(Y8 p).andThen (looks_subIn X Yyy.sb);simp only[checkBuiltinCall,hk,hsplit];refine Xa (L2.at ?_)
 repeat (first|wp_step)
 exact hq
def QdW{tk:Tok}{Q:Fin->Shared->Prop}(Yyy:ErrCls K C)(X:K.In h)(p:YQ a C dd h)(hq:Q (.done (.ret (.ref C))) ⟨h,g,d,t,os⟩):
  wpAny (model prog w) A (Builtin.«object.__getattribute__» ⟨[.ref a,.str "__class__" tk],[]⟩) Q E ⟨h,g,d,t,os⟩:=by
 have L0:=Y8 (M:=model prog w) p;have L1:=QfC (M:=model prog w) (a:=a) Yyy X;unfold Builtin.«object.__getattribute__»;refine Xa (Xi (Xa (Xi (Xa (L0.at (Xa (L1.at ?_)))))));show wpAny _ _ (holding [_] (call (.builtin "getset_descriptor.__get__") [.builtin "object.__class__",.ref a,.ref C]) >>= ret) _ _ _;exact Xa (V2 (Ut (QaW Yyy X p (Xi hq))))
def QdX{Q:Option Value->Shared->Prop}(Yyy:ErrCls K C)(X:K.In h)(p:YQ a C dd h)(hq:Q (some (.ref C)) ⟨h,g,d,t+1,os⟩):
  wpAny (model prog w) A (getAttr? (.ref a) "__class__") Q E ⟨h,g,d,t,os⟩:=by
 have L0:=Y8 (M:=model prog w) p;have L1:=looks_findIn (M:=model prog w) X Yyy.ga;have L2:=looks_findIn (M:=model prog w) X Yyy.gh;unfold getAttr? getAttrBy? getAttrBy;refine Xa (wpAny_mkText (Xa (Ug (V2 (Xa (L0.at (Xa (L1.at ?_))))))));dsimp only
 have hne:¬(onTheHeap (Value.ref C)&&Value.builtin "BaseException.__getattribute__"==Value.builtin "object.__getattribute__")=true:=by
  rw[show(Value.builtin "BaseException.__getattribute__"==Value.builtin "object.__getattribute__")=false from by decide +kernel]
  simp
 rw[if_neg hne];unfold getAttrByItsOwn hookBefore;refine Xa ?_;rw[if_pos (show onTheHeap (Value.ref C)=true from rfl)];refine L2.at ?_;refine Xa (Ug (V2 ?_));have f3:=PySem.F.attrBase_ValueError.ga.bind (.ref a);show wpAny _ _ (boundAndCalled (.builtin "BaseException.__getattribute__") (.ref a) _) _ _ _;unfold boundAndCalled;refine Xa (wpAny_of_eq f3 ?_);refine Ut ?_;refine codeAny_call_builtin PySem.F.attrBase_ValueError.ga.plain PySem.F.entry_bexc_ga (QdY Yyy X p (QdW Yyy X p ?_));show wpAny _ _ (handedOut _) _ _ _;exact Xi (Xi hq)
def Qfp(Yyy:ErrCls K C):KitX K (.ref a) (.ref C) (YQ a C dd) where
 ty:=λy y y p=>Y8 p
 it:=λy y X y=>by
  obtain⟨cdD,hcD⟩:=W7.mp Yyy.is;unfold clsIn at hcD;split at hcD
  ·rename_i c' d' cd' sl' ho;intro A' Q' E' s' k q;unfold isType loadHead;exact Xa (wpAny_loadPart (k _ _ (X _ _ ho)) (Xi q))
  ·cases hcD
 ne:=λh tp dd its n sl X htp=>by
  obtain⟨cdD,hcD⟩:=W7.mp Yyy.is;refine Bool.eq_false_iff.mpr λq=>?_;have e:C=tp:=Value.ref.inj (We.mp q);subst e;unfold clsIn at hcD;split at hcD
  ·rename_i c' d' cd' sl' ho;have z:=(X _ _ ho).symm.trans htp;cases z
  ·cases hcD
 ca:=λ{_ _ _ _ _ s} X p k=>by
  obtain⟨h,g,d,t,os⟩:=s;exact QdX Yyy X p k
end
noncomputable def QeC(a C:Addr)(dd:Option Addr):HO:=.ext (YQ a C dd)
def QkI{P:Program}{w:World}{H:Hp}{h:Heap}{dd:Option Addr}(p:YQ a C dd h):ObjOk P w H h a (QeC a C dd):=by
 refine⟨p,?_,λh1 h2 q k=>?_⟩
 ·obtain⟨o,_,e,_⟩:=p;exact⟨o,e⟩
 ·obtain⟨o,vs,e,r⟩:=q;exact⟨o,vs,k o e,r⟩
def QfD{X:Cx}{pins:List (Addr×Obj)}{Y:St}{H:Hp}{s:Shared}{dd:Option Addr}(I:Inv X pins Y H s)(e:H a=some (QeC a C dd)):YQ a C dd s.heap :=
 (show ObjOk X.prog X.w H s.heap a (.ext (YQ a C dd))from I.hok a _ e).1
def Qed{X:Cx}: CallR X (.builtin "isinstance") (λxs H Q=>∃a c cv C dd b,xs=[.ref a,c]/\(match c with|.ty n=>some (Value.type n)|.ref r=>some (.ref r)|_=>none)= some cv/\H a=some (QeC a C dd)/\ErrCls X.K C/\W.kitOne X.K (.ref C) cv=some b/\Q (.bl b) H):= by
 intro pins s Y H xs us Q I r h;obtain⟨a,c,cv,C,dd,b,rfl,hc,ha,Yyy,e,q⟩:=h;obtain⟨u,w',rfl,rx,rc⟩:=QgM r;cases(show u=Value.ref a from rx)
 have ec:w'=cv:=by
  cases c with
  |ty n=>cases(show w'=Value.type n from rc);exact Xn hc
  |ref r0=>cases(show w'=Value.ref r0 from rc);exact Xn hc
  |_=>cases hc
 subst ec;exact Vr (Qfp Yyy) I.kIn (QfD I ha) e (λz=>nomatch z) λtk=>⟨.bl b,H,I.tok tk,rfl,q⟩
end L2
namespace L2
open PySem PySem.Spec PySem.W PyProof.Rows
section
variable {L:Addr}{h':Heap}{H:Hp}{E2:Value->Shared->Prop}
structure Cov(B:Heap)(H:Hp)(s:Shared)(l:List Env):Prop where
 trk:∀b u,H b=some u->∃o,B.get? b=some o
 old:∀b o,s.heap.get? b=some o->b∉frs l->∃o',B.get? b=some o'
def DictAt(h:Heap)(a:Addr)(dd:Option Addr):Prop:=∃o,h.get? a=some o/\o.dict=dd
def DictAt.dk{h:Heap}{a:Addr}{dd:Option Addr}(d:DictAt h a dd)(k:DK h h'):DictAt h' a dd:=by
 obtain⟨o,e,q⟩:=d;obtain⟨o',e',q'⟩:=k a o e;exact⟨o',e',q'.trans q⟩
noncomputable def CXw(P:Program)(w:World):CXT:=λouter H s E e s'=>∃a C H' B a0 dd,e=.ref a/\s'.os=s.os/\AllBare s'.gens/\Un (frs outer) [] H H' s.heap s'.heap/\HOk P w H' s'.heap /\
 Heap.FlyingW B outer a (.ref C) a0 s'.heap/\Cov B H' s outer/\H' a=none/\s.heap.get? a=none/\DictAt s'.heap a dd/\E (.ref C) dd H'
def ObjOk.there{P:Program}{w:World}{h:Heap}{a:Addr}{o:HO}(x:ObjOk P w H h a o):∃u,h.get? a=some u:=by
 cases o with
 |lst xs=>obtain⟨_,_,_,_,e⟩:=x;exact⟨_,e⟩
 |tup xs=>obtain⟨_,_,_,_,e,_⟩:=x;exact⟨_,e⟩
 |dK kvs=>obtain⟨_,_,_,_,o,_,_,e,_⟩:=x;exact⟨_,e⟩
 |dT kvs=>obtain⟨_,_,_,_,o,_,_,e,_⟩:=x;exact⟨_,e⟩
 |set S n=>obtain⟨o,_,_,_,e,_⟩:=x;exact⟨_,e⟩
 |ins C dx fs=>obtain⟨_,_,_,e,_⟩:=x;exact⟨_,e⟩
 |own y=>obtain⟨_,e⟩:=x;exact⟨_,e⟩
 |xd fs=>obtain⟨_,⟨_,_,_,e,_⟩,_⟩:=x;exact⟨_,e⟩
 |rng lo hi=>obtain⟨_,_,_,e⟩:=x;exact⟨_,e⟩
 |frz ob u=>obtain⟨e,_⟩:=x;exact⟨_,e⟩
 |tbl ps=>exact⟨_,(show h.get? a=some _ from x)⟩
 |met f y=>exact⟨_,(show h.get? a=some _ from x)⟩
 |ext φ=>obtain⟨_,⟨_,e⟩,_⟩:=x;exact⟨_,e⟩
def QcR{P:Program}{w:World}{l:List Env}{H':Hp}{s:Shared}{h1 h2 B base:Heap}(un:Un (frs l) [] H H' s.heap h1)(hok:HOk P w H' h1)(ff:s.heap.FunFrames base l)(fr:∀b∈frs l,H b=none)
  (st1:B.StaysIn h1) (st2:B.StaysIn h2) (up:h1.UpToSlots h2) (cv:Cov B H' s l):Un (frs l) [] H H' s.heap h2/\HOk P w H' h2:=by
 have fsl:∀b o,s.heap.get? b=some o->b∈frs l->∃sl,h2.get? b=some {o with slots:=sl}:=λb o q hb=>by
  obtain⟨sl,e⟩:=un.slot b o q (fr b hb) hb (by simp)
  obtain⟨_,o2,ho2,hd⟩:=ff.mem hb;rw[q]at ho2;cases ho2;obtain⟨sl',e'⟩:=up b _ e hd;exact⟨sl',e'⟩
 refine⟨⟨λb o q n hb hx=>?_,λb o q n hb hx=>fsl b o q hb,un.free,λb o q hx=>?_,un.tups,un.frzs,un.tbls⟩,λa o e=>?_⟩
 ·have e1:=un.keep b o q n hb hx;obtain⟨o',e2⟩:=cv.old b o q hb;have e3:=st1 b o' e2;rw[e1]at e3;cases e3;exact st2 b _ e2
 ·by_cases hb:b∈frs l
  ·obtain⟨sl,e⟩:=fsl b o q hb;exact⟨_,e⟩
  ·obtain⟨o',e2⟩:=cv.old b o q hb;exact⟨o',st2 b _ e2⟩
 ·refine(hok a o e).stay (λb u hb q=>?_) (λy z=>z) λy y z=>z
  have ht:∃x,H' b=some x:=by
   rcases hb with rfl|z
   ·exact⟨_,e⟩
   ·exact⟨_,z⟩
  obtain⟨x,hx⟩:=ht;obtain⟨o',e2⟩:=cv.trk b x hx;have e3:=st1 b o' e2;rw[q]at e3;cases e3;exact st2 b _ e2
section
variable {X:Cx}{pins:List (Addr×Obj)}{Y:St}{H':Hp}{s s':Shared}{e C:Addr}{dd:Option Addr}{B:Heap}{a0:Value}{E:XK}
def Cov.up(I:Inv X pins Y H s)(hex:X.ex=[])(cv:Cov B H' s X.stack):Cov B H' X.s₀ X.outer:=by
 refine⟨cv.trk,λb o q hb=>?_⟩
 obtain⟨o',e⟩:=I.base.there b o q (by rw[hex];simp)
 refine cv.old b o' e λz=>?_
 rcases Xm.mp (I.stkSub b z)with z|z
 ·exact X4 (Xu (Xl q) I.ok.above) z
 ·exact hb z
def QdF(hst:X.stack=X.env::X.outer)(hf:X.env.frame=some L)(hex:X.ex=[])(J:Inv X pins Y H' s')(fl:Heap.FlyingW B X.stack e (.ref C) a0 s'.heap)(cv:Cov B H' X.s₀ X.outer)
  (hn:H' e=none) (hsz:X.s₀.heap.get? e=none) (da:DictAt s'.heap e dd) (hE:E (.ref C) dd H'):wpAny (model X.prog X.w) X.A (leaving X.env (.ref e)) (λy s''=>CXw X.prog X.w X.outer X.H₀ X.s₀ E (.ref e) s'') E2 s':=by
 rw[hst]at fl;refine Xz (Y6 (E:=λy y=>False) QbL (wpAny_leaves_onW (Q:=λy s''=>Heap.FlyingW B X.outer e (.ref C) a0 s''.heap/\s'.heap.UpToSlots s''.heap/\s''.os=s'.os/\s''.gens=s'.gens) (hst▸J.ok.frames) hf fl λh' fl' up=>⟨fl',up,rfl,rfl⟩)) (λy s'' x=>?_) λy y z=>z.1.elim;obtain⟨⟨fl',up,eo,eg⟩,dk⟩:=x;have b:=J.base;rw[hex]at b;obtain⟨un,hok⟩:=QcR b J.hok J.ok.funs J.ok.frf fl.1 fl'.1 up cv;exact⟨e,C,H',B,a0,dd,rfl,eo.trans J.os,eg▸J.bare,un,hok,fl',cv,hn,hsz,da.dk dk,hE⟩
def YA{oe:Obj}{vs:Array Value}(hst:X.stack=X.env::X.outer)(hf:X.env.frame=some L)(hex:X.ex=[])(I:Inv X pins Y H s)(hn:H e=none)(h0:X.s₀.heap.get? e=none)(hl:e≠X.env.locals)
  (he:s.heap.get? e=some oe) (hc:oe.cls=.ref C) (hd:oe.data=.fields vs) (v0:vs[0]?=some a0) (v1:vs[1]?=some .none) (hE:E (.ref C) oe.dict H):
  wpAny (model X.prog X.w) X.A (leaving X.env (.ref e)) (λy s''=>CXw X.prog X.w X.outer X.H₀ X.s₀ E (.ref e) s'') E2 s:=by
 have nf:e∉frs X.stack:=λz=>by
  rcases Xm.mp (I.stkSub e z)with z|z
  ·exact hl z
  ·obtain⟨_,o,ho,_⟩:=I.ok.funs.mem z;rw[h0]at ho;cases ho
 generalize hB:hideAll s.heap (e::frs X.stack)=B;have stB:B.StaysIn s.heap:=λb o q=>of_hideAll _ (hB▸q);have ff:s.heap.FunFrames B X.stack:=hB▸funFrames_hide I.stack λenv hm a ha=>Xk _ (To.mpr ⟨env,hm,ha⟩);have eB:B.get? e=none:=hB▸hideAll_none _ (Xo ..)
 have cv:Cov B H X.s₀ X.outer:=by
  refine⟨λb u q=>?_,λb o q hb=>?_⟩
  ·obtain⟨o,ho⟩:=(I.hok b u q).there;refine⟨o,hB▸hideAll_get _ ho λz=>?_⟩
   rcases Xm.mp z with rfl|z
   ·rw[hn]at q;cases q
   ·rw[I.stkFree b z]at q;cases q
  ·obtain⟨o',ho⟩:=I.base.there b o q (by rw[hex];simp)
   refine⟨o',hB▸hideAll_get _ ho λz=>?_⟩
   rcases Xm.mp z with rfl|z
   ·rw[h0]at q;cases q
   ·rcases Xm.mp (I.stkSub b z)with z|z
    ·exact X4 (Xu (Xl q) I.ok.above) z
    ·exact hb z
 refine Xz (Y6 (E:=λy y=>False) QbL (wpAny_leaving_firstW (base:=B) (Q:=λy s''=>Heap.FlyingW B X.outer e (.ref C) a0 s''.heap/\s.heap.UpToSlots s''.heap/\s''.os=s.os/\s''.gens=s.gens) (hst▸I.ok.frames) (hst▸ff) hf he stB eB hd v1 v0 λh' x=>by obtain⟨k1,⟨_,_,k2⟩,k3,k4⟩:=x;exact⟨⟨k1,eB,k2,hc▸k3⟩,k4,rfl,rfl⟩)) (λy s'' v=>?_) λy y z=>z.1.elim;obtain⟨⟨fl',up,eo,eg⟩,dk⟩:=v;have b:=I.base;rw[hex]at b;obtain⟨un,hok⟩:=QcR b I.hok I.ok.funs I.ok.frf stB fl'.1 up cv;exact⟨e,C,H,B,a0,oe.dict,rfl,eo.trans I.os,eg▸I.bare,un,hok,fl',cv,hn,h0,DictAt.dk ⟨oe,he,rfl⟩ dk,hE⟩
def Qcn{vs:List Value}(hst:X.stack=X.env::X.outer)(hf:X.env.frame=some L)(hex:X.ex=[])(I:Inv X pins Y H s)(hx:Heap.MadeExcOf s.heap h' e (.ref C) vs)(hE:E (.ref C) none H):
  wpAny (model X.prog X.w) X.A (leaving X.env (.ref e)) (λy s''=>CXw X.prog X.w X.outer X.H₀ X.s₀ E (.ref e) s'') E2 {s with heap:=h'}:=by
 have hn:H e=none:=by
  cases q:H e with
  |none=>rfl
  |some u=>
   obtain⟨o,ho⟩:=(I.hok e u q).there;rw[hx.new]at ho;cases ho
 have h0:X.s₀.heap.get? e=none:=by
  cases q:X.s₀.heap.get? e with
  |none=>rfl
  |some o=>
   obtain⟨o',ho⟩:=I.base.there e o q (by rw[hex];simp)
   rw[hx.new]at ho;cases ho
 obtain⟨t,he,_,_⟩:=hx.there;refine YA hst hf hex (I.kept (t':=s.toks) hx.keeps) hn h0 (λz=>?_) he rfl rfl rfl rfl hE;obtain⟨m,⟨o,_,_,ho,_⟩,_⟩:=I.loc;rw[<-z,hx.new]at ho;cases ho
def QkG(I:Inv X pins Y H s)(hex:X.ex=[]){v:Value}(h:CXw X.prog X.w X.stack H s E v s'):∃e C H' B a0 dd,v=.ref e/\Inv X pins Y H' s'/\Heap.FlyingW B X.stack e (.ref C) a0 s'.heap/\Cov B H' s X.stack/\H' e=none/\s.heap.get? e=none/\X.s₀.heap.get? e=none/\DictAt s'.heap e dd/\E (.ref C) dd H':=by
 obtain⟨a,C,H',B,a0,dd,e,os,bare,un,hok,fl,cv,hn,hs,da,hE⟩:=h
 refine⟨a,C,H',B,a0,dd,e,I.call' (ch:=[]) os un hok bare (λb z=>absurd z (by simp)),fl,cv,hn,hs,?_,da,hE⟩
 cases q:X.s₀.heap.get? a with
 |none=>rfl
 |some o=>
  obtain⟨o',ho⟩:=I.base.there a o q (by rw[hex];simp)
  rw[hs]at ho;cases ho
def Inv.adopt{ho:HO}(I:Inv X pins Y H s)(hn:H e=none)(h0:X.s₀.heap.get? e=none)(hL:e≠X.env.locals)(hC:∀x c,X.env.cells.lookup x=some c->c≠e)(hp:∀p∈X.pn++pins,p.1≠e)
  (new:ObjOk X.prog X.w (upd H e ho) s.heap e ho):Inv X pins Y (upd H e ho) s:=by
 have ne:∀b u,H b=some u->b≠e:=λb u q z=>by rw[z,hn]at q;cases q
 refine⟨I.ok,I.os,I.bare,⟨I.base.keep,I.base.slot,λb o q n hx=>?_,I.base.there,λb xs q=>?_,λb o u q=>?_,λb ps q=>?_⟩,I.loc,I.cell,?_,λx c q=>?_,λp hp'=>?_,λb u q=>?_,I.len⟩
 ·have hb:b≠e:=λz=>by rw[z,h0]at q;cases q
  rw[Qe hb];exact I.base.free b o q n hx
 ·have z:=I.base.tups b xs q;rw[Qe (ne _ _ z)];exact z
 ·have z:=I.base.frzs b o u q;rw[Qe (ne _ _ z)];exact z
 ·obtain⟨m,z⟩:=I.base.tbls b ps q
  exact⟨m,by rw[Qe (ne _ _ z)];exact z⟩
 ·rw[Qe (Wy hL)];exact I.free
 ·rw[Qe (hC x c q)];exact I.freeC x c q
 ·obtain⟨a1,a2,a3⟩:=I.pin p hp'
  exact⟨a1,by rw[Qe (hp p hp')];exact a2,a3⟩
 ·by_cases hb:b=e
  ·subst hb;rw[Qp]at q;cases q;exact new
  ·rw[Qe hb]at q
   exact(I.hok b u q).stay (λc v y r=>r) (λc r=>by rw[Qe (ne _ _ r)];exact r) λc xs r=>by rw[Qe (ne _ _ r)];exact r
def Inv.gone{n:Str}{j t:Nat}{m:Str->Option Value}{v:Option Value}(I:Inv X pins Y H s)(hN:X.N.Nodup)(hj:X.N[j]?=some n)(hk:X.env.scope.names.lookup n=some .local)(hm:s.heap.Ns X.env.locals m)
  (hn:h'.Ns X.env.locals (λx=>if x=n then v else m x)) (hs:Heap.SameBut X.env.locals s.heap h'):Inv X pins (Y.set j none) H {s with heap:=h',toks:=t}:=by
 obtain⟨m0,hm0,hl⟩:=id I.loc;obtain⟨oL,_,_,hoL,_⟩:=id hm
 have em:∀x,m0 x=m x:=λx=>by
  obtain⟨o1,es1,ep1,a1,a2,a3,a4⟩:=hm0;obtain⟨o2,es2,ep2,b1,b2,b3,b4⟩:=hm;rw[a1]at b1;cases b1;rw[a2]at b2;cases b2;rw[<-a4,<-b4]
 refine⟨I.ok,I.os,I.bare,⟨λb o e n hb hx=>?_,λb o e n hb hx=>?_,I.base.free,λb o e hx=>?_,I.base.tups,I.base.frzs,I.base.tbls⟩,⟨_,hn,λi y v' e1 e2 e3=>?_⟩,λy c e=>?_,I.free,I.freeC,λp hp=>?_,λb ob e=>?_,by simpa using I.len⟩
 ·exact(hs.2 b (X4 (Xu (Xl e) I.ok.above))).trans (I.base.keep b o e n hb hx)
 ·obtain⟨sl,e1⟩:=I.base.slot b o e n hb hx;exact⟨sl,(hs.2 b (X4 (Xu (Xl e) I.ok.above))).trans e1⟩
 ·obtain⟨o',e1⟩:=I.base.there b o e hx;exact⟨o',(hs.2 b (X4 (Xu (Xl e) I.ok.above))).trans e1⟩
 ·have hij:i≠j:=λz=>by
   subst z
   have l:i < Y.length:=by rw[I.len];exact(Xf.mp hj).1
   rw[Wd l]at e2;cases e2
  rw[X8 (Wy hij)]at e2;obtain⟨u',r',q⟩:=hl i y v' e1 e2 e3;refine⟨u',r',?_⟩
  rcases q with⟨k,e⟩|⟨k,c,e,z⟩
  ·refine .inl ⟨k,?_⟩;have:y≠n:=λe=>hij (Jn hN e1 (e▸hj));simp[this,<-em,e]
  ·exact .inr ⟨k,c,e,z.sameBut hs (I.cne y c e)⟩
 ·obtain⟨w',z⟩:=I.cell y c e;exact⟨w',z.sameBut hs (I.cne y c e)⟩
 ·obtain⟨e,n,ne,nf,d⟩:=I.pin p hp;exact⟨(hs.2 p.1 ne).trans e,n,ne,nf,d⟩
 ·refine(I.hok b ob e).stay (λc w' hc q=>(hs.2 c ?_).trans q) (λw q=>q) λw w q=>q;rintro rfl
  rcases hc with hc|hc
  ·rw[<-hc,I.free]at e;cases e
  ·rw[I.free]at hc;cases hc
end
end
section
variable {C:Addr}{body:List Stmt}
def QdT{K:W.Frag}{h:Heap}{bmB:List Value}{newId:String}(X:K.In h)(q:excIn K C bmB newId=true):
  ∃bm N nm q bs hdct sn sub ab col dd k0 k1 k2 k3 k5 mN,h.get? C=some (excClassObj nm q C N bs bm hdct sn sub ab col dd k0 k1 k2 k3 k5 newId)/\h.Ns N mN/\mN "__init__"=none/\OwnTail h bmB bm:=by
 unfold excIn at q;split at q
 ·rename_i dd cd sl ho;split at q
  ·rename_i C' bm k0 k1 k2 k3 n k5 hm hs;simp only[Xg,We,Vw]at q;obtain⟨⟨⟨⟨⟨rfl,rfl⟩,hdel⟩,ht⟩,hok⟩,hni⟩:=q;obtain⟨nm,bs,mro,ns,qn,hd,sn,sub,ab,col,del⟩:=cd;dsimp only at hm hdel hok hni;subst hm hdel
   have hsl:sl=#[k0,k1,k2,k3,some (.builtin n),k5]:=by
    obtain⟨l⟩:=sl;simp only at hs;rw[hs]
   subst hsl;exact⟨bm,ns,nm,qn,bs,hd,sn,sub,ab,col,dd,k0,k1,k2,k3,k5,_,X _ _ ho,.of_isNs (isNs_of_in X hok),nsMap_none_of_in X hok hni,tail_of_in X ht⟩
  ·cases q
 ·cases q
noncomputable def Qaw:List Value:=[.type "ValueError",.type "Exception",.type "BaseException",.type "object"]
section
variable {X:Cx}{x:Str}{np cpos pos:Pos}{t:TA}{W:Hp->Prop}
def Qjr(t:TA)(W:Hp->Prop):TS:=λz Y H=>t Y H λvs H1=>vs.length<=sizeLine/\W H1
def Qe2{e₀:Expr}{rest:List Expr}(q:excIn X.K C Qaw "ValueError.__new__"=true)(hg:Gl X x)(hm:X.mg x=some (.ref C))(hc:X.calm=true)(ha:PA X (e₀::rest) t)
  (hw:∀pins Y H s h' e vs,Inv X pins Y H s->Heap.MadeExcOf s.heap h' e (.ref C) vs->W H->X.xe (.ref e) {s with heap:=h'})
  (he:starEach (e₀::rest) X.env=(false,eval e₀ X.env)::starEach rest X.env) (hpl:(backTo cpos (starEach rest X.env)).any (·.1)=false) (hdb:(x==("__debug__":Str))=false):
  PS X (.Raise (some (.Call (.Name x np) (e₀::rest) [] cpos)) none pos) (Qjr t W):=by
 intro pins s Y H D I h;obtain⟨tl,N,nm,qn,bs,hdct,sn,sub,ab,col,dd,k0,k1,k2,k3,k5,mN,hC,hN,hni,T⟩:=QdT I.ok.mod.kin q
 refine wpAny_Raise_call_subT (C:=C) (nm:=nm) (q:=qn) (N:=N) (bs:=bs) (bm:=tl) (hdct:=hdct) (sn:=sn) (sub:=sub) (ab:=ab) (col:=col) (dd:=dd) (k0:=k0) (k1:=k1) (k2:=k2) (k3:=k3) (k5:=k5)
  Vt (mN:=mN) (T.hasType Vt.hasBase) (I.ok.hd hc) (by rw[he];show(false||(backTo cpos (starEach rest X.env)).any (·.1))=false;rw[hpl];rfl) hni (Zi I hg hm ⟨rfl,?_⟩ hdb)
 have h':=ha cpos pins s Y H _ I h;rw[he]at h' ⊢;refine Calls.evalArgs_plain (Xz h' (λus s₂ z=>?_) λv v y=>y);obtain⟨vs,H1,I1,r,l,w⟩:=z
 exact⟨rfl,by rw[<-r.length];exact l,I1.bk _ _ hC,hN.keeps I1.bk,T.keeps I1.bk,λh' e mx=>hw pins Y H1 s₂ h' e us I1 mx w⟩
def Qdd(q:excIn X.K C Qaw "ValueError.__new__"=true)(hg:Gl X x)(hm:X.mg x=some (.ref C))(hc:X.calm=true)
  (hw:∀pins Y H s h' e vs,Inv X pins Y H s->Heap.MadeExcOf s.heap h' e (.ref C) vs->W H->X.xe (.ref e) {s with heap:=h'}) (hdb:(x==("__debug__":Str))=false):
  PS X (.Raise (some (.Call (.Name x np) [] [] cpos)) none pos) (λz z H=>W H):=by
 intro pins s Y H D I h;obtain⟨tl,N,nm,qn,bs,hdct,sn,sub,ab,col,dd,k0,k1,k2,k3,k5,mN,hC,hN,hni,T⟩:=QdT I.ok.mod.kin q
 refine wpAny_Raise_call_subT (C:=C) (nm:=nm) (q:=qn) (N:=N) (bs:=bs) (bm:=tl) (hdct:=hdct) (sn:=sn) (sub:=sub) (ab:=ab) (col:=col) (dd:=dd) (k0:=k0) (k1:=k1) (k2:=k2) (k3:=k3) (k5:=k5)
  Vt (mN:=mN) (T.hasType Vt.hasBase) (I.ok.hd hc) rfl hni (Zi I hg hm ⟨rfl,?_⟩ hdb)
 exact evalArgs_empty ⟨rfl,Wq _,I.bk _ _ hC,hN.keeps I.bk,T.keeps I.bk,λh' e mx=>hw pins Y H s h' e [] I mx h⟩
end
section
variable {X:Cx}{pins:List (Addr×Obj)}{Y:St}{H H':Hp}{s s':Shared}{e C':Addr}{dd:Option Addr}{B:Heap}{a0:Value}{x n y:Str}{j:Nat}{np pn pos:Pos}{Q:Flow->Shared->Prop}{E:Value->Shared->Prop}
noncomputable def Cx.hd(X:Cx)(v:Value):Cx:={X with A:=X.A.mark (some v),calm:=false}
theorem Inv.hd{v:Value}(I:Inv X pins Y H s):Inv (X.hd v) pins Y H s :=
 ⟨⟨I.ok.mod,I.ok.kind,I.ok.glob,I.ok.blt,I.ok.above,I.ok.inj,I.ok.has,I.ok.cab,(λz=>nomatch z),I.ok.frames,I.ok.stk,I.ok.exf,I.ok.bs,I.ok.bsz,I.ok.noex,I.ok.exfs,I.ok.funs,I.ok.frf⟩,I.os,I.bare,I.base,I.loc,I.cell,I.free,I.freeC,I.pin,I.hok,I.len⟩
def Inv.unhd{v:Value}(ok:X.Ok)(I:Inv (X.hd v) pins Y H s):Inv X pins Y H s:=⟨ok,I.os,I.bare,I.base,I.loc,I.cell,I.free,I.freeC,I.pin,I.hok,I.len⟩
structure Met(X:Cx)(pins:List (Addr×Obj))(Y:St)(H H':Hp)(s s':Shared)(e C:Addr)(dd:Option Addr)(B:Heap)(a0:Value):Prop where
 I:Inv X pins Y H s
 os:s'.os=s.os
 bare:AllBare s'.gens
 un:Un (frs X.stack) [] H H' s.heap s'.heap
 hok:HOk X.prog X.w H' s'.heap
 fl:Heap.FlyingW B X.stack e (.ref C) a0 s'.heap
 cv:Cov B H' s X.stack
 hn:H' e=none
 hs0:s.heap.get? e=none
 h00:X.s₀.heap.get? e=none
 da:DictAt s'.heap e dd
def Met.at(M:Met X pins Y H H' s s' e C dd B a0){h2:Heap}(f2:Heap.FlyingW B X.stack e (.ref C) a0 h2)(up:s'.heap.UpToSlots h2)(tk:Nat):Inv X pins Y H' {s' with heap:=h2,toks:=tk}:=by
 obtain⟨un2,hok2⟩:=QcR M.un M.hok M.I.stack M.I.stkFree M.fl.1 f2.1 up M.cv
 exact M.I.call' (s':={s' with heap:=h2,toks:=tk}) (ch:=[]) M.os un2 hok2 M.bare (λb z=>absurd z (by simp))
def Qgm{h:Heap}{l:List Env}(f:Heap.FlyingW B l e (.ref C) a0 h)(d:DictAt h e dd):YQ e C dd h:=by
 obtain⟨_,_,_,oe,vs,T,oT,ts,he,hc,hd,_⟩:=f;obtain⟨o,e1,e2⟩:=d;cases he.symm.trans e1;exact⟨oe,vs,he,hc.1,hd,e2⟩
def QbI{nm:Option Str}(hst:X.stack=X.env::X.outer)(hf:X.env.frame=some X.env.locals)(M:Met X pins Y H H' s s' e C dd B a0)
  (hg:Gl X x) (hm:X.mg x=some (.ref C')) (hx:exmOne X.K (.ref C) (.ref C')=some true) (hdb:(x==("__debug__":Str))=false)
  (k:∀h₅,Heap.FlyingW B (X.env::X.outer) e (.ref C) a0 h₅->s'.heap.UpToSlots h₅->DictAt h₅ e dd->codeAny (model X.prog X.w) (X.A.mark (some (.ref e))) (.handlers (.ref e) [.ExceptHandler none nm body pos] X.env) (λr s₂=>match r with
     |.ok f=>(match nm with
      |none=>Q f s₂
      |some n=>wpAny (model X.prog X.w) X.A (do bindName X.env n .none;unbindBehindTheSuite X.env n pos) (λv s₃=>Q f s₃) E s₂)
     |.error y=>cameBackBy (model X.prog X.w) X.A X.env E y s₂) {s' with heap:=h₅}):
  wpAny (model X.prog X.w) X.A (noteFrame (.ref e) X.env) (λv s₂=>wpAny (model X.prog X.w) X.A (setFlight (.ref e) none) (λv s₃=>
   wpAny (model X.prog X.w) X.A (handleBy (.ref e) X.env [.ExceptHandler (some (.Name x np)) nm body pos]) Q E s₃) E s₂) E s':=by
 have fl:=M.fl;rw[hst]at fl;refine Xz (Y6 (E:=λv v=>False) QdK (wpAny_looks_onW (Q:=λv s''=>∃h₄,s''={s' with heap:=h₄}/\Heap.HeldW B (X.env::X.outer) e (.ref C) a0 X.env.locals h₄/\s'.heap.UpToSlots h₄) (hst▸M.I.ok.frames) hf fl λh₄ x y=>⟨h₄,rfl,x,y⟩)) (λv s4 u=>?_) λv v z=>z.1.elim;obtain⟨⟨h₄,e4,hl₄,up₄⟩,dk₄⟩:=u;subst e4;refine Xz (Y6 (E:=λv v=>False) ZI (wpAny_landsW (s:={s' with heap:=h₄}) (Q:=λv s''=>∃h₅,s''={s' with heap:=h₅}/\Heap.FlyingW B (X.env::X.outer) e (.ref C) a0 h₅/\h₄.UpToSlots h₅) hl₄ λh₅ x y=>⟨h₅,rfl,x,y⟩)) (λv s5 t=>?_) λv v z=>z.1.elim;obtain⟨⟨h₅,e5,fl₅,up₅'⟩,dk₅⟩:=t;subst e5;have da₅:=(M.da.dk dk₄).dk dk₅;have up₅:=up₄.trans up₅';have J5:=M.at (hst▸fl₅) up₅ s'.toks
 refine wpAny_handleBy_cons (codeAny_handlers_test ?_) (by intro z;cases z)
 refine Uf M.I.ok.kind hg (Calls.loadGlobal_global (by rw[M.I.ok.glob];exact J5.mod.glob.keeps J5.bk) hm ?_) hdb
 refine(exm_one (M:=model X.prog X.w) J5.kIn (Y8 (Qgm fl₅ da₅)) hx).here ?_;exact k h₅ fl₅ up₅ da₅
def Qh1{b₀:Stmt}{W:St->Hp->Prop}(hst:X.stack=X.env::X.outer)(hf:X.env.frame=some X.env.locals)(M:Met X pins Y H H' s s' e C dd B a0)
  (hg:Gl X x) (hm:X.mg x=some (.ref C')) (hx:exmOne X.K (.ref C) (.ref C')=some true) (hdb:(x==("__debug__":Str))=false)
  (hS:∀s7,Inv (X.hd (.ref e)) pins Y H' s7->wpAny (model X.prog X.w) (X.hd (.ref e)).A (execs (b₀::body) X.env) (λf s8=>f=.next/\∃σ8 H8,Inv (X.hd (.ref e)) pins σ8 H8 s8/\W σ8 H8) (λv v=>False) s7)
  (k:∀σ8 H8 s'',W σ8 H8->Inv X pins σ8 H8 s''->Q .next s''):
  wpAny (model X.prog X.w) X.A (noteFrame (.ref e) X.env) (λv s₂=>wpAny (model X.prog X.w) X.A (setFlight (.ref e) none) (λv s₃=>
   wpAny (model X.prog X.w) X.A (handleBy (.ref e) X.env [.ExceptHandler (some (.Name x np)) none (b₀::body) pos]) Q E s₃) E s₂) E s':=by
 refine QbI hst hf M hg hm hx hdb λh₅ fl₅ up₅ da₅=>?_;refine codeAny_handlers_suite ?_;refine Xz (Y6 (E:=λv v=>False) ZI (lands_againW (s:={s' with heap:=h₅}) (Q:=λv s''=>∃h₆,s''={s' with heap:=h₆}/\Heap.FlyingW B (X.env::X.outer) e (.ref C) a0 h₆/\h₅.UpToSlots h₆) fl₅ λh₆ x y=>⟨h₆,rfl,x,y⟩)) (λv s6 u=>?_) λv v z=>z.1.elim;obtain⟨⟨h₆,e6,fl₆,up₆⟩,dk₆⟩:=u;subst e6;have da₆:=da₅.dk dk₆;have J6:=M.at (hst▸fl₆) (up₅.trans up₆) s'.toks;refine Xz (hS _ J6.hd) (λf s8 t=>?_) λv v z=>z.elim;obtain⟨ef,σ8,H8,J8,w⟩:=t;subst ef;exact k σ8 H8 s8 w (J8.unhd M.I.ok)
def Qh2{b₀:Stmt}{W:St->Hp->Prop}(hst:X.stack=X.env::X.outer)(hf:X.env.frame=some X.env.locals)(hN:X.N.Nodup)(M:Met X pins Y H H' s s' e C dd B a0)
  (hg:Gl X x) (hm:X.mg x=some (.ref C')) (hx:exmOne X.K (.ref C) (.ref C')=some true) (hdb:(x==("__debug__":Str))=false)
  (hj:X.N[j]?=some n) (kn:X.env.scope.names.lookup n=some .local)
  (hS:∀s7,Inv (X.hd (.ref e)) pins (Y.set j (some (.ref e))) (upd H' e (QeC e C dd)) s7->wpAny (model X.prog X.w) (X.hd (.ref e)).A (execs (b₀::body) X.env) (λf s8=>f=.next/\∃σ8 H8,Inv (X.hd (.ref e)) pins σ8 H8 s8/\W σ8 H8) (λu u=>False) s7)
  (k:∀σ8 H8 s'',W σ8 H8->Inv X pins (σ8.set j none) H8 s''->Q .next s''):
  wpAny (model X.prog X.w) X.A (noteFrame (.ref e) X.env) (λu s₂=>wpAny (model X.prog X.w) X.A (setFlight (.ref e) none) (λu s₃=>
   wpAny (model X.prog X.w) X.A (handleBy (.ref e) X.env [.ExceptHandler (some (.Name x np)) (some n) (b₀::body) pos]) Q E s₃) E s₂) E s':=by
 refine QbI hst hf M hg hm hx hdb λh₅ fl₅ up₅ da₅=>?_;refine codeAny_handlers_suite_as ?_;refine Xz (Y6 (E:=λu u=>False) ZI (lands_againW (s:={s' with heap:=h₅}) (Q:=λu s''=>∃h₆,s''={s' with heap:=h₆}/\Heap.FlyingW B (X.env::X.outer) e (.ref C) a0 h₆/\h₅.UpToSlots h₆) fl₅ λh₆ x y=>⟨h₆,rfl,x,y⟩)) (λu s6 r=>?_) λu u z=>z.1.elim;obtain⟨⟨h₆,e6,fl₆,up₆⟩,dk₆⟩:=r;subst e6;have da₆:=da₅.dk dk₆;have J6:=M.at (hst▸fl₆) (up₅.trans up₆) s'.toks;have I:=M.I;have hs0:=M.hs0
 have cne:∀z c,X.env.cells.lookup z=some c->c≠e:=λz c q w=>by
  obtain⟨v,o,ho,_⟩:=I.cell z c q;rw[w,hs0]at ho;cases ho
 have hL:e≠X.env.locals:=λw=>by
  obtain⟨m,⟨o,_,_,ho,_⟩,_⟩:=I.loc;rw[<-w,hs0]at ho;cases ho
 have hp:∀p∈X.pn++pins,p.1≠e:=λp q w=>by
  have:=(I.pin p q).1;rw[w,hs0]at this;cases this
 have J6':Inv X pins Y (upd H' e (QeC e C dd)) {s' with heap:=h₆}:=J6.adopt M.hn M.h00 hL cne hp (QkI (Qgm fl₆ da₆));refine Z8 (v:=.ref e) J6' hN hj (.inl kn) rfl (λs7 J7=>?_) (.inr kn);refine Xz (hS _ J7.hd) (λf s8 l=>?_) λu u z=>z.elim;obtain⟨ef,σ8,H8,J8,w⟩:=l;subst ef;have J8:=J8.unhd I.ok;obtain⟨m8,hn8,_⟩:=J8.loc
 refine wpAny_nameGoes_keeps kn hn8 (by rw[I.ok.kind];rfl) λh' v hv hs=>?_
 exact k σ8 H8 _ w (J8.gone (t:=s8.toks+1) hN hj kn hn8 hv hs)
end
end
section
section
open Builtin Builtin.ObjectAttr
end
end
end L2
namespace L2
open PySem PySem.Spec PySem.W PyProof.Rows PySem.Calls PySem.Builtin PySem.Builtin.ObjectAttr
end L2
namespace L2
open PySem PySem.Spec PySem.W PyProof.Rows
end L2
namespace L2
open PySem PySem.Spec PySem.W PyProof.Rows PySem.Calls PySem.Builtin
end L2
namespace L2
open PySem PySem.Spec PySem.W PyProof.Rows
end L2
namespace L2
open PySem
open Sem (wp)
open AutoSeq1 (wpAny_loadPart')
end L2
namespace L2
open PySem PySem.Spec PyProof.Rows
section
open Sem (wp)
end
end L2
namespace Iv
open PySem
section
inductive U where
 |non|bl (b:Bool)|int (i:Int) (m:Nat)|str (x:List Nat)|ref (n:Nat)|con (k:Nat)|scr
 deriving DecidableEq,Inhabited
noncomputable abbrev Er:=Nat×U
inductive O where
 |lst (xs:List U)|tup (xs:List U)|ins (C:Nat) (fs:List (Nat×U))|dic (kvs:List (U×U))|dct (kvs:List (List U×U))|fzd (kvs:List (U×U))|fzt (kvs:List (List U×U))|err (c:Nat) (u:U)
 deriving DecidableEq,Inhabited
abbrev Hs:=List O
abbrev Rho:=List (Option U)
inductive Bi where
 |len|int|str|tuple|list|sum|any|all|max|min|abs|sorted|dict|dictS
 deriving DecidableEq,Inhabited
inductive Bm where
 |append|pop|clear|reverse|extend|setdef|get|update|join|split|find|insert|index|count
 deriving DecidableEq,Inhabited
inductive Ty where
 |non|bool|int|str|list|tuple|dict|cls (c:Nat)|vale
 deriving DecidableEq,Inhabited
mutual
inductive E where
 |c (u:U)|var (i:Nat)|con (k:Nat)
 |op (o:Operator) (a b:E)|neg (a:E)|cmp (o:CmpOp) (a b:E)
 |and (a b:E)|or (a b:E)|not (a:E)|ife (t a b:E)
 |tup (es:List E)|lst (es:List E)|dis (kvs:List (U×U)) (b:E)
 |ix (a b:E)|tab (k:Nat) (b:E)|sl (a:E) (lo hi:Option E)|rev (a:E)|tupR (es:List E)|lstR (es:List E)
 |fld (a:E) (f:Nat)
 |call (f:Nat) (es:List E)|meth (m:Nat) (o:E) (es:List E)|make (k:Nat) (es:List E)
 |bi (b:Bi) (es:List E)|isi (a:E) (t:Ty)|bm (b:Bm) (o:E) (es:List E)
 |comp (s:Src) (b:Bool) (t:Option E) (el:E)|dnew|dnewT|zap (e:E)|isiT (i:Nat) (cs:List Nat)|dsp (ks:List U) (es:List E)|thw (a e:E)|chain (o o':CmpOp) (a b c:E)
inductive Src where
 |seq (e:E)|rng (a:E)|rng2 (a b:E)|rngA (es:List E)|zip (a b:E)|revd (e:E)|enm (e:E)|rngR (a:E)|key (e:E)
inductive Tg where
 |name (i:Nat)|pair (i j:Nat)
end
inductive S where
 |pass|expr (e:E)|set (i:Nat) (e:E)|fld (o:E) (f:Nat) (e:E)|ret (e:E)|retN
 |ite (t:E) (a b:List S)|loop (t:Tg) (s:Src) (body:List S)|loopC (i:Nat) (e:E) (body:List S)|loopK (i:Nat) (e:E) (body:List S)|loopD (i:Nat) (e:E) (body:List S)|while (t:E) (body:List S)
 |brk|cont
 |aug (i:Nat) (o:Operator) (e:E)|bad
 |put (o i e:E)|unp (i j:Nat) (e:E)|par (i j:Nat) (a b:E)|unpN (is:List Nat) (e:E)
 |tryN (body:List S)|loopZ (is:List Nat) (es:List E) (body:List S)
 |rse (c:Nat) (es:List E)|tryS (j:Option Nat) (f:Nat) (es:List E) (c:Nat) (body:List S)|cal (n:S) (f:Nat) (es:List E)
inductive Fl where
 |next|brk|cont|ret (u:U)
structure Fn where
 name:Str
 qual:Str
 st:Stmt
 ps:List Str
 N:List Str
 np:Nat
 nN:Nat
 lc:Bool
 body:List S
structure Cl where
 name:Str
 init:Option Nat
 meths:List (Nat×Nat)
 subs:List Nat
inductive Co where
 |tup (xs:List U)|lst (xs:List U)|tab (kvs:List (U×U))
 deriving Inhabited
structure Df where
 ps:List Str
 np:Nat
 last:Str
 ds:List U
structure Tbl where
 fns:List Fn
 cls:List Cl
 cons:List Co
 fns':List Str
 mns:List Str
 scr:List U
 isi:List ((Ty×Ty)×Bool)
 dfl:List (Nat×Df)
 dts:List Str:=[]
 zps:List Str:=[]
 ld:Bool:=false
 ers:List Nat:=[]
 esb:List (Nat×Nat):=[]
 pss:List Nat:=[]
 efl:List (Nat×Nat):=[]
 dks:List Str:=[]
 efi:List Nat:=[]
 xf:Nat->List U->Hs->Option (Er×Hs):=λ_ _ _=>none
noncomputable def bd{α β:Type}(o:Option (α×Hs))(f:α->Hs->Option β):Option β:=match o with
 |none=>none
 |some (a,h)=>f a h
def Qb{α β:Type}{o:Option (α×Hs)}{f:α->Hs->Option β}{r:β}(h:bd o f=some r):∃a h',o=some (a,h')/\f a h'=some r:=by
 unfold bd at h
 cases o with
 |none=>cases h
 |some p=>exact⟨p.1,p.2,rfl,h⟩
noncomputable def gz:Nat->Nat->Nat
 |0,n=>n
 |m+1,n=>Nat.gcd (m+1) n
noncomputable def Qg(i:Int):Bool:=decide (-(2 ^ 64) < i)&&decide (i<2 ^ 64)
noncomputable def Qes(i:Int):Bool:=decide (i.natAbs<2 ^ 4096)
noncomputable def QnN:U->U->Option U
 |.int i m,.int j n=>some (.int (i-j) (gz m n))
 |_,_=>none
noncomputable def Qkj:U->U->Option U
 |.int i 0,.int j 0=>if Qg i||Qg j||(Qes i&&Qes j)then some (.int (i*j) 0)else none
 |.int i (m+1),.int j 0=>if Qg j then some (.int (i*j) ((m+1)*j.natAbs))else none
 |_,_=>none
noncomputable def QkK:U->U->Option U
 |.int i 0,.int j 0=>if 0<j&&decide (j<1606938044258990275541962092341162602522202993782792835301376)then some (.int (i / j) 0)else none
 |.int i (m+1),.int j 0=>if 0<j&&decide (j<1606938044258990275541962092341162602522202993782792835301376)&&decide ((m+1) % j.toNat=0)then some (.int (i / j) ((m+1) / j.toNat))else none
 |_,_=>none
noncomputable def Qkk:U->U->Option U
 |.int i 0,.int j 0=>if 0<j then some (.int (i % j) 0)else none
 |.int i (m+1),.int j 0=>if 0<j&&decide ((m+1) % j.toNat=0)then some (.int (i % j) 0)else none
 |_,_=>none
noncomputable def Qn1:U->U->Option U
 |.int i 0,.int j 0=>if 0<=j&&decide (j<=1000)&&Qg i then some (.int (i ^ j.toNat) 0)else none
 |_,_=>none
noncomputable def Qnm(a b:Nat)(x y:O)(hs:Hs):Option (U×Hs):=match x,y with
 |.lst xs,.lst ys=>if xs.length+ys.length<=1000000 then some (.ref hs.length,hs++[.lst (xs++ys)])else none
 |.tup xs,.tup ys=>if xs.isEmpty then some (.ref b,hs)else if xs.length+ys.length<=1000000 then(if ys.isEmpty then some (.ref a,hs)else some (.ref hs.length,hs++[.tup (xs++ys)]))else none
 |_,_=>none
noncomputable def Qle(u w:U)(hs:Hs):Option (U×Hs):=match u,w with
 |.int i m,.int j n=>some (.int (i+j) (gz m n),hs)
 |.ref a,.ref b=>match hs[a]?,hs[b]? with
  |some x,some y=>Qnm a b x y hs
  |_,_=>none
 |_,_=>none
noncomputable def Qiu(a:Nat)(w:U)(hs:Hs):Option (U×Hs):=match hs[a]?,w with
 |some (.lst xs),.int k 0=>if -9223372036854775808<=k/\k<9223372036854775808/\xs.length*k.toNat<=1000000 then some (.ref hs.length,hs++[.lst (List.replicate k.toNat xs).flatten])else none
 |_,_=>none
noncomputable def opU(o:Operator)(u w:U)(hs:Hs):Option (U×Hs):=match o with
 |.Add=>Qle u w hs
 |.Sub=>(QnN u w).map λr=>(r,hs)
 |.Mult=>(match u with
  |.ref a=>Qiu a w hs
  |u=>(Qkj u w).map λr=>(r,hs))
 |.FloorDiv=>(QkK u w).map λr=>(r,hs)
 |.Mod=>(Qkk u w).map λr=>(r,hs)
 |.Pow=>(Qn1 u w).map λr=>(r,hs)
 |_=>none
noncomputable def eqS:U->U->Option Bool
 |.int i 0,.int j 0=>some (decide (i=j))
 |.str x,.str y=>some (decide (x=y))
 |.bl a,.bl b=>some (decide (a=b))
 |.non,.non=>some true
 |.non,.int _ _=>some false|.int _ _,.non=>some false|.non,.bl _=>some false|.bl _,.non=>some false|.non,.str _=>some false|.str _,.non=>some false
 |.int _ _,.str _=>some false|.str _,.int _ _=>some false|.bl _,.str _=>some false|.str _,.bl _=>some false
 |_,_=>none
noncomputable def Z9(T:Tbl)(u:U)(hs:Hs):Option (List U):=match u with
 |.ref n=>match hs[n]? with
  |some (.lst xs)=>some xs
  |some (.tup xs)=>some xs
  |_=>none
 |.con k=>match T.cons[k]? with
  |some (.lst xs)=>some xs
  |some (.tup xs)=>some xs
  |_=>none
 |.scr=>some T.scr
 |_=>none
noncomputable def QV(T:Tbl)(u:U)(hs:Hs):Option (List U):=match u with
 |.ref n=>match hs[n]? with
  |some (.lst xs)=>some xs
  |_=>none
 |.con k=>match T.cons[k]? with
  |some (.lst xs)=>some xs
  |_=>none
 |.scr=>some T.scr
 |_=>none
noncomputable def Zu(T:Tbl)(u:U)(hs:Hs):Option (List U):=match u with
 |.ref n=>match hs[n]? with
  |some (.tup xs)=>some xs
  |_=>none
 |.con k=>match T.cons[k]? with
  |some (.tup xs)=>some xs
  |_=>none
 |_=>none
noncomputable def okW(T:Tbl):Nat->U->Hs->Bool
 |0,_,_=>false
 |n+1,u,hs=>match QV T u hs with
  |some xs=>xs.all λx=>okW T n x hs
  |none=>match Zu T u hs with
   |some xs=>xs.all λx=>okW T n x hs
   |none=>match u with
    |.non=>true
    |.bl _=>true
    |.int _ m=>m==0
    |.str x=>x.all λc=>decide (c<128)
    |_=>false
noncomputable def eqB:U->U->Bool
 |.non,.non=>true
 |.bl a,.bl b=>a==b
 |.bl a,.int j _=>(if a then 1 else 0)==j
 |.int i _,.bl b=>i==(if b then 1 else 0)
 |.int i _,.int j _=>i==j
 |.str x,.str y=>x==y
 |_,_=>false
noncomputable def eqW(T:Tbl):Nat->U->U->Hs->Bool
 |0,_,_,_=>false
 |n+1,u,w,hs=>match QV T u hs with
  |some xs=>(match QV T w hs with
   |some ys=>(xs.length==ys.length)&&(xs.zip ys).all λp=>eqW T n p.1 p.2 hs
   |none=>false)
  |none=>match Zu T u hs with
   |some xs=>(match QV T w hs with
    |some _=>false
    |none=>match Zu T w hs with
     |some ys=>(xs.length==ys.length)&&(xs.zip ys).all λp=>eqW T n p.1 p.2 hs
     |none=>false)
   |none=>(match QV T w hs with
    |some _=>false
    |none=>match Zu T w hs with
     |some _=>false
     |none=>eqB u w)
noncomputable def Qcm(T:Tbl)(u w:U)(hs:Hs):Bool:=match QV T u hs,QV T w hs with
 |some xs,some ys=>decide (xs.length≠ys.length)
 |_,_=>false
noncomputable def Qb8(T:Tbl)(u w:U)(hs:Hs):Bool:=match QV T u hs,QV T w hs with
 |some xs,some ys=>decide (xs=ys)&&xs.all λx=>match x with|.ref _=>true|_=>false
 |_,_=>false
noncomputable def eqA(T:Tbl)(u w:U)(hs:Hs):Option Bool:=match eqS u w with
 |some b=>some b
 |none=>if Qcm T u w hs=true then some false else if Qb8 T u w hs=true then some true else if okW T 20 u hs&&okW T 20 w hs then some (eqW T 20 u w hs)else none
noncomputable def Qkm(kvs:List (U×U))(k:U):Option U:=match kvs with
 |[]=>none
 | (x,v)::r=>if x=k then some v else Qkm r k
noncomputable def QmS:U->Bool
 |.int _ 0=>true
 |.str _=>true
 |_=>false
noncomputable def QmG{κ:Type}[DecidableEq κ](kvs:List (κ×U))(k:κ):Option U:=(kvs.find? λp=>decide (p.1=k)).map (·.2)
noncomputable def Qo2{κ:Type}[DecidableEq κ](kvs:List (κ×U))(k:κ)(v:U):List (κ×U):=if(kvs.any λp=>decide (p.1=k))=true then kvs.map (λp=>if p.1=k then(p.1,v)else p)else kvs++[(k,v)]
noncomputable def tkU(w:U)(hs:Hs):Option (List U):=match w with
 |.ref m=>(match hs[m]? with
  |some (.tup ks)=>if ks.all QmS=true then some ks else none
  |_=>none)
 |_=>none
noncomputable def Qkl(kvs more:List (U×U)):List (U×U):=more.foldl (λacc p=>Qo2 acc p.1 p.2) kvs
noncomputable def Js:List U->Option (List Int)
 |[]=>some []
 |.int i 0::r=>(Js r).map (i::·)
 |_=>none
noncomputable def itU(hs:Hs)(u:U):Option (List Int):=match u with
 |.ref m=>(match hs[m]? with
  |some (.tup (k::ks))=>Js (k::ks)
  |_=>none)
 |_=>none
noncomputable def Qo7(hs:Hs):List U->Option (List (List Int))
 |[]=>some []
 |u::us=>(itU hs u).bind λk=>(Qo7 hs us).map λks=>k::ks
noncomputable def isU(u w:U):Option Bool:=match w with
 |.non=>some (decide (u=.non))
 |.bl b=>(match u with
  |.bl a=>some (a==b)
  |_=>none)
 |_=>none
noncomputable def QcC(T:Tbl)(o:CmpOp)(u w:U)(hs:Hs):Option Bool:=match o with
 |.Eq=>eqA T u w hs
 |.NotEq=>(eqA T u w hs).map (!·)
 |.Lt=>match u,w with|.int i 0,.int j 0=>some (decide (i<j))|_,_=>none
 |.LtE=>match u,w with|.int i 0,.int j 0=>some (decide (i<=j))|_,_=>none
 |.Gt=>match u,w with|.int i 0,.int j 0=>some (decide (j<i))|_,_=>none
 |.GtE=>match u,w with|.int i 0,.int j 0=>some (decide (j<=i))|_,_=>none
 |.In=>none
 |.NotIn=>none
 |.Is=>isU u w
 |.IsNot=>(isU u w).map (!·)
noncomputable def JI(T:Tbl)(u:U)(hs:Hs):Option Bool:=match u with
 |.non=>some false
 |.bl b=>some b
 |.int i 0=>some (decide (i≠0))
 |.str x=>if x.length<=1000000 then some (!x.isEmpty)else none
 |u=>(Z9 T u hs).map λxs=>!xs.isEmpty
noncomputable def ixU(n:Nat)(i:Int):Option Nat:=if 0<=i then(if i<n then some i.toNat else none)else if -(n:Int)<=i then some (i+n).toNat else none
noncomputable def atU{α:Type}(xs:List α)(i:Int):Option α:=match ixU xs.length i with
 |some j=>xs[j]?
 |none=>none
noncomputable def Yp(T:Tbl)(u w:U)(hs:Hs):Option U:=match u,w with
 |.str x,.int i 0=>if x.length<=1000000 then(atU x i).map λc=>.str [c]else none
 |.ref n,w=>match hs[n]?,w with
  |some (.lst xs),.int i 0=>atU xs i
  |some (.tup xs),.int i 0=>atU xs i
  |_,_=>none
 |u,.int i 0=>match Z9 T u hs with
  |some xs=>atU xs i
  |none=>none
 |_,_=>none
noncomputable def ZR(n d:Nat):Option Int->Nat
 |none=>d
 |some v=>if v<0 then(v+(n:Int)).toNat else min v.toNat n
noncomputable def YS{α:Type}(xs:List α)(lo hi:Option Int):List α:=(xs.drop (ZR xs.length 0 lo)).take (ZR xs.length xs.length hi-ZR xs.length 0 lo)
noncomputable def slU(T:Tbl)(u:U)(lo hi:Option Int)(hs:Hs):Option (U×Hs):=match u with
 |.scr=>some (.ref hs.length,hs++[.lst (YS T.scr lo hi)])
 |.ref n=>match hs[n]? with
  |some (.lst xs)=>some (.ref hs.length,hs++[.lst (YS xs lo hi)])
  |some (.tup xs)=>if ZR xs.length 0 lo=0/\ZR xs.length xs.length hi=xs.length then none else some (.ref hs.length,hs++[.tup (YS xs lo hi)])
  |_=>none
 |_=>none
noncomputable def Qpo(n:Nat):List Nat:=(Nat.toDigits 10 n).map Char.toNat
noncomputable def Qoh(x:List Nat):Bool:=x.all (λc=>decide (48<=c)&&decide (c<=57))&&!x.isEmpty&&decide (x.length<=640)
noncomputable def Qne(x:List Nat):Nat:=x.foldl (λacc c=>acc*10+(c-48)) 0
noncomputable def YK:List U->Option (List Bool)
 |[]=>some []
 |.bl b::r=>(YK r).map (b::·)
 |_=>none
noncomputable def QoN(ks:List (List Int))(xs:List U):List U:=(L2.permK ks xs.length).map λi=>xs.getD i .non
noncomputable def biL(T:Tbl)(b:Bi)(us:List U)(hs:Hs):Option (U×Hs):=match b,us with
 |.sum,[u]=>(QV T u hs).bind λxs=>(Js xs).map λns=>(.int ns.sum 0,hs)
 |.any,[u]=>(QV T u hs).bind λxs=>(YK xs).map λbs=>(.bl (bs.any id),hs)
 |_,_=>none
noncomputable def biU(T:Tbl)(b:Bi)(us:List U)(hs:Hs):Option (U×Hs):=match b,us with
 |.len,[.str x]=>if x.length<=1000000 then some (.int x.length 0,hs)else none
 |.len,[u]=>match Z9 T u hs with
  |some xs=>some (.int xs.length 0,hs)
  |none=>none
 |.int,[.int i m]=>some (.int i m,hs)
 |.int,[.bl b]=>some (.int (if b then 1 else 0) 0,hs)
 |.int,[.str x]=>if Qoh x then some (.int (Qne x:Nat) 0,hs)else none
 |.str,[.int i 0]=>if 0<=i&&decide (i.natAbs.log2<1920)then some (.str (Qpo i.toNat),hs)else none
 |.tuple,[.ref n]=>match hs[n]? with
  |some (.lst xs)=>some (.ref hs.length,hs++[.tup xs])
  |some (.tup _)=>some (.ref n,hs)
  |_=>none
 |.list,[u]=>match Z9 T u hs with
  |some xs=>some (.ref hs.length,hs++[.lst xs])
  |none=>none
 |.len,_=>none
 |.int,_=>none
 |.str,_=>none
 |.tuple,_=>none
 |.list,_=>none
 |b,us=>biL T b us hs
noncomputable def Zt(u:U)(hs:Hs):Option Ty:=match u with
 |.non=>some .non
 |.bl _=>some .bool
 |.int _ _=>some .int
 |.str _=>some .str
 |.ref n=>match hs[n]? with
  |some (.lst _)=>some .list
  |some (.tup _)=>some .tuple
  |some (.ins c _)=>some (.cls c)
  |some (.err c _)=>some (.cls c)
  |_=>none
 |_=>none
noncomputable def QmY(k t:Ty):Option Bool:=match k,t with
 |.cls _,_=>none
 |_,.cls _=>none
 |.bool,.int=>some true
 |k,t=>some (decide (k=t))
noncomputable def Zx(T:Tbl)(t:Ty)(u:U)(hs:Hs):Option Bool:=match Zt u hs with
 |none=>none
 |some k=>match QmY k t with
  |some b=>some b
  |none=>T.isi.lookup (k,t)
noncomputable def bmL(T:Tbl)(b:Bm)(n:Nat)(xs:List U)(us:List U)(hs:Hs):Option (U×Hs):=match b,us with
 |.append,[u]=>if xs.length<1000000 then some (.non,hs.set n (.lst (xs++[u])))else none
 |.extend,[.ref m]=>(match hs[m]? with
  |some (.lst ys)=>if xs.length+ys.length<=1000000 then some (.non,hs.set n (.lst (xs++ys)))else none
  |_=>none)
 |.count,[w]=>if(xs.all λx=>okW T 20 x hs)&&okW T 20 w hs then some (.int (xs.countP λx=>eqW T 20 x w hs:Nat) 0,hs)else none
 |_,_=>none
noncomputable def bmS(T:Tbl)(b:Bm)(x:List Nat)(us:List U)(hs:Hs):Option (U×Hs):=match b,us with
 |_,_=>none
noncomputable def bmD(b:Bm)(n:Nat)(kvs:List (U×U))(us:List U)(hs:Hs):Option (U×Hs):=match b with
 |.setdef=>(match us with
  |[k,v]=>if QmS k=true/\kvs.length<1000000 then(match Qkm kvs k with
   |some x=>some (x,hs)
   |none=>some (v,hs.set n (.dic (kvs++[(k,v)]))))else none
  |_=>none)
 |.get=>(match us with
  |[k,v]=>if QmS k=true then some ((QmG kvs k).getD v,hs)else none
  |_=>none)
 |.update=>(match us with
  |[.ref m]=>(match hs[m]? with
   |some (.dic more)=>if n≠m/\kvs.length+more.length<=1000000 then some (.non,hs.set n (.dic (Qkl kvs more)))else none
   |_=>none)
  |_=>none)
 |_=>none
noncomputable def bmU(T:Tbl)(b:Bm)(o:U)(us:List U)(hs:Hs):Option (U×Hs):=match o with
 |.ref n=>match hs[n]? with
  |some (.lst xs)=>bmL T b n xs us hs
  |some (.dic kvs)=>bmD b n kvs us hs
  |_=>none
 |.str x=>bmS T b x us hs
 |_=>none
noncomputable def bL:Bm->Bool
 |.setdef=>false|.get=>false|.update=>false|.join=>false|.split=>false|.find=>false|.index=>false|_=>true
noncomputable def bS:Bm->Bool
 |.join=>true|.split=>true|.find=>true|.index=>true|_=>false
noncomputable def bD:Bm->Bool
 |.setdef=>true|.get=>true|.update=>true|_=>false
noncomputable def Qda(b:Bm)(u:U)(hs:Hs):Bool:=match u with
 |.ref n=>match hs[n]? with
  |some (.lst _)=>bL b
  |some (.dic _)=>bD b
  |_=>false
 |.str _=>bS b
 |_=>false
noncomputable def YX(f:Nat)(u:U):List (Nat×U)->List (Nat×U)
 |[]=>[(f,u)]
 | (g,x)::r=>if g=f then(g,u)::r else(g,x)::YX f u r
inductive Wk where
 |seqL (u:U)|seqT (u:U)|rng (lo:Int) (n:Nat)|zipB (b c:Bool) (x y:U)|revL (u:U) (n:Nat)|rngC (lo c:Int) (n:Nat)|enmL (u:U)|strW (x:List Nat)|keyD (n:Nat)
inductive Im where
 |one (u:U)|two (u w:U)
noncomputable def sqU(T:Tbl)(b:Bool)(u:U)(hs:Hs):Option (List U):=if b then QV T u hs else Zu T u hs
noncomputable def two(xs ys:List U)(i:Nat):Option Im:=match xs[i]?,ys[i]? with
 |some x,some y=>some (.two x y)
 |_,_=>none
noncomputable def itm(T:Tbl)(k:Wk)(i:Nat)(hs:Hs):Option (Option Im):=match k with
 |.seqL u=>(QV T u hs).map λxs=>(xs[i]?).map .one
 |.seqT u=>(Zu T u hs).map λxs=>(xs[i]?).map .one
 |.rng lo n=>some (if i<n then some (.one (.int (lo+i) 0))else none)
 |.zipB b c x y=>match sqU T b x hs,sqU T c y hs with
  |some xs,some ys=>some (two xs ys i)
  |_,_=>none
 |.revL _ _=>none
 |.rngC lo c n=>some (if i<n then some (.one (.int (lo+i*c) 0))else none)
 |.enmL u=>(QV T u hs).map λxs=>(xs[i]?).map λx=>.two (.int i 0) x
 |.strW _=>none
 |.keyD _=>none
noncomputable def QeZ(a b c:Int):Nat:=if a<b then((b-a-1) / c+1).toNat else 0
noncomputable def Q6(T:Tbl)(k:Wk)(hs:Hs):Nat:=match k with
 |.seqL u=>((QV T u hs).getD []).length+1
 |.seqT u=>((Zu T u hs).getD []).length+1
 |.rng _ n=>n+1
 |.zipB b _ x _=>((sqU T b x hs).getD []).length+1
 |.revL _ _=>0
 |.rngC _ _ n=>n+1
 |.enmL u=>((QV T u hs).getD []).length+1
 |.strW _=>0
 |.keyD _=>0
noncomputable def tgt(t:Tg)(x:Im)(ρ:Rho)(hs:Hs):Option Rho:=match t,x with
 |.name i,.one u=>some (ρ.set i (some u))
 |.pair i j,.two u w=>some ((ρ.set i (some u)).set j (some w))
 |.pair i j,.one (.ref n)=>match hs[n]? with
  |some (.tup [u,w])=>some ((ρ.set i (some u)).set j (some w))
  |_=>none
 |_,_=>none
abbrev Cf:=Nat->List U->Hs->Option (U×Hs)
abbrev Ev:=E->Rho->Hs->Option (U×Hs)
noncomputable def evs(f:Ev)(ρ:Rho):List E->Hs->Option (List U×Hs)
 |[],hs=>some ([],hs)
 |e::es,hs=>bd (f e ρ hs) λu h1=>bd (evs f ρ es h1) λus h2=>some (u::us,h2)
noncomputable def evO(f:Ev)(ρ:Rho):Option E->Hs->Option (Option Int×Hs)
 |none,hs=>some (none,hs)
 |some e,hs=>bd (f e ρ hs) λu h1=>match u with|.int i 0=>some (some i,h1)|_=>none
noncomputable def wkS(T:Tbl)(u:U)(hs:Hs):Option Wk:=match QV T u hs with
 |some _=>some (.seqL u)
 |none=>match Zu T u hs with
  |some _=>some (.seqT u)
  |none=>none
noncomputable def wkZ(T:Tbl)(u w:U)(hs:Hs):Option Wk :=
 let b:=(QV T u hs).isSome;let c:=(QV T w hs).isSome
 if(sqU T b u hs).isSome&&(sqU T c w hs).isSome then some (.zipB b c u w)else none
noncomputable def Zn(T:Tbl)(f:Ev)(ρ:Rho):Src->Hs->Option (Wk×Hs)
 |.seq e,hs=>bd (f e ρ hs) λu h1=>(wkS T u h1).map λk=>(k,h1)
 |.rng a,hs=>bd (f a ρ hs) λu h1=>match u with|.int i 0=>if Qg (i*4)then some (.rng 0 i.toNat,h1)else none|_=>none
 |.rng2 _ _,_=>none
 |.rngA es,hs=>bd (evs f ρ es hs) λus h1=>match us with
  |[.int i 0,.int j 0,.int c 0]=>if Qg (i*16)&&Qg (j*16)&&decide (0<c)&&decide (c<1073741824)then some (.rngC i c (QeZ i j c),h1)else if Qg (i*16)&&Qg (j*16)&&decide (c=-1)then some (.rngC i (-1) (i-j).toNat,h1)else none
  |_=>none
 |.zip a b,hs=>bd (f a ρ hs) λu h1=>bd (f b ρ h1) λw h2=>(wkZ T u w h2).map λk=>(k,h2)
 |.revd _,_=>none
 |.enm e,hs=>bd (f e ρ hs) λu h1=>match QV T u h1 with|some _=>some (.enmL u,h1)|none=>none
 |.rngR _,_=>none
 |.key _,_=>none
noncomputable def Qfa(T:Tbl)(f n:Nat):List U:=match T.dfl.lookup f with
 |none=>[]
 |some D=>D.ds.drop (D.ds.length-(D.np-n))
noncomputable def Jr(T:Tbl)(cf:Cf)(c:Nat)(us:List U)(hs:Hs):Option (U×Hs):=match T.cls[c]? with
 |none=>none
 |some C=>match C.init with
  |none=>if us=[]then some (.ref hs.length,hs++[.ins c []])else none
  |some f=>match cf f (.ref hs.length::(us++Qfa T f (us.length+1))) (hs++[.ins c []])with
   |some (.non,h2)=>some (.ref hs.length,h2)
   |_=>none
noncomputable def QaQ(T:Tbl)(m:Nat)(o:U)(hs:Hs):Option Nat:=match o with
 |.ref n=>match hs[n]? with
  |some (.ins c _)=>match T.cls[c]? with
   |some C=>C.meths.lookup m
   |none=>none
  |_=>none
 |_=>none
noncomputable def tgN(b:Bool)(n:Nat):Tg:=if b then .pair n (n+1)else .name n
noncomputable def Qfb(b:Bool):Rho:=if b then [none,none]else [none]
noncomputable def YG(T:Tbl)(f:Ev)(ft:Rho->Hs->Option (Bool×Hs))(w:Wk)(b:Bool)(el:E)(ρ:Rho):Nat->Nat->List U->Hs->Option (List U×Hs)
 |0,_,_,_=>none
 |k+1,i,acc,hs=>match itm T w i hs with
  |none=>none
  |some none=>some (acc,hs)
  |some (some x)=>match tgt (tgN b ρ.length) x (ρ++Qfb b) hs with
   |none=>none
   |some ρ'=>if acc.length<1000000 then bd (ft ρ' hs) λc h1=>if c=true then bd (f el ρ' h1) λu h2=>YG T f ft w b el ρ k (i+1) (acc++[u]) h2 else YG T f ft w b el ρ k (i+1) acc h1 else none
noncomputable def Qcu(ft:E->Rho->Hs->Option (Bool×Hs))(t:Option E)(ρ:Rho)(hs:Hs):Option (Bool×Hs):=match t with
 |none=>some (true,hs)
 |some e=>ft e ρ hs
mutual
noncomputable def ev(T:Tbl)(cf:Cf):Nat->Ev
 |0,_,_,_=>none
 |d+1,e,ρ,hs=>match e with
  |.c u=>some (u,hs)
  |.con k=>some (.con k,hs)
  |.var i=>match ρ[i]? with
   |some (some u)=>some (u,hs)
   |_=>none
  |.op o a b=>bd (ev T cf d a ρ hs) λu h1=>bd (ev T cf d b ρ h1) λw h2=>opU o u w h2
  |.neg a=>bd (ev T cf d a ρ hs) λu h1=>match u with|.int i m=>some (.int (-i) m,h1)|_=>none
  |.cmp o a b=>bd (ev T cf d a ρ hs) λu h1=>bd (ev T cf d b ρ h1) λw h2=>(QcC T o u w h2).map λc=>(.bl c,h2)
  |.and a b=>bd (ev T cf d a ρ hs) λu h1=>match u with|.bl true=>ev T cf d b ρ h1|.bl false=>some (.bl false,h1)|_=>none
  |.or a b=>bd (ev T cf d a ρ hs) λu h1=>match u with|.bl true=>some (.bl true,h1)|.bl false=>ev T cf d b ρ h1|_=>none
  |.not a=>bd (ev T cf d a ρ hs) λu h1=>(JI T u h1).map λc=>(.bl (!c),h1)
  |.ife t a b=>bd (evT T cf d t ρ hs) λc h1=>if c=true then ev T cf d a ρ h1 else ev T cf d b ρ h1
  |.tup es=>bd (evs (ev T cf d) ρ es hs) λus h1=>some (.ref h1.length,h1++[.tup us])
  |.lst es=>bd (evs (ev T cf d) ρ es hs) λus h1=>some (.ref h1.length,h1++[.lst us])
  |.dis _ _=>none
  |.ix a b=>bd (ev T cf d a ρ hs) λu h1=>bd (ev T cf d b ρ h1) λw h2=>(Yp T u w h2).map λx=>(x,h2)
  |.tab _ _=>none
  |.sl a lo hi=>bd (ev T cf d a ρ hs) λu h1=>bd (evO (ev T cf d) ρ lo h1) λl h2=>bd (evO (ev T cf d) ρ hi h2) λr h3=>slU T u l r h3
  |.rev _=>none
  |.tupR _=>none
  |.lstR _=>none
  |.fld a f=>bd (ev T cf d a ρ hs) λu h1=>match u with
   |.ref n=>match h1[n]? with
    |some (.ins _ fs)=>(fs.lookup f).map λx=>(x,h1)
    |_=>none
   |_=>none
  |.call f es=>bd (evs (ev T cf d) ρ es hs) λus h1=>cf f us h1
  |.meth m o es=>bd (ev T cf d o ρ hs) λu h1=>match QaQ T m u h1 with
   |some f=>bd (evs (ev T cf d) ρ es h1) λus h2=>cf f (u::(us++Qfa T f (us.length+1))) h2
   |none=>none
  |.make c es=>bd (evs (ev T cf d) ρ es hs) λus h1=>Jr T cf c us h1
  |.bi b es=>bd (evs (ev T cf d) ρ es hs) λus h1=>biU T b us h1
  |.isi a t=>bd (ev T cf d a ρ hs) λu h1=>(Zx T t u h1).map λb=>(.bl b,h1)
  |.isiT _ _=>none
  |.bm b o es=>bd (ev T cf d o ρ hs) λu h1=>if Qda b u h1=true then bd (evs (ev T cf d) ρ es h1) λus h2=>bmU T b u us h2 else none
  |.comp s b t el=>bd (Zn T (ev T cf d) ρ s hs) λw h1=>bd (YG T (ev T cf d) (Qcu (evT T cf d) t) w b el ρ (Q6 T w h1) 0 [] h1) λus h2=>some (.ref h2.length,h2++[.lst us])
  |.dnew=>none
  |.dnewT=>none
  |.zap _=>none
  |.thw _ _=>none
  |.dsp _ _=>none
  |.chain _ _ _ _ _=>none
noncomputable def evT(T:Tbl)(cf:Cf):Nat->E->Rho->Hs->Option (Bool×Hs)
 |0,_,_,_=>none
 |d+1,e,ρ,hs=>match e with
  |.not a=>bd (evT T cf d a ρ hs) λc h1=>some (!c,h1)
  |.and a b=>bd (evT T cf d a ρ hs) λc h1=>if c=true then evT T cf d b ρ h1 else some (false,h1)
  |.or a b=>bd (evT T cf d a ρ hs) λc h1=>if c=true then some (true,h1)else evT T cf d b ρ h1
  |e=>bd (ev T cf d e ρ hs) λu h1=>(JI T u h1).map λb=>(b,h1)
end
abbrev Ex:=Rho->Hs->Option (Fl×Rho×Hs)
noncomputable def Qct(T:Tbl)(w:Wk)(t:Tg)(body:Ex):Nat->Nat->Ex
 |0,_,_,_=>none
 |k+1,i,ρ,hs=>match itm T w i hs with
  |none=>none
  |some none=>some (.next,ρ,hs)
  |some (some x)=>match tgt t x ρ hs with
   |none=>none
   |some ρ'=>match body ρ' hs with
    |some (.next,ρ2,h2)=>Qct T w t body k (i+1) ρ2 h2
    |some (.cont,ρ2,h2)=>Qct T w t body k (i+1) ρ2 h2
    |some (.brk,ρ2,h2)=>some (.next,ρ2,h2)
    |r=>r
noncomputable def Qir:List Nat->List U->Rho->Option Rho
 |[],[],ρ=>some ρ
 |i::is,u::us,ρ=>Qir is us (ρ.set i (some u))
 |_,_,_=>none
noncomputable def Qlp(u:U)(hs:Hs):Option (List U):=match u with
 |.ref n=>(match hs[n]? with
  |some (.tup us)=>some us
  |_=>none)
 |_=>none
noncomputable def QeD(T:Tbl)(us:List U)(i:Nat)(hs:Hs):Option (Option (List U)):=match us with
 |[a,b,c,e]=>(match Zu T a hs,QV T b hs,QV T c hs,QV T e hs with
  |some xs,some ys,some zs,some ws=>(match xs[i]? with
   |none=>some none
   |some x=>(match ys[i]?,zs[i]?,ws[i]? with
    |some y,some z,some w=>some (some [x,y,z,w])
    |_,_,_=>none))
  |_,_,_,_=>none)
 |_=>none
noncomputable def QlN(T:Tbl)(us:List U)(hs:Hs):Nat:=((Zu T (us.headD .non) hs).getD []).length+1
noncomputable def QbS(T:Tbl)(us:List U)(is:List Nat)(body:Ex):Nat->Nat->Ex
 |0,_,_,_=>none
 |k+1,i,ρ,hs=>match QeD T us i hs with
  |none=>none
  |some none=>some (.next,ρ,hs)
  |some (some xs)=>match Qir is xs ρ with
   |none=>none
   |some ρ'=>match body ρ' hs with
    |some (.next,ρ2,h2)=>QbS T us is body k (i+1) ρ2 h2
    |some (.cont,ρ2,h2)=>QbS T us is body k (i+1) ρ2 h2
    |some (.brk,ρ2,h2)=>some (.next,ρ2,h2)
    |r=>r
noncomputable def Qiy(o:Operator)(u w:U):Option U:=match o with
 |.Add=>(match u,w with|.int i 0,.int j 0=>some (.int (i+j) 0)|_,_=>none)
 |.Sub=>(match u,w with|.int i 0,.int j 0=>some (.int (i-j) 0)|_,_=>none)
 |_=>none
noncomputable def Qiv(x k u:U)(hs:Hs):Option Hs:=match x with
 |.ref n=>(match hs[n]? with
  |some (.lst xs)=>(match k with
   |.int j 0=>(ixU xs.length j).map λp=>hs.set n (.lst (xs.set p u))
   |_=>none)
  |_=>none)
 |_=>none
noncomputable def QoR(j:Option Nat)(u:U)(ρ:Rho):Rho:=match j with
 |some j=>ρ.set j (some u)
 |none=>ρ
noncomputable def Qm6(j:Option Nat)(ρ:Rho):Rho:=match j with
 |some j=>ρ.set j none
 |none=>ρ
noncomputable def Qpj(j:Option Nat)(c:Er)(hs:Hs):Hs:=match j with
 |some _=>hs++[.err c.1 c.2]
 |none=>hs
mutual
noncomputable def ex(T:Tbl)(cf:Cf):Nat->S->Ex
 |0,_,_,_=>none
 |d+1,s,ρ,hs=>match s with
  |.pass=>some (.next,ρ,hs)
  |.bad=>none
  |.aug i o e=>match ρ[i]? with
   |some (some u)=>bd (ev T cf d e ρ hs) λw h1=>(Qiy o u w).map λr=>(.next,ρ.set i (some r),h1)
   |_=>none
  |.brk=>some (.brk,ρ,hs)
  |.cont=>some (.cont,ρ,hs)
  |.expr e=>bd (ev T cf d e ρ hs) λz h1=>some (.next,ρ,h1)
  |.set i e=>bd (ev T cf d e ρ hs) λu h1=>some (.next,ρ.set i (some u),h1)
  |.fld o f e=>bd (ev T cf d e ρ hs) λu h1=>bd (ev T cf d o ρ h1) λx h2=>match x with
   |.ref n=>match h2[n]? with
    |some (.ins c fs)=>if fs.length<500 then some (.next,ρ,h2.set n (.ins c (YX f u fs)))else none
    |_=>none
   |_=>none
  |.ret e=>bd (ev T cf d e ρ hs) λu h1=>some (.ret u,ρ,h1)
  |.retN=>some (.ret .non,ρ,hs)
  |.ite t a b=>match evT T cf d t ρ hs with
   |some (true,h1)=>exs T cf d a ρ h1
   |some (false,h1)=>exs T cf d b ρ h1
   |none=>none
  |.loop t s body=>bd (Zn T (ev T cf d) ρ s hs) λw h1=>Qct T w t (exs T cf d body) (Q6 T w h1) 0 ρ h1
  |.loopC _ _ _=>none
  |.loopD _ _ _=>none
  |.loopK _ _ _=>none
  |.while _ _=>none
  |.put o i e=>bd (ev T cf d e ρ hs) λu h1=>bd (ev T cf d o ρ h1) λx h2=>bd (ev T cf d i ρ h2) λk h3=>(Qiv x k u h3).map λh4=>(.next,ρ,h4)
  |.unp i j e=>bd (ev T cf d e ρ hs) λu h1=>(tgt (.pair i j) (.one u) ρ h1).map λρ'=>(.next,ρ',h1)
  |.par _ _ _ _=>none
  |.unpN is e=>bd (ev T cf d e ρ hs) λu h1=>(Qlp u h1).bind λus=>(Qir is us ρ).map λρ'=>(.next,ρ',h1)
  |.tryN body=>exs T cf d body ρ hs
  |.loopZ is es body=>bd (evs (ev T cf d) ρ es hs) λus h1=>QbS T us is (exs T cf d body) (QlN T us h1) 0 ρ h1
  |.rse _ _=>none
  |.tryS j f es c body=>bd (evs (ev T cf d) ρ es hs) λus h1=>match cf f us h1 with
   |some (_,h2)=>some (.next,ρ,h2)
   |none=>match T.xf f us h1 with
    |some (c',h2)=>if T.ers.contains c'.1=true/\T.esb.contains (c'.1,c)=true/\(match T.fns[f]? with|some F=>decide (us.length=F.np)|none=>false)=true then(match exs T cf d body (QoR j (.ref h2.length) ρ) (Qpj j c' h2)with
     |some (.next,ρ2,h3)=>some (.next,Qm6 j ρ2,h3)
     |_=>none)else none
    |none=>none
  |.cal n _ _=>ex T cf d n ρ hs
noncomputable def exs(T:Tbl)(cf:Cf):Nat->List S->Ex
 |0,_,_,_=>none
 |d+1,ss,ρ,hs=>match ss with
  |[]=>some (.next,ρ,hs)
  |s::r=>match ex T cf d s ρ hs with
   |some (.next,ρ1,h1)=>exs T cf d r ρ1 h1
   |x=>x
end
noncomputable def dd:Nat:=100
noncomputable def fin:Option (Fl×Rho×Hs)->Option (U×Hs)
 |some (.ret u,_,h)=>some (u,h)
 |some (.next,_,h)=>some (.non,h)
 |_=>none
noncomputable def Qit(us:List U)(n:Nat):Rho:=us.map some++List.replicate (n-us.length) none
noncomputable def Qd(T:Tbl):Nat->Cf
 |0,_,_,_=>none
 |n+1,f,us,hs=>match T.fns[f]? with
  |none=>none
  |some F=>if us.length=F.np then fin (exs T (Qd T n) dd F.body (Qit us F.nN) hs)else none
noncomputable def rsv(T:Tbl)(c:Nat)(us:List U):Option U:=some .non
noncomputable def QhZ(T:Tbl)(w:Wk)(t:Tg)(body:Ex)(bx:Rho->Hs->Option (Er×Hs)):Nat->Nat->Rho->Hs->Option (Er×Hs)
 |0,_,_,_=>none
 |k+1,i,ρ,hs=>match itm T w i hs with
  |none=>none
  |some none=>none
  |some (some x)=>match tgt t x ρ hs with
   |none=>none
   |some ρ'=>match body ρ' hs with
    |some (.next,ρ2,h2)=>QhZ T w t body bx k (i+1) ρ2 h2
    |some (.cont,ρ2,h2)=>QhZ T w t body bx k (i+1) ρ2 h2
    |some _=>none
    |none=>bx ρ' hs
mutual
noncomputable def exX(T:Tbl)(cf:Cf):Nat->S->Rho->Hs->Option (Er×Hs)
 |0,_,_,_=>none
 |d+1,s,ρ,hs=>match s with
  |.rse c es=>bd (evs (ev T cf d) ρ es hs) λus h1=>if T.ers.contains c=true/\es.length<=1000 then(rsv T c us).map λu=>((c,u),h1)else none
  |.ite t a b=>match evT T cf d t ρ hs with
   |some (true,h1)=>exsX T cf d a ρ h1
   |some (false,h1)=>exsX T cf d b ρ h1
   |none=>none
  |.loop t s body=>bd (Zn T (ev T cf d) ρ s hs) λw h1=>QhZ T w t (exs T cf d body) (exsX T cf d body) (Q6 T w h1) 0 ρ h1
  |.cal _ f es=>bd (evs (ev T cf d) ρ es hs) λus h1=>if(match T.fns[f]? with|some F=>decide (us.length=F.np)|none=>false)=true then T.xf f us h1 else none
  |_=>none
noncomputable def exsX(T:Tbl)(cf:Cf):Nat->List S->Rho->Hs->Option (Er×Hs)
 |0,_,_,_=>none
 |d+1,ss,ρ,hs=>match ss with
  |[]=>none
  |s::r=>match ex T cf d s ρ hs with
   |some (.next,ρ1,h1)=>exsX T cf d r ρ1 h1
   |some _=>none
   |none=>exX T cf d s ρ hs
end
noncomputable def Q4(T:Tbl):Nat->Nat->List U->Hs->Option (Er×Hs)
 |0,_,_,_=>none
 |n+1,f,us,hs=>match T.fns[f]? with
  |none=>none
  |some F=>if us.length=F.np then exsX T (Qd T n) dd F.body (Qit us F.nN) hs else none
end
section
variable {m:Nat}
inductive G where
 |fn (i:Nat)|cls (i:Nat)|con (k:Nat)|txt (u:U)
structure Ctx where
 T:Tbl
 N:List Str
 names:List (Str×NameKind)
 gl:List (Str×G)
 bl:List Str
 lc:Bool:=false
noncomputable def idx(x:Str):List Str->Option Nat
 |[]=>none
 |y::r=>if y=x then some 0 else(idx x r).map (· + 1)
noncomputable def Qfr(C:Ctx)(x:Str):Bool:=match C.names.lookup x with
 |some .local=>true|some .cell=>true|some .free=>true|_=>false
noncomputable def YD(C:Ctx)(x:Str):Bool:=match C.names.lookup x with
 |some .local=>true|some .cell=>true|_=>false
noncomputable def Zz(C:Ctx)(x:Str):Bool:=match C.names.lookup x with
 |some .globalImplicit=>true|_=>false
noncomputable def Zh:Expr->Bool
 |.Call (.Name _ _) [] [] _=>false
 |_=>true
noncomputable def ZH:Expr->Bool
 |.Slice ..=>false
 |_=>true
noncomputable def QiZ(C:Ctx)(x:Str):Option Ty:=match C.gl.lookup x with
 |some (.cls i)=>some (.cls i)
 |some _=>none
 |none=>if C.bl.contains x=false then none else if x="int" then some .int else if x="str" then some .str else if x="bool" then some .bool else if x="list" then some .list else if x="tuple" then some .tuple else if x="dict" then some .dict else if x="ValueError" then some .vale else none
noncomputable def QlI(C:Ctx)(x:Str):Option Bi:=match C.gl.lookup x with
 |some _=>none
 |none=>if C.bl.contains x=false then none else if x="len" then some .len else if x="int" then some .int else if x="tuple" then some .tuple else if x="sum" then some .sum else if x="any" then some .any else none
noncomputable def Qk9(x:Str):Option Bm:=if x="count" then some .count else none
noncomputable def QlG(x:Str):Option Bm:=if x="append" then some .append else if x="extend" then some .extend else Qk9 x
noncomputable def Qdk:E->Bool
 |.and _ _=>false
 |.or _ _=>false
 |.not _=>false
 |_=>true
noncomputable def okT:Expr->E->Bool
 |.BoolOp ..,_=>true
 |.UnaryOp .Not ..,_=>true
 |.Compare ..,_=>true
 |_,ir=>Qdk ir
noncomputable def Ctx.inner(C:Ctx)(xs:List Str)(scope:Scope):Ctx:={C with N:=L2.hideN xs C.N++xs,names:=L2.relN C.names scope.names,lc:=false}
noncomputable def hdC(C:Ctx):Bool:=decide (C.bl.head?=some ("isinstance":Str))
noncomputable def Jb(C:Ctx)(xs:List Str)(scope:Scope):Bool:=(scope.kind==.function)&&xs.all (λx=>(scope.names.lookup x==some .local)&&(scope.names.lookup (L2.mang x)==none))&&decide (L2.hideN xs C.N++xs).Nodup&&scope.names.all (λy=>match y.2 with
  |.local=>(xs.contains y.1||decide (y.1=".0"))&&(scope.names.lookup y.1==some .local)
  |.free=>(C.names.lookup y.1==some .cell)||(C.names.lookup y.1==some .free)
  |.cell=>false
  |_=>true)&&!(C.N.contains ".0")
noncomputable def QlA:Src->Bool
 |.zip _ _=>true
 |.enm _=>true
 |_=>false
noncomputable def QaO:Src->Tg->Bool
 |.zip _ _,.name _=>false
 |.enm _,.name _=>false
 |.revd _,.pair _ _=>false
 |_,_=>true
noncomputable def Ql4:Expr->Option (Bool×List Str)
 |.Name x _=>some (false,[x])
 |.Tuple es _ _=>(match es with
  |[a,b]=>(match a,b with
   |.Name x _,.Name y _=>some (true,[x,y])
   |_,_=>none)
  |_=>none)
 |_=>none
noncomputable def Qod:List Expr->Option (Option Expr)
 |[]=>some none
 |[t]=>some (some t)
 |_=>none
structure Gn where
 b:Bool
 xs:List Str
 iter:Expr
 tl:Option Expr
noncomputable def Qfy:List Comprehension->Option Gn
 |[g]=>if g.is_async=0 then(Ql4 g.target).bind λt=>(Qod g.ifs).map λtl=>⟨t.1,t.2,g.iter,tl⟩else none
 |_=>none
def QlK(tg:Expr)(b:Bool)(xs:List Str):Prop:=(b=false/\∃x p,tg=.Name x p/\xs=[x])\/(b=true/\∃x p y q k pt,tg=.Tuple [.Name x p,.Name y q] k pt/\xs=[x,y])
def QgR{tg:Expr}{b:Bool}{xs:List Str}(h:Ql4 tg=some (b,xs)):QlK tg b xs:=by
 unfold Ql4 at h;split at h
 ·cases h;exact .inl ⟨rfl,_,_,rfl,rfl⟩
 ·split at h
  ·split at h
   ·cases h;exact .inr ⟨rfl,_,_,_,_,_,_,rfl,rfl⟩
   ·cases h
  ·cases h
 ·cases h
def Qcs{gens:List Comprehension}{g:Gn}(h:Qfy gens=some g):∃tg,gens=[⟨tg,g.iter,g.tl.toList,0⟩]/\QlK tg g.b g.xs:=by
 unfold Qfy at h;split at h
 ·rename_i c;split at h
  ·rename_i e;simp only[Xd,Xc]at h;obtain⟨⟨b,xs⟩,h1,tl,h2,rfl⟩:=h;obtain⟨tg,iter,ifs,ia⟩:=c;simp only at e h1 h2;subst e;refine⟨tg,?_,QgR h1⟩
   have:ifs=tl.toList:=by
    unfold Qod at h2;split at h2<;>cases h2<;>rfl
   rw[this]
  ·cases h
 ·cases h
inductive Sl where
 |cut (lo hi:Option Expr)|bad
noncomputable def Qlu:Expr->Option Sl
 |.Slice lo hi st _=>(match st with
  |none=>some (.cut lo hi)
  |some e=>some .bad)
 |_=>none
noncomputable def Qlw(C:Ctx)(i:Nat)(es:List E):Option E:=match C.T.dfl.lookup i with
 |none=>some (.call i es)
 |some D=>if es.length<=D.np/\D.np<=es.length+D.ds.length then some (.call i (es++(D.ds.drop (D.ds.length-(D.np-es.length))).map .c))else none
mutual
noncomputable def Qf:Nat->Ctx->Expr->Option E
 |0,_,_=>none
 |m+1,C,e=>match e with
  |.Constant (.int i) _ _=>some (.c (.int i 0))
  |.Constant (.bool b) _ _=>some (.c (.bl b))
  |.Constant .none _ _=>some (.c .non)
  |.Constant (.str x) _ _=>some (.c (.str x.cps.toList))
  |.Name x _=>if x="__debug__"\/x="__classdict__" then none else if Qfr C x then(idx x C.N).map .var else if Zz C x then(match C.gl.lookup x with|some (.con k)=> some (.con k)|some (.txt t)=> some (.c t)|_=>none)else none
  |.BinOp a o b _=>(Qf m C a).bind λa'=>(Qf m C b).bind λb'=>some (.op o a' b')
  |.UnaryOp .USub a _=>(Qf m C a).bind λa'=>some (.neg a')
  |.UnaryOp .Not a _=>(compT m C a).bind λa'=>some (.not a')
  |.BoolOp .And (a::r) p=>compAnd m C a r p
  |.BoolOp .Or (a::r) p=>compOr m C a r p
  |.Compare a [o] [b] _=>(Qf m C a).bind λa'=>(Qf m C b).bind λb'=>some (.cmp o a' b')
  |.IfExp t a b _=>(compT m C t).bind λt'=>(Qf m C a).bind λa'=>(Qf m C b).bind λb'=>some (.ife t' a' b')
  |.Tuple es _ _=>if es.length<=1000000 then(compA m C es).bind λes'=>some (.tup es')else none
  |.List es _=>if es.length<=1000000 then(compA m C es).bind λes'=>some (.lst es')else none
  |.Subscript a b _=>match Qlu b with
   |some (.cut lo hi)=>(Qf m C a).bind λa'=>(compO m C lo).bind λl=>(compO m C hi).bind λh=>some (.sl a' l h)
   |some .bad=>none
   |none=>(Qf m C b).bind λb'=>(Qf m C a).bind λa'=>some (.ix a' b')
  |.Attribute a f _=>if Zh a then(Qf m C a).bind λa'=>(idx f C.T.fns').bind λk=>some (.fld a' k)else none
  |.Call (.Name f _) args [] _=>if f="__debug__"\/f="__name__"\/Zz C f=false then none else match C.gl.lookup f with
   |some (.fn i)=>if hdC C=true then none else(compA m C args).bind λes=>Qlw C i es
   |some (.cls i)=>if hdC C=true then none else(compA m C args).bind λes=>some (.make i es)
   |some (.con _)=>none
   |some (.txt _)=>none
   |none=>if C.bl.contains f=false then none else if f="isinstance" then(match args with
     |[a,.Name t _]=> if Zz C t/\t≠"__debug__"/\t≠"__name__" then(Qf m C a).bind λa'=>(QiZ C t).bind λty=>some (.isi a' ty)else none
     |_=>none)
    else if hdC C=true then none else(QlI C f).bind λb=>(compA m C args).bind λes=>some (.bi b es)
  |.Call (.Attribute o x p) args [] q=>if Zh o&&(p.endLine==q.line)&&decide (args.length<29)then match idx x C.T.mns with
   |some k=>if hdC C=true then none else(Qf m C o).bind λo'=>(compA m C args).bind λes=>some (.meth k o' es)
   |none=>(QlG x).bind λb=>(Qf m C o).bind λo'=>(compA m C args).bind λes=>some (.bm b o' es)else none
  |.ListComp elt gens scope _=>(match Qfy gens with
   |some g=>if Jb C g.xs scope&&!hdC C then(compSrc m C g.iter).bind λsrc=>if QaO src (tgN g.b 0)then(compTO m (C.inner g.xs scope) g.tl).bind λt=>(Qf m (C.inner g.xs scope) elt).bind λel=>some (.comp src g.b t el)else none else none
   |none=>none)
  |_=>none
noncomputable def compT:Nat->Ctx->Expr->Option E
 |0,_,_=>none
 |m+1,C,e=>match e with
  |.IfExp ..=>none
  |.NamedExpr ..=>none
  |e=>(Qf m C e).bind λir=>if okT e ir then some ir else none
noncomputable def compTO:Nat->Ctx->Option Expr->Option (Option E)
 |0,_,_=>none
 |m+1,C,none=>some none
 |m+1,C,some e=>(compT m C e).bind λe'=>some (some e')
noncomputable def compAnd:Nat->Ctx->Expr->List Expr->Pos->Option E
 |0,_,_,_,_=>none
 |m+1,C,a,r,p=>match r with
  |[]=>compT m C a
  |b::r=>(compT m C a).bind λa'=>(compAnd m C b r p).bind λb'=>some (.and a' b')
noncomputable def compOr:Nat->Ctx->Expr->List Expr->Pos->Option E
 |0,_,_,_,_=>none
 |m+1,C,a,r,p=>match r with
  |[]=>compT m C a
  |b::r=>(compT m C a).bind λa'=>(compOr m C b r p).bind λb'=>some (.or a' b')
noncomputable def compA:Nat->Ctx->List Expr->Option (List E)
 |0,_,_=>none
 |m+1,C,es=>match es with
  |[]=>some []
  |e::r=>(Qf m C e).bind λe'=>(compA m C r).bind λr'=>some (e'::r')
noncomputable def compO:Nat->Ctx->Option Expr->Option (Option E)
 |0,_,_=>none
 |m+1,C,none=>some none
 |m+1,C,some e=>(Qf m C e).bind λe'=>some (some e')
noncomputable def compSrc:Nat->Ctx->Expr->Option Src
 |0,_,_=>none
 |m+1,C,e=>match e with
  |.Call (.Name f p) args [] q=>if Zz C f then(match C.gl.lookup f with
   |some _=>(Qf m C (.Call (.Name f p) args [] q)).map .seq
   |none=>if C.bl.contains f=false then none else if f="range" then(match args with
     |[a]=>(Qf m C a).map .rng
     |[a,b,c]=>(compA m C [a,b,c]).map .rngA
     |_=>none)
    else if f="zip" then(match args with
     |[a,b]=>(Qf m C a).bind λa'=>(Qf m C b).map λb'=>.zip a' b'
     |_=>none)
    else if f="enumerate" then(match args with
     |[a]=>(Qf m C a).map .enm
     |_=>none)
    else(Qf m C (.Call (.Name f p) args [] q)).map .seq)else none
  |e=>(Qf m C e).map .seq
end
def cE4{C:Ctx}{x w1}: Qf (m+1) C (.Name x w1)= (if x="__debug__"\/x="__classdict__" then none else if Qfr C x then(idx x C.N).map .var else if Zz C x then(match C.gl.lookup x with|some (.con k)=> some (.con k)|some (.txt t)=> some (.c t)|_=>none)else none):= rfl
def cE5{C:Ctx}{a o b w1}:Qf (m+1) C (.BinOp a o b w1)=((Qf m C a).bind λa'=>(Qf m C b).bind λb'=>some (.op o a' b')):=rfl
def cE6{C:Ctx}{a w1}:Qf (m+1) C (.UnaryOp .USub a w1)=((Qf m C a).bind λa'=>some (.neg a')):=rfl
def cE7{C:Ctx}{a w1}:Qf (m+1) C (.UnaryOp .Not a w1)=((compT m C a).bind λa'=>some (.not a')):=rfl
def QpF{C:Ctx}{a o b w1}:Qf (m+1) C (.Compare a [o] [b] w1)=((Qf m C a).bind λa'=>(Qf m C b).bind λb'=>some (.cmp o a' b')):=rfl
def QpE{C:Ctx}{t a b w1}:Qf (m+1) C (.IfExp t a b w1)=((compT m C t).bind λt'=>(Qf m C a).bind λa'=>(Qf m C b).bind λb'=>some (.ife t' a' b')):=rfl
def QpD{C:Ctx}{es w1 w2}:Qf (m+1) C (.Tuple es w1 w2)=(if es.length<=1000000 then(compA m C es).bind λes'=>some (.tup es')else none):=rfl
def QpC{C:Ctx}{es w1}:Qf (m+1) C (.List es w1)=(if es.length<=1000000 then(compA m C es).bind λes'=>some (.lst es')else none):=rfl
def QpB{C:Ctx}{a b w1}:Qf (m+1) C (.Subscript a b w1)=(match Qlu b with
   |some (.cut lo hi)=>(Qf m C a).bind λa'=>(compO m C lo).bind λl=>(compO m C hi).bind λh=>some (.sl a' l h)
   |some .bad=>none
   |none=>(Qf m C b).bind λb'=>(Qf m C a).bind λa'=>some (.ix a' b')):=rfl
def QpA{C:Ctx}{a f w1}:Qf (m+1) C (.Attribute a f w1)=(if Zh a then(Qf m C a).bind λa'=>(idx f C.T.fns').bind λk=>some (.fld a' k)else none):=rfl
def Qpz{C:Ctx}{f w1 args w2}: Qf (m+1) C (.Call (.Name f w1) args [] w2)= (if f="__debug__"\/f="__name__"\/Zz C f=false then none else match C.gl.lookup f with
   |some (.fn i)=>if hdC C=true then none else(compA m C args).bind λes=>Qlw C i es
   |some (.cls i)=>if hdC C=true then none else(compA m C args).bind λes=>some (.make i es)
   |some (.con _)=>none
   |some (.txt _)=>none
   |none=>if C.bl.contains f=false then none else if f="isinstance" then(match args with
     |[a,.Name t _]=> if Zz C t/\t≠"__debug__"/\t≠"__name__" then(Qf m C a).bind λa'=>(QiZ C t).bind λty=>some (.isi a' ty)else none
     |_=>none)
    else if hdC C=true then none else(QlI C f).bind λb=>(compA m C args).bind λes=>some (.bi b es)):=rfl
def Qpy{C:Ctx}{o x p args q}:Qf (m+1) C (.Call (.Attribute o x p) args [] q)=(if Zh o&&(p.endLine==q.line)&&decide (args.length<29)then match idx x C.T.mns with
   |some k=>if hdC C=true then none else(Qf m C o).bind λo'=>(compA m C args).bind λes=>some (.meth k o' es)
   |none=>(QlG x).bind λb=>(Qf m C o).bind λo'=>(compA m C args).bind λes=>some (.bm b o' es)else none):=rfl
def Qon{C:Ctx}{elt gens scope w1}:Qf (m+1) C (.ListComp elt gens scope w1)=((match Qfy gens with
   |some g=>if Jb C g.xs scope&&!hdC C then(compSrc m C g.iter).bind λsrc=>if QaO src (tgN g.b 0)then(compTO m (C.inner g.xs scope) g.tl).bind λt=>(Qf m (C.inner g.xs scope) elt).bind λel=>some (.comp src g.b t el)else none else none
   |none=>none)):=rfl
noncomputable def Z0(C:Ctx):Expr->Option Tg
 |.Name x _=>if YD C x then(idx x C.N).map .name else none
 |.Tuple [.Name x _,.Name y _] _ _=>if YD C x&&YD C y&&decide (x≠y)then(idx x C.N).bind λi=>(idx y C.N).map λj=>.pair i j else none
 |_=>none
noncomputable def Qnb:Expr->Option Bool
 |.Constant c _ _=>(match c with|.str _=>some true|_=>none)
 |.ListComp ..=>some false
 |_=>none
inductive As where
 |nm (x:Str)|at (o:Expr) (f:Str)|sub (o i:Expr)|two (x:Str) (p:Pos) (y:Str) (q:Pos)|many (es:List Expr)
noncomputable def Qb3:Expr->Expr->Option As
 |.Name x p,.Name y q=>some (.two x p y q)
 |_,_=>none
noncomputable def as1:Expr->Option As
 |.Name x _=>some (.nm x)
 |.Attribute o f _=>some (.at o f)
 |.Subscript o i _=>some (.sub o i)
 |.Tuple es _ _=>(match es with|[a,b]=>Qb3 a b|[a,b,c]=>some (.many [a,b,c])|[a,b,c,d]=>some (.many [a,b,c,d])|_=>none)
 |_=>none
noncomputable def Qew:List Expr->Option As
 |[t]=>as1 t
 |_=>none
noncomputable def ZY(C:Ctx)(x:Str):Bool:=match C.names.lookup x with
 |some .local=>true|_=>false
noncomputable def Qgf:Expr->Option (Expr×Expr)
 |.Tuple es _ _=>(match es with|[a,b]=>some (a,b)|_=>none)
 |_=>none
noncomputable def Qdt:Expr->Bool
 |.Tuple ..=>false
 |_=>true
noncomputable def Jp(C:Ctx):List Expr->Option (List Nat)
 |[]=>some []
 |e::r=>match e with
  |.Name x _=>if YD C x then(idx x C.N).bind λi=>(Jp C r).map (i::·)else none
  |_=>none
noncomputable def QeX(C:Ctx)(e f:Option Expr):Option (Nat×List Expr):=match e,f with
 |some (.Call (.Name x _) args [] _),none=>if Zz C x&&decide (x≠"__debug__")then(match C.gl.lookup x with
  |some (.cls c)=>if C.T.ers.contains c then some (c,args)else none
  |_=>none)else none
 |_,_=>none
structure Tr where
 j:Option Nat
 f:Nat
 args:List Expr
 c:Nat
 body:List Stmt
noncomputable def QeL(C:Ctx)(n:Option Str):Option (Option Nat):=match n with
 |none=>some none
 |some n=>if ZY C n&&decide (n≠"__debug__")then(idx n C.N).map some else none
noncomputable def QeN(C:Ctx)(x:Str):Option Nat:=if Zz C x&&decide (x≠"__debug__")then(match C.gl.lookup x with|some (.cls c)=>some c|_=>none)else none
noncomputable def QcV(C:Ctx)(x:Str):Option Nat:=if Zz C x&&decide (x≠"__debug__")then(match C.gl.lookup x with|some (.fn i)=>some i|_=>none)else none
noncomputable def QcU(C:Ctx)(b:List Stmt)(hs:List ExceptHandler)(o fn:List Stmt):Option Tr:=match b,hs,o,fn with
 |[.Expr (.Call (.Name f _) (a::args) [] _) _],[.ExceptHandler (some (.Name x _)) n (b0::body) _],[],[]=>
   (QeL C n).bind λj=>(QeN C x).bind λc=>(QcV C f).bind λk=>some ⟨j,k,a::args,c,b0::body⟩
 |_,_,_,_=>none
noncomputable def hdX(C:Ctx):Ctx:={C with bl:=("isinstance":Str)::C.bl.filter λx=>decide (x="ValueError")}
noncomputable def Qil(C:Ctx):Stmt->Option (Nat×Expr)
 |.Assign ts e _=>(match Qew ts with
  |some (.nm y)=>if ZY C y then(idx y C.N).map λi=>(i,e)else none
  |_=>none)
 |_=>none
noncomputable def Qd8(m:Nat)(C:Ctx):List Stmt->Option (List S)
 |[]=>some []
 |s::r=>(Qil C s).bind λp=>(Qf m (hdX C) p.2).bind λe'=>(Qd8 m C r).bind λr'=>some (.set p.1 e'::r')
noncomputable def QfJ(C:Ctx)(f:Str)(as:List Expr):Option (Nat×List Expr):=(QcV C f).bind λk=>if C.T.pss.contains k then some (k,as)else none
noncomputable def Qpw(C:Ctx)(f:Str)(as:List Expr)(ks:List Keyword):Option (Nat×List Expr):=match as with
 |[]=>none
 |a::r=>(match ks with|[]=>QfJ C f (a::r)|_::_=>none)
noncomputable def Qpu(C:Ctx)(g:Expr)(as:List Expr)(ks:List Keyword):Option (Nat×List Expr):=match g with
 |.Name f _=>Qpw C f as ks
 |_=>none
noncomputable def QfK(C:Ctx)(e:Expr):Option (Nat×List Expr):=match e with
 |.Call g as ks _=>Qpu C g as ks
 |_=>none
noncomputable def Qnn(C:Ctx)(ts:List Expr)(e:Expr):Option (Nat×List Expr):=match Qew ts with
 |some (.nm x)=>if YD C x&&(idx x C.N).isSome then QfK C e else none
 |_=>none
noncomputable def Qpv(C:Ctx)(g:Expr)(as:List Expr)(ks:List Keyword):Option (Nat×List Expr):=match g with
 |.Name x _=>if x="list"&&Zz C x&&(C.gl.lookup x).isNone&&C.bl.contains x then(match as with
  |[e]=>(match ks with|[]=>QfK C e|_::_=>none)
  |_=>none)else none
 |_=>none
noncomputable def QlE(C:Ctx)(e:Expr):Option (Nat×List Expr):=match QfK C e with
 |some t=>some t
 |none=>(match e with
  |.Call g as ks _=>Qpv C g as ks
  |_=>none)
noncomputable def QkW(C:Ctx)(s:Stmt):Option (Nat×List Expr):=match s with
 |.Assign ts e _=>Qnn C ts e
 |.Return v _=>v.bind (QlE C)
 |.Expr e _=>QfK C e
 |_=>none
noncomputable def QlD(m:Nat)(C:Ctx)(s:Stmt)(s0:S):Option S:=match QkW C s with
 |some t=>(compA m C t.2).map λes=>.cal s0 t.1 es
 |none=>some s0
noncomputable def Qlb:Option S->S
 |some s=>s
 |none=>.bad
noncomputable def QiC(C:Ctx):Expr->Option (List Expr)
 |.Call (.Name f _) [a,b,c,d] [] _=>if f="zip"&&Zz C f&&(C.gl.lookup f).isNone&&C.bl.contains f then some [a,b,c,d]else none
 |_=>none
noncomputable def Qi1(C:Ctx):Expr->Option (List Nat)
 |.Tuple es _ _=>Jp C es
 |_=>none
noncomputable def Qln(C:Ctx)(tg it:Expr):Option (List Nat×List Expr):=(QiC C it).bind λas=>(Qi1 C tg).map λis=>(is,as)
mutual
noncomputable def QO:Nat->Ctx->Stmt->Option S
 |0,_,_=>none
 |m+1,C,s=>match s with
  |.Pass _=>some .pass
  |.Break _=>some .brk
  |.Continue _=>some .cont
  |.Expr e _=>(match Qnb e with
   |some true=>some .pass
   |some false=>none
   |none=>(Qf m C e).map .expr)
  |.Return v _=>(match v with
   |none=>some .retN
   |some e=>(Qf m C e).map .ret)
  |.Assign ts e _=>(match Qew ts with
   |some (.nm x)=>if YD C x then(idx x C.N).bind λi=>(Qf m C e).bind λe'=>some (.set i e')else none
   |some (.at o f)=>if Zh o then(Qf m C e).bind λe'=>(Qf m C o).bind λo'=>(idx f C.T.fns').bind λk=>some (.fld o' k e')else none
   |some (.sub o i)=>if ZH i then(Qf m C e).bind λe'=>(Qf m C o).bind λo'=>(Qf m C i).bind λi'=>some (.put o' i' e')else none
   |some (.two x p y q)=>if ZY C x&&ZY C y&&decide (x≠y)then(idx x C.N).bind λi=>(idx y C.N).bind λj=>(match Qgf e with
     |some _=>none
     |none=>if Qdt e then(Qf m C e).map (.unp i j)else none)else none
   |some (.many es)=>(Jp C es).bind λis=>if Qdt e then(Qf m C e).map (.unpN is)else none
   |none=>none)
  |.Raise e f _=>(match QeX C e f with
   |some (c,args)=>(compA m C args).bind λes=>some (.rse c es)
   |none=>some .bad)
  |.Try b hs o fn _=>(match QcU C b hs o fn with
   |some t=>if C.bl.contains ("isinstance":Str)then(compA m C t.args).bind λes=>(Qd8 m C t.body).bind λbd=>some (.tryS t.j t.f es t.c bd)else none
   |none=>if o.isEmpty&&fn.isEmpty&&!hs.isEmpty then(compSs m C b).map .tryN else none)
  |.AugAssign t o e _=>(match t with
   |.Name x _=>if YD C x then(idx x C.N).bind λi=>(Qf m C e).bind λe'=>some (.aug i o e')else none
   |_=>none)
  |.If t a b _=>(compT m C t).bind λt'=>(compSs m C a).bind λa'=>(compSs m C b).bind λb'=>some (.ite t' a' b')
  |.For tg it a [] _=>match Qln C tg it with
    |some z=>(compA m C z.2).bind λes=>(compSs m C a).map λa'=>.loopZ z.1 es a'
    |none=>(Z0 C tg).bind λtg'=>(compSrc m C it).bind λit'=>if QaO it' tg' then(compSs m C a).bind λa'=>some (.loop tg' it' a')else none
  |_=>none
noncomputable def compSs:Nat->Ctx->List Stmt->Option (List S)
 |0,_,_=>none
 |m+1,C,ss=>match ss with
  |[]=>some []
  |s::r=>(QlD m C s (Qlb (QO m C s))).bind λs'=>(compSs m C r).bind λr'=>some (s'::r')
end
end
end Iv
namespace L2
open PySem PySem.Spec PyProof.Rows
section
variable {X:Cx}
def Qjz(K:W.Frag):R2:=λx y H Q=>∃a b ys,x=.ref a/\y=.ref b/\SqT K H a []/\SqT K H b ys/\Q (.ref b) H
def Qfd:OpR X (binaryOp .Add) (Qjz X.K):=by
 intro pins s Y H x y v u Q I rx ry h;obtain⟨a,b,ys,rfl,rfl,ha,hb,q⟩:=h;cases rx;cases ry;obtain⟨i1,r1,ht,_⟩:=I.tuple ha;obtain⟨i2,r2,hb,_⟩:=I.tuple hb;cases r1;obtain⟨⟨cls,dd,data,sl⟩,ho,hc,n,hd⟩:=id ht;obtain⟨⟨cls2,dd2,data2,sl2⟩,ho2,hc2,n2,hd2⟩:=id hb;simp only at hc hd hc2 hd2;subst hc hd hc2 hd2
 exact concat_meets ⟨_,ho,rfl⟩ ⟨_,ho2,rfl⟩ noFill_tuple_add seq_tuple_add U0 Uw (Ur _ _)
  (tuple_addW0 a b _ _ n n2 dd dd2 sl sl2 (by simp)) ⟨ho,ho2,⟨.ref b,H,I.tok _,rfl,q⟩⟩
structure Mk0(K:W.Frag)(C:Addr):Prop where
 makes:W.makesIn K C=true
 init:W.findIn K (.ref C) "__init__"=some (some (.builtin "object.__init__"))
 kp:W.keepIn K (.ref C)=true
def QgU(C:Addr):TE:=λz H Q=>∀x dx,H x=none->H dx=none->dx≠x->Q (.ref x) (upd (upd H dx (.own x)) x (.ins C dx []))
def Qca{pins:List (Addr×Obj)}{Y:St}{H:Hp}{s:Shared}{Q:VK}{C:Addr}(M:Mk0 X.K C)(I:Inv X pins Y H s)
  (h:∀x dx,H x=none->H dx=none->dx≠x->Q (.ref x) (upd (upd H dx (.own x)) x (.ins C dx []))):
  wpAny (model X.prog X.w) X.A (call (.ref C) []) (EP X pins Y Q) X.xe s:=by
 have hq:=h (s.heap.objs.size+1) s.heap.objs.size (I.hok.fresh (Uh _)) (I.hok.fresh (Xe _)) (X4 (W6 _));have I2:=Inv.made (C:=C) I;have Yyy:=W.makes_of (M:=model X.prog X.w) I.kIn M.makes
 have hob:((s.heap.push W.emptyDict).push (W.instObj C s.heap.objs.size)).get? (s.heap.objs.size+1)=some (W.instObj C s.heap.objs.size):=by
  have e:(s.heap.push W.emptyDict).objs.size=s.heap.objs.size+1:=X1 ..;rw[<-e];exact Xr _ rfl
 have t1:W.Looks (model X.prog X.w) ((s.heap.push W.emptyDict).push (W.instObj C s.heap.objs.size)) (typeOf (.ref (s.heap.objs.size+1))) (.ref C):=(W.Looks.ld hob).andThen .now
 have t2:W.Looks (model X.prog X.w) ((s.heap.push W.emptyDict).push (W.instObj C s.heap.objs.size)) (isInstance (.ref (s.heap.objs.size+1)) (.type "object")) true :=
  t1.andThen (Yyy.top.keeps λb o e=>Xb _ (Xb _ e))
 refine Ut (QdB I.kIn M.makes M.init (λself=>W.Looks.of_pure (W.oi_bind self)) ?_);obtain⟨hh,g,d,t,os⟩:=s;refine codeAny_call_builtin W.oi_plain W.entry_oi (@W.check_slot (model X.prog X.w) _ _ _ "object.__init__" "object" "__init__" (.ref (hh.objs.size+1)) [] [] _ W.oi_kind W.oi_split t2 (W.oi_args (.ref (hh.objs.size+1))) ?_);rw[W.oi_run];exact Xi (And.intro rfl ⟨V.ref (hh.objs.size+1),_,I2,rfl,hq⟩)
def Qdn{C:Addr}{x:Str}{p pos:Pos}(M:Mk0 X.K C)(hg:Gl X x)(hm:X.mg x=some (.ref C))(hdb:(x==("__debug__":Str))=false:=by decide):PE X (.Call (.Name x p) [] [] pos) (QgU C):=by
 intro pins s Y H Q I h;refine Wx (Zi I hg hm ?_ hdb);exact W.callWith_K0 I.kIn M.kp (Qca M I h)
noncomputable def Qnk:V->Option Value
 |.ty n=>some (.type n)
 |.ref a=>some (.ref a)
 |_=>none
def TyE(K:W.Frag)(H:Hp)(x:V)(t:Value):Prop:=TyOf K H x t\/∃a C dd,x=.ref a/\t=.ref C/\H a=some (QeC a C dd)/\ErrCls K C
def QfH:CallR X (.builtin "isinstance") (λxs H Q=>∃x c cv t b,xs=[x,c]/\Qnk c=some cv/\TyE X.K H x t/\W.kitOne X.K t cv=some b/\Q (.bl b) H):= by
 intro pins s Y H xs us Q I r h;obtain⟨x,c,cv,t,b,rfl,hc,ty,e,q⟩:=h
 rcases ty with ty|⟨a,C,dd,rfl,rfl,ha,Yyy⟩
 case inr=>exact Qed pins s Y H _ us Q I r ⟨a,c,cv,C,dd,b,rfl,by unfold Qnk at hc;exact hc,ha,Yyy,e,q⟩
 obtain⟨u,w',rfl,rx,rc⟩:=QgM r
 have ec:w'=cv:=by
  cases c with
  |ty n=>cases(show w'=Value.type n from rc);exact Xn hc
  |ref a=>cases(show w'=Value.ref a from rc);exact Xn hc
  |_=>cases hc
 subst ec;exact QdM I rx ty e λtk=>⟨.bl b,H,I.tok tk,rfl,q⟩
end
end L2
namespace Iv
open PySem PySem.Spec PyProof.Rows L2
section
variable {a p:Addr}{e:Expr}{ho:HO}{H:Hp}{n:Nat}{o:O}{T:Tbl}
abbrev St:=L2.St
structure Adr where
 f:Nat->Addr
 c:Nat->Addr
 k:Nat->Addr
 s:Addr
def Cg(i r:Int)(m:Nat):Prop:=∃q:Int,i=r+m*q
def Cg.exact{i r:Int}(h:Cg i r 0):i=r:=by obtain⟨q,e⟩:=h;simpa using e
def Cg.refl(i:Int)(m:Nat):Cg i i m:=⟨0,by simp⟩
def RU(A:Adr)(α:List Addr):U->V->Prop
 |.non,v=>v=.non
 |.bl b,v=>v=.bl b
 |.int r m,v=>∃i,v=.int i/\Cg i r m
 |.str x,v=>v=.str ⟨x.toArray⟩
 |.ref n,v=>∃a,α[n]?=some a/\v=.ref a
 |.con k,v=>v=.ref (A.k k)
 |.scr,v=>v=.ref A.s
abbrev RUs(A:Adr)(α:List Addr):List U->List V->Prop:=Paired (RU A α)
def RF(T:Tbl)(A:Adr)(α:List Addr):List (Nat×U)->List (Str×V)->Prop:=Paired λp q=>T.fns'[p.1]?=some q.1/\RU A α p.2 q.2
def RK:U->Key->Prop
 |.int i m,k=>m=0/\k=Sum.inl i
 |.str x,k=>k=Sum.inr ⟨x.toArray⟩
 |_,_=>False
def RD(A:Adr)(α:List Addr):List (U×U)->List (Key×V)->Prop:=Paired λp q=>RK p.1 q.1/\RU A α p.2 q.2
abbrev RKs:List U->List Key->Prop:=Paired RK
def RT(A:Adr)(α:List Addr):List (List U×U)->List (List Key×V)->Prop:=Paired λp q=>RKs p.1 q.1/\RU A α p.2 q.2
def EF(T:Tbl)(H:Hp)(c:Er)(dd:Option Addr):Prop:=∀f,T.efl.contains (c.1,f)=true->∃d od x v,dd=some d/\T.fns'[f]?=some x/\H d=some (.frz od (.xd [(x,v)]))/\∀A,RU A [] c.2 v
def EF.fz{H':Hp}{c:Er}{dd:Option Addr}(h:EF T H c dd)(k:∀b o fs,H b=some (.frz o (.xd fs))->H' b=some (.frz o (.xd fs))):EF T H' c dd:=λf q=>by
 obtain⟨d,od,x,v,e1,e2,e3,e4⟩:=h f q;exact⟨d,od,x,v,e1,e2,k _ _ _ e3,e4⟩
def RO(T:Tbl)(A:Adr)(α:List Addr)(H:Hp)(a:Addr):O->Prop
 |.lst xs=>∃vs,H a=some (.lst vs)/\RUs A α xs vs
 |.tup xs=>∃vs,H a=some (.tup vs)/\RUs A α xs vs
 |.ins c fs=>∃dx fv,H a=some (.ins (A.c c) dx fv)/\RF T A α fs fv/\c<T.cls.length
 |.dic kvs=>∃kv,H a=some (.dK kv)/\RD A α kvs kv
 |.dct kvs=>∃kv,H a=some (.dT kv)/\RT A α kvs kv
 |.fzd kvs=>∃kv ob,H a=some (.frz ob (.dK kv))/\RD A α kvs kv
 |.fzt kvs=>∃kv ob,H a=some (.frz ob (.dT kv))/\RT A α kvs kv
 |.err c w=>∃dd,H a=some (QeC a (A.c c) dd)/\T.ers.contains c=true/\EF T H (c,w) dd
structure RH(T:Tbl)(A:Adr)(α:List Addr)(hs:Hs)(H:Hp):Prop where
 len:α.length=hs.length
 nd:∀(i j:Nat) a,α[i]?=some a->α[j]?=some a->i=j\/∃vs,H a=some (.tup vs)
 ob:∀(n:Nat) a o,α[n]?=some a->hs[n]?=some o->RO T A α H a o
def QnF(K:W.Frag)(H:Hp)(a:Addr)(xs:List V):Prop:=(∃o,H a=some (.frz o (.lst xs))) \/
 ∃(o:Obj) (its:Array Value) (n:Nat),K.lookup a=some o/\o.cls=.type "list"/\o.dict=none/\o.data=.seq its n/\its.size<=sizeLine/\Vals xs its.toList
def Scr(T:Tbl)(A:Adr)(K:W.Frag)(H:Hp):Prop:=∃vs,RUs A [] T.scr vs/\QnF K H A.s vs
structure Rep(T:Tbl)(A:Adr)(K:W.Frag)(α:List Addr)(hs:Hs)(H:Hp):Prop where
 h:RH T A α hs H
 s:Scr T A K H
structure Ext(α α':List Addr)(H H':Hp):Prop where
 pre:∀(n:Nat) a,α[n]?=some a->α'[n]?=some a
 new:∀(n:Nat) a,α'[n]?=some a->α.length<=n->H a=none\/∃vs,H a=some (.tup vs)
 keep:∀b o,H b=some o->b∉α->H' b=some o
 fz:∀b o u,H b=some (.frz o u)->H' b=some (.frz o u)
 tr:∀b o,H b=some o->∃o',H' b=some o'/\∀vs,o=.tup vs↔o'=.tup vs
structure RS(A:Adr)(α:List Addr)(ρ:Rho)(Y:St):Prop where
 len:ρ.length=Y.length
 val:∀(i:Nat) u,ρ[i]?=some (some u)->∃v,Y[i]?=some (some v)/\RU A α u v
section
variable {A:Adr}{K:W.Frag}{α α' α1 α2:List Addr}{hs h2:Hs}{H' H1 H2:Hp}{u:U}{v:V}{us:List U}{vs:List V}{ρ:Rho}{Y:St}
def RU.mono(p:∀(n:Nat) a,α[n]?=some a->α'[n]?=some a)(h:RU A α u v):RU A α' u v:=by
 cases u with
 |ref n=>obtain⟨a,e,r⟩:=h;exact⟨a,p _ _ e,r⟩
 |_=>exact h
theorem RUs.mono(p:∀(n:Nat) a,α[n]?=some a->α'[n]?=some a)(h:RUs A α us vs):RUs A α' us vs:=Paired.mapP h λz z r=>RU.mono p r
theorem RF.mono{fs:List (Nat×U)}{fv:List (Str×V)}(p:∀(n:Nat) a,α[n]?=some a->α'[n]?=some a)(h:RF T A α fs fv):RF T A α' fs fv:=Paired.mapP h λz z r=>⟨r.1,r.2.mono p⟩
theorem RD.mono{fs:List (U×U)}{fv:List (Key×V)}(p:∀(n:Nat) a,α[n]?=some a->α'[n]?=some a)(h:RD A α fs fv):RD A α' fs fv:=Paired.mapP h λz z r=>⟨r.1,r.2.mono p⟩
theorem RT.mono{fs:List (List U×U)}{fv:List (List Key×V)}(p:∀(n:Nat) a,α[n]?=some a->α'[n]?=some a)(h:RT A α fs fv):RT A α' fs fv:=Paired.mapP h λz z r=>⟨r.1,r.2.mono p⟩
theorem RS.mono(p:∀(n:Nat) a,α[n]?=some a->α'[n]?=some a)(h:RS A α ρ Y):RS A α' ρ Y:=⟨h.len,λi u e=>by obtain⟨v,e1,r⟩:=h.val i u e;exact⟨v,e1,r.mono p⟩⟩
def Ext.refl:Ext α α H H:=⟨λz z e=>e,λn a e l=>by
 have:=(Xf.mp e).1
 omega,λz z e z=>e,λz z z e=>e,λz o e=>⟨o,e,λz=>Iff.rfl⟩⟩
def getElem?_lt(e:α[n]?=some a):n < α.length:=(Xf.mp e).1
theorem Ext.trans(a:Ext α α1 H H1)(b:Ext α1 α2 H1 H2)(R:RH T A α2 h2 H2):Ext α α2 H H2 where
 fz:=λc o kv e=>b.fz c o kv (a.fz c o kv e)
 pre:=λn x e=>b.pre n x (a.pre n x e)
 tr:=λc o e=>by
  obtain⟨o1,e1,q1⟩:=a.tr c o e;obtain⟨o2,e2,q2⟩:=b.tr c o1 e1;exact⟨o2,e2,λvs=>(q1 vs).trans (q2 vs)⟩
 new:=λn x e l=>by
  by_cases hn:n < α1.length
  ·have e1:α1[n]?=some α1[n]:=Xj hn;have e2:=b.pre n _ e1;rw[e]at e2;cases e2;exact a.new n _ e1 l
  ·cases q:H x with
   |none=>exact .inl rfl
   |some o=>
    obtain⟨o1,e1,q1⟩:=a.tr x o q
    rcases b.new n x e (by omega)with z|⟨vs,z⟩
    ·rw[e1]at z;cases z
    ·rw[e1]at z;cases z;exact .inr ⟨vs,congrArg some ((q1 vs).mpr rfl)⟩
 keep:=λc o e hc=>by
  by_cases hm:c∈α1
  ·obtain⟨n,hn⟩:=Ud hm;by_cases l:n < α.length
   ·have e1:α[n]?=some α[n]:=Xj l;have:=a.pre n _ e1;rw[hn]at this;cases this;exact absurd (List.getElem_mem l) hc
   ·rcases a.new n c hn (by omega)with z|⟨vs,z⟩
    ·rw[z]at e;cases e
    ·rw[e]at z;cases z;obtain⟨o1,e1,q1⟩:=a.tr c _ e;obtain⟨o2,e2,q2⟩:=b.tr c o1 e1;rw[e2,((q1 vs).trans (q2 vs)).mp rfl]
  ·exact b.keep c o (a.keep c o e hc) hm
def RO.trk(h:RO T A α H a o):∃x,H a=some x/\(∀ob u,x≠.frz ob (.lst u))/\∀ob u,x≠.frz ob (.xd u):=by
 cases o with
 |lst xs=>obtain⟨vs,e,_⟩:=h;exact⟨_,e,(λy y z=>nomatch z),λy y z=>nomatch z⟩
 |tup xs=>obtain⟨vs,e,_⟩:=h;exact⟨_,e,(λy y z=>nomatch z),λy y z=>nomatch z⟩
 |ins c fs=>obtain⟨dx,fv,e,_⟩:=h;exact⟨_,e,(λy y z=>nomatch z),λy y z=>nomatch z⟩
 |dic _=>obtain⟨kv,e,_⟩:=h;exact⟨_,e,(λy y z=>nomatch z),λy y z=>nomatch z⟩
 |dct _=>obtain⟨kv,e,_⟩:=h;exact⟨_,e,(λy y z=>nomatch z),λy y z=>nomatch z⟩
 |fzd _=>obtain⟨kv,ob,e,_⟩:=h;exact⟨_,e,(λy y z=>nomatch z),λy y z=>nomatch z⟩
 |fzt _=>obtain⟨kv,ob,e,_⟩:=h;exact⟨_,e,(λy y z=>nomatch z),λy y z=>nomatch z⟩
 |err _ _=>obtain⟨dd,e,_⟩:=h;exact⟨_,e,(λy y z=>nomatch z),λy y z=>nomatch z⟩
def RH.trk(R:RH T A α hs H)(e:α[n]?=some a):∃o,hs[n]?=some o/\RO T A α H a o:=by
 have l:=getElem?_lt e;rw[R.len]at l;exact⟨hs[n],Xj l,R.ob n a _ e (Xj l)⟩
def RH.notIn(R:RH T A α hs H)(h:H p=none):p∉α:=λm=>by
 obtain⟨n,e⟩:=Ud m;obtain⟨o,_,r⟩:=R.trk e;obtain⟨x,e,_⟩:=r.trk;rw[h]at e;cases e
def RH.nd_keep(R:RH T A α hs H)(k:∀b x,b∈α->H b=some x->H' b=some x):∀(i j:Nat) a,α[i]?=some a->α[j]?=some a->i=j\/∃vs,H' a=some (.tup vs):=λi j a e1 e2=>
 (R.nd i j a e1 e2).imp id λz=>by obtain⟨vs,q⟩:=z;exact⟨vs,k a _ (X0 e1) q⟩
def Qdy(h:∀(i j:Nat) a,α[i]?=some a->α[j]?=some a->i=j\/∃vs,H a=some (.tup vs))(n:p∉α):∀(i j:Nat) a,(α++[p])[i]?=some a->(α++[p])[j]?=some a->i=j\/∃vs,H a=some (.tup vs):=λi j a e1 e2=>by
 have cs:∀{k:Nat},(α++[p])[k]?=some a->α[k]?=some a\/(k=α.length/\a=p):=λ{k} e=>by
  by_cases l:k < α.length
  ·rw[Xs l]at e;exact .inl e
  ·rw[X3 (by omega)]at e
   have:=(Xf.mp e).1;simp at this
   have hk:k=α.length:=by omega
   subst hk;simp at e;exact .inr ⟨rfl,e.symm⟩
 rcases cs e1 with q1|⟨q1,w1⟩
 ·rcases cs e2 with q2|⟨q2,w2⟩
  ·exact h i j a q1 q2
  ·exact absurd (w2▸X0 q1) n
 ·rcases cs e2 with q2|⟨q2,w2⟩
  ·exact absurd (w1▸X0 q2) n
  ·exact .inl (q1.trans q2.symm)
def RO.keep(h:RO T A α H a o)(p:∀(n:Nat) a,α[n]?=some a->α'[n]?=some a)(k:∀b x,H b=some x->(b=a\/∃o fs,x=.frz o (.xd fs))->H' b=some x):RO T A α' H' a o:=by
 have kx:=k;have k:=λx e=>kx a x e (.inl rfl)
 cases o with
 |lst xs=>obtain⟨vs,e,r⟩:=h;exact⟨vs,k _ e,RUs.mono p r⟩
 |tup xs=>obtain⟨vs,e,r⟩:=h;exact⟨vs,k _ e,RUs.mono p r⟩
 |ins c fs=>obtain⟨dx,fv,e,r,l⟩:=h;exact⟨dx,fv,k _ e,RF.mono p r,l⟩
 |dic _=>obtain⟨kv,e,r⟩:=h;exact⟨kv,k _ e,RD.mono p r⟩
 |dct _=>obtain⟨kv,e,r⟩:=h;exact⟨kv,k _ e,RT.mono p r⟩
 |fzd _=>obtain⟨kv,ob,e,r⟩:=h;exact⟨kv,ob,k _ e,RD.mono p r⟩
 |fzt _=>obtain⟨kv,ob,e,r⟩:=h;exact⟨kv,ob,k _ e,RT.mono p r⟩
 |err _ _=>obtain⟨dd,e,l,q⟩:=h;exact⟨dd,k _ e,l,q.fz λb o fs e=>kx b _ e (.inr ⟨o,fs,rfl⟩)⟩
def Scr.keep(h:Scr T A K H)(k:∀x,H A.s=some x->(∃o u,x=.frz o (.lst u))->H' A.s=some x):Scr T A K H':=by
 obtain⟨vs,r,q|q⟩:=h
 ·obtain⟨o,e⟩:=q;exact⟨vs,r,.inl ⟨o,k _ e ⟨_,_,rfl⟩⟩⟩
 ·exact⟨vs,r,.inr q⟩
def Scr.sq(h:Scr T A K H):∃vs,RUs A α T.scr vs/\SqL K H A.s vs:=by
 obtain⟨vs,r,q⟩:=h
 refine⟨vs,RUs.mono (λn a e=>by simp at e) r,?_⟩
 rcases q with⟨o,e⟩|q
 ·exact .inl (.inr ⟨o,e⟩)
 ·exact .inr q
def Q2:(α++[p])[α.length]?=some p:=by simp
def QJ:∀(n:Nat) a,α[n]?=some a->(α++[p])[n]?=some a:=λn a e=>by
 rw[Xs (getElem?_lt e)];exact e
def QN{β:Type}{l:List β}{p a:β}(e:(l++[p])[n]?=some a):l[n]?=some a\/(n=l.length/\a=p):=by
 by_cases h:n<l.length
 ·rw[Xs h]at e;exact .inl e
 ·rw[X3 (by omega)]at e
  have:n-l.length=0:=by
   cases q:n-l.length with
   |zero=>rfl
   |succ k=>rw[q]at e;simp at e
  rw[this]at e;simp at e
  exact .inr ⟨by omega,e.symm⟩
def Rep.new(R:Rep T A K α hs H)(hp:H p=none)(r:RO T A (α++[p]) (upd H p ho) p o):Rep T A K (α++[p]) (hs++[o]) (upd H p ho)/\Ext α (α++[p]) H (upd H p ho):=by
 have ne:∀b x,H b=some x->b≠p:=λb x e z=>by rw[z,hp]at e;cases e
 refine⟨⟨⟨by simp[R.h.len],Qdy (R.h.nd_keep λb x y e=>by rw[Qe (ne _ _ e)];exact e) (R.h.notIn hp),λn a ob e1 e2=>?_⟩,R.s.keep λx e y=>by rw[Qe (ne _ _ e)];exact e⟩,⟨QJ,λn a e l=>?_,λb x e y=>by rw[Qe (ne _ _ e)];exact e,λb x kv e=>by rw[Qe (ne _ _ e)];exact e,λb x e=>⟨x,by rw[Qe (ne _ _ e)];exact e,λy=>Iff.rfl⟩⟩⟩
 ·rcases QN e1 with q|⟨q1,q2⟩
  ·rcases QN e2 with z|⟨z,_⟩
   ·exact RO.keep (R.h.ob n a ob q z) QJ λy x e y=>by rw[Qe (ne _ _ e)];exact e
   ·have:=getElem?_lt q;rw[R.h.len]at this;omega
  ·subst q2
   rcases QN e2 with z|⟨_,z⟩
   ·have:=(Xf.mp z).1;rw[<-R.h.len]at this;omega
   ·subst z;exact r
 ·rcases QN e with q|⟨_,q⟩
  ·have:=getElem?_lt q;omega
  ·rw[q];exact .inl hp
def Rep.put0(R:Rep T A K α hs H)(ha:α[n]?=some a)(r:RO T A α (upd H a ho) a o)(ht:∀vs,H a≠some (.tup vs):=by intro _ z;simp only[*,Vl,reduceCtorEq]at z):Rep T A K α (hs.set n o) (upd H a ho):=by
 have ta:=R.h.trk ha;obtain⟨o0,_,r0⟩:=ta;obtain⟨x0,e0,nf,nx⟩:=r0.trk
 have nd:∀(i j:Nat) c,α[i]?=some c->α[j]?=some c->i=j\/∃vs,upd H a ho c=some (.tup vs):=λi j c e1 e2=>by
  rcases R.h.nd i j c e1 e2 with q|⟨vs,q⟩
  ·exact .inl q
  ·exact .inr ⟨vs,by rw[Qe (λ(z:c=a)=>ht vs (z▸q))];exact q⟩
 refine⟨⟨by simp[R.h.len],nd,λm b ob e1 e2=>?_⟩,R.s.keep λx e z=>?_⟩
 ·by_cases hm:m=n
  ·subst hm;rw[ha]at e1;cases e1
   have l:m<hs.length:=by rw[<-R.h.len];exact getElem?_lt ha
   rw[Wd l]at e2;cases e2;exact r
  ·rw[X8 (Wy hm)]at e2
   have hb:b≠a:=λz=>by
    rcases R.h.nd m n a (z▸e1) ha with q|⟨vs,q⟩
    ·exact hm q
    ·exact ht vs q
   refine RO.keep (R.h.ob m b ob e1 e2) (λy y e=>e) λc x e w=>?_
   rcases w with rfl|⟨oz,fs,rfl⟩
   ·rw[Qe hb];exact e
   ·rw[Qe (λz=>by rw[z,e0]at e;cases e;exact nx _ _ rfl)];exact e
 ·obtain⟨ob,u,z⟩:=z
  have hb:A.s≠a:=λq=>by rw[q,e0]at e;cases e;exact nf _ _ z
  rw[Qe hb];exact e
def Rep.put(R:Rep T A K α hs H)(ha:α[n]?=some a)(r:RO T A α (upd H a ho) a o)(hz:∀ob u,H a≠some (.frz ob u):=by intro _ _ z;simp only[*,Vl,reduceCtorEq]at z)(ht:∀vs,H a≠some (.tup vs):=by intro _ z;simp only[*,Vl,reduceCtorEq]at z)(hh:∀vs,ho≠.tup vs:=by intro _ z;cases z):Rep T A K α (hs.set n o) (upd H a ho)/\Ext α α H (upd H a ho):=by
 refine⟨R.put0 ha r ht,⟨λy y e=>e,λm b e l=>by have:=getElem?_lt e;omega,λb x e hb=>?_,λb ob kv e=>?_,λb x e=>?_⟩⟩
 ·have hb':b≠a:=λz=>hb (z▸X0 ha);rw[Qe hb'];exact e
 ·have hb':b≠a:=λz=>hz ob kv (z▸e);rw[Qe hb'];exact e
 ·by_cases hb':b=a
  ·subst hb';exact⟨ho,Qp,λvs=>⟨λz=>absurd (z▸e) (ht vs),λz=>absurd z (hh vs)⟩⟩
  ·exact⟨x,by rw[Qe hb'];exact e,λy=>Iff.rfl⟩
def RS.get(R:RS A α ρ Y){i:Nat}{u:U}(e:ρ[i]?=some (some u)):∃v,Y[i]?=some (some v)/\RU A α u v:=R.val i u e
theorem RS.set(R:RS A α ρ Y)(i:Nat)(r:RU A α u v):RS A α (ρ.set i (some u)) (Y.set i (some v)):=by
 refine⟨by simp[R.len],λj w e=>?_⟩
 by_cases h:j=i
 ·subst h
  have l:j < ρ.length:=by
   have:=(Xf.mp e).1;simpa using this
  rw[Wd l]at e;cases e
  exact⟨v,Wd (by rw[<-R.len];exact l),r⟩
 ·rw[X8 (Wy h)]at e;rw[X8 (Wy h)];exact R.val j w e
end
def flE(A:Adr)(α:List Addr)(D:Ends)(Y:St)(H:Hp):Fl->Prop
 |.next=>D.nx Y H
 |.brk=>D.bk Y H
 |.cont=>D.ct Y H
 |.ret u=>∀v,RU A α u v->D.rt v H
section
variable (T:Tbl)(A:Adr)(K:W.Frag)
def TI(f:Rho->Hs->Option (U×Hs)):TE:=λY H Q=>∃α ρ hs u hs',RS A α ρ Y/\Rep T A K α hs H/\f ρ hs=some (u,hs') /\
 ∀α' v H',Ext α α' H H'->Rep T A K α' hs' H'->RU A α' u v->Q v H'
def TIT(f:Rho->Hs->Option (Bool×Hs)):TT:=λY H Q=>∃α ρ hs u hs',RS A α ρ Y/\Rep T A K α hs H/\f ρ hs=some (u,hs') /\
 ∀α' H',Ext α α' H H'->Rep T A K α' hs' H'->Q u H'
def TIA(f:Rho->Hs->Option (List U×Hs)):TA:=λY H Q=>∃α ρ hs us hs',RS A α ρ Y/\Rep T A K α hs H/\f ρ hs=some (us,hs') /\
 ∀α' vs H',Ext α α' H H'->Rep T A K α' hs' H'->RUs A α' us vs->Q vs H'
def TIS(f:Ex):TS:=λD Y H=>∃α ρ hs fl ρ' hs',RS A α ρ Y/\Rep T A K α hs H/\f ρ hs=some (fl,ρ',hs') /\
 ∀α' Y' H',Ext α α' H H'->Rep T A K α' hs' H'->RS A α' ρ' Y'->flE A α' D Y' H' fl
end
section
variable {A:Adr}{K:W.Frag}{α:List Addr}{ρ:Rho}{Y:St}{hs h1:Hs}
def TI.run{f:Rho->Hs->Option (U×Hs)}{u:U}{Q:VK}(rs:RS A α ρ Y)(rp:Rep T A K α hs H)(h:f ρ hs=some (u,h1))
  (k:∀α1 v H1,Ext α α1 H H1->Rep T A K α1 h1 H1->RU A α1 u v->RS A α1 ρ Y->Q v H1):TI T A K f Y H Q :=
 ⟨α,ρ,hs,u,h1,rs,rp,h,λα1 v H1 e r q=>k α1 v H1 e r q (rs.mono e.pre)⟩
def TIT.run{f:Rho->Hs->Option (Bool×Hs)}{u:Bool}{Q:Bool->Hp->Prop}(rs:RS A α ρ Y)(rp:Rep T A K α hs H)(h:f ρ hs=some (u,h1))
  (k:∀α1 H1,Ext α α1 H H1->Rep T A K α1 h1 H1->RS A α1 ρ Y->Q u H1):TIT T A K f Y H Q :=
 ⟨α,ρ,hs,u,h1,rs,rp,h,λα1 H1 e r=>k α1 H1 e r (rs.mono e.pre)⟩
def TIA.run{f:Rho->Hs->Option (List U×Hs)}{us:List U}{Q:List V->Hp->Prop}(rs:RS A α ρ Y)(rp:Rep T A K α hs H)(h:f ρ hs=some (us,h1))
  (k:∀α1 vs H1,Ext α α1 H H1->Rep T A K α1 h1 H1->RUs A α1 us vs->RS A α1 ρ Y->Q vs H1):TIA T A K f Y H Q :=
 ⟨α,ρ,hs,us,h1,rs,rp,h,λα1 v H1 e r q=>k α1 v H1 e r q (rs.mono e.pre)⟩
end
section
variable {X:Cx}
def Q1{t t':TE}(h:PE X e t)(i:∀Y H Q,t' Y H Q->t Y H Q):PE X e t':=λpins s Y H Q I q=>h pins s Y H Q I (i Y H Q q)
def Qio{t t':TT}(h:PT X e t)(i:∀Y H Q,t' Y H Q->t Y H Q):PT X e t':=λpins s Y H Q I q=>h pins s Y H Q I (i Y H Q q)
def Qlh{t t':TT}(h:PW X e t)(i:∀Y H Q,t' Y H Q->t Y H Q):PW X e t':=λwh pins s Y H Q I q=>h wh pins s Y H Q I (i Y H Q q)
def Qlm{es:List Expr}{t t':TA}(h:PA X es t)(i:∀Y H Q,t' Y H Q->t Y H Q):PA X es t':=λpos pins s Y H Q I q=>h pos pins s Y H Q I (i Y H Q q)
def Q7{st:Stmt}{t t':TS}(h:PS X st t)(i:∀D Y H,t' D Y H->t D Y H):PS X st t':=λpins s Y H D I q=>h pins s Y H D I (i D Y H q)
def Qb1{st:List Stmt}{t t':TS}(h:PSs X st t)(i:∀D Y H,t' D Y H->t D Y H):PSs X st t':=λpins s Y H D I q=>h pins s Y H D I (i D Y H q)
end
end
section
variable {A:Adr}{C:Ctx}{X:Cx}{us:List U}{vs:List V}{x:Str}{mg:Str->Option Value}{T:Tbl}
noncomputable def tyV:Ty->String
 |.non=>"NoneType"|.bool=>"bool"|.int=>"int"|.str=>"str"|.list=>"list"|.tuple=>"tuple"|.dict=>"dict"|.cls _=>"object"|.vale=>"ValueError"
noncomputable def tyW(A:Adr):Ty->Value
 |.cls c=>.ref (A.c c)
 |t=>.type (tyV t)
structure ClOk(T:Tbl)(A:Adr)(K:W.Frag)(i:Nat)(C:Cl):Prop where
 cls:Cls K (A.c i)
 nf:∀x∈T.fns',NoAttr K (A.c i) x
 me:∀m f,C.meths.lookup m=some f->∃x,T.mns[m]?=some x/\Meth K (A.c i) x (A.f f)
 mks:W.makesIn K (A.c i)=true
 kp:W.keepIn K (.ref (A.c i))=true
 ini:match C.init with
  |some f=>W.findIn K (.ref (A.c i)) "__init__"=some (some (.ref (A.f f)))/\W.isFn K (.ref (A.f f))= true
  |none=>W.findIn K (.ref (A.c i)) "__init__"=some (some (.builtin "object.__init__"))
 ty:∀(H:Hp) (a dx:Addr) (fs:List (Str×V)),H a=some (.ins (A.c i) dx fs)->TyOf K H (.ref a) (.ref (A.c i))
structure FunD(K:W.Frag)(x qual:Str)(st:Stmt)(f:Addr)(fd:FuncData):Prop where
 ex:∃(oc:Value) (od:Option Addr) (dV kV doc pm:Value) (an:Option Addr) (cdv ct:Value) (osl:Array (Option Value)),
  fd=W.fnOf x qual (Jw st) (Zq st) (Qv st) dV kV doc pm an cdv ct/\K.lookup f=some ⟨oc,od,.func fd,osl⟩/\W.codeIn K cdv qual=true
 kp:W.keepIn K (.ref f)=true
def FunD.ok{P:Program}{w:World}{K:W.Frag}{base:Heap}{qual:Str}{st:Stmt}{f:Addr}{fd:FuncData}{N ps:List Str}{k:Nat}{sp:Sp}(F:FunD K x qual st f fd)(S:FnScope N ps (Qv st))(len:∀vs H Q E,sp vs H Q E->vs.length=ps.length)
  (hbody:∀(cdv:Value) (A:Around) (outer:List Env) (s:Shared) (H:Hp) (vs:List V) (Q:VK) (E:XK),Room k (A.deeper (envOfC qual (Qv st) s.heap.objs.size f cdv))->sp vs H Q E ->
   ∃t,PSs (Qd2 CX0 P w K mg base N qual (Qv st) f cdv A outer s H E).nox (Zq st) t/\t {nx:=λz H'=>Q .non H',rt:=Q} (start N vs) H):FnOk P w K mg base CX0 (k+1) f fd ps sp:=by
 obtain⟨oc,od,dV,kV,doc,pm,an,cdv,ct,osl,rfl,lk,hcd⟩:=F.ex;refine QkF lk hcd S len λA outer s H vs Q E hr hsp=>?_;obtain⟨t,h,q⟩:=hbody cdv A outer s H vs Q E hr hsp;exact⟨t,h.nox,q⟩
def FunD.same{K:W.Frag}{y q q':Str}{st st':Stmt}{f:Addr}{fd fd':FuncData}(a:FunD K x q st f fd)(b:FunD K y q' st' f fd'):fd=fd':=by
 obtain⟨_,_,_,_,_,_,_,_,_,_,_,l1,_⟩:=a.ex;obtain⟨_,_,_,_,_,_,_,_,_,_,_,l2,_⟩:=b.ex;rw[l1]at l2;cases l2;rfl
def QiB(A:Adr)(K:W.Frag)(fd:FuncData)(D:Df):Prop:=∃(ds:List Value) (dvs:List V),RUs A [] D.ds dvs/\Vals dvs ds/\(∀n,Binds K fd D.ps (ds.drop n))
structure Txt(T:Tbl)(A:Adr)(K:W.Frag)(mg:Str->Option Value):Prop where
 fn:∀i F,T.fns[i]?=some F->∃fd,FunD K F.name F.qual F.st (A.f i) fd/\Binds K fd F.ps []/\FnScope F.N F.ps (Qv F.st)/\F.ps.length=F.np/\F.N.length=F.nN
 df:∀i D,T.dfl.lookup i=some D->∃fd x q st,FunD K x q st (A.f i) fd/\QiB A K fd D/\∀F,T.fns[i]?=some F->F.ps=D.ps/\F.np=D.np
 cl:∀i C,T.cls[i]?=some C->ClOk T A K i C
 fm:∀x∈T.fns',x∉T.mns
 fd:T.fns'.Nodup
 isi:∀k t b,T.isi.lookup (k,t)=some b->W.kitOne K (tyW A k) (tyW A t)=some b
 co:∀k c,T.cons[k]?=some c->match c with
  |Co.tup xs=>∃vs,RUs A [] xs vs/\∀H,SqT K H (A.k k) vs
  |Co.lst xs=>∃vs,RUs A [] xs vs/\∀H,SqL K H (A.k k) vs
  |Co.tab _=>True
 er:∀c,T.ers.contains c=true->ErrCls K (A.c c)/\(∀f,T.efl.contains (c,f)= false)/\W.excIn K (A.c c) Qaw "ValueError.__new__"=true
 es:∀c c',T.esb.contains (c,c')=true->W.exmOne K (.ref (A.c c)) (.ref (A.c c'))=some true
def QmT:U->Key->Prop
 |.int i 0,k=>k=.inl i
 |.str x,k=>k=.inr ⟨x.toArray⟩
 |_,_=>False
def JH(P:Program)(w:World)(T:Tbl)(A:Adr)(K:W.Frag):Prop:=∀k kvs,T.cons[k]?=some (.tab kvs) ->
 ∃vs:List (Key×Value),(A.k k==sysModules)=false/\(∀h:Heap,K.In h->h.DictOf (Yw P w) (A.k k) vs)/\Paired (λ(p:U×U) (q:Key×Value)=>QmT p.1 q.1/\∃v,RU A [] p.2 v/\RelV v q.2) kvs vs
structure GX(T:Tbl)(A:Adr)(C:Ctx)(X:Cx):Prop where
 CT:C.T=T
 N:X.N=C.N
 nd:X.N.Nodup
 sc:X.env.scope.names=C.names
 calm:hdC C=false->X.calm=true
 kind:X.env.scope.kind=.function
 xe:X.xe=λ_ _=>False
 gfn:∀x i,C.gl.lookup x=some (.fn i)->X.mg x=some (.ref (A.f i))
 gcl:∀x i,C.gl.lookup x=some (.cls i)->X.mg x=some (.ref (A.c i))
 gco:∀x k,C.gl.lookup x=some (.con k)->X.mg x=some (.ref (A.k k))
 gtx:∀x t,C.gl.lookup x=some (.txt t)->∃v w,X.mg x=some w/\RelV v w/\∀α,RU A α t v
 blt:∀x,¬C.bl.contains x=false->X.mg x=none
 txt:Txt T A X.K X.mg
 tab:JH X.prog X.w T A X.K
def spC(T:Tbl)(A:Adr)(K:W.Frag)(cf:Cf)(f:Nat):Sp:=λvs H Q z=>∃α us hs u hs',RUs A α us vs/\Rep T A K α hs H/\cf f us hs=some (u,hs')/\(∃F,T.fns[f]?=some F/\us.length=F.np) /\
 ∀α' v H',Ext α α' H H'->Rep T A K α' hs' H'->RU A α' u v->Q v H'
def spX(T:Tbl)(A:Adr)(K:W.Frag)(xf:Nat->List U->Hs->Option (Er×Hs))(f:Nat):Sp:=λvs H z E=>∃α us hs c hs',RUs A α us vs/\Rep T A K α hs H/\xf f us hs=some (c,hs')/\(∃F,T.fns[f]?=some F/\us.length=F.np) /\
 ∀α' H' dd,Ext α α' H H'->Rep T A K α' hs' H'->EF T H' c dd->E (.ref (A.c c.1)) dd H'
theorem QU{x:Str}:∀{N:List Str} {i:Nat},idx x N=some i->N[i]?=some x
 |[],_,h=>by simp[idx]at h
 |y::r,i,h=>by
  unfold idx at h;split at h
  ·rename_i e;cases h;simp[e]
  ·cases q:idx x r with
   |none=>rw[q]at h;cases h
   |some j=>
    rw[q]at h;cases h;simpa using QU q
def QiR(g:GX T A C X)(h:Qfr C x=true):Vis X.env.scope x:=by
 unfold Qfr at h;unfold Vis;rw[g.sc];split at h<;>simp_all
def Y5(g:GX T A C X)(h:YD C x=true):L2.Loc X.env.scope x:=by
 unfold YD at h;unfold L2.Loc;rw[g.sc];split at h<;>simp_all
def Q0(g:GX T A C X)(h:Zz C x=true):Gl X x:=by
 unfold Zz at h;show X.env.scope.names.lookup x=some .globalImplicit;rw[g.sc];split at h
 ·assumption
 ·cases h
def QP{y:Str}(h:x≠y):(x==y)=false:=by simpa using h
def Ze{o:Expr}{f:Str}{env:Env}{w:Sem Value}(h:Zh o=true):attributeBase o f env w=w:=by
 unfold attributeBase;split
 ·cases h
 ·rfl
def Qcd{b:Expr}(h:ZH b=true):Qey b:=by
 intro o i
 cases b<;>first|rfl|cases h
def Qn{e:Expr}{es:List Expr}{env:Env}(h:∀x p,e≠.Starred x p):starEach (e::es) env=(false,eval e env)::starEach es env:=by
 cases e<;>first|rfl|exact absurd rfl (h _ _)
def YO(es:List Expr):Prop:=∀e∈es,∀x p,e≠.Starred x p
theorem QS{env:Env}{pos:Pos}:∀{es:List Expr},YO es->(backTo pos (starEach es env)).any (·.1)=false
 |[],_=>rfl
 |e::r,h=>by
  rw[Qn (h e (Xo ..))];have ih:=QS (env:=env) (pos:=pos) (es:=r) λx hx=>h x (Xk _ hx);unfold backTo at ih ⊢;rw[X7,List.any_cons,ih];rfl
def QM{m:Nat}{e:Expr}{ir:E}(h:Qf m C e=some ir):∀x p,e≠.Starred x p:=by
 rintro x p rfl
 cases m<;>first|exact Znn h|simp[Qf]at h
theorem Ql{C:Ctx}:∀{m:Nat} {es:List Expr} {irs:List E},compA m C es=some irs->YO es
 |0,_,_,h=>by simp[compA]at h
 |m+1,[],_,_=>λz h=>nomatch h
 |m+1,e::r,irs,h=>by
  simp only[compA,Xd]at h;obtain⟨e',he,r',hr,_⟩:=h;intro x hx
  rcases Xm.mp hx with rfl|hx
  ·exact QM he
  ·exact Ql hr x hx
section
variable {K:W.Frag}{α:List Addr}{hs:Hs}{H:Hp}{u:U}{v:V}
theorem RUs.length(r:RUs A α us vs):us.length=vs.length:=Paired.length r
def RUs.get{i:Nat}{u:U}(h:RUs A α us vs)(e:us[i]?=some u):∃v,vs[i]?=some v/\RU A α u v:=Zb h e
def RUs.append{ws:List U}{ys:List V}(h:RUs A α us vs)(h':RUs A α ws ys):RUs A α (us++ws) (vs++ys):=Qdi h h'
def QaA{xs:List U}{K':W.Frag}(tx:Txt T A K mg)(R:Rep T A K α hs H)(h:Z9 T u hs=some xs)(r:RU A α u v):∃a vs,v=.ref a/\RUs A α xs vs/\(SqL K H a vs\/SqT K H a vs):=by
 cases u with
 |ref n=>
  obtain⟨a,ha,rfl⟩:=r;simp only[Z9]at h;split at h
  ·rename_i ys e;cases h;obtain⟨vs,q,rr⟩:=R.h.ob n a _ ha e;exact⟨a,vs,rfl,rr,.inl (SqL.of q)⟩
  ·rename_i ys e;cases h;obtain⟨vs,q,rr⟩:=R.h.ob n a _ ha e;exact⟨a,vs,rfl,rr,.inr (SqT.of q)⟩
  ·cases h
 |con k=>
  simp only[Z9]at h;split at h
  ·rename_i ys e;cases h;obtain⟨vs,rr,q⟩:=tx.co k _ e
   exact⟨_,vs,r,RUs.mono (λn a e=>by simp at e) rr,.inl (q H)⟩
  ·rename_i ys e;cases h;obtain⟨vs,rr,q⟩:=tx.co k _ e
   exact⟨_,vs,r,RUs.mono (λn a e=>by simp at e) rr,.inr (q H)⟩
  ·cases h
 |scr=>
  simp only[Z9]at h;cases h;obtain⟨vs,rr,q⟩:=R.s.sq (α:=α);exact⟨_,vs,r,rr,.inl q⟩
 |_=>simp[Z9]at h
def ZS(x:List Nat):({cps:=x.toArray}:Str).length=x.length:=by simp[Str.length]
def big:(1000000:Nat)<=sizeLine:=by decide
def QcW{b:Bool}(tx:Txt T A K mg)(R:Rep T A K α hs H)(h:JI T u hs=some b)(r:RU A α u v):Qlg K v H b:=by
 have sq:∀{xs:List U},Z9 T u hs=some xs->b=!xs.isEmpty->Qlg K v H b:=λ{xs} e1 e2=>by
  obtain⟨a,vs,rfl,rr,q⟩:=QaA (K':=K) tx R e1 r
  have e3:b=!vs.isEmpty:=by
   rw[e2];cases rr<;>rfl
  rcases q with q|q
  ·exact .inl ⟨vs,q,e3⟩
  ·exact .inr (.inl ⟨vs,q,e3⟩)
 cases u with
 |non=>simp only[JI]at h;cases h;cases r;rfl
 |bl c=>simp only[JI]at h;cases h;cases r;rfl
 |int i m=>
  cases m with
  |zero=>
   simp only[JI]at h;cases h;obtain⟨j,rfl,c⟩:=r;cases c.exact;show decide (i≠0)=(i != 0);by_cases q:i=0<;>simp[q]
  |succ m=>simp[JI,Z9]at h
 |str x=>
  simp only[JI]at h;split at h
  ·rename_i l;cases h;cases(show v=.str ⟨x.toArray⟩from r)
   refine⟨by rw[ZS];exact X2 l big,?_⟩
   rw[ZS];cases x<;>simp;omega
  ·cases h
 |ref n=>
  simp only[JI,Xc]at h;obtain⟨xs,e1,e2⟩:=h;exact sq e1 e2.symm
 |con n=>
  simp only[JI,Xc]at h;obtain⟨xs,e1,e2⟩:=h;exact sq e1 e2.symm
 |scr=>
  simp only[JI,Xc]at h;obtain⟨xs,e1,e2⟩:=h;exact sq e1 e2.symm
end
end
section
variable {i i' j:Int}{m:Nat}
def Qgt{j':Int}{n:Nat}(a:Cg i' i m)(b:Cg j' j n):Cg (i'+j') (i+j) (gz m n):=by
 obtain⟨p,rfl⟩:=a;obtain⟨q,rfl⟩:=b
 cases m with
 |zero=>exact⟨q,by simp[gz];omega⟩
 |succ m=>
  obtain⟨x,hx⟩:=Nat.gcd_dvd_left (m+1) n;obtain⟨y,hy⟩:=Nat.gcd_dvd_right (m+1) n;refine⟨x*p+y*q,?_⟩
  have e1:((m+1:Nat):Int)=(Nat.gcd (m+1) n:Int)*(x:Int):=by
   have:=congrArg (λz:Nat=>(z:Int)) hx;simpa using this
  have e2:(n:Int)=(Nat.gcd (m+1) n:Int)*(y:Int):=by
   have:=congrArg (λz:Nat=>(z:Int)) hy;simpa using this
  show i+((m+1:Nat):Int)*p+(j+(n:Int)*q)=i+j+(Nat.gcd (m+1) n:Int)*(x*p+y*q);rw[Int.mul_add,<-Tp,<-Tp,<-e1,<-e2];omega
def Qgs(a:Cg i' i m):Cg (-i') (-i) m:=by
 obtain⟨p,rfl⟩:=a
 exact⟨-p,by rw[Int.mul_neg];omega⟩
def QkR{j':Int}{n:Nat}(a:Cg i' i m)(b:Cg j' j n):Cg (i'-j') (i-j) (gz m n):=by
 have:=Qgt a (Qgs b);rw[Int.sub_eq_add_neg,Int.sub_eq_add_neg];exact this
def QkS(a:Cg i' i m):Cg (i'*j) (i*j) (m*j.natAbs):=by
 obtain⟨p,rfl⟩:=a
 rcases Int.natAbs_eq j with e|e
 ·refine⟨p,?_⟩;rw[Int.add_mul,Vs,<-e,Int.mul_right_comm]
 ·refine⟨-p,?_⟩
  have e':(j.natAbs:Int)=-j:=by omega
  rw[Int.add_mul,Vs,e',Int.mul_neg,Int.mul_neg,Int.neg_mul,Int.neg_neg,Int.mul_right_comm]
def QkU(a:Cg i' i m)(hj:0<j)(hd:m % j.toNat=0):Cg (i' / j) (i / j) (m / j.toNat):=by
 obtain⟨p,rfl⟩:=a
 have e:(m:Int)=j*((m / j.toNat:Nat):Int):=by
  have h:=Nat.div_add_mod m j.toNat;rw[hd,Nat.add_zero]at h;have h2:=congrArg (λz:Nat=>(z:Int)) h
  have h3:((j.toNat:Nat):Int)=j:=by omega
  simp only[Vs,h3]at h2;exact h2.symm
 refine⟨p,?_⟩
 rw[e,Tp,Int.add_mul_ediv_left _ _ (by omega)]
def QkT(a:Cg i' i m)(hj:0<j)(hd:m % j.toNat=0):i' % j=i % j:=by
 obtain⟨p,rfl⟩:=a
 have e:(m:Int)=j*((m / j.toNat:Nat):Int):=by
  have h:=Nat.div_add_mod m j.toNat;rw[hd,Nat.add_zero]at h;have h2:=congrArg (λz:Nat=>(z:Int)) h
  have h3:((j.toNat:Nat):Int)=j:=by omega
  simp only[Vs,h3]at h2;exact h2.symm
 rw[e,Tp,Int.add_mul_emod_self_left]
def Q3(h:Qg i=true):-(2 ^ 64) < i/\i<2 ^ 64:=by
 unfold Qg at h;rw[Xg,Xq,Xq]at h;exact h
def OpS(X:Cx)(T:Tbl)(A:Adr)(o:Operator):Prop:=∃r,OpR X (binaryOp o) r/\∀{α:List Addr} {u w u':U} {hs hs':Hs} {v y:V} {H:Hp} {Q:VK},opU o u w hs=some (u',hs')->RU A α u v->RU A α w y->Rep T A X.K α hs H ->
 (∀α' v' H',Ext α α' H H'->Rep T A X.K α' hs' H'->RU A α' u' v'->Q v' H')->r v y H Q
section
variable {X:Cx}{T:Tbl}{A:Adr}
def Qfe{o:Operator}(h:∀u w hs,opU o u w hs=none):OpS X T A o:=⟨λz z z z=>False,λz z z z z z z z z z z z h=>h.elim,λe=>by rw[h]at e;cases e⟩
def QbC{o:Operator}{f:U->U->Option U}{r:R2}(ho:OpR X (binaryOp o) r)(hf:∀u w hs,opU o u w hs=(f u w).map λz=>(z,hs))
  (h:∀{α:List Addr} {u w z:U} {v y:V} {H:Hp} {Q:VK},f u w=some z->RU A α u v->RU A α w y->(∀v',RU A α z v'->Q v' H)->r v y H Q):OpS X T A o:=by
 refine⟨r,ho,?_⟩;intro α u w u' hs hs' v y H Q e ru rw R k;rw[hf,Xc]at e;obtain⟨z,e,q⟩:=e;cases q;exact h e ru rw λv' r'=>k α v' H Ext.refl R r'
def Q5{α:List Addr}{v:V}(r:RU A α (.int i 0) v):v=.int i:=by
 obtain⟨j,rfl,c⟩:=r;cases c.exact;rfl
def QhA:OpS X T A .Sub:=QbC Qj1 (λx x x=>rfl) λ{α u w z v y H Q} h ru rw k=>by
 unfold QnN at h;split at h
 ·cases h;obtain⟨i',rfl,a⟩:=ru;obtain⟨j',rfl,b⟩:=rw;exact⟨i',j',rfl,rfl,k _ ⟨_,rfl,QkR a b⟩⟩
 ·cases h
def Qhy:OpR X (binaryOp .Mult) (rI IntMulOk λi j=>.int (i*j)):=opI λz z z z z z z hc q=>mul_int q hc
def Qer(h:Qes i=true):Builtin.Int.intBits i<=4096:=by
 have h:=Wn h;unfold Builtin.Int.intBits;split
 ·omega
 ·rename_i z
  have n0:i.natAbs≠0:=by simpa using z
  exact Nat.succ_le_of_lt ((Nat.log2_lt n0).mpr h)
def Qki(h:(Qg i||Qg j||(Qes i&&Qes j))=true):IntMulOk i j:=by
 rw[V4,V4,Xg]at h
 rcases h with(h|h)|h
 ·exact CMul.ok (.inl (Q3 h))
 ·exact CMul.ok (.inr (Q3 h))
 ·have h1:=Qer h.1;have h2:=Qer h.2;unfold IntMulOk
  have:Builtin.Int.intTooBig (Builtin.Int.intBits i+Builtin.Int.intBits j)=false:=by
   unfold Builtin.Int.intTooBig;rw[bitsLine_eq]
   exact Xy (by omega)
  rw[this];simp
theorem RUs.rep{α:List Addr}{us:List U}{vs:List V}(r:RUs A α us vs):∀n:Nat,RUs A α (List.replicate n us).flatten (List.replicate n vs).flatten
 |0=>.nil
 |n+1=>by
  rw[Wh,Wh,Wu,Wu];exact RUs.append r (RUs.rep r n)
def QhC:OpS X T A .Mult:=by
 refine⟨_,OpR.or Qhy Qj2,?_⟩;intro α u w u' hs hs' v y H Q e ru rw R k;by_cases isr:∃a,u=.ref a
 ·obtain⟨a,rfl⟩:=isr;simp only[opU]at e;unfold Qiu at e;split at e
  ·rename_i xs j e1;split at e
   ·rename_i c;cases e;cases Q5 rw;obtain⟨pa,ha,rfl⟩:=ru;obtain⟨vs,q1,r1⟩:=R.h.ob _ pa _ ha e1;refine .inr ⟨pa,j,vs,rfl,rfl,q1,c.1,c.2.1,?_,λp hp=>?_⟩
    ·rw[<-r1.length];exact X2 c.2.2 big
    ·obtain⟨R',E'⟩:=R.new (o:=.lst (List.replicate j.toNat xs).flatten) hp ⟨_,Qp,RUs.mono QJ (r1.rep j.toNat)⟩
     exact k _ _ _ E' R' ⟨p,by rw[<-R.h.len];exact Q2,rfl⟩
   ·cases e
  ·cases e
 have e:(Qkj u w).map (λr=>(r,hs))=some (u',hs'):=by
  cases u with
  |ref a=>exact absurd ⟨a,rfl⟩ isr
  |_=>exact e
 rw[Xc]at e;obtain⟨z,h,q⟩:=e;cases q;refine .inl ?_;have k:∀v',RU A α u' v'->Q v' H:=λv' r'=>k α v' H Ext.refl R r';unfold Qkj at h;split at h
 ·split at h
  ·rename_i c;cases h;cases Q5 ru;cases Q5 rw;exact⟨_,_,rfl,rfl,Qki c,k _ ⟨_,rfl,Cg.refl _ _⟩⟩
  ·cases h
 ·split at h
  ·rename_i c;cases h;obtain⟨i',rfl,a⟩:=ru;cases Q5 rw;exact⟨i',_,rfl,rfl,CMul.ok (.inr (Q3 c)),k _ ⟨_,rfl,QkS a⟩⟩
  ·cases h
 ·cases h
def QnK(i j:Int):Prop:=0<j/\j<1606938044258990275541962092341162602522202993782792835301376
def Qfc{X:Cx}:OpR X (binaryOp .FloorDiv) (rI QnK λi j=>.int (i / j)):=opI λi j y y y y y hc q=>by
 have h1:(0:Int) < j:=hc.1;have h2:j<1606938044258990275541962092341162602522202993782792835301376:=hc.2
 have h3:j.natAbs.log2<9000:=by
  have h4:j.natAbs<2 ^ 9000:=Xu (show j.natAbs<2 ^ 200 by omega) (Nat.pow_le_pow_right (by decide) (by decide))
  rcases Nat.eq_zero_or_pos j.natAbs with z|z
  ·rw[z];decide
  ·exact(Nat.log2_lt (by omega)).mpr h4
 exact floordiv_int (by omega) (by rw[Int.fdiv_eq_ediv_of_nonneg i (by omega)];exact q) (.inl (PyProof.noPylong_of_log2 h3))
def Qff:OpS X T A .FloorDiv:=QbC Qfc (λx x x=>rfl) λ{α u w z v y H Q} h ru rw k=>by
 unfold QkK at h;split at h
 ·split at h
  ·rename_i c;cases h;cases Q5 ru;cases Q5 rw;simp only[Xg,Xq]at c;exact⟨_,_,rfl,rfl,c,k _ ⟨_,rfl,Cg.refl _ _⟩⟩
  ·cases h
 ·split at h
  ·rename_i c;cases h;obtain⟨i',rfl,a⟩:=ru;cases Q5 rw;simp only[Xg,Xq]at c;exact⟨i',_,rfl,rfl,c.1,k _ ⟨_,rfl,QkU a c.1.1 c.2⟩⟩
  ·cases h
 ·cases h
def QhD:OpS X T A .Mod:=QbC Qj7 (λx x x=>rfl) λ{α u w z v y H Q} h ru rw k=>by
 unfold Qkk at h;split at h
 ·split at h
  ·rename_i c;cases h;cases Q5 ru;cases Q5 rw;exact⟨_,_,rfl,rfl,c,k _ ⟨_,rfl,Cg.refl _ _⟩⟩
  ·cases h
 ·split at h
  ·rename_i c;cases h;obtain⟨i',rfl,a⟩:=ru;cases Q5 rw;simp only[Xg,Xq]at c
   exact⟨i',_,rfl,rfl,c.1,k _ ⟨_,rfl,by rw[QkT a c.1 c.2];exact Cg.refl _ _⟩⟩
  ·cases h
 ·cases h
def QhB:OpS X T A .Pow:=QbC Qj3 (λx x x=>rfl) λ{α u w z v y H Q} h ru rw k=>by
 unfold Qn1 at h;split at h
 ·split at h
  ·rename_i i j c;cases h;cases Q5 ru;cases Q5 rw;simp only[Xg,Xq]at c;obtain⟨h1,h2⟩:=Q3 c.2
   exact⟨_,_,rfl,rfl,⟨c.1.1,by omega,by omega⟩,k _ ⟨_,rfl,Cg.refl _ _⟩⟩
  ·cases h
 ·cases h
def QhE:OpS X T A .Add:=by
 refine⟨_,OpR.or Qke (OpR.or Qkd (OpR.or Qfd Qhz)),?_⟩;intro α u w u' hs hs' v y H Q h ru rw R k;have h:Qle u w hs=some (u',hs'):=h;unfold Qle at h;split at h
 ·cases h;obtain⟨i',rfl,a⟩:=ru;obtain⟨j',rfl,b⟩:=rw;exact .inl ⟨i',j',rfl,rfl,k α _ H Ext.refl R ⟨_,rfl,Qgt a b⟩⟩
 ·rename_i a b;obtain⟨pa,ha,rfl⟩:=ru;obtain⟨pb,hb,rfl⟩:=rw;split at h
  ·rename_i ox oy e1 e2;have o1:=R.h.ob _ pa _ ha e1;have o2:=R.h.ob _ pb _ hb e2;unfold Qnm at h;split at h
   ·rename_i xs ys;split at h
    ·rename_i c;cases h;obtain⟨vs,q1,r1⟩:=o1;obtain⟨ws,q2,r2⟩:=o2;refine .inr (.inl ⟨pa,pb,vs,ws,rfl,rfl,q1,q2,?_,λp hp=>?_⟩)
     ·rw[<-r1.length,<-r2.length];exact X2 c big
     ·obtain⟨R',E'⟩:=R.new (o:=.lst (xs++ys)) hp ⟨_,Qp,RUs.mono QJ (r1.append r2)⟩
      exact k _ _ _ E' R' ⟨p,by rw[<-R.h.len];exact Q2,rfl⟩
    ·cases h
   ·rename_i xs ys;obtain⟨vs,q1,r1⟩:=o1;obtain⟨ws,q2,r2⟩:=o2;split at h
    ·rename_i z;cases h;have z:=List.isEmpty_iff.mp z;subst z;cases r1;exact .inr (.inr (.inl ⟨pa,pb,ws,rfl,rfl,SqT.of q1,SqT.of q2,k α _ H Ext.refl R ⟨pb,hb,rfl⟩⟩))
    ·rename_i nx
     have nv:vs≠[]:=λz=>nx (by rw[z]at r1;cases r1;rfl)
     split at h
     ·rename_i c
      have sz:vs.length+ws.length<=sizeLine:=by
       rw[<-r1.length,<-r2.length];exact X2 c big
      split at h
      ·rename_i z;cases h;have z:=List.isEmpty_iff.mp z;subst z;cases r2;exact .inr (.inr (.inr ⟨pa,pb,vs,[],rfl,rfl,SqT.of q1,SqT.of q2,nv,sz,λx=>k α _ H Ext.refl R ⟨pa,ha,rfl⟩,λz=>absurd rfl z⟩))
      ·rename_i ny;cases h
       refine .inr (.inr (.inr ⟨pa,pb,vs,ws,rfl,rfl,SqT.of q1,SqT.of q2,nv,sz,λz=>absurd (by rw[z]at r2;cases r2;rfl) ny,λx p hp=>?_⟩))
       obtain⟨R',E'⟩:=R.new (o:=.tup (xs++ys)) hp ⟨_,Qp,RUs.mono QJ (r1.append r2)⟩
       exact k _ _ _ E' R' ⟨p,by rw[<-R.h.len];exact Q2,rfl⟩
     ·cases h
   ·cases h
  ·cases h
 ·cases h
def opS(o:Operator):OpS X T A o:=by
 cases o with
 |Add=>exact QhE
 |Sub=>exact QhA
 |Mult=>exact QhC
 |FloorDiv=>exact Qff
 |Mod=>exact QhD
 |Pow=>exact QhB
 |_=>exact Qfe λu w hs=>rfl
end
end
section
variable {xs:List U}
section
variable {X:Cx}{T:Tbl}{A:Adr}{α:List Addr}{hs:Hs}{H:Hp}{u w:U}{v y:V}
def QB(tx:Txt T A X.K X.mg)(R:Rep T A X.K α hs H)(h:QV T u hs=some xs)(r:RU A α u v):∃a vs,v=.ref a/\RUs A α xs vs/\SqL X.K H a vs:=by
 cases u with
 |ref n=>
  obtain⟨a,ha,rfl⟩:=r;simp only[QV]at h;split at h
  ·rename_i ys e;cases h;obtain⟨vs,q,rr⟩:=R.h.ob n a _ ha e;exact⟨a,vs,rfl,rr,SqL.of q⟩
  ·cases h
 |con k=>
  simp only[QV]at h;split at h
  ·rename_i ys e;cases h;obtain⟨vs,rr,q⟩:=tx.co k _ e
   exact⟨_,vs,r,RUs.mono (λn a e=>by simp at e) rr,q H⟩
  ·cases h
 |scr=>
  simp only[QV]at h;cases h;obtain⟨vs,rr,q⟩:=R.s.sq (α:=α);exact⟨_,vs,r,rr,q⟩
 |_=>simp[QV]at h
def ZB(tx:Txt T A X.K X.mg)(R:Rep T A X.K α hs H)(h:Zu T u hs=some xs)(r:RU A α u v):∃a vs,v=.ref a/\RUs A α xs vs/\SqT X.K H a vs:=by
 cases u with
 |ref n=>
  obtain⟨a,ha,rfl⟩:=r;simp only[Zu]at h;split at h
  ·rename_i ys e;cases h;obtain⟨vs,q,rr⟩:=R.h.ob n a _ ha e;exact⟨a,vs,rfl,rr,SqT.of q⟩
  ·cases h
 |con k=>
  simp only[Zu]at h;split at h
  ·rename_i ys e;cases h;obtain⟨vs,rr,q⟩:=tx.co k _ e
   exact⟨_,vs,r,RUs.mono (λn a e=>by simp at e) rr,q H⟩
  ·cases h
 |_=>simp[Zu]at h
noncomputable def scP:U->PyData
 |.bl b=>.bool b
 |.int i _=>.int i
 |.str x=>.str ⟨x.toArray⟩
 |_=>.none
noncomputable def toP(T:Tbl):Nat->U->Hs->PyData
 |0,_,_=>.none
 |n+1,u,hs=>match QV T u hs with
  |some xs=>.list (xs.map λx=>toP T n x hs)
  |none=>match Zu T u hs with
   |some xs=>.tuple (xs.map λx=>toP T n x hs)
   |none=>scP u
def JW{h:Heap}{f:U->PyData}{vs:List V}{its:List Value}(r:RUs A α xs vs)(q:Vals vs its)(k:∀x∈xs,∀v u,RU A α x v->RelV v u->∃as,Reads h u (f x) as):∃as,ReadsAll h its (xs.map f) as:=by
 induction r generalizing its with
 |nil=>cases q;exact⟨[],.nil⟩
 |cons r _ ih=>
  cases q with
  |cons q p=>
   obtain⟨as,h1⟩:=k _ Xo _ _ r q;obtain⟨bs,h2⟩:=ih p λx m=>k x (Xk _ m);exact⟨as++bs,.cons h1 h2⟩
theorem Zo{pins:List (Addr×Obj)}{s:Shared}{Y:L2.St}(tx:Txt T A X.K X.mg)(I:Inv X pins Y H s)(R:Rep T A X.K α hs H):∀(n:Nat) {u:U} {v:V} {z:Value},okW T n u hs=true->RU A α u v->RelV v z->∃as,Reads s.heap z (toP T n u hs) as
 |0,_,_,_,h,_,_=>by cases h
 |n+1,u,v,z,h,r,q=>by
  have ih:=λ{u:U} {v:V} {z:Value}=>Zo tx I R n (u:=u) (v:=v) (z:=z);simp only[okW,toP]at h ⊢
  cases el:QV T u hs with
  |some xs=>
   rw[el]at h;have h:=Xw.mp h;obtain⟨a,vs,rfl,rr,sq⟩:=QB tx R el r;cases q;obtain⟨its,rv,pl,_⟩:=I.list sq;obtain⟨o,ho,hc,m,hd⟩:=pl.isList;obtain⟨as,ra⟩:=JW (h:=s.heap) (f:=λx=>toP T n x hs) rr rv λx m v u h1 h2=>ih (h x m) h1 h2;exact⟨_,.list ho hc hd ra⟩
  |none=>
   rw[el]at h
   cases et:Zu T u hs with
   |some xs=>
    rw[et]at h;have h:=Xw.mp h;obtain⟨a,vs,rfl,rr,sq⟩:=ZB tx R et r;cases q;obtain⟨its,rv,pl,_⟩:=I.tuple sq;obtain⟨o,ho,hc,m,hd⟩:=pl;obtain⟨as,ra⟩:=JW (h:=s.heap) (f:=λx=>toP T n x hs) rr rv λx m v u h1 h2=>ih (h x m) h1 h2;exact⟨_,.tuple ho hc hd ra⟩
   |none=>
    rw[et]at h
    cases u with
    |non=>cases(show v=_ from r);cases q;exact⟨[],.none⟩
    |bl b=>cases(show v=_ from r);cases q;exact⟨[],.bool b⟩
    |int i m=>
     have h:(m==0)=true:=h;have h:=eq_of_beq h;subst h;cases Q5 r;obtain⟨t,rfl⟩:=q;exact⟨[],.int i t⟩
    |str x=>cases(show v=_ from r);obtain⟨t,rfl⟩:=q;exact⟨[],.str _ t⟩
    |_=>cases h
theorem QaR{f:U->PyData}{n:Nat}:∀{xs:List U},(∀x∈xs,(f x).canLay0=true/\(f x).depth<=n)->PyData.canLayAll0 (xs.map f)=true/\PyData.depthAll (xs.map f)<=n
 |[],_=>⟨rfl,Wq _⟩
 |x::r,h=>by
  obtain⟨h1,h2⟩:=h x Xo;obtain⟨h3,h4⟩:=QaR (xs:=r) λy m=>h y (Xk _ m);refine⟨?_,?_⟩
  ·show((f x).canLay0&&PyData.canLayAll0 (r.map f))=true;rw[h1,h3];rfl
  ·show max (f x).depth (PyData.depthAll (r.map f))<=n;omega
theorem ZX:∀(n:Nat) {u:U},okW T n u hs=true->(toP T n u hs).canLay0=true/\(toP T n u hs).depth<=n
 |0,_,h=>by cases h
 |n+1,u,h=>by
  have ih:=λ(u:U)=>ZX n (u:=u);simp only[okW,toP]at h ⊢
  cases el:QV T u hs with
  |some xs=>
   rw[el]at h;obtain⟨h1,h2⟩:=QaR (f:=λx=>toP T n x hs) (n:=n) λx m=>ih x (Xw.mp h x m);exact⟨h1,Nat.succ_le_succ h2⟩
  |none=>
   rw[el]at h
   cases et:Zu T u hs with
   |some xs=>
    rw[et]at h;obtain⟨h1,h2⟩:=QaR (f:=λx=>toP T n x hs) (n:=n) λx m=>ih x (Xw.mp h x m);exact⟨h1,Nat.succ_le_succ h2⟩
   |none=>
    rw[et]at h
    cases u with
    |str x=>
     refine⟨?_,Wq _⟩;show PyData.strOk ⟨x.toArray⟩=true;unfold PyData.strOk;have h:=Xw.mp h;rw[Array.all_eq_true'];intro c hc
     have:=Wn (h c (by simpa using hc))
     exact X9 (by omega)
    |non=>exact⟨rfl,Wq _⟩
    |bl b=>exact⟨rfl,Wq _⟩
    |int i m=>exact⟨rfl,Wq _⟩
    |_=>cases h
theorem QaX{f:U->PyData}{g:U->U->Bool}:∀{xs ys:List U},(∀x∈xs,∀y∈ys,PyData.eqv (f x) (f y)=g x y)->PyData.eqvAll (xs.map f) (ys.map f)=((xs.length==ys.length)&&(xs.zip ys).all λp=>g p.1 p.2)
 |[],[],_=>rfl
 |[],_::_,_=>rfl
 |_::_,[],_=>rfl
 |x::r,y::t,h=>by
  have h1:=h x Xo y Xo;have h2:=QaX (xs:=r) (ys:=t) λa ma b mb=>h a (Xk _ ma) b (Xk _ mb);show(PyData.eqv (f x) (f y)&&PyData.eqvAll (r.map f) (t.map f))=_;rw[h1,h2];simp only[Ve,Us,List.all_cons]
  have e:(r.length+1==t.length+1)=(r.length==t.length):=by simp
  rw[e];cases g x y<;>cases(r.length==t.length)<;>simp
def QgX{x y:List Nat}:((⟨x.toArray⟩:Str)==⟨y.toArray⟩)=(x==y):=by
 by_cases h:x=y
 ·subst h;simp
 ·have:(⟨x.toArray⟩:Str)≠⟨y.toArray⟩:=λz=>h (by
   have:=congrArg (λs:Str=>s.cps.toList) z
   simpa using this)
  rw[W3.mpr this,W3.mpr h]
theorem QbU:∀(n:Nat) {u w:U},okW T n u hs=true->okW T n w hs=true->PyData.eqv (toP T n u hs) (toP T n w hs)=eqW T n u w hs
 |0,_,_,h,_=>by cases h
 |n+1,u,w,h,h'=>by
  have ih:=λ(u w:U)=>QbU n (u:=u) (w:=w);simp only[okW,toP,eqW]at h h' ⊢
  cases el:QV T u hs with
  |some xs=>
   rw[el]at h
   cases el':QV T w hs with
   |some ys=>
    rw[el']at h';exact QaX (g:=λa b=>eqW T n a b hs) λx mx y my=>ih x y (Xw.mp h x mx) (Xw.mp h' y my)
   |none=>
    rw[el']at h'
    cases et':Zu T w hs with
    |some ys=>rfl
    |none=>rw[et']at h';cases w<;>first|rfl|(cases h';done)
  |none=>
   rw[el]at h
   cases et:Zu T u hs with
   |some xs=>
    rw[et]at h
    cases el':QV T w hs with
    |some ys=>rfl
    |none=>
     rw[el']at h'
     cases et':Zu T w hs with
     |some ys=>
      rw[et']at h';exact QaX (g:=λa b=>eqW T n a b hs) λx mx y my=>ih x y (Xw.mp h x mx) (Xw.mp h' y my)
     |none=>rw[et']at h';cases w<;>first|rfl|(cases h';done)
   |none=>
    rw[et]at h
    cases el':QV T w hs with
    |some ys=>cases u<;>first|rfl|(cases h;done)
    |none=>
     rw[el']at h'
     cases et':Zu T w hs with
     |some ys=>cases u<;>first|rfl|(cases h;done)
     |none=>
      rw[et']at h'
      cases u<;>first|(cases h;done)|(cases w<;>first|(cases h';done)|rfl|exact QgX)
def Qn0(T:Tbl)(A:Adr)(K:W.Frag)(neg:Bool):R2:=λx y H Q=>∃α u w hs,RU A α u x/\RU A α w y/\Rep T A K α hs H/\okW T 20 u hs=true/\okW T 20 w hs=true/\Q (.bl (if neg then !(eqW T 20 u w hs)else eqW T 20 u w hs)) H
def ZG{d:PyData}{n:Nat}(h:d.canLay0=true/\d.depth<=n)(hn:n<=64):SeqAt.shaped d=true:=by
 unfold SeqAt.shaped;rw[h.1,Bool.true_and];exact X9 (X2 h.2 hn)
def Qkc(tx:Txt T A X.K X.mg)(hu:X.A.units+64<cLine):OpR X (compareOp .Eq) (Qn0 T A X.K false):=by
 intro pins s Y H x y v u Q I rx ry h;obtain⟨α,u1,w1,hs,r1,r2,R,o1,o2,q⟩:=h;obtain⟨as,ra⟩:=Zo tx I R 20 o1 r1 rx;obtain⟨bs,rb⟩:=Zo tx I R 20 o2 r2 ry
 refine eq_dataH ra rb (ZG (ZX 20 o1) (by decide)) (ZG (ZX 20 o2) (by decide)) hu ?_
 rw[QbU 20 o1 o2];exact⟨.bl _,H,I,rfl,q⟩
def QnW(T:Tbl)(A:Adr)(K:W.Frag)(b:Bool):R2:=λx y H Q=>∃α u w hs,RU A α u x/\RU A α w y/\Rep T A K α hs H/\Qcm T u w hs=true/\Q (.bl b) H
def QbJ{pins:List (Addr×Obj)}{s:Shared}{Y:L2.St}{H:Hp}{α:List Addr}{hs:Hs}{u w:U}{x y:V}{v z:Value}(tx:Txt T A X.K X.mg)(I:Inv X pins Y H s)(R:Rep T A X.K α hs H)(h:Qcm T u w hs=true)(r1:RU A α u x)(r2:RU A α w y)(rx:RelV x v)(ry:RelV y z):
  ∃(a b:Addr) (i1 i2:List Value),v=.ref a/\z=.ref b/\s.heap.IsList a i1.toArray/\s.heap.IsList b i2.toArray/\(i1.toArray.size != i2.toArray.size)=true:=by
 unfold Qcm at h;split at h
 ·rename_i xs ys e1 e2;obtain⟨a,vs,rfl,rr,sq⟩:=QB tx R e1 r1;obtain⟨b,ws,rfl,rr',sq'⟩:=QB tx R e2 r2;obtain⟨i1,q1,p1,_⟩:=I.list sq;obtain⟨i2,q2,p2,_⟩:=I.list sq';cases rx;cases ry;have l1:=rr.length;have l2:=rr'.length;have l3:=q1.length;have l4:=q2.length;have h:=Wn h;refine⟨a,b,i1,i2,rfl,rfl,p1.isList,p2.isList,?_⟩;simp only[Xp,bne_iff_ne,ne_eq];omega
 ·cases h
def Qkb(tx:Txt T A X.K X.mg)(hu:X.A.units+64<cLine):OpR X (compareOp .Eq) (QnW T A X.K false):=by
 intro pins s Y H x y v u Q I rx ry h;obtain⟨α,u1,w1,hs,r1,r2,R,o1,q⟩:=h;obtain⟨a,b,i1,i2,rfl,rfl,p1,p2,z⟩:=QbJ tx I R o1 r1 r2 rx ry
 exact SeqAt.RcAt.lists_lengths p1 p2 z (by omega) _ _ _ _ ⟨.bl _,H,I,rfl,q⟩
def Qj5(tx:Txt T A X.K X.mg)(hu:X.A.units+64<cLine):OpR X (compareOp .NotEq) (QnW T A X.K true):=by
 intro pins s Y H x y v u Q I rx ry h;obtain⟨α,u1,w1,hs,r1,r2,R,o1,q⟩:=h;obtain⟨a,b,i1,i2,rfl,rfl,p1,p2,z⟩:=QbJ tx I R o1 r1 r2 rx ry
 exact SeqAt.RcNeAt.lists_lengths p1 p2 z (by omega) _ _ _ _ ⟨.bl _,H,I,rfl,q⟩
def Qjy(T:Tbl)(A:Adr)(K:W.Frag)(b:Bool):R2:=λx y H Q=>∃α u w hs,RU A α u x/\RU A α w y/\Rep T A K α hs H/\Qb8 T u w hs=true/\Q (.bl b) H
def QcO{α:List Addr}{vs ws:List V}{i1 i2:List Value}(h:(xs.all λx=>match x with|.ref _=>true|_=>false)=true)(r1:RUs A α xs vs)(r2:RUs A α xs ws)(q1:Vals vs i1)(q2:Vals ws i2):i1=i2:=by
 induction xs generalizing vs ws i1 i2 with
 |nil=>cases r1;cases r2;cases q1;cases q2;rfl
 |cons x xs ih=>
  rw[List.all_cons,Xg]at h
  cases r1 with
  |cons a r1=>
   cases r2 with
   |cons b r2=>
    cases q1 with
    |cons c q1=>
     cases q2 with
     |cons d q2=>
      rw[ih h.2 r1 r2 q1 q2]
      cases x with
      |ref n=>
       obtain⟨p,hp,rfl⟩:=a;obtain⟨p',hp',rfl⟩:=b;rw[hp]at hp';cases hp';cases c;cases d;rfl
      |_=>exact absurd h.1 (by simp)
def Qbn{pins:List (Addr×Obj)}{s:Shared}{Y:L2.St}{H:Hp}{α:List Addr}{hs:Hs}{u w:U}{x y:V}{v z:Value}(tx:Txt T A X.K X.mg)(I:Inv X pins Y H s)(R:Rep T A X.K α hs H)(h:Qb8 T u w hs=true)(r1:RU A α u x)(r2:RU A α w y)(rx:RelV x v)(ry:RelV y z):
  ∃(a b:Addr) (i1:List Value),v=.ref a/\z=.ref b/\s.heap.IsList a i1.toArray/\s.heap.IsList b i1.toArray:=by
 unfold Qb8 at h;split at h
 ·rename_i xs ys e1 e2;rw[Xg]at h;obtain⟨h0,h⟩:=h;have h0:=Wn h0;subst h0;obtain⟨a,vs,rfl,rr,sq⟩:=QB tx R e1 r1;obtain⟨b,ws,rfl,rr',sq'⟩:=QB tx R e2 r2;obtain⟨i1,q1,p1,_⟩:=I.list sq;obtain⟨i2,q2,p2,_⟩:=I.list sq';cases rx;cases ry;cases QcO h rr rr' q1 q2;exact⟨a,b,i1,rfl,rfl,p1.isList,p2.isList⟩
 ·cases h
def Qka(tx:Txt T A X.K X.mg)(hu:X.A.units+64<cLine):OpR X (compareOp .Eq) (Qjy T A X.K true):=by
 intro pins s Y H x y v u Q I rx ry h;obtain⟨α,u1,w1,hs,r1,r2,R,o1,q⟩:=h;obtain⟨a,b,i1,rfl,rfl,p1,p2⟩:=Qbn tx I R o1 r1 r2 rx ry
 have rc:=SeqAt.RcAt.lists (A:=X.A) (e:=λz=>true) p1 p2 rfl (by omega) λj h1 h2=>SeqAt.EqAt.same _
 have al:(List.range i1.toArray.size).all (λz=>true)=true:=by simp
 rw[al]at rc;exact rc _ _ _ _ ⟨.bl _,H,I,rfl,q⟩
def Qj4(tx:Txt T A X.K X.mg)(hu:X.A.units+64<cLine):OpR X (compareOp .NotEq) (Qjy T A X.K false):=by
 intro pins s Y H x y v u Q I rx ry h;obtain⟨α,u1,w1,hs,r1,r2,R,o1,q⟩:=h;obtain⟨a,b,i1,rfl,rfl,p1,p2⟩:=Qbn tx I R o1 r1 r2 rx ry
 have rc:=SeqAt.RcNeAt.lists (A:=X.A) (e:=λz=>true) p1 p2 rfl (by omega) λj h1 h2=>SeqAt.EqAt.same _
 have al:(!(List.range i1.toArray.size).all (λz=>true))=false:=by simp
 rw[al]at rc;exact rc _ _ _ _ ⟨.bl _,H,I,rfl,q⟩
def Qj6(tx:Txt T A X.K X.mg)(hu:X.A.units+64<cLine):OpR X (compareOp .NotEq) (Qn0 T A X.K true):=by
 intro pins s Y H x y v u Q I rx ry h;obtain⟨α,u1,w1,hs,r1,r2,R,o1,o2,q⟩:=h;obtain⟨as,ra⟩:=Zo tx I R 20 o1 r1 rx;obtain⟨bs,rb⟩:=Zo tx I R 20 o2 r2 ry
 refine ne_dataH ra rb (ZG (ZX 20 o1) (by decide)) (ZG (ZX 20 o2) (by decide)) hu ?_
 rw[QbU 20 o1 o2];exact⟨.bl _,H,I,rfl,q⟩
end
end
section
section
variable {κ κ':Type}[DecidableEq κ][DecidableEq κ']{P:κ->κ'->Prop}{A:Adr}{α:List Addr}
abbrev RG(P:κ->κ'->Prop)(A:Adr)(α:List Addr):List (κ×U)->List (κ'×V)->Prop:=Paired λp q=>P p.1 q.1/\RU A α p.2 q.2
end
section
variable {X:Cx}{A:Adr}{hs:Hs}{H:Hp}{o:O}{y:V}
def Qml:R2:=λz z z z=>False
def QhP(hu:X.A.units+1<cLine):IxR X Qml:=by
 intro value slice pins s Y H x y v u Q I rx ry h hs;exact h.elim
def Qmk:V->V->V->Hp->(Hp->Prop)->Prop:=λz z z z z=>False
def QeU(hu:X.A.units+1<cLine):QiA X Qmk:=by
 intro pins s Y H o i v ov iv u Q I ro ri rv h;exact h.elim
def Qjd{t t':QlL}(h:QiA X t)(h':QiA X t'):QiA X (λo i v H Q=>t o i v H Q\/t' o i v H Q):=λpins s Y H o i v ov iv u Q I ro ri rv q=>q.elim (h pins s Y H o i v ov iv u Q I ro ri rv) (h' pins s Y H o i v ov iv u Q I ro ri rv)
end
end
section
variable {i:Int}{α:List Addr}{us:List U}{vs:List V}{u w:U}{v y:V}
section
variable {X:Cx}{T:Tbl}{A:Adr}
def Qng{j:Int}:decide (V.int i=V.int j)=decide (i=j):=by
 by_cases e:i=j
 ·subst e;simp
 ·have:¬V.int i=V.int j:=λq=>e (V.int.inj q);rw[Xy this,Xy e]
def Qnf{x y:List Nat}:decide (V.str ⟨x.toArray⟩=V.str ⟨y.toArray⟩)=decide (x=y):=by
 by_cases e:x=y
 ·subst e;simp
 ·have:¬V.str ⟨x.toArray⟩=V.str ⟨y.toArray⟩:=λq=>e (by
   have q1:=V.str.inj q;have q2:=congrArg (λs:Str=>s.cps.toList) q1
   simpa using q2)
  rw[Xy this,Xy e]
def Qnh{x y:Bool}:decide (V.bl x=V.bl y)=decide (x=y):=by cases x<;>cases y<;>rfl
def Qgn{c:Bool}(h:eqS u w=some c)(ru:RU A α u v)(rw':RU A α w y):Qmd v y=true/\decide (v=y)=c:=by
 cases u with
 |non=>
  cases(show v=_ from ru)
  cases w with
  |non=>cases(show y=_ from rw');cases h;exact⟨rfl,rfl⟩
  |bl b=>cases(show y=_ from rw');cases h;exact⟨rfl,rfl⟩
  |int j n=>obtain⟨_,rfl,_⟩:=rw';cases h;exact⟨rfl,rfl⟩
  |str x=>cases(show y=_ from rw');cases h;exact⟨rfl,rfl⟩
  |_=>exact Znn h
 |bl b=>
  cases(show v=_ from ru)
  cases w with
  |non=>cases(show y=_ from rw');cases h;exact⟨rfl,rfl⟩
  |bl b=>cases(show y=_ from rw');cases h;exact⟨rfl,Qnh⟩
  |str x=>cases(show y=_ from rw');cases h;exact⟨rfl,rfl⟩
  |_=>exact Znn h
 |str x=>
  cases(show v=_ from ru)
  cases w with
  |non=>cases(show y=_ from rw');cases h;exact⟨rfl,rfl⟩
  |bl b=>cases(show y=_ from rw');cases h;exact⟨rfl,rfl⟩
  |int j n=>obtain⟨_,rfl,_⟩:=rw';cases h;exact⟨rfl,rfl⟩
  |str z=>cases(show y=_ from rw');cases h;exact⟨rfl,Qnf⟩
  |_=>exact Znn h
 |int i m=>
  obtain⟨i',rfl,a⟩:=ru
  cases w with
  |non=>cases(show y=_ from rw');cases m<;>cases h<;>exact⟨rfl,rfl⟩
  |str x=>cases(show y=_ from rw');cases m<;>cases h<;>exact⟨rfl,rfl⟩
  |int j n=>
   obtain⟨j',rfl,b⟩:=rw'
   cases m with
   |succ m=>exact Znn h
   |zero=>
    cases n with
    |succ n=>exact Znn h
    |zero=>cases a.exact;cases b.exact;cases h;exact⟨rfl,Qng⟩
  |_=>cases m<;>exact Znn h
 |_=>cases w<;>exact Znn h
def Qor(X:Cx)(T:Tbl)(A:Adr)(o:CmpOp):Prop:=∃r,OpR X (compareOp o) r/\∀{α:List Addr} {u w:U} {hs:Hs} {v y:V} {H:Hp} {Q:VK} {c:Bool},QcC T o u w hs=some c->RU A α u v->RU A α w y->Rep T A X.K α hs H->Q (.bl c) H->r v y H Q
def QbX{o:CmpOp}{p:Int->Int->Bool}(ho:OpR X (compareOp o) (rI0 λi j=>.bl (p i j)))(hc:∀u w hs,QcC T o u w hs=match u,w with|.int i 0,.int j 0=>some (p i j)|_,_=>none):Qor X T A o:=by
 refine⟨_,ho,?_⟩;intro α u w hs v y H Q c h ru rw' R q;rw[hc]at h;split at h
 ·cases h;obtain⟨i',rfl,a⟩:=ru;obtain⟨j',rfl,b⟩:=rw';cases a.exact;cases b.exact;exact⟨_,_,rfl,rfl,q⟩
 ·cases h
def Qr(r:RUs A α (u::us) vs):∃v ws,vs=v::ws/\RU A α u v/\RUs A α us ws:=by cases r with|cons a b=>exact⟨_,_,rfl,a,b⟩
def QH(r:RUs A α [] vs):vs=[]:=by cases r;rfl
theorem QbQ{α:List Addr}:∀{ys:List U} {ns:List Int} {vs:List V},Js ys=some ns->RUs A α ys vs->vs=ns.map V.int
 |[],_,_,h,r=>by cases h;cases QH r;rfl
 |u::ys,ns,vs,h,r=>by
  cases u with
  |int i m=>
   cases m with
   |succ m=>simp[Js]at h
   |zero=>
    simp only[Js,Xc]at h;obtain⟨ns',h,rfl⟩:=h;obtain⟨v,ws,rfl,ru,rn⟩:=Qr r;obtain⟨j,rfl,c⟩:=ru;cases c.exact;rw[QbQ h rn];rfl
  |_=>simp[Js]at h
def Qj9:OpR X (compareOp .Is) (λx y H Q=>∃a b,x=.bl a/\y=.bl b/\Q (.bl (a==b)) H):=by
 intro pins s Y H x y v u Q I rx ry h;obtain⟨a,b,rfl,rfl,q⟩:=h;cases rx;cases ry
 exact wpAny_is_plain rfl ⟨.bl _,H,I,rfl,by cases a<;>cases b<;>exact q⟩
def Qhx:OpR X (compareOp .IsNot) (λx y H Q=>∃a b,x=.bl a/\y=.bl b/\Q (.bl (!(a==b))) H):=by
 intro pins s Y H x y v u Q I rx ry h;obtain⟨a,b,rfl,rfl,q⟩:=h;cases rx;cases ry
 exact wpAny_isNot_plain rfl ⟨.bl _,H,I,rfl,by cases a<;>cases b<;>exact q⟩
def Qgj{c:Bool}(h:isU u w=some c)(ru:RU A α u v)(rw':RU A α w y):(y=.non/\decide (v=.non)=c)\/∃a b,v=.bl a/\y=.bl b/\(a==b)=c:=by
 unfold isU at h;split at h
 ·cases h;refine .inl ⟨rw',?_⟩
  cases u with
  |non=>cases(show v=_ from ru);rfl
  |bl b=>cases(show v=_ from ru);rfl
  |int i m=>obtain⟨_,rfl,_⟩:=ru;rfl
  |str x=>cases(show v=_ from ru);rfl
  |ref n=>obtain⟨_,_,rfl⟩:=ru;rfl
  |con k=>cases(show v=_ from ru);rfl
  |scr=>cases(show v=_ from ru);rfl
 ·split at h
  ·cases h;exact .inr ⟨_,_,ru,rw',rfl⟩
  ·cases h
 ·cases h
def Qpt(tx:Txt T A X.K X.mg)(tab:JH X.prog X.w T A X.K)(hu:X.A.units+64<cLine)(o:CmpOp):Qor X T A o:=by
 cases o with
 |Eq=>
  refine⟨_,OpR.or QmB (OpR.or (Qkb tx hu) (OpR.or (Qka tx hu) (Qkc tx hu))),?_⟩;intro α u w hs v y H Q c h ru rw' R q;simp only[QcC,eqA]at h;split at h
  ·rename_i b e;cases h;obtain⟨h1,h2⟩:=Qgn e ru rw'
   exact .inl ⟨h1,by rw[h2];exact q⟩
  ·split at h
   ·rename_i c;cases h;exact .inr (.inl ⟨α,u,w,hs,ru,rw',R,c,q⟩)
   ·split at h
    ·rename_i c;cases h;exact .inr (.inr (.inl ⟨α,u,w,hs,ru,rw',R,c,q⟩))
    ·split at h
     ·rename_i c;cases h;rw[Xg]at c;exact .inr (.inr (.inr ⟨α,u,w,hs,ru,rw',R,c.1,c.2,q⟩))
     ·cases h
 |NotEq=>
  refine⟨_,OpR.or Qmw (OpR.or (Qj5 tx hu) (OpR.or (Qj4 tx hu) (Qj6 tx hu))),?_⟩;intro α u w hs v y H Q c h ru rw' R q;simp only[QcC,Xc,eqA]at h;obtain⟨d,h,e⟩:=h;split at h
  ·rename_i b eb;cases h;obtain⟨h1,h2⟩:=Qgn eb ru rw'
   exact .inl ⟨h1,by rw[h2,e];exact q⟩
  ·split at h
   ·rename_i cc;cases h;refine .inr (.inl ⟨α,u,w,hs,ru,rw',R,cc,?_⟩);rw[show(true:Bool)=c from e];exact q
   ·split at h
    ·rename_i cc;cases h;refine .inr (.inr (.inl ⟨α,u,w,hs,ru,rw',R,cc,?_⟩));rw[show(false:Bool)=c from e];exact q
    ·split at h
     ·rename_i cc;cases h;rw[Xg]at cc;refine .inr (.inr (.inr ⟨α,u,w,hs,ru,rw',R,cc.1,cc.2,?_⟩));rw[if_pos rfl,e];exact q
     ·cases h
 |Lt=>exact QbX Qmx λz z z=>rfl
 |LtE=>exact QbX Qmy λz z z=>rfl
 |Gt=>exact QbX Qmz λz z z=>rfl
 |GtE=>exact QbX QmA λz z z=>rfl
 |Is=>
  refine⟨_,OpR.or Qj8 Qj9,?_⟩;intro α u w hs v y H Q c h ru rw' R q
  rcases Qgj h ru rw' with⟨h1,h2⟩|⟨a,b,h1,h2,h3⟩
  ·exact .inl ⟨h1,by rw[h2];exact q⟩
  ·exact .inr ⟨a,b,h1,h2,by rw[h3];exact q⟩
 |IsNot=>
  refine⟨_,OpR.or Qhw Qhx,?_⟩;intro α u w hs v y H Q c h ru rw' R q;simp only[QcC,Xc]at h;obtain⟨d,h,e⟩:=h
  rcases Qgj h ru rw' with⟨h1,h2⟩|⟨a,b,h1,h2,h3⟩
  ·exact .inl ⟨h1,by rw[h2,e];exact q⟩
  ·exact .inr ⟨a,b,h1,h2,by rw[h3,e];exact q⟩
 |In=>exact⟨λz z z z=>False,λpins s Y H x y v u Q I rx ry h=>h.elim,λ{α u w hs v y H Q c} e=>Znn e⟩
 |NotIn=>exact⟨λz z z z=>False,λpins s Y H x y v u Q I rx ry h=>h.elim,λ{α u w hs v y H Q c} e=>Znn e⟩
def Qlc(r:RUs A α us vs)(h:atU us i=some u):∃v,atI vs i=some v/\RU A α u v:=by
 unfold atU at h;split at h
 ·rename_i j e;obtain⟨v,h1,h2⟩:=r.get h;refine⟨v,?_,h2⟩
  have e':ixN vs.length i=some j:=by rw[<-r.length];exact e
  unfold atI;rw[e'];exact h1
 ·cases h
def QnA{xs:List Nat}{c:Nat}(h:atU xs i=some c):atI xs i=some c:=by
 unfold atU at h;split at h
 ·rename_i j e;have e':ixN xs.length i=some j:=e;unfold atI;rw[e'];exact h
 ·cases h
def QgW{x:U}{hs:Hs}{H:Hp}{Q:VK}(tx:Txt T A X.K X.mg)(h:Yp T u w hs=some x)(ru:RU A α u v)(rw':RU A α w y)(R:Rep T A X.K α hs H)(k:∀z,RU A α x z->Q z H):rIx X.K v y H Q\/Qml v y H Q:=by
 have seq:∀{xs:List U} {i:Int},Z9 T u hs=some xs->w=.int i 0->atU xs i=some x->rIx X.K v y H Q\/Qml v y H Q:=λ{xs i} e1 e2 e3=>by
  subst e2;obtain⟨j,rfl,c⟩:=rw';cases c.exact;obtain⟨a,vs,rfl,rr,sq⟩:=QaA (K':=X.K) tx R e1 ru;obtain⟨z,h1,h2⟩:=Qlc rr e3
  rcases sq with sq|sq
  ·exact .inl (.inl ⟨a,vs,i,z,rfl,rfl,sq,h1,k z h2⟩)
  ·exact .inl (.inr (.inl ⟨a,vs,i,z,rfl,rfl,sq,h1,k z h2⟩))
 cases u with
 |str z=>
  cases w with
  |int i m=>
   cases m with
   |succ m=>simp[Yp,Z9]at h
   |zero=>
    simp only[Yp]at h;split at h
    ·rename_i l;simp only[Xc]at h;obtain⟨c,e,rfl⟩:=h;cases(show v=_ from ru);obtain⟨j,rfl,q⟩:=rw';cases q.exact
     exact .inl (.inr (.inr ⟨_,i,c,rfl,rfl,by rw[ZS];exact X2 l big,by simpa using QnA e,k _ (by show _=_;rfl)⟩))
    ·cases h
  |_=>simp[Yp,Z9]at h
 |ref n=>
  simp only[Yp]at h;split at h
  ·rename_i xs i e
   exact seq (by simp only[Z9,e]) rfl h
  ·rename_i xs i e
   exact seq (by simp only[Z9,e]) rfl h
  ·cases h
 |con n=>
  cases w with
  |int i m=>
   cases m with
   |succ m=>simp[Yp]at h
   |zero=>
    simp only[Yp]at h;split at h
    ·rename_i xs e;exact seq e rfl h
    ·cases h
  |_=>simp[Yp]at h
 |scr=>
  cases w with
  |int i m=>
   cases m with
   |succ m=>simp[Yp]at h
   |zero=>
    simp only[Yp]at h;split at h
    ·rename_i xs e;exact seq e rfl h
    ·cases h
  |_=>simp[Yp]at h
 |_=>
  cases w with
  |int i m=>cases m<;>simp[Yp,Z9]at h
  |_=>simp[Yp]at h
theorem RUs.drop(n:Nat)(h:RUs A α us vs):RUs A α (us.drop n) (vs.drop n):=QaK h n
theorem RUs.take(n:Nat)(h:RUs A α us vs):RUs A α (us.take n) (vs.take n):=QaJ h n
def Yh(n d:Nat)(o:Option Int):ZR n d o=HT.sIx n d o:=by cases o<;>rfl
def RUs.cut(r:RUs A α us vs)(lo hi:Option Int):RUs A α (YS us lo hi) (Qgp vs lo hi):=by
 unfold YS Qgp;rw[Yh,Yh,r.length];exact RUs.take _ (RUs.drop _ r)
def Qjc{x:U}{hs hs':Hs}{H:Hp}{Q:VK}{lo hi:Option Int}(h:slU T u lo hi hs=some (x,hs'))(ru:RU A α u v)(R:Rep T A X.K α hs H)(k:∀α' z H',Ext α α' H H'->Rep T A X.K α' hs' H'->RU A α' x z->Q z H'):QnV X.K v lo hi H Q\/QnU X.K v lo hi H Q:=by
 cases u with
 |scr=>
  simp only[slU]at h;cases h;obtain⟨vs,rr,q⟩:=R.s.sq (α:=α);refine .inl ⟨_,vs,ru,q,λp hp=>?_⟩;obtain⟨R',E'⟩:=R.new (o:=.lst (YS T.scr lo hi)) hp ⟨_,Qp,RUs.mono QJ (rr.cut lo hi)⟩
  exact k _ _ _ E' R' ⟨p,by rw[<-R.h.len];exact Q2,rfl⟩
 |ref n=>
  simp only[slU]at h;split at h
  ·rename_i xs e;cases h;obtain⟨a,ha,rfl⟩:=ru;obtain⟨vs,q,rr⟩:=R.h.ob n a _ ha e;refine .inl ⟨_,vs,rfl,SqL.of q,λp hp=>?_⟩;obtain⟨R',E'⟩:=R.new (o:=.lst (YS xs lo hi)) hp ⟨_,Qp,RUs.mono QJ (rr.cut lo hi)⟩
   exact k _ _ _ E' R' ⟨p,by rw[<-R.h.len];exact Q2,rfl⟩
  ·rename_i xs e;split at h
   ·cases h
   rename_i hw;cases h;obtain⟨a,ha,rfl⟩:=ru;obtain⟨vs,q,rr⟩:=R.h.ob n a _ ha e;refine .inr ⟨_,vs,rfl,SqT.of q,?_,λp hp=>?_⟩
   ·rw[Yh,Yh,rr.length]at hw;exact hw
   obtain⟨R',E'⟩:=R.new (o:=.tup (YS xs lo hi)) hp ⟨_,Qp,RUs.mono QJ (rr.cut lo hi)⟩
   exact k _ _ _ E' R' ⟨p,by rw[<-R.h.len];exact Q2,rfl⟩
  ·cases h
 |_=>simp[slU]at h
end
end
section
variable {hs:Hs}{α:List Addr}{v:V}
section
variable {X:Cx}{T:Tbl}{A:Adr}
def ZE{e:Expr}{t:TE}(h:∀Y H Q,¬t Y H Q):PE X e t:=λz z Y H Q z q=>(h Y H Q q).elim
def QmR(K:W.Frag){k t:Ty}{b:Bool}(h:QmY k t=some b)(A:Adr):W.kitOne K (tyW A k) (tyW A t)=some b:=by
 cases k<;>cases t<;>simp only[QmY]at h<;>first|(cases h;done)|(cases h;rfl)|(cases h;kernel_rfl)
def QhO{u:U}{H:Hp}{k:Ty}(tx:Txt T A X.K X.mg)(h:Zt u hs=some k)(r:RU A α u v)(R:Rep T A X.K α hs H):TyE X.K H v (tyW A k):=by
 cases u with
 |non=>cases h;cases(show v=_ from r);exact .inl .non
 |bl b=>cases h;cases(show v=_ from r);exact .inl (.bl b)
 |int i m=>cases h;obtain⟨j,rfl,_⟩:=r;exact .inl (.int j)
 |str x=>cases h;cases(show v=_ from r);exact .inl (.str _)
 |ref n=>
  obtain⟨a,ha,rfl⟩:=r;simp only[Zt]at h;split at h
  ·rename_i xs e;cases h;obtain⟨vs,q,_⟩:=R.h.ob n a _ ha e;exact .inl (.lst q)
  ·rename_i xs e;cases h;obtain⟨vs,q,_⟩:=R.h.ob n a _ ha e;exact .inl (.tup q)
  ·rename_i c fs e;cases h;obtain⟨dx,fv,q,_,l⟩:=R.h.ob n a _ ha e;exact .inl ((tx.cl c _ (Xj l)).ty H a dx fv q)
  ·rename_i c w e;cases h;obtain⟨dd,q,l,_⟩:=R.h.ob n a _ ha e;exact .inr ⟨a,A.c c,dd,rfl,rfl,q,(tx.er c l).1⟩
  ·cases h
 |_=>simp[Zt]at h
def Qkx{u:U}{H:Hp}{t:Ty}{b:Bool}(tx:Txt T A X.K X.mg)(h:Zx T t u hs=some b)(r:RU A α u v)(R:Rep T A X.K α hs H):∃tv,TyE X.K H v tv/\W.kitOne X.K tv (tyW A t)=some b:=by
 unfold Zx at h;split at h
 ·cases h
 ·rename_i k e;refine⟨tyW A k,QhO tx e r R,?_⟩;split at h
  ·rename_i b' e';cases h;exact QmR X.K e' A
  ·exact tx.isi k t b h
def Qee:CallR X (.type "int") (λxs H Q=>((∃i,xs=[.int i]/\Q (.int i) H)\/∃k,xs=[.bl k]/\Q (.int (if k then 1 else 0)) H)\/∃x,xs=[.str x]/\NumText.AllDigits x.cps.toList/\x.cps.toList≠[]/\x.length<=640/\Q (.int ((NumText.digitsVal x.cps.toList:Nat): Int)) H):= by
 intro pins s Y H xs us Q I r h
 rcases h with h|h
 ·exact Qef pins s Y H xs us Q I r h
 ·exact Jz pins s Y H xs us Q I r h
def BiS(X:Cx)(T:Tbl)(A:Adr)(b:Bi)(f:Value):Prop:=∃r,CallR X f r/\∀{α:List Addr} {us:List U} {u':U} {hs hs':Hs} {vs:List V} {H:Hp} {Q:VK},biU T b us hs=some (u',hs')->RUs A α us vs->Rep T A X.K α hs H ->
 (∀α' v' H',Ext α α' H H'->Rep T A X.K α' hs' H'->RU A α' u' v'->Q v' H')->r vs H Q
def QkV{f:Value}:CallR X f (λz z z=>False):=λpins s Y H xs us Q I r h=>h.elim
def Qih(tx:Txt T A X.K X.mg):BiS X T A .len (.builtin "len"):=by
 refine⟨_,CallR.or (CallR.or Qai Qah) QkV,?_⟩;intro α us u' hs hs' vs H Q h r R k
 have seq:∀{u:U} {xs:List U},us=[u]->Z9 T u hs=some xs->(u',hs')=(U.int xs.length 0,hs)->(∃p ys,vs=[V.ref p]/\(SqL X.K H p ys\/SqT X.K H p ys)/\Q (.int ys.length) H):=λ{u xs} e1 e2 e3=>by
  subst e1;cases e3;obtain⟨v,ws,rfl,ru,rn⟩:=Qr r;cases QH rn;obtain⟨a,ys,rfl,rr,sq⟩:=QaA (K':=X.K) tx R e2 ru
  exact⟨a,ys,rfl,sq,k α _ H Ext.refl R ⟨_,rfl,by rw[rr.length];exact Cg.refl _ _⟩⟩
 cases us with
 |nil=>first|exact Znn h|simp[biU]at h
 |cons u t=>
  cases t with
  |cons _ _=>cases u<;>first|exact Znn h|simp[biU]at h
  |nil=>
   cases u with
   |str x=>
    unfold biU at h;try dsimp only at h;split at h
    ·rename_i l;cases h;obtain⟨v,ws,rfl,ru,rn⟩:=Qr r;cases QH rn;cases(show v=_ from ru)
     refine .inl (.inr ⟨_,rfl,by rw[ZS];exact X2 l big,k α _ H Ext.refl R ⟨_,rfl,?_⟩⟩)
     rw[ZS];exact Cg.refl _ _
    ·cases h
   |ref n=>
    unfold biU at h;try dsimp only at h;split at h
    ·rename_i xs e;exact .inl (.inl (seq rfl e (Xn h).symm))
    ·cases h
   |con n=>
    unfold biU at h;try dsimp only at h;split at h
    ·rename_i xs e;exact .inl (.inl (seq rfl e (Xn h).symm))
    ·cases h
   |scr=>
    unfold biU at h;try dsimp only at h;split at h
    ·rename_i xs e;exact .inl (.inl (seq rfl e (Xn h).symm))
    ·cases h
   |_=>unfold biU at h;simp[Z9]at h
def Qii:BiS X T A .int (.type "int"):=by
 refine⟨_,Qee,?_⟩;intro α us u' hs hs' vs H Q h r R k
 cases us with
 |nil=>first|exact Znn h|simp[biU]at h
 |cons u t=>
  cases t with
  |cons _ _=>cases u<;>first|exact Znn h|simp[biU]at h
  |nil=>
   obtain⟨v,ws,rfl,ru,rn⟩:=Qr r;cases QH rn
   cases u with
   |int i m=>
    cases h;obtain⟨j,rfl,c⟩:=ru;exact .inl (.inl ⟨j,rfl,k α _ H Ext.refl R ⟨_,rfl,c⟩⟩)
   |bl b=>
    cases h;cases(show v=_ from ru);refine .inl (.inr ⟨b,rfl,k α _ H Ext.refl R ⟨_,rfl,?_⟩⟩);cases b<;>exact Cg.refl _ _
   |str x=>
    unfold biU at h;try dsimp only at h;split at h
    case isFalse=>cases h
    rename_i c;cases h;cases(show v=_ from ru);unfold Qoh at c;simp only[Xg,Xw,Xq,Vw,List.isEmpty_eq_false_iff]at c;obtain⟨⟨c1,c2⟩,c3⟩:=c
    exact .inr ⟨_,rfl,c1,c2,by rw[ZS];exact c3,k α _ H Ext.refl R ⟨_,rfl,Cg.refl _ _⟩⟩
   |_=>first|exact Znn h|simp[biU]at h
def Qet:BiS X T A .tuple (.type "tuple"):=by
 refine⟨_,Jy,?_⟩;intro α us u' hs hs' vs H Q h r R k
 cases us with
 |nil=>first|exact Znn h|simp[biU]at h
 |cons u t=>
  cases t with
  |cons _ _=>cases u<;>first|exact Znn h|simp[biU]at h
  |nil=>
   obtain⟨v,ws,rfl,ru,rn⟩:=Qr r;cases QH rn
   cases u with
   |ref n=>
    obtain⟨a,ha,rfl⟩:=ru;unfold biU at h;try dsimp only at h;split at h
    ·rename_i xs e;cases h;obtain⟨ys,q,rr⟩:=R.h.ob n a _ ha e;refine⟨a,ys,rfl,.inl ⟨SqL.of q,λp hp=>?_⟩⟩;obtain⟨R',E'⟩:=R.new (o:=.tup xs) hp ⟨_,Qp,RUs.mono QJ rr⟩
     exact k _ _ _ E' R' ⟨p,by rw[<-R.h.len];exact Q2,rfl⟩
    ·rename_i xs e;cases h;obtain⟨ys,q,rr⟩:=R.h.ob n a _ ha e;exact⟨a,ys,rfl,.inr ⟨SqT.of q,k α _ H Ext.refl R ⟨a,ha,rfl⟩⟩⟩
    ·cases h
   |_=>first|exact Znn h|simp[biU]at h
theorem Qal{α:List Addr}:∀{ys:List U} {bs:List Bool} {vs:List V},YK ys=some bs->RUs A α ys vs->vs=bs.map V.bl
 |[],_,_,h,r=>by cases h;cases QH r;rfl
 |u::ys,bs,vs,h,r=>by
  cases u with
  |bl b=>
   simp only[YK,Xc]at h;obtain⟨bs',h,rfl⟩:=h;obtain⟨v,ws,rfl,ru,rn⟩:=Qr r;cases(show v=_ from ru);rw[Qal h rn];rfl
  |_=>simp[YK]at h
def QbT{i:Int}(r:RU A α (.int i 0) v):v=.int i:=by
 obtain⟨j,rfl,c⟩:=r;cases c.exact;rfl
def Qig(tx:Txt T A X.K X.mg)(hc:X.calm=true):BiS X T A .sum (.builtin "sum"):=by
 refine⟨_,Qec hc,?_⟩;intro α us u' hs hs' vs H Q h r R k;have h:biL T .sum us hs=some (u',hs'):=h;unfold biL at h;split at h<;>try contradiction
 ·simp only[Xd,Xc]at h;obtain⟨xs,el,ns,en,h⟩:=h;cases h;obtain⟨v,ws,rfl,ru,rn⟩:=Qr r;cases QH rn;obtain⟨a,vs,rfl,rr,sq⟩:=QB tx R el ru;cases QbQ en rr;exact⟨a,ns,rfl,sq,k α _ H Ext.refl R ⟨_,rfl,Cg.refl _ _⟩⟩
def Qij(tx:Txt T A X.K X.mg)(hc:X.calm=true):BiS X T A .any (.builtin "any"):=by
 refine⟨_,Qeg hc,?_⟩;intro α us u' hs hs' vs H Q h r R k;have h:biL T .any us hs=some (u',hs'):=h;unfold biL at h;split at h<;>try contradiction
 ·simp only[Xd,Xc]at h;obtain⟨xs,el,ns,en,h⟩:=h;cases h;obtain⟨v,ws,rfl,ru,rn⟩:=Qr r;cases QH rn;obtain⟨a,vs,rfl,rr,sq⟩:=QB tx R el ru;cases Qal en rr;exact⟨a,ns,rfl,sq,k α _ H Ext.refl R rfl⟩
def BmS(X:Cx)(T:Tbl)(A:Adr)(b:Bm)(id:String):Prop:=∃r,MtR X id r/\∀{α:List Addr} {o u':U} {us:List U} {hs hs':Hs} {x:V} {vs:List V} {H:Hp} {Q:VK},bmU T b o us hs=some (u',hs')->RU A α o x->RUs A α us vs->Rep T A X.K α hs H ->
 (∀α' v' H',Ext α α' H H'->Rep T A X.K α' hs' H'->RU A α' u' v'->Q v' H')->r x vs H Q
def Qa0{b:Bm}{o u':U}{us:List U}{hs':Hs}(h:bmU T b o us hs=some (u',hs'))(hb:∀x,bmS T b x us hs=none)(hd:∀n kvs,bmD b n kvs us hs=none):∃n xs,o=.ref n/\hs[n]?=some (.lst xs):=by
 cases o with
 |ref n=>
  simp only[bmU]at h;split at h
  ·rename_i xs e;exact⟨n,xs,rfl,e⟩
  ·rw[hd]at h;cases h
  ·cases h
 |str x=>
  simp only[bmU]at h;rw[hb]at h;cases h
 |_=>simp[bmU]at h
def Qcy:BmS X T A .append "list.append":=by
 refine⟨_,Qac,?_⟩;intro α o u' us hs hs' x vs H Q h ro r R k;obtain⟨n,xs,rfl,e⟩:=Qa0 h (λz=>rfl) (λz z=>rfl);obtain⟨a,ha,rfl⟩:=ro
 cases us with
 |nil=>simp[bmU,bmL,e]at h
 |cons u t=>
  cases t with
  |cons _ _=>simp[bmU,bmL,e]at h
  |nil=>
   simp only[bmU,bmL,e]at h;split at h
   ·rename_i l;cases h;obtain⟨v,ws,rfl,ru,rn⟩:=Qr r;cases QH rn;obtain⟨ys,q,rr⟩:=R.h.ob n a _ ha e;refine⟨a,ys,v,rfl,rfl,q,?_,?_⟩
    ·rw[<-rr.length];exact Xu l big
    ·obtain⟨R',E'⟩:=R.put (o:=.lst (xs++[u])) ha ⟨_,Qp,rr.append (.cons ru .nil)⟩;exact k _ _ _ E' R' rfl
   ·cases h
def Qcx:BmS X T A .extend "list.extend":=by
 refine⟨_,QdA,?_⟩;intro α o u' us hs hs' x vs H Q h ro r R k;obtain⟨n,xs,rfl,e⟩:=Qa0 h (λz=>rfl) (λz z=>rfl);obtain⟨a,ha,rfl⟩:=ro
 cases us with
 |nil=>simp[bmU,bmL,e]at h
 |cons u t=>
  cases t with
  |cons _ _=>cases u<;>simp[bmU,bmL,e]at h
  |nil=>
   cases u with
   |ref m=>
    simp only[bmU,bmL,e]at h;split at h
    ·rename_i ys e2;split at h
     ·rename_i l;cases h;obtain⟨v,ws,rfl,ru,rn⟩:=Qr r;cases QH rn;obtain⟨b,hb,rfl⟩:=ru;obtain⟨zs,q,rr⟩:=R.h.ob n a _ ha e;obtain⟨zt,q2,rr2⟩:=R.h.ob m b _ hb e2;refine⟨a,b,zs,zt,rfl,rfl,q,q2,?_,?_⟩
      ·rw[<-rr.length,<-rr2.length];exact X2 l big
      ·obtain⟨R',E'⟩:=R.put (o:=.lst (xs++ys)) ha ⟨_,Qp,rr.append rr2⟩;exact k _ _ _ E' R' rfl
     ·cases h
    ·cases h
   |_=>simp[bmU,bmL,e]at h
def Qo0(T:Tbl)(A:Adr)(K:W.Frag):V->List V->Hp->VK->Prop:=λx vs H Q=>∃α hs a y xs ys w,x=.ref a/\vs=[y]/\H a=some (.lst ys)/\RUs A α xs ys/\RU A α w y/\Rep T A K α hs H/\(∀z∈xs,okW T 20 z hs=true)/\okW T 20 w hs=true/\Q (.int (xs.countP λz=>eqW T 20 z w hs:Nat)) H
theorem Qgr{α:List Addr}{hs:Hs}{H:Hp}{pins:List (Addr×Obj)}{s:Shared}{Y:L2.St}{w:U}(tx:Txt T A X.K X.mg)(I:Inv X pins Y H s)(R:Rep T A X.K α hs H)(ow:okW T 20 w hs=true):∀{xs:List U} {ys:List V} {its:List Value},RUs A α xs ys->Vals ys its->(∀z∈xs,okW T 20 z hs=true) ->
  its.countP (λz=>PyData.eqv (SeqAt.readOf s.heap z) (toP T 20 w hs))=xs.countP (λz=>eqW T 20 z w hs)/\∀z∈its,∃u as,okW T 20 u hs=true/\Reads s.heap z (toP T 20 u hs) as
 |_,_,_,.nil,.nil,_=>⟨rfl,λt h=>nomatch h⟩
 |x::xs,y::ys,z::its,.cons r rr,.cons v vv,h=>by
  obtain⟨e,m⟩:=Qgr tx I R ow rr vv λz hz=>h z (Xk _ hz);have ox:=h x Xo;obtain⟨as,ra⟩:=Zo tx I R 20 ox r v;refine⟨?_,λz' hz=>?_⟩
  ·rw[List.countP_cons,List.countP_cons,e,SeqAt.readOf_eq (ZX 20 ox).1 ra,QbU 20 ox ow]
  ·rcases Xm.mp hz with rfl|hz
   ·exact⟨x,as,ox,ra⟩
   ·exact m z' hz
def Qfl(tx:Txt T A X.K X.mg)(hu:X.A.units+64<cLine):MtR X "list.count" (Qo0 T A X.K):=by
 intro pins s Y H x vs v us Q I rx rv h;obtain⟨α,hs,a,y,xs,ys,w,rfl,rfl,hH,rr,rw',R,ox,ow,q⟩:=h;cases rx;obtain⟨u,rfl,ru⟩:=rv.one;obtain⟨z,its,n,r,hl,e⟩:=I.lstM hH;obtain⟨bs,rb⟩:=Zo tx I R 20 ow rw' ru;obtain⟨ce,cm⟩:=Qgr tx I R ow rr r ox;have lw:=ZX 20 ow;refine call_meets F.slot_list_count ⟨_,e,rfl⟩ F.entry_list_count (F.args_list_count_2 _ _) (SeqAt.list_countAt a its.toArray n none #[] u (λz=>PyData.eqv (SeqAt.readOf s.heap z) (toP T 20 w hs))) ⟨e,λz hz=>?_,?_⟩
 ·obtain⟨u',as,ou,ra⟩:=cm z (by simpa using hz)
  have lu:=ZX 20 ou;rw[SeqAt.readOf_eq lu.1 ra];refine SeqAt.eqAt_reads _ _ _ s z u as bs ra rb lu.1 lw.1 ?_;have h1:min (toP T 20 u' hs).depth (toP T 20 w hs).depth<=20:=X2 (Nat.min_le_left _ _) lu.2;have h2:X.A.in1.units=X.A.units+1:=rfl;omega
 ·rw[show its.toArray.toList=its from rfl,ce];exact⟨.int _,H,I.tok _,⟨_,rfl⟩,q⟩
def Qeq(tx:Txt T A X.K X.mg)(hu:X.A.units+64<cLine):BmS X T A .count "list.count":=by
 refine⟨_,Qfl tx hu,?_⟩;intro α o u' us hs hs' x vs H Q h ro r R k;obtain⟨n,xs,rfl,e⟩:=Qa0 h (λz=>rfl) (λz z=>rfl);obtain⟨a,ha,rfl⟩:=ro
 cases us with
 |nil=>simp[bmU,bmL,e]at h
 |cons u t=>
  cases t with
  |cons _ _=>simp[bmU,bmL,e]at h
  |nil=>
   simp only[bmU,bmL,e]at h;split at h
   ·rename_i c;rw[Xg]at c;cases h;obtain⟨v,ws,rfl,ru,rn⟩:=Qr r;cases QH rn;obtain⟨ys,q,rr⟩:=R.h.ob n a _ ha e;exact⟨α,hs,a,v,xs,ys,u,rfl,rfl,q,rr,ru,R,Xw.mp c.1,c.2,k α _ H Ext.refl R ⟨_,rfl,Cg.refl _ _⟩⟩
   ·cases h
end
end
section
variable {ir:E}{a e:Expr}{d:Nat}{p:Pos}
def TIO(T:Tbl)(A:Adr)(K:W.Frag)(f:Rho->Hs->Option (Option Int×Hs)):TO:=λY H Q=>∃α ρ hs u hs',RS A α ρ Y/\Rep T A K α hs H/\f ρ hs=some (u,hs') /\
 ∀α' H',Ext α α' H H'->Rep T A K α' hs' H'->Q u H'
structure Fc(X:Cx)(T:Tbl)(A:Adr)(cf:Cf)(k:Nat):Prop where
 ok:∀f F,T.fns[f]?=some F->∃fd,FnOk X.prog X.w X.K X.mg X.base CX0 k (A.f f) fd F.ps (spC T A X.K cf f)/\Binds X.K fd F.ps []/\W.keepIn X.K (.ref (A.f f))=true
 some:∀f us hs r,cf f us hs=some r->∃F,T.fns[f]?=some F/\us.length=F.np
 df:∀i D F,T.dfl.lookup i=Option.some D->T.fns[i]?=Option.some F->∃fd,FnOk X.prog X.w X.K X.mg X.base CX0 k (A.f i) fd D.ps (spC T A X.K cf i)/\W.keepIn X.K (.ref (A.f i))=true/\QiB A X.K fd D
 xf:∀f F,T.fns[f]?=Option.some F->∃fd,FnOk X.prog X.w X.K X.mg X.base (CXw X.prog X.w) k (A.f f) fd F.ps (spX T A X.K T.xf f)/\Binds X.K fd F.ps []/\W.keepIn X.K (.ref (A.f f))=true
structure Snd(T:Tbl)(A:Adr)(C:Ctx)(X:Cx)(cf:Cf)(m:Nat):Prop where
 e:∀d e ir,Qf m C e=some ir->PE X e (TI T A X.K (ev T cf d ir))
 t:∀d e ir,compT m C e=some ir->PT X e (TIT T A X.K (evT T cf d ir))/\PE X e (TI T A X.K (ev T cf d ir))
 an:∀d a r p ir,compAnd m C a r p=some ir->PW X (.BoolOp .And (a::r) p) (TIT T A X.K (evT T cf d ir))/\PE X (.BoolOp .And (a::r) p) (TI T A X.K (ev T cf d ir))
 orr:∀d a r p ir,compOr m C a r p=some ir->PW X (.BoolOp .Or (a::r) p) (TIT T A X.K (evT T cf d ir))/\PE X (.BoolOp .Or (a::r) p) (TI T A X.K (ev T cf d ir))
 a:∀d es irs,compA m C es=some irs->PA X es (TIA T A X.K (λρ hs=>evs (ev T cf d) ρ irs hs))
 o:∀d e ir,compO m C e=some ir->PO X e (TIO T A X.K (λρ hs=>evO (ev T cf d) ρ ir hs))
section
variable {X:Cx}{T:Tbl}{A:Adr}{C:Ctx}{cf:Cf}{m:Nat}
def Qa4{t:TT}(h:∀Y H Q,¬t Y H Q):PT X e t:=λz z Y H Q z q=>(h Y H Q q).elim
def Qin{t:TT}(h:∀Y H Q,¬t Y H Q):PW X e t:=λz z z Y H Q z q=>(h Y H Q q).elim
def QmF{K:W.Frag}:∀Y H Q,¬TI T A K (ev T cf 0 ir) Y H Q:=λz z z y=>by obtain⟨_,_,_,_,_,_,_,h,_⟩:=y;exact nomatch h
def Qdu{K:W.Frag}:∀Y H Q,¬TIT T A K (evT T cf 0 ir) Y H Q:=λz z z y=>by obtain⟨_,_,_,_,_,_,_,h,_⟩:=y;exact nomatch h
def QE(h:∀d',PE X e (TI T A X.K (ev T cf (d'+1) ir))):PE X e (TI T A X.K (ev T cf d ir)):=by
 cases d with
 |zero=>exact ZE QmF
 |succ d=>exact h d
def Qg6{c:Const}{k:Nat}(h:Qf (m+1) C (.Constant c k p)=some ir):PE X (.Constant c k p) (TI T A X.K (ev T cf d ir)):=by
 refine QE λd=>?_
 cases c with
 |int i=>cases h;exact Q1 QjX λY H Q z=>by obtain⟨α,ρ,hs,u,hs',rs,R,e,q⟩:=z;cases e;exact q α _ H Ext.refl R ⟨i,rfl,Cg.refl _ _⟩
 |bool b=>cases h;exact Q1 Qmv λY H Q y=>by obtain⟨α,ρ,hs,u,hs',rs,R,e,q⟩:=y;cases e;exact q α _ H Ext.refl R rfl
 |none=>cases h;exact Q1 QjV λY H Q w=>by obtain⟨α,ρ,hs,u,hs',rs,R,e,q⟩:=w;cases e;exact q α _ H Ext.refl R rfl
 |str x=>cases h;exact Q1 QjU λY H Q v=>by obtain⟨α,ρ,hs,u,hs',rs,R,e,q⟩:=v;cases e;exact q α _ H Ext.refl R rfl
 |_=>first|exact Znn h|simp[Qf]at h
def Qjk{x:Str}(g:GX T A C X)(h:Qf (m+1) C (.Name x p)=some ir):PE X (.Name x p) (TI T A X.K (ev T cf d ir)):=by
 refine QE λd=>?_;simp only[cE4]at h;split at h
 ·cases h
 ·rename_i hn;have n1:(x==("__debug__":Str))=false:=QP λz=>hn (.inl z);have n2:(x==("__classdict__":Str))=false:=QP λz=>hn (.inr z);split at h
  ·rename_i hv;simp only[Xc]at h;obtain⟨i,hi,rfl⟩:=h
   refine Q1 (QjS (i:=i) (by rw[g.N];exact QU hi) (QiR g hv) n1 n2) ?_
   rintro Y H Q ⟨α,ρ,hs,u,hs',rs,R,e,q⟩;simp only[ev]at e;split at e
   ·rename_i w e';cases e;obtain⟨v,h1,h2⟩:=rs.get e';exact⟨v,h1,q α v H Ext.refl R h2⟩
   ·cases e
  ·split at h
   ·rename_i hg;split at h
    ·rename_i k hk;cases h;refine Q1 (QaM (Q0 g hg) (g.gco x k hk) (v:=.ref (A.k k)) rfl n1) ?_;rintro Y H Q ⟨α,ρ,hs,u,hs',rs,R,e,q⟩;cases e;exact q α _ H Ext.refl R rfl
    ·rename_i t hk;cases h;obtain⟨v,w,hm,rv,ru⟩:=g.gtx x t hk;refine Q1 (QaM (Q0 g hg) hm rv n1) ?_;rintro Y H Q ⟨α,ρ,hs,u,hs',rs,R,e,q⟩;simp only[ev]at e;cases e;exact q α _ H Ext.refl R (ru α)
    ·cases h
   ·cases h
def Qmi{b:Expr}{o:Operator}(S:Snd T A C X cf m)(h:Qf (m+1) C (.BinOp a o b p)=some ir):PE X (.BinOp a o b p) (TI T A X.K (ev T cf d ir)):=by
 refine QE λd=>?_;simp only[cE5,Xd]at h;obtain⟨a',ha,b',hb,h⟩:=h;cases h;obtain⟨r,ho,hr⟩:=opS (X:=X) (T:=T) (A:=A) o;refine Q1 (Qms ho (S.e d a a' ha) (S.e d b b' hb)) ?_;rintro Y H Q ⟨α,ρ,hs,u,hs',rs,R,e,q⟩;simp only[ev]at e;obtain⟨u1,h1,e1,e⟩:=Qb e;obtain⟨u2,h2,e2,e⟩:=Qb e;refine TI.run rs R e1 λα1 x H1 E1 R1 r1 rs1=>?_;refine TI.run rs1 R1 e2 λα2 y H2 E2 R2 r2 rs2=>?_;exact hr e (r1.mono E2.pre) r2 R2 λα3 v H3 E3 R3 r3=>q α3 v H3 ((E1.trans E2 R2.h).trans E3 R3.h) R3 r3
def Qmf(S:Snd T A C X cf m)(h:Qf (m+1) C (.UnaryOp .USub a p)=some ir):PE X (.UnaryOp .USub a p) (TI T A X.K (ev T cf d ir)):=by
 refine QE λd=>?_;simp only[cE6,Xd]at h;obtain⟨a',ha,h⟩:=h;cases h;refine Q1 (Qmq QiY (S.e d a a' ha)) ?_;rintro Y H Q ⟨α,ρ,hs,u,hs',rs,R,e,q⟩;simp only[ev]at e;obtain⟨u1,h1,e1,e⟩:=Qb e;refine TI.run rs R e1 λα1 x H1 E1 R1 r1 rs1=>?_;split at e
 ·cases e;obtain⟨i,rfl,c⟩:=r1;exact⟨i,rfl,q α1 _ H1 E1 R1 ⟨_,rfl,Qgs c⟩⟩
 ·cases e
def Qjj(tx:Txt T A X.K X.mg)(S:Snd T A C X cf m)(h:Qf (m+1) C (.UnaryOp .Not a p)=some ir):PE X (.UnaryOp .Not a p) (TI T A X.K (ev T cf d ir))/\PT X (.UnaryOp .Not a p) (TIT T A X.K (evT T cf d ir)):=by
 simp only[cE7,Xd]at h;obtain⟨a',ha,h⟩:=h;cases h;constructor
 ·refine QE λd=>?_;intro pins s Y H Q I hw;obtain⟨α,ρ,hs,u,hs',rs,R,e,q⟩:=hw;simp only[ev]at e;obtain⟨u1,h1,e1,e⟩:=Qb e;simp only[Xc]at e;obtain⟨c,e2,e⟩:=e;cases e;refine UnaryOp_ (thn ((S.t d a a' ha).2 pins s Y H (λv H'=>Qlg X.K v H' c/\Q (.bl (!c)) H') I ⟨α,ρ,hs,u1,_,rs,R,e1,λα' v H' E' R' r'=>⟨QcW tx R' e2 r',q α' _ H' E' R' rfl⟩⟩) λv s1 z=>?_);obtain⟨x,H1,I1,r1,q1,q2⟩:=z
  exact not_of (thn (Qf6 pins s1 Y H1 x v (λb H'=>b=c/\H'=H1) I1 r1 ⟨c,q1,rfl,rfl⟩) λb s2 y=>by obtain⟨H2,I2,eb,eH⟩:=y;exact⟨.bl (!c),H2,I2,by rw[eb];rfl,by rw[eH];exact q2⟩)
 ·cases d with
  |zero=>exact Qa4 Qdu
  |succ d=>
   refine Qio (QjI (S.t d a a' ha).1) ?_;rintro Y H Q ⟨α,ρ,hs,u,hs',rs,R,e,q⟩;simp only[evT]at e;obtain⟨c,h1,e1,e⟩:=Qb e;cases e;exact TIT.run rs R e1 λα1 H1 E1 R1 rs1=>q α1 H1 E1 R1
end
end
section
variable {ir:E}{a:Expr}{d:Nat}{p:Pos}
section
variable {X:Cx}{T:Tbl}{A:Adr}{C:Ctx}{cf:Cf}{m:Nat}
def Qbs{e:Expr}(h:∀d',PT X e (TIT T A X.K (evT T cf (d'+1) ir))):PT X e (TIT T A X.K (evT T cf d ir)):=by
 cases d with
 |zero=>exact Qa4 Qdu
 |succ d=>exact h d
def Qbr{e:Expr}(h:∀d',PW X e (TIT T A X.K (evT T cf (d'+1) ir))):PW X e (TIT T A X.K (evT T cf d ir)):=by
 cases d with
 |zero=>exact Qin Qdu
 |succ d=>exact h d
def Qjq(S:Snd T A C X cf m)(d:Nat)(a:Expr)(r:List Expr)(p:Pos)(ir:E)(h:compAnd (m+1) C a r p=some ir):
  PW X (.BoolOp .And (a::r) p) (TIT T A X.K (evT T cf d ir))/\PE X (.BoolOp .And (a::r) p) (TI T A X.K (ev T cf d ir)):=by
 cases r with
 |nil=>exact⟨Qhd (S.t d a ir h).1,Qge (S.t d a ir h).2⟩
 |cons b r=>
  simp only[compAnd,Xd]at h;obtain⟨a',ha,b',hb,h⟩:=h;cases h;constructor
  ·refine Qbr λd=>?_;refine Qlh (QjG (S.t d a a' ha).1 (S.an d b r p b' hb).1) ?_;rintro Y H Q ⟨α,ρ,hs,u,hs',rs,R,e,q⟩;simp only[evT]at e;obtain⟨c,h1,e1,e⟩:=Qb e;refine TIT.run rs R e1 λα1 H1 E1 R1 rs1=>?_
   cases c with
   |true=>exact TIT.run rs1 R1 e λα2 H2 E2 R2 rs2=>q α2 H2 (E1.trans E2 R2.h) R2
   |false=>cases e;exact q α1 H1 E1 R1
  ·refine QE λd=>?_;refine Q1 (Qj0 (S.t d a a' ha).2 (S.an d b r p b' hb).2) ?_;rintro Y H Q ⟨α,ρ,hs,u,hs',rs,R,e,q⟩;simp only[ev]at e;obtain⟨u1,h1,e1,e⟩:=Qb e;refine TI.run rs R e1 λα1 x H1 E1 R1 r1 rs1=>?_;split at e
   ·cases(show x=_ from r1);exact⟨true,rfl,TI.run rs1 R1 e λα2 v H2 E2 R2 r2 rs2=>q α2 v H2 (E1.trans E2 R2.h) R2 r2⟩
   ·cases(show x=_ from r1);cases e;exact⟨false,rfl,q α1 _ H1 E1 R1 rfl⟩
   ·cases e
def QnR(S:Snd T A C X cf m)(d:Nat)(a:Expr)(r:List Expr)(p:Pos)(ir:E)(h:compOr (m+1) C a r p=some ir):
  PW X (.BoolOp .Or (a::r) p) (TIT T A X.K (evT T cf d ir))/\PE X (.BoolOp .Or (a::r) p) (TI T A X.K (ev T cf d ir)):=by
 cases r with
 |nil=>exact⟨QjF (S.t d a ir h).1,Qge (S.t d a ir h).2⟩
 |cons b r=>
  simp only[compOr,Xd]at h;obtain⟨a',ha,b',hb,h⟩:=h;cases h;constructor
  ·refine Qbr λd=>?_;refine Qlh (Qmp (S.t d a a' ha).1 (S.orr d b r p b' hb).1) ?_;rintro Y H Q ⟨α,ρ,hs,u,hs',rs,R,e,q⟩;simp only[evT]at e;obtain⟨c,h1,e1,e⟩:=Qb e;refine TIT.run rs R e1 λα1 H1 E1 R1 rs1=>?_
   cases c with
   |false=>exact TIT.run rs1 R1 e λα2 H2 E2 R2 rs2=>q α2 H2 (E1.trans E2 R2.h) R2
   |true=>cases e;exact q α1 H1 E1 R1
  ·refine QE λd=>?_;refine Q1 (Qmr (S.t d a a' ha).2 (S.orr d b r p b' hb).2) ?_;rintro Y H Q ⟨α,ρ,hs,u,hs',rs,R,e,q⟩;simp only[ev]at e;obtain⟨u1,h1,e1,e⟩:=Qb e;refine TI.run rs R e1 λα1 x H1 E1 R1 r1 rs1=>?_;split at e
   ·cases(show x=_ from r1);cases e;exact⟨true,rfl,q α1 _ H1 E1 R1 rfl⟩
   ·cases(show x=_ from r1);exact⟨false,rfl,TI.run rs1 R1 e λα2 v H2 E2 R2 r2 rs2=>q α2 v H2 (E1.trans E2 R2.h) R2 r2⟩
   ·cases e
def Qkg{b:Expr}{b':E}{o:CmpOp}(h:Qf m C b=some b'):behindInMarks o b=false:=by
 cases b<;>first|rfl|skip
 cases m<;>first|exact Znn h|simp[Qf]at h
def Qjo{b:Expr}{o:CmpOp}(tx:Txt T A X.K X.mg)(tab:JH X.prog X.w T A X.K)(hu:X.A.units+64<cLine)(S:Snd T A C X cf m)(h:Qf (m+1) C (.Compare a [o] [b] p)=some ir):
  PE X (.Compare a [o] [b] p) (TI T A X.K (ev T cf d ir))/\PT X (.Compare a [o] [b] p) (TIT T A X.K (evT T cf d ir)):=by
 simp only[QpF,Xd]at h;obtain⟨a',ha,b',hb,h⟩:=h;cases h;obtain⟨r,ho,hr⟩:=Qpt (X:=X) (T:=T) (A:=A) tx tab hu o
 have key:∀(d:Nat) (Y:St) (H:Hp) (Q:VK) (α:List Addr) (ρ:Rho) (hs hs':Hs) (u:U),RS A α ρ Y->Rep T A X.K α hs H->ev T cf (d+1) (.cmp o a' b') ρ hs=some (u,hs') ->
   (∀α' c H',u=.bl c->Ext α α' H H'->Rep T A X.K α' hs' H'->Q (.bl c) H')->tOp r (TI T A X.K (ev T cf d a')) (TI T A X.K (ev T cf d b')) Y H Q:=by
  intro d Y H Q α ρ hs hs' u rs R e q;simp only[ev]at e;obtain⟨u1,h1,e1,e⟩:=Qb e;obtain⟨u2,h2,e2,e⟩:=Qb e;simp only[Xc]at e;obtain⟨c,e3,e⟩:=e;cases e;refine TI.run rs R e1 λα1 x H1 E1 R1 r1 rs1=>?_;refine TI.run rs1 R1 e2 λα2 y H2 E2 R2 r2 rs2=>?_;exact hr e3 (r1.mono E2.pre) r2 R2 (q α2 c H2 rfl (E1.trans E2 R2.h) R2)
 constructor
 ·refine QE λd=>?_;refine Q1 (Qht ho (S.e d a a' ha) (S.e d b b' hb) (Qkg hb)) ?_;rintro Y H Q ⟨α,ρ,hs,u,hs',rs,R,e,q⟩
  exact key d Y H Q α ρ hs hs' u rs R e λα' c H' eu E' R'=>q α' _ H' E' R' (by rw[eu];rfl)
 ·refine Qbs λd=>?_
  cases d with
  |zero=>exact Qa4 λz z z v=>by obtain⟨_,_,_,_,_,_,_,h,_⟩:=v;simp[evT,ev,bd]at h
  |succ d=>
   refine Qio (Qhe ho (S.e d a a' ha) (S.e d b b' hb) (Qkg hb)) ?_;rintro Y H Q ⟨α,ρ,hs,u,hs',rs,R,e,q⟩;simp only[evT]at e;obtain⟨u1,h1,e1,e⟩:=Qb e;simp only[Xc]at e;obtain⟨c,e3,e⟩:=e;cases e;refine key d Y H _ α ρ hs _ u1 rs R e1 λα' c' H' eu E' R'=>⟨c',rfl,?_⟩;rw[eu]at e3;cases e3;exact q α' H' E' R'
def Qg5{t b:Expr}(S:Snd T A C X cf m)(h:Qf (m+1) C (.IfExp t a b p)=some ir):PE X (.IfExp t a b p) (TI T A X.K (ev T cf d ir)):=by
 refine QE λd=>?_;simp only[QpE,Xd]at h;obtain⟨t',ht,a',ha,b',hb,h⟩:=h;cases h;refine Q1 (Qe9 (S.t d t t' ht).1 (S.e d a a' ha) (S.e d b b' hb)) ?_;rintro Y H Q ⟨α,ρ,hs,u,hs',rs,R,e,q⟩;simp only[ev]at e;obtain⟨c,h1,e1,e⟩:=Qb e;refine TIT.run rs R e1 λα1 H1 E1 R1 rs1=>?_
 cases c with
 |true=>exact TI.run rs1 R1 e λα2 v H2 E2 R2 r2 rs2=>q α2 v H2 (E1.trans E2 R2.h) R2 r2
 |false=>exact TI.run rs1 R1 e λα2 v H2 E2 R2 r2 rs2=>q α2 v H2 (E1.trans E2 R2.h) R2 r2
theorem ZQ{f:Ev}{ρ:Rho}:∀{es:List E} {hs hs':Hs} {us:List U},evs f ρ es hs=some (us,hs')->us.length=es.length
 |[],_,_,_,h=>by cases h;rfl
 |e::r,hs,hs',us,h=>by
  simp only[evs]at h;obtain⟨u,h1,e1,h⟩:=Qb h;obtain⟨ws,h2,e2,h⟩:=Qb h;cases h;simp[ZQ e2]
theorem QG{C:Ctx}:∀{m:Nat} {es:List Expr} {irs:List E},compA m C es=some irs->irs.length=es.length
 |0,_,_,h=>by simp[compA]at h
 |m+1,[],_,h=>by cases h;rfl
 |m+1,e::r,irs,h=>by
  simp only[compA,Xd]at h;obtain⟨e',he,r',hr,h⟩:=h;cases h;simp[QG hr]
def Qgc(S:Snd T A C X cf m)(d:Nat)(es:List Expr)(irs:List E)(h:compA (m+1) C es=some irs):PA X es (TIA T A X.K (λρ hs=>evs (ev T cf d) ρ irs hs)):=by
 cases es with
 |nil=>
  cases h;refine Qlm J0 ?_;rintro Y H Q ⟨α,ρ,hs,u,hs',rs,R,e,q⟩;cases e;exact q α [] H Ext.refl R .nil
 |cons e r=>
  simp only[compA,Xd]at h;obtain⟨e',he,r',hr,h⟩:=h;cases h;refine Qlm (ZD (S.e d e e' he) (S.a d r r' hr) (Qn (QM he))) ?_;rintro Y H Q ⟨α,ρ,hs,u,hs',rs,R,e,q⟩;simp only[evs]at e;obtain⟨u1,h1,e1,e⟩:=Qb e;obtain⟨us,h2,e2,e⟩:=Qb e;cases e;refine TI.run rs R e1 λα1 x H1 E1 R1 r1 rs1=>?_;exact TIA.run rs1 R1 e2 λα2 xs H2 E2 R2 r2 rs2=>q α2 _ H2 (E1.trans E2 R2.h) R2 (.cons (r1.mono E2.pre) r2)
def Qji(S:Snd T A C X cf m)(d:Nat)(e:Option Expr)(ir:Option E)(h:compO (m+1) C e=some ir):PO X e (TIO T A X.K (λρ hs=>evO (ev T cf d) ρ ir hs)):=by
 cases e with
 |none=>
  cases h;intro pins s Y H Q I hw;refine Qhl pins s Y H Q I ?_;obtain⟨α,ρ,hs,u,hs',rs,R,e,q⟩:=hw;cases e;exact q α H Ext.refl R
 |some e=>
  simp only[compO,Xd]at h;obtain⟨e',he,h⟩:=h;cases h;intro pins s Y H Q I hw;refine Qhk (S.e d e e' he) pins s Y H Q I ?_;obtain⟨α,ρ,hs,u,hs',rs,R,e,q⟩:=hw;simp only[evO]at e;obtain⟨u1,h1,e1,e⟩:=Qb e;refine TI.run rs R e1 λα1 x H1 E1 R1 r1 rs1=>?_;split at e
  ·cases e;obtain⟨i,rfl,c⟩:=r1;cases c.exact;exact⟨_,rfl,q α1 H1 E1 R1⟩
  ·cases e
def TIO.run{T:Tbl}{A:Adr}{K:W.Frag}{α:List Addr}{ρ:Rho}{Y:St}{hs h1:Hs}{H:Hp}{f:Rho->Hs->Option (Option Int×Hs)}{u:Option Int}{Q:Option Int->Hp->Prop}(rs:RS A α ρ Y)(rp:Rep T A K α hs H)(h:f ρ hs=some (u,h1))
  (k:∀α1 H1,Ext α α1 H H1->Rep T A K α1 h1 H1->RS A α1 ρ Y->Q u H1):TIO T A K f Y H Q :=
 ⟨α,ρ,hs,u,h1,rs,rp,h,λα1 H1 e r=>k α1 H1 e r (rs.mono e.pre)⟩
def Qg1{es:List Expr}{k:Nat}(S:Snd T A C X cf m)(h:Qf (m+1) C (.Tuple es k p)=some ir):PE X (.Tuple es k p) (TI T A X.K (ev T cf d ir)):=by
 refine QE λd=>?_;simp only[QpD]at h;split at h
 case isFalse=>cases h
 rename_i hz;simp only[Xd]at h;obtain⟨es',he,h⟩:=h;cases h;refine Q1 (QjT (S.a d es es' he)) ?_;rintro Y H Q ⟨α,ρ,hs,u,hs',rs,R,e,q⟩;simp only[ev]at e;obtain⟨us,h1,e1,e⟩:=Qb e;cases e;refine TIA.run rs R e1 λα1 vs H1 E1 R1 r1 rs1=>⟨?_,λp hp=>?_⟩
 ·rw[<-r1.length,ZQ e1,QG he];exact X2 hz big
 ·obtain⟨R',E'⟩:=R1.new (o:=.tup us) hp ⟨_,Qp,RUs.mono QJ r1⟩
  exact q _ _ _ (E1.trans E' R'.h) R' ⟨p,by rw[<-R1.h.len];exact Q2,rfl⟩
def Qjn{es:List Expr}(S:Snd T A C X cf m)(h:Qf (m+1) C (.List es p)=some ir):PE X (.List es p) (TI T A X.K (ev T cf d ir)):=by
 refine QE λd=>?_;simp only[QpC]at h;split at h
 case isFalse=>cases h
 rename_i hz;simp only[Xd]at h;obtain⟨es',he,h⟩:=h;cases h;refine Q1 (QjW (S.a d es es' he)) ?_;rintro Y H Q ⟨α,ρ,hs,u,hs',rs,R,e,q⟩;simp only[ev]at e;obtain⟨us,h1,e1,e⟩:=Qb e;cases e;refine TIA.run rs R e1 λα1 vs H1 E1 R1 r1 rs1=>⟨?_,λp hp=>?_⟩
 ·rw[<-r1.length,ZQ e1,QG he];exact X2 hz big
 ·obtain⟨R',E'⟩:=R1.new (o:=.lst us) hp ⟨_,Qp,RUs.mono QJ r1⟩
  exact q _ _ _ (E1.trans E' R'.h) R' ⟨p,by rw[<-R1.h.len];exact Q2,rfl⟩
def Qg3{lo hi:Option Expr}{p2:Pos}(S:Snd T A C X cf m)(h:((Qf m C a).bind λa'=>(compO m C lo).bind λl=>(compO m C hi).bind λh=>some (E.sl a' l h))=some ir):PE X (.Subscript a (.Slice lo hi none p2) p) (TI T A X.K (ev T cf d ir)):=by
 refine QE λd=>?_;simp only[Xd]at h;obtain⟨a',ha,l',hl,h',hh,h⟩:=h;cases h;refine Q1 (Qe7 (sl_list.or Qjb) (S.e d a a' ha) (S.o d lo l' hl) (S.o d hi h' hh)) ?_;rintro Y H Q ⟨α,ρ,hs,u,hs',rs,R,e,q⟩;simp only[ev]at e;obtain⟨u1,h1,e1,e⟩:=Qb e;obtain⟨u2,h2,e2,e⟩:=Qb e;obtain⟨u3,h3,e3,e⟩:=Qb e;refine TI.run rs R e1 λα1 x H1 E1 R1 r1 rs1=>?_;refine TIO.run rs1 R1 e2 λα2 H2 E2 R2 rs2=>?_;refine TIO.run rs2 R2 e3 λα3 H3 E3 R3 rs3=>?_;exact Qjc e ((r1.mono E2.pre).mono E3.pre) R3 λα4 z H4 E4 R4 r4=>q α4 z H4 (((E1.trans E2 R2.h).trans E3 R3.h).trans E4 R4.h) R4 r4
def QhQ{b:Expr}{a' b':E}(hu:X.A.units+1<cLine)(tx:Txt T A X.K X.mg)(ha:PE X a (TI T A X.K (ev T cf d a')))(hb:PE X b (TI T A X.K (ev T cf d b')))(hs:ZH b=true):PE X (.Subscript a b p) (TI T A X.K (ev T cf (d+1) (.ix a' b'))):=by
 refine Q1 (Qmt (ix_seq.or (QhP hu)) ha hb (Qcd hs)) ?_;rintro Y H Q ⟨α,ρ,hs,u,hs',rs,R,e,q⟩;simp only[ev]at e;obtain⟨u1,h1,e1,e⟩:=Qb e;obtain⟨u2,h2,e2,e⟩:=Qb e;simp only[Xc]at e;obtain⟨x,e3,e⟩:=e;cases e;refine TI.run rs R e1 λα1 x H1 E1 R1 r1 rs1=>?_;refine TI.run rs1 R1 e2 λα2 y H2 E2 R2 r2 rs2=>?_;exact QgW tx e3 (r1.mono E2.pre) r2 R2 λz rz=>q α2 z H2 (E1.trans E2 R2.h) R2 rz
theorem RF.look{α:List Addr}{x:Str}{k:Nat}{u:U}(hk:T.fns'[k]?=some x)(nd:T.fns'.Nodup):∀{fs:List (Nat×U)} {fv:List (Str×V)},RF T A α fs fv->fs.lookup k=some u->∃v,fv.lookup x=some v/\RU A α u v
 |_,_,.nil,h=>by cases h
 |_,_,.cons (a:=p) (b:=q) r t,h=>by
  obtain⟨pk,pu⟩:=p;obtain⟨qx,qv⟩:=q;rw[Va]at h ⊢;by_cases e:k=pk
  ·subst e;rw[beq_self_eq_true]at h;cases h;have e2:x=qx:=Xn (hk.symm.trans r.1);subst e2;rw[beq_self_eq_true];exact⟨qv,rfl,r.2⟩
  ·have n1:(k==pk)=false:=by simpa using e
   rw[n1]at h
   have n2:(x==qx)=false:=by
    rw[W3];rintro rfl;obtain⟨l1,q1⟩:=Xf.mp hk;obtain⟨l2,q2⟩:=Xf.mp r.1;exact e ((List.getElem_inj nd).mp (q1.trans q2.symm))
   rw[n2];exact RF.look hk nd t h
def Qjp{f:Str}(g:GX T A C X)(S:Snd T A C X cf m)(h:Qf (m+1) C (.Attribute a f p)=some ir):PE X (.Attribute a f p) (TI T A X.K (ev T cf d ir)):=by
 refine QE λd=>?_;simp only[QpA]at h;split at h
 ·rename_i hn;simp only[Xd]at h;obtain⟨a',ha,k,hk,h⟩:=h;cases h
  have hk':T.fns'[k]?=some f:=by rw[<-g.CT];exact QU hk
  refine Q1 (QjY (S.e d a a' ha) (Ze hn)) ?_;rintro Y H Q ⟨α,ρ,hs,u,hs',rs,R,e,q⟩;simp only[ev]at e;obtain⟨u1,h1,e1,e⟩:=Qb e;split at e
  ·rename_i n;split at e
   ·rename_i c fs eo;refine TI.run rs R e1 λα1 x H1 E1 R1 r1 rs1=>?_;obtain⟨pa,hpa,rfl⟩:=r1;simp only[Xc]at e;obtain⟨w,el,e⟩:=e;cases e;obtain⟨dx,fv,q1,rf,lc⟩:=R1.h.ob n pa _ hpa eo;obtain⟨v,l1,rv⟩:=RF.look hk' g.txt.fd rf el;have cl:=g.txt.cl c _ (Xj lc);exact⟨pa,A.c c,dx,fv,v,rfl,q1,cl.cls,cl.nf f (X0 hk'),l1,q α1 v H1 E1 R1 rv⟩
   ·cases e
  ·cases e
 ·cases h
end
end
section
variable {α:List Addr}{es:List E}{args:List Expr}{us:List U}{vs:List V}{d i:Nat}{p pos:Pos}{x:Str}
section
variable {X:Cx}{T:Tbl}{A:Adr}{C:Ctx}{cf:Cf}{m k:Nat}
def Qbl{hs hs':Hs}{H:Hp}{u:U}{f:Nat}{Q:VK}{E:XK}(F:Fc X T A cf k)(r:RUs A α us vs)(R:Rep T A X.K α hs H)(e:cf f us hs=some (u,hs'))
  (q:∀α' v H',Ext α α' H H'->Rep T A X.K α' hs' H'->RU A α' u v->Q v H'):spC T A X.K cf f vs H Q E:=⟨α,us,hs,u,hs',r,R,e,F.some f us hs _ e,q⟩
def Qgb(g:GX T A C X)(F:Fc X T A cf k)(hr:Room k X.A)(S:Snd T A C X cf m)(hg:Zz C x=true)(hn:x≠"__debug__")(hx:C.gl.lookup x=some (.fn i))(ha:compA m C args=some es):
  PE X (.Call (.Name x p) args [] pos) (TI T A X.K (ev T cf (d+1) (.call i es))):=by
 cases hF:T.fns[i]? with
 |none=>
  refine ZE ?_;rintro Y H Q ⟨α,ρ,hs,u,hs',rs,R,e,q⟩;simp only[ev]at e;obtain⟨us,h1,e1,e⟩:=Qb e;obtain⟨F',h,_⟩:=F.some _ _ _ _ e;rw[hF]at h;cases h
 |some Fn=>
  obtain⟨fd,G,b,kp⟩:=F.ok i Fn hF;have pa:=S.a d args es ha
  have key:∀Y H Q,TI T A X.K (ev T cf (d+1) (.call i es)) Y H Q->QeP (spC T A X.K cf i) [] E0 (TIA T A X.K (λρ hs=>evs (ev T cf d) ρ es hs)) Y H Q:=by
   rintro Y H Q ⟨α,ρ,hs,u,hs',rs,R,e,q⟩;simp only[ev]at e;obtain⟨us,h1,e1,e⟩:=Qb e;refine TIA.run rs R e1 λα1 vs H1 E1 R1 r1 rs1=>?_;rw[W4];exact Qbl F r1 R1 e λα2 v H2 E2 R2 r2=>q α2 v H2 (E1.trans E2 R2.h) R2 r2
  cases args with
  |nil=>
   have ee:es=[]:=by
    have:=QG ha;simpa using this
   subst ee;refine Q1 (QbA G hr (Q0 g hg) (g.gfn x i hx) kp b .nil QaN (QP hn)) λY H Q h=>?_;have h2:=key Y H Q h;obtain⟨α,ρ,hs,us,hs',rs,R,e,q⟩:=h2;cases e;exact q α [] H Ext.refl R .nil
  |cons a r=>exact Q1 (Qdp G hr (Q0 g hg) (g.gfn x i hx) kp b .nil QaN pa (QP hn) (Qn (Ql ha a (Xo ..))) (QS λz hz=>Ql ha z (Xk _ hz))) key
theorem QdV{f:Ev}{ρ:Rho}:∀{a b:List E} {us:List U} {hs h2:Hs},evs f ρ (a++b) hs=some (us,h2)->∃ua ub h1,evs f ρ a hs=some (ua,h1)/\evs f ρ b h1=some (ub,h2)/\us=ua++ub
 |[],b,us,hs,h2,h=>⟨[],us,hs,rfl,h,rfl⟩
 |e::a,b,us,hs,h2,h=>by
  have h:bd (f e ρ hs) (λu h1=>bd (evs f ρ (a++b) h1) λus h2=>some (u::us,h2))=some (us,h2):=h;obtain⟨u,h1,e1,h⟩:=Qb h;obtain⟨ws,h3,e2,h⟩:=Qb h;cases h;obtain⟨ua,ub,h4,e3,e4,rfl⟩:=QdV e2;refine⟨u::ua,ub,h4,?_,e4,rfl⟩;show bd (f e ρ hs) (λu h1=>bd (evs f ρ a h1) λus h2=>some (u::us,h2))=_;rw[e1];show bd (evs f ρ a h1) _=_;rw[e3];rfl
theorem QdU{d:Nat}{ρ:Rho}:∀{cs us:List U} {hs h2:Hs},evs (ev T cf d) ρ (cs.map .c) hs=some (us,h2)->us=cs/\h2=hs
 |[],us,hs,h2,h=>by cases h;exact⟨rfl,rfl⟩
 |c::cs,us,hs,h2,h=>by
  have h:bd (ev T cf d (.c c) ρ hs) (λu h1=>bd (evs (ev T cf d) ρ (cs.map .c) h1) λus h2=>some (u::us,h2))=some (us,h2):=h;obtain⟨u,h1,e1,h⟩:=Qb h;obtain⟨ws,h3,e2,h⟩:=Qb h;cases h
  cases d with
  |zero=>simp[ev]at e1
  |succ d=>
   simp only[ev]at e1;cases e1;obtain⟨rfl,rfl⟩:=QdU e2;exact⟨rfl,rfl⟩
def RUs.app{ws:List U}{zs:List V}(a:RUs A α us vs)(b:RUs A α ws zs):RUs A α (us++ws) (vs++zs):=a.append b
def Vals.dropN{us:List Value}(r:Vals vs us):∀n,Vals (vs.drop n) (us.drop n):=λn=>by
 induction r generalizing n with
 |nil=>simp;exact .nil
 |cons a t ih=>
  cases n with
  |zero=>exact .cons a t
  |succ n=>exact ih n
def Qg7{ir:E}(g:GX T A C X)(F:Fc X T A cf k)(hr:Room k X.A)(S:Snd T A C X cf m)(hg:Zz C x=true)(hn:x≠"__debug__")(hx:C.gl.lookup x=some (.fn i))(ha:compA m C args=some es)(h:Qlw C i es=some ir):
  PE X (.Call (.Name x p) args [] pos) (TI T A X.K (ev T cf (d+1) ir)):=by
 unfold Qlw at h;rw[g.CT]at h;split at h
 ·cases h;exact Qgb g F hr S hg hn hx ha
 rename_i D hD;split at h
 case isFalse=>cases h
 cases h;generalize D.ds.length-(D.np-es.length)=n
 cases hF:T.fns[i]? with
 |none=>
  refine ZE ?_;rintro Y H Q ⟨α,ρ,hs,u,hs',rs,R,e,q⟩;simp only[ev]at e;obtain⟨us,h1,e1,e⟩:=Qb e;obtain⟨F',h,_⟩:=F.some _ _ _ _ e;rw[hF]at h;cases h
 |some Fn=>
  obtain⟨fd,G,kp,ds,dvs,rd,vd,hb⟩:=F.df i D Fn hD hF;have pa:=S.a d args es ha
  have key:∀Y H Q,TI T A X.K (ev T cf (d+1) (.call i (es++(D.ds.drop n).map .c))) Y H Q->QeP (spC T A X.K cf i) (dvs.drop n) E0 (TIA T A X.K (λρ hs=>evs (ev T cf d) ρ es hs)) Y H Q:=by
   rintro Y H Q ⟨α,ρ,hs,u,hs',rs,R,e,q⟩;simp only[ev]at e;obtain⟨us,h1,e1,e⟩:=Qb e;obtain⟨ua,ub,h2,e2,e3,rfl⟩:=QdV e1;obtain⟨rfl,rfl⟩:=QdU e3;refine TIA.run rs R e2 λα1 vs H1 E1 R1 r1 rs1=>?_
   exact Qbl F (r1.app (RUs.mono (λn a e=>by simp at e) (RUs.drop n rd))) R1 e λα2 v H2 E2 R2 r2=>q α2 v H2 (E1.trans E2 R2.h) R2 r2
  cases args with
  |nil=>
   have ee:es=[]:=by
    have:=QG ha;simpa using this
   subst ee;refine Q1 (QbA G hr (Q0 g hg) (g.gfn x i hx) kp (hb n) (Vals.dropN vd n) QaN (QP hn)) λY H Q h=>?_;have h2:=key Y H Q h;obtain⟨α,ρ,hs,us,hs',rs,R,e,q⟩:=h2;cases e;exact q α [] H Ext.refl R .nil
  |cons a r=>exact Q1 (Qdp G hr (Q0 g hg) (g.gfn x i hx) kp (hb n) (Vals.dropN vd n) QaN pa (QP hn) (Qn (Ql ha a (Xo ..))) (QS λz hz=>Ql ha z (Xk _ hz))) key
def RUs.nilA(r:RUs A [] us vs):RUs A α us vs:=RUs.mono (λn a e=>by simp at e) r
def Qgk(F:Fc X T A cf k){f n:Nat}{Fn:Fn}(hF:T.fns[f]?=some Fn):∃fd ps ds dvs,FnOk X.prog X.w X.K X.mg X.base CX0 k (A.f f) fd ps (spC T A X.K cf f)/\W.keepIn X.K (.ref (A.f f))=true/\Binds X.K fd ps ds/\Vals dvs ds/\RUs A [] (Qfa T f n) dvs:=by
 unfold Qfa
 cases hD:T.dfl.lookup f with
 |none=>
  obtain⟨fd,G,b,kp⟩:=F.ok f Fn hF;exact⟨fd,_,[],[],G,kp,b,.nil,.nil⟩
 |some D=>
  obtain⟨fd,G,kp,ds,dvs,rd,vd,hb⟩:=F.df f D Fn hD hF;exact⟨fd,_,_,_,G,kp,hb (D.ds.length-(D.np-n)),Vals.dropN vd _,RUs.drop (D.ds.length-(D.np-n)) rd⟩
def Qjm(g:GX T A C X)(F:Fc X T A cf k)(hr:Room (k+1) X.A)(S:Snd T A C X cf m)(hg:Zz C x=true)(hn:x≠"__debug__")(hx:C.gl.lookup x=some (.cls i))(ha:compA m C args=some es):
  PE X (.Call (.Name x p) args [] pos) (TI T A X.K (ev T cf (d+1) (.make i es))):=by
 cases hC:T.cls[i]? with
 |none=>
  refine ZE ?_;rintro Y H Q ⟨α,ρ,hs,u,hs',rs,R,e,q⟩;simp only[ev]at e;obtain⟨us,h1,e1,e⟩:=Qb e;simp[Jr,hC]at e
 |some Cl=>
  have cl:=g.txt.cl i Cl hC;have li:i<T.cls.length:=(Xf.mp hC).1;have pa:=S.a d args es ha
  have new:∀{α:List Addr} {hs:Hs} {H:Hp} (R:Rep T A X.K α hs H) (x dx:Addr),H x=none->H dx=none->dx≠x ->
    Rep T A X.K (α++[x]) (hs++[.ins i []]) (upd (upd H dx (.own x)) x (.ins (A.c i) dx []))/\Ext α (α++[x]) H (upd (upd H dx (.own x)) x (.ins (A.c i) dx [])):=by
   intro α hs H R x dx hx hd hne
   have ne:∀b y,H b=some y->b≠dx:=λb y e z=>by rw[z,hd]at e;cases e
   have R0:Rep T A X.K α hs (upd H dx (.own x)):=⟨⟨R.h.len,R.h.nd_keep λb x w e=>by rw[Qe (ne _ _ e)];exact e,λn a o e1 e2=>RO.keep (R.h.ob n a o e1 e2) (λw w e=>e) λw y e w=>by rw[Qe (ne _ _ e)];exact e⟩,R.s.keep λy e w=>by rw[Qe (ne _ _ e)];exact e⟩
   obtain⟨R1,E1⟩:=R0.new (p:=x) (o:=.ins i []) (ho:=.ins (A.c i) dx []) (by rw[Qe (Wy hne)];exact hx) ⟨dx,[],Qp,.nil,li⟩
   refine⟨R1,⟨E1.pre,λn a e l=>?_,λb o e hb=>E1.keep b o (by rw[Qe (ne _ _ e)];exact e) hb,λb o kv e=>E1.fz b o kv (by rw[Qe (ne _ _ e)];exact e),λb o e=>E1.tr b o (by rw[Qe (ne _ _ e)];exact e)⟩⟩
   rcases QN e with z|⟨_,z⟩
   ·have:=getElem?_lt z;omega
   ·rw[z];exact .inl hx
  cases hi:Cl.init with
  |none=>
   have ini:=cl.ini;rw[hi]at ini
   cases args with
   |cons a r=>
    refine ZE ?_;rintro Y H Q ⟨α,ρ,hs,u,hs',rs,R,e,q⟩;simp only[ev]at e;obtain⟨us,h1,e1,e⟩:=Qb e;have l1:=ZQ e1;rw[QG ha]at l1;simp only[Jr,hC,hi]at e;split at e
    ·rename_i z;rw[z]at l1;simp at l1
    ·cases e
   |nil=>
    refine Q1 (Qdn (C:=A.c i) ⟨cl.mks,ini,cl.kp⟩ (Q0 g hg) (g.gcl x i hx) (QP hn)) ?_;rintro Y H Q ⟨α,ρ,hs,u,hs',rs,R,e,q⟩
    have ee:es=[]:=by
     have:=QG ha;simpa using this
    subst ee;simp only[ev,evs,bd,Jr,hC,hi,Wo]at e;cases e;intro y dx h1 h2 h3;obtain⟨R1,E1⟩:=new R y dx h1 h2 h3
    exact q _ _ _ E1 R1 ⟨y,by rw[<-R.h.len];exact Q2,rfl⟩
  |some f=>
   have ini:=cl.ini;rw[hi]at ini
   have key:∀dvs:List V,RUs A [] (Qfa T f (es.length+1)) dvs->∀Y H Q,TI T A X.K (ev T cf (d+1) (.make i es)) Y H Q->TIA T A X.K (λρ hs=>evs (ev T cf d) ρ es hs) Y H λvs H1=>∀x dx,H1 x=none->H1 dx=none->dx≠x ->
     spC T A X.K cf f (.ref x::(vs++dvs)) (upd (upd H1 dx (.own x)) x (.ins (A.c i) dx [])) (λv H2=>v=.non/\Q (.ref x) H2) E0:=by
    rintro dvs rdv Y H Q ⟨α,ρ,hs,u,hs',rs,R,e,q⟩;simp only[ev]at e;obtain⟨us,h1,e1,e⟩:=Qb e;simp only[Jr,hC,hi]at e;rw[ZQ e1]at e;split at e
    case h_2=>cases e
    rename_i h2 e2;cases e;refine TIA.run rs R e1 λα1 vs H1 E1 R1 r1 rs1=>?_;intro y dx g1 g2 g3;obtain⟨R2,E2⟩:=new R1 y dx g1 g2 g3
    have at1:(α1++[y])[h1.length]?=some y:=by rw[<-R1.h.len];exact Q2
    refine Qbl F (us:=.ref h1.length::(us++Qfa T f (es.length+1))) (.cons ⟨y,at1,rfl⟩ ((RUs.mono E2.pre r1).app (RUs.nilA rdv))) R2 e2 λα3 v H3 E3 R3 r3=>⟨r3,?_⟩;exact q α3 _ H3 (((E1.trans E2 R2.h)).trans E3 R3.h) R3 ⟨y,E3.pre _ _ at1,rfl⟩
   cases hF:T.fns[f]? with
   |none=>
    refine ZE ?_;rintro Y H Q ⟨α,ρ,hs,u,hs',rs,R,e,q⟩;simp only[ev]at e;obtain⟨us,h1,e1,e⟩:=Qb e;simp only[Jr,hC,hi]at e;split at e
    case h_2=>cases e
    rename_i h2 e2;obtain⟨F',h,_⟩:=F.some _ _ _ _ e2;rw[hF]at h;cases h
   |some Fn=>
    obtain⟨fd,ps,ds,dvs,G,kp,b,vd,rdv⟩:=Qgk F (n:=es.length+1) hF;have M:Mk X.K (A.c i) (A.f f):=⟨cl.mks,ini.1,ini.2,cl.kp⟩
    cases args with
    |nil=>
     have ee:es=[]:=by
      have:=QG ha;simpa using this
     subst ee;refine Q1 (Qe8 M G hr (Q0 g hg) (g.gcl x i hx) b vd QaN (QP hn)) λY H Q h=>?_;obtain⟨α,ρ,hs,us,hs',rs,R,e,q⟩:=key dvs rdv Y H Q h;cases e;exact q α [] H Ext.refl R .nil
    |cons a r=>exact Q1 (Qhs M G hr (Q0 g hg) (g.gcl x i hx) b vd QaN pa (QP hn) (Qn (Ql ha a (Xo ..))) (QS λz hz=>Ql ha z (Xk _ hz))) (key dvs rdv)
end
end
section
variable {o':E}{env:Env}{o:Expr}{hs:Hs}{es:List E}{args:List Expr}{d:Nat}{p pos q:Pos}{x:Str}
section
variable {X:Cx}{T:Tbl}{A:Adr}{C:Ctx}{cf:Cf}{m k:Nat}
theorem Jg{env:Env}{pos:Pos}:∀{es:List Expr},YO es->(backTo pos (starEach es env)).all (λx=>!x.1)=true
 |[],_=>rfl
 |e::r,h=>by
  rw[Qn (h e (Xo ..))];have ih:=Jg (env:=env) (pos:=pos) (es:=r) λx hx=>h x (Xk _ hx);unfold backTo at ih ⊢;rw[X7,List.all_cons,ih];rfl
def QhY(hn:YO args)(hl:args.length<29):methodCallForm (args.length+([]:List Keyword).length) (backTo pos (starEach args env)) (backToKw pos (keywordEach [] env))=true:=by
 unfold methodCallForm;rw[Jg hn]
 have:(args.length+([]:List Keyword).length+(if(backToKw pos (keywordEach [] env)).isEmpty then 0 else 1) < 30):=by
  simp only[Th];split<;>omega
 simp only[X9 this,Bool.and_true,Bool.true_and];rfl
def QhK(h1:Zh o=true)(h2:(p.endLine==q.line)=true)(h3:args.length<29)(h4:YO args):
  eval (.Call (.Attribute o x p) args [] q) env=(do
   let ov <-eval o env
   standAt p.atName
   let (f,first) <-holding [ov] (getMethod ov x (do return (<-importBound o env).getD true))
   callWith q f first (backTo q (starEach args env)) (backToKw q (keywordEach [] env))):=by
 rw[PySem.arm_eval_Call,Ze h1];unfold methodCall;rw[QhY h4 h3];unfold calleeOf methodCallPos;rw[h2];rfl
theorem RF.none_of{α:List Addr}{x:Str}(hx:x∉T.fns'):∀{fs:List (Nat×U)} {fv:List (Str×V)},RF T A α fs fv->fv.lookup x=none
 |_,_,.nil=>rfl
 |_,_,.cons (a:=p) (b:=q) r t=>by
  obtain⟨qx,qv⟩:=q;rw[Va]
  have n2:(x==qx)=false:=by
   rw[W3];rintro rfl;exact hx (X0 r.1)
  rw[n2];exact RF.none_of hx t
def Qcf{i f:Nat}{u:U}(h:QaQ T i u hs=some f):∃n c fs Cl,u=.ref n/\hs[n]?=some (.ins c fs)/\T.cls[c]?=some Cl/\Cl.meths.lookup i=some f:=by
 cases u with
 |ref n=>
  simp only[QaQ]at h;split at h
  ·rename_i c fs e;split at h
   ·rename_i Cl e2;exact⟨n,c,fs,Cl,rfl,e,e2,h⟩
   ·cases h
  ·cases h
 |_=>simp[QaQ]at h
def Qjl{i:Nat}(g:GX T A C X)(F:Fc X T A cf k)(hr:Room k X.A)(S:Snd T A C X cf m)(h1:Zh o=true)(h2:(p.endLine==q.line)=true)(h3:args.length<29)
  (hx:idx x C.T.mns=some i) (ho:Qf m C o=some o') (ha:compA m C args=some es):PE X (.Call (.Attribute o x p) args [] q) (TI T A X.K (ev T cf (d+1) (.meth i o' es))):=by
 intro pins s Y H Q I hw;obtain⟨α,ρ,hs,u,hs',rs,R,e,q'⟩:=hw;simp only[ev]at e;obtain⟨u1,h1',e1,e⟩:=Qb e;split at e
 case h_2=>cases e
 rename_i f hf;obtain⟨us,h2',e2,e⟩:=Qb e
 have hx':T.mns[i]?=some x:=by rw[<-g.CT];exact QU hx
 have hns:=Ql ha;refine W.methodCall_KW (thn (S.e d o o' ho pins s Y H (λv H1=>∃α1,Ext α α1 H H1/\Rep T A X.K α1 h1' H1/\RU A α1 u1 v/\RS A α1 ρ Y) I (TI.run rs R e1 λα1 v H1 E1 R1 r1 rs1=>⟨α1,E1,R1,r1,rs1⟩)) λov s1 y=>?_) (QhK h1 h2 h3 hns);obtain⟨v,H1,I1,rv,α1,E1,R1,r1,rs1⟩:=y;obtain⟨n,c,fs,Cl,rfl,eo,hC,hf⟩:=Qcf hf;obtain⟨pa',hpa,rfl⟩:=r1;cases(show ov=_ from rv);obtain⟨dx,fv,q1,rf,lc⟩:=R1.h.ob n pa' _ hpa eo;have cl:=g.txt.cl c Cl hC;obtain⟨x',hx2,hm⟩:=cl.me i f hf;have ex:x=x':=Xn (hx'.symm.trans hx2);subst ex;have nx:x∉T.fns':=λz=>g.txt.fm x z (X0 hx');obtain⟨Fn,hF,_⟩:=F.some _ _ _ _ e;obtain⟨fd,ps,ds,dvs,G,kp,b,vd,rdv⟩:=Qgk F (n:=us.length+1) hF;refine Qcq I1 q1 cl.cls hm (RF.none_of nx rf) ?_
 have fin:∀(s2:Shared) (H2:Hp) (α2:List Addr) (vs:List V) (ws:List Value),Inv X pins Y H2 s2->Ext α1 α2 H1 H2->Rep T A X.K α2 h2' H2->RUs A α2 us vs->Vals vs ws ->
   wpAny (model X.prog X.w) X.A (call (.ref (A.f f)) (.ref pa'::ws)) (EP X pins Y Q) X.xe s2:=by
  intro s2 H2 α2 vs ws I2 E2 R2 r2 rw';refine Qc6 (us:=.ref pa'::ws) (vs:=.ref pa'::vs) G hr b vd QaN I2 (.cons rfl rw') ?_;exact Qbl F (us:=.ref n::(us++Qfa T f (us.length+1))) (.cons ⟨pa',E2.pre _ _ hpa,rfl⟩ (r2.app (RUs.nilA rdv))) R2 e λα3 v H3 E3 R3 r3=>q' α3 v H3 ((E1.trans E2 R2.h).trans E3 R3.h) R3 r3
 cases args with
 |nil=>
  have ee:es=[]:=by
   have:=QG ha;simpa using this
  subst ee;cases e2
  exact W.callWith_K0 (first:=[.ref pa']) I1.kIn hm.kp (fin s1 H1 α1 [] [] I1 Ext.refl R1 .nil .nil)
 |cons a r=>
  refine W.callWith_K (first:=[.ref pa']) (h₀:=X.base) I.ok.mod.kin hm.kp (thn (S.a d (a::r) es ha q pins s1 Y H1 (λvs H2=>∃α2,Ext α1 α2 H1 H2/\Rep T A X.K α2 h2' H2/\RUs A α2 us vs) I1 (TIA.run rs1 R1 e2 λα2 vs H2 E2 R2 r2 rs2=>⟨α2,E2,R2,r2⟩)) λws s2 ⟨vs,H2,I2,rw',α2,E2,R2,r2⟩=>⟨I2.kIn,?_⟩)
   (Qn (hns a (Xo ..))) (QS λz hz=>hns z (Xk _ hz))
  exact fin s2 H2 α2 vs ws I2 E2 R2 r2 rw'
def QkH{e:Expr}{es:List Expr}(hn:YO (e::es))(hl:(e::es).length<29):((backTo pos (starEach (e::es) env)).all (λx=>!x.1)&&(backToKw pos (keywordEach [] env)).all (λx=>x.1.isSome)
   && decide ((e::es).length+([]:List Keyword).length+(if([]:List Keyword).isEmpty then 0 else 1) < 30))=true:=by
 rw[Jg hn]
 have:(e::es).length+([]:List Keyword).length+(if([]:List Keyword).isEmpty then 0 else 1) < 30:=by
  simp only[Th,List.isEmpty_nil,Wo];omega
 rw[X9 this];rfl
def QaZ{b:Bm}{id ty:String}(S:Snd T A C X cf m)(B:BmS X T A b id)(pa:PlainAttrs ty)(slot:Slot ty x id)(hty:typeOf (.builtin id)=pure (.type "method_descriptor"))
  (ty:∀{u:U} {hs:Hs} {α:List Addr} {v:V} {H:Hp},Qda b u hs=true->RU A α u v->Rep T A X.K α hs H->L2.tyV X.K ty v H) (h1:Zh o=true) (h2:(p.endLine==q.line)=true) (h3:args.length<29)
  (ho:Qf m C o=some o') (ha:compA m C args=some es):PE X (.Call (.Attribute o x p) args [] q) (TI T A X.K (ev T cf (d+1) (.bm b o' es))):=by
 obtain⟨r,hm,hB⟩:=B;have hns:=Ql ha
 cases args with
 |nil=>
  have ee:es=[]:=by
   have:=QG ha;simpa using this
  subst ee;refine Q1 (QjZ pa slot hty hm (S.e d o o' ho) (Ze h1) h2) ?_;rintro Y H Q ⟨α,ρ,hs,u,hs',rs,R,e,q⟩;simp only[ev,evs]at e;obtain⟨u1,h1',e1,e⟩:=Qb e;split at e
  case isFalse=>cases e
  rename_i il;obtain⟨us,h2',e2,e⟩:=Qb e;cases e2;exact TI.run rs R e1 λα1 v H1 E1 R1 r1 rs1=>⟨ty il r1 R1,hB e r1 .nil R1 λα2 v2 H2 E2 R2 r2=>q α2 v2 H2 (E1.trans E2 R2.h) R2 r2⟩
 |cons a t=>
  refine Q1 (Qmu pa slot hty hm (S.e d o o' ho) (S.a d (a::t) es ha) (Ze h1) (QkH hns h3) h2 (Qn (hns a (Xo ..))) (QS λz hz=>hns z (Xk _ hz))) ?_;rintro Y H Q ⟨α,ρ,hs,u,hs',rs,R,e,q⟩;simp only[ev]at e;obtain⟨u1,h1',e1,e⟩:=Qb e;split at e
  case isFalse=>cases e
  rename_i il;obtain⟨us,h2',e2,e⟩:=Qb e;exact TI.run rs R e1 λα1 v H1 E1 R1 r1 rs1=>⟨ty il r1 R1,TIA.run rs1 R1 e2 λα2 vs H2 E2 R2 r2 rs2=>hB e (r1.mono E2.pre) r2 R2 λα3 v2 H3 E3 R3 r3=>q α3 v2 H3 ((E1.trans E2 R2.h).trans E3 R3.h) R3 r3⟩
noncomputable def kdB:Bm->String
 |.setdef=>"dict"
 |.get=>"dict"
 |.update=>"dict"
 |.join=>"str"
 |.split=>"str"
 |.find=>"str"
 |.index=>"str"
 |_=>"list"
def Qc9{b:Bm}{u:U}{α:List Addr}{v:V}{H:Hp}(e:Qda b u hs=true)(r:RU A α u v)(R:Rep T A X.K α hs H):L2.tyV X.K (kdB b) v H:=by
 cases u with
 |ref n=>
  obtain⟨a,ha,rfl⟩:=r;simp only[Qda]at e;split at e
  ·rename_i xs eo;obtain⟨vs,q,_⟩:=R.h.ob n a _ ha eo
   have:kdB b="list":=by cases b<;>first|rfl|cases e
   rw[this];exact .inl ⟨rfl,vs,SqL.of q⟩
  ·rename_i kvs eo;obtain⟨kv,q,_⟩:=R.h.ob n a _ ha eo
   have:kdB b="dict":=by cases b<;>first|rfl|cases e
   rw[this];exact .inr (.inr (.inl ⟨rfl,.inl ⟨kv,q⟩⟩))
  ·cases e
 |str x=>
  cases(show v=_ from r)
  have:kdB b="str":=by cases b<;>first|rfl|cases e
  exact this
 |_=>cases e
def QoU{b:Bm}(hu:X.A.units+64<cLine)(tx:Txt T A X.K X.mg)(S:Snd T A C X cf m)(hb:QlG x=some b)(h1:Zh o=true)(h2:(p.endLine==q.line)=true)(h3:args.length<29)
  (ho:Qf m C o=some o') (ha:compA m C args=some es):PE X (.Call (.Attribute o x p) args [] q) (TI T A X.K (ev T cf (d+1) (.bm b o' es))):=by
 unfold QlG at hb;split at hb
 ·rename_i e;subst e;cases hb;exact QaZ S Qcy Ux PySem.F.slot_list_append PySem.F.type_list_append (λe r R=>Qc9 e r R) h1 h2 h3 ho ha
 split at hb
 ·rename_i e;subst e;cases hb;exact QaZ S Qcx Ux PySem.F.slot_list_extend PySem.F.type_list_extend (λe r R=>Qc9 e r R) h1 h2 h3 ho ha
 unfold Qk9 at hb;split at hb
 ·rename_i e;subst e;cases hb;exact QaZ S (Qeq tx hu) Ux PySem.F.slot_list_count PySem.F.type_list_count (λe r R=>Qc9 e r R) h1 h2 h3 ho ha
 ·cases hb
def YL{args:List Expr}{b:Bi}{fv:Value}{r:List V->Hp->VK->Prop}{e0:Expr}(hB:∀{α:List Addr} {us:List U} {u':U} {hs hs':Hs} {vs:List V} {H:Hp} {Q:VK},biU T b us hs=some (u',hs')->RUs A α us vs->Rep T A X.K α hs H ->
   (∀α' v' H',Ext α α' H H'->Rep T A X.K α' hs' H'->RU A α' u' v'->Q v' H')->r vs H Q)
  (h:PE X e0 (tCB r (TIA T A X.K (λρ hs=>evs (ev T cf d) ρ es hs)))):PE X e0 (TI T A X.K (ev T cf (d+1) (.bi b es))):=by
 refine Q1 h ?_;rintro Y H Q ⟨α,ρ,hs,u,hs',rs,R,e,q⟩;simp only[ev]at e;obtain⟨us,h1,e1,e⟩:=Qb e;exact TIA.run rs R e1 λα1 vs H1 E1 R1 r1 rs1=>hB e r1 R1 λα2 v2 H2 E2 R2 r2=>q α2 v2 H2 (E1.trans E2 R2.h) R2 r2
def Qif{b:Bi}:biU T b [] hs=none:=by cases b<;>rfl
def QoV{b:Bi}(g:GX T A C X)(hh:hdC C=false)(hu:X.A.units+2<cLine)(S:Snd T A C X cf m)(hg:Zz C x=true)(hn:x≠"__debug__")(hn2:x≠"__name__")(hx:QlI C x=some b)(ha:compA m C args=some es):
  PE X (.Call (.Name x p) args [] pos) (TI T A X.K (ev T cf (d+1) (.bi b es))):=by
 have hns:=Ql ha
 cases args with
 |nil=>
  refine ZE ?_;rintro Y H Q ⟨α,ρ,hs,u,hs',rs,R,e,q⟩
  have ee:es=[]:=by
   have:=QG ha;simpa using this
  subst ee;simp[ev,evs,bd,Qif]at e
 |cons a t=>
  unfold QlI at hx;split at hx
  ·cases hx
  split at hx
  ·cases hx
  rename_i hl;have hm:X.mg x=none:=g.blt x hl;have pa:=S.a d (a::t) es ha;have st:=Qn (env:=X.env) (es:=t) (hns a (Xo ..));have sa:=QS (env:=X.env) (pos:=pos) (es:=t) λz hz=>hns z (Xk _ hz);split at hx
  ·rename_i e;subst e;cases hx;obtain⟨r,hc,hB⟩:=Qih (X:=X) (A:=A) g.txt
   exact YL (fv:=.builtin "len") (args:=[]) hB (Yd hc (Q0 g hg) hm (by decide +kernel) pa hn2 (QP hn) st sa)
  split at hx
  ·rename_i e;subst e;cases hx;obtain⟨r,hc,hB⟩:=Qii (X:=X) (A:=A) (T:=T)
   exact YL (fv:=.none) (args:=[]) hB (Yu hc (Q0 g hg) hm (by decide +kernel) pa hn2 (QP hn) st sa)
  split at hx
  ·rename_i e;subst e;cases hx;obtain⟨r,hc,hB⟩:=Qet (X:=X) (A:=A) (T:=T)
   exact YL (fv:=.none) (args:=[]) hB (Yu hc (Q0 g hg) hm (by decide +kernel) pa hn2 (QP hn) st sa)
  split at hx
  ·rename_i e;subst e;cases hx;obtain⟨r,hc,hB⟩:=Qig (X:=X) (A:=A) g.txt (g.calm hh)
   exact YL (fv:=.builtin "sum") (args:=[]) hB (Yd hc (Q0 g hg) hm (by decide +kernel) pa hn2 (QP hn) st sa)
  split at hx
  ·rename_i e;subst e;cases hx;obtain⟨r,hc,hB⟩:=Qij (X:=X) (A:=A) g.txt (g.calm hh)
   exact YL (fv:=.builtin "any") (args:=[]) hB (Yd hc (Q0 g hg) hm (by decide +kernel) pa hn2 (QP hn) st sa)
  cases hx
def QoT{t:Str}{ty:Ty}(g:GX T A C X)(hg:Zz C t=true)(hn:t≠"__debug__")(hn2:t≠"__name__")(h:QiZ C t=some ty): ∃v,PE X (.Name t p) (tC v)/\Qnk v=some (tyW A ty):= by
 unfold QiZ at h;split at h
 ·rename_i i e;cases h;exact⟨.ref (A.c i),QaM (Q0 g hg) (g.gcl t i e) rfl (QP hn),rfl⟩
 ·cases h
 ·split at h
  ·cases h
  rename_i e;have hm:X.mg t=none:=g.blt t e;have fin:∀n:String,bootBuiltins t=some (.type n)->PE X (.Name t p) (tC (.ty n)):=λn hb=>Qhu (Q0 g hg) hm hb rfl hn2 (QP hn);split at h
  ·rename_i e;subst e;cases h;exact⟨_,fin "int" (by decide +kernel),rfl⟩
  split at h
  ·rename_i e;subst e;cases h;exact⟨_,fin "str" (by decide +kernel),rfl⟩
  split at h
  ·rename_i e;subst e;cases h;exact⟨_,fin "bool" (by decide +kernel),rfl⟩
  split at h
  ·rename_i e;subst e;cases h;exact⟨_,fin "list" (by decide +kernel),rfl⟩
  split at h
  ·rename_i e;subst e;cases h;exact⟨_,fin "tuple" (by decide +kernel),rfl⟩
  split at h
  ·rename_i e;subst e;cases h;exact⟨_,fin "dict" (by decide +kernel),rfl⟩
  split at h
  ·rename_i e;subst e;cases h;exact⟨_,fin "ValueError" (by decide +kernel),rfl⟩
  ·cases h
def Qmg{a:Expr}{t:Str}{ty:Ty}{a':E}{p1:Pos}(g:GX T A C X)(S:Snd T A C X cf m)(hi:Zz C "isinstance"=true)(hl:¬C.bl.contains ("isinstance":Str)=false)(hg:Zz C t=true)(hn:t≠"__debug__")(hn2:t≠"__name__")(h:QiZ C t=some ty)(ha:Qf m C a=some a'):
  PE X (.Call (.Name "isinstance" p) [a,.Name t p1] [] pos) (TI T A X.K (ev T cf (d+1) (.isi a' ty))):=by
 obtain⟨v,hv,hc⟩:=QoT (p:=p1) g hg hn hn2 h;have s1:starEach [a,.Name t p1] X.env=(false,eval a X.env)::starEach [.Name t p1] X.env:=Qn (QM ha)
 refine Q1 (Yd QfH (Q0 g hi) (g.blt _ hl) (by decide +kernel) (ZD (S.e d a a' ha) (ZD hv J0) s1) (by decide) (by decide) s1 rfl) ?_
 rintro Y H Q ⟨α,ρ,hs,u,hs',rs,R,e,q⟩;simp only[ev]at e;obtain⟨u1,h1,e1,e⟩:=Qb e;simp only[Xc]at e;obtain⟨b,e2,e⟩:=e;cases e;refine TI.run rs R e1 λα1 x H1 E1 R1 r1 rs1=>?_;obtain⟨tv,h1,h2⟩:=Qkx g.txt e2 r1 R1;exact⟨x,v,_,tv,b,rfl,hc,h1,h2,q α1 _ H1 E1 R1 rfl⟩
end
end
end Iv
namespace L2
open PySem PySem.Spec PyProof.Rows
section
open Sem (wp)
variable {xs ys:Array Value}{k1 k2:Nat}{a x:Value}{Q:Value->Shared->Prop}
structure Nx(prog:Program)(w:World)(it l:Addr)(P:Nat->Heap->Prop)(L:Array Value->Heap->Prop):Prop where
 item:∀(A:Around) (E:Value->Shared->Prop) (s:Shared) (k:Nat) (xs:Array Value) (x:Value) (Q:Value->Shared->Prop),P k s.heap->L xs s.heap->xs[k]?=some x->(∀h',P (k+1) h'->Heap.SameBut it s.heap h'->Q x {s with heap:=h'}) ->
  wpAny (model prog w) A (Builtin.SmallTypes.nextOf (.ref it)) Q E s
 done:∀(A:Around) (E:Value->Shared->Prop) (s:Shared) (k:Nat) (xs:Array Value) (Q:Value->Shared->Prop),A.handled=none->P k s.heap->L xs s.heap->xs[k]?=none ->
  (∀h' e,Heap.ExtBut it s.heap h'->(∃o,h'.get? e=some o/\o.cls=.type "StopIteration")->E (.ref e) {s with heap:=h'})->wpAny (model prog w) A (Builtin.SmallTypes.nextOf (.ref it)) Q E s
 keepP:∀k h h',P k h->(∀o,h.get? it=some o->h'.get? it=some o)->P k h'
 keepL:∀xs h h',L xs h->(∀o,h.get? l=some o->h'.get? l=some o)->L xs h'
 obj:∀k h,P k h->∃o vs,h.get? it=some o/\o.data=.fields vs
def QhG(prog:Program)(w:World)(it l:Addr):Nx prog w it l (λk h=>h.IsListIter it l k) (λxs h=>h.IsList l xs) where
 item:=λA E s k xs x Q p q e h=>wpAny_nextOf_list_item p q e h
 done:=λA E s k xs Q hh p q e h=>wpAny_nextOf_list_end hh p q e h
 keepP:=λk h h' p f=>p.at λo e=>f o e
 keepL:=λxs h h' p f=>p.at λo e=>f o e
 obj:=λk h z=>by obtain⟨o,e,_,d⟩:=z;exact⟨o,_,e,d⟩
section
variable {prog:Program}{w:World}{A:Around}{E:Value->Shared->Prop}{s:Shared}
def ZP{it t:Addr}{i:Nat}{items:Array Value}(hit:s.heap.IsTupleIter it t i)
  (ht:s.heap.IsTuple t items) (hx:items[i]?=some x) (hQ:∀h',h'.IsTupleIter it t (i+1)->Heap.SameBut it s.heap h'->Q x {s with heap:=h'}):
  wpAny (model prog w) A (Builtin.SmallTypes.nextOf (.ref it)) Q E s:=by
 obtain⟨o,ho,hc,hd⟩:=id hit;obtain⟨ol,hol,_,nl,hdl⟩:=ht;unfold Builtin.SmallTypes.nextOf
 refine Xa (Wz (name:=Str.ofString "__next__") hit.typeIs Vu
  (Vo Vu hit.typeIs F.entry_tuple_iterator_next ?_ (F.args_tuple_iterator_next_1 _)))
 show wpAny _ _ (field (.ref it) 0 >>= _) _ _ s;refine Xa (Wa ho hd (x:=.ref t) rfl ?_);show wpAny _ _ (if(Value.ref t==Value.none)=true then _ else _) _ _ s;rw[if_neg (show ¬((Value.ref t==Value.none)=true)from Xh)];show wpAny _ _ (field (.ref it) 1 >>= _) _ _ s;refine Xa (Wa ho hd (x:=.int i 0) rfl ?_);show wpAny _ _ (seqItems? (.ref t) >>= _) _ _ s;refine Xa (Wg hol hdl ?_);simp only[Int.toNat_natCast,hx]
 refine Xa (wpAny_setField ho hd (by simp) (Xi ⟨x,rfl,Xi (hQ _ ?_ (Heap.SameBut.update ..))⟩))
 exact⟨_,V9 _ ho (Obj.isFreed_of_fields (Obj.data_mapFields hd _)),(Obj.cls_mapFields ..).trans hc,by
  rw[Obj.data_mapFields hd];simp[rawInt]⟩
def Z6{it t:Addr}{i:Nat}{items:Array Value}(hh:A.handled=none)
  (hit:s.heap.IsTupleIter it t i) (ht:s.heap.IsTuple t items) (hx:items[i]?=none)
  (hE:∀h' e,Heap.ExtBut it s.heap h'->(∃o,h'.get? e=some o/\o.cls=.type "StopIteration")->E (.ref e) {s with heap:=h'}):
  wpAny (model prog w) A (Builtin.SmallTypes.nextOf (.ref it)) Q E s:=by
 obtain⟨o,ho,hc,hd⟩:=id hit;obtain⟨ol,hol,_,nl,hdl⟩:=ht;unfold Builtin.SmallTypes.nextOf
 refine Xa (Wz (name:=Str.ofString "__next__") hit.typeIs Vu
  (Vo Vu hit.typeIs F.entry_tuple_iterator_next ?_ (F.args_tuple_iterator_next_1 _)))
 show wpAny _ _ (field (.ref it) 0 >>= _) _ _ s;refine Xa (Wa ho hd (x:=.ref t) rfl ?_);show wpAny _ _ (if(Value.ref t==Value.none)=true then _ else _) _ _ s;rw[if_neg (show ¬((Value.ref t==Value.none)=true)from Xh)];show wpAny _ _ (field (.ref it) 1 >>= _) _ _ s;refine Xa (Wa ho hd (x:=.int i 0) rfl ?_);show wpAny _ _ (seqItems? (.ref t) >>= _) _ _ s;refine Xa (Wg hol hdl ?_);simp only[Int.toNat_natCast,hx]
 refine Xa (wpAny_rule (Xa (wpAny_setField ho hd (by simp) ?_)))
 show wpAny _ _ (newExc (.type "StopIteration") [] >>= _) _ _ _;refine Xa ?_;simp only[newExc,newTuple]
 refine Xa (Vk ?_ (by size_fits))
 refine Xa (m:=firstArgMember _ _) (wpAny_of_eq (a:=Value.none) (by first|rfl|(simp only[firstArgMember];rfl)) ?_)
 refine Vk ?_ (by size_fits)
 simp only[raiseNew];refine Xa (wpAny_handled ?_)
 first|rw[show A.in1.handled=none from hh]|rw[hh]
 refine Xa (Xi (wpAny_throw ?_));exact hE _ _ (((Heap.SameBut.update ..).extBut.push _).push _) ⟨_,Xr _ rfl,rfl⟩
end
def Qfi(prog:Program)(w:World)(it l:Addr):Nx prog w it l (λk h=>h.IsTupleIter it l k) (λxs h=>h.IsTuple l xs) where
 item:=λA E s k xs x Q p q e h=>ZP p q e h
 done:=λA E s k xs Q hh p q e h=>Z6 hh p q e h
 keepP:=λk h h' p f=>p.at λo e=>f o e
 keepL:=λxs h h' p f=>p.at λo e=>f o e
 obj:=λk h z=>by obtain⟨o,e,_,d⟩:=z;exact⟨o,_,e,d⟩
section
variable {prog:Program}{w:World}{A:Around}{E:Value->Shared->Prop}{s:Shared}{z TI TO i1 i2 l1 l2:Addr}{P1 P2:Nat->Heap->Prop}{L1 L2:Array Value->Heap->Prop}
def QcF{y b:Value}(N1:Nx prog w i1 l1 P1 L1)(N2:Nx prog w i2 l2 P2 L2)(D:ZipApart z TI TO i1 i2 l1 l2)
  (hz:IsZip s.heap z TI TO .none) (hTI:IsPair s.heap TI (.ref i1) (.ref i2)) (hTO:IsPair s.heap TO a b)
  (h1:P1 k1 s.heap) (h2:P2 k2 s.heap) (hl1:L1 xs s.heap) (hl2:L2 ys s.heap) (hx:xs[k1]?=some x) (hy:ys[k2]?=some y)
  (hQ:∀h',IsZip h' z TI TO (rawInt s.heap.objs.size)->IsPair h' TO x y->P1 (k1+1) h'->P2 (k2+1) h'->IsPair h' s.heap.objs.size x y->h'.objs.size=s.heap.objs.size+1 ->
   (∀c o,c≠z->c≠TO->c≠i1->c≠i2->s.heap.get? c=some o->h'.get? c=some o)->Q (.ref s.heap.objs.size) {s with heap:=h'}):
  wpAny (model prog w) A (Builtin.«zip.__next__» ⟨[.ref z],[]⟩) (λfin s'=>∃v,fin=.done (.ret v)/\Q v s') E s:=by
 have kP1:∀{k:Nat} {h h':Heap} {c:Addr},P1 k h->Heap.SameBut c h h'->i1≠c->P1 k h':=λ{k h h' c} p sb ne=>N1.keepP k h h' p λo e=>(sb.2 i1 ne).trans e;have kP2:∀{k:Nat} {h h':Heap} {c:Addr},P2 k h->Heap.SameBut c h h'->i2≠c->P2 k h':=λ{k h h' c} p sb ne=>N2.keepP k h h' p λo e=>(sb.2 i2 ne).trans e;have kL1:∀{h h':Heap} {c:Addr},L1 xs h->Heap.SameBut c h h'->l1≠c->L1 xs h':=λ{h h' c} p sb ne=>N1.keepL xs h h' p λo e=>(sb.2 l1 ne).trans e;have kL2:∀{h h':Heap} {c:Addr},L2 ys h->Heap.SameBut c h h'->l2≠c->L2 ys h':=λ{h h' c} p sb ne=>N2.keepL ys h h' p λo e=>(sb.2 l2 ne).trans e;show wpAny _ _ (field (.ref z) 2 >>= _) _ _ _;refine Xa (Wa hz rfl (x:=.bool false) rfl ?_);show wpAny _ _ (field (.ref z) 3 >>= _) _ _ _;refine Xa (Wa hz rfl (x:=.ref TI) rfl ?_);refine Xa (Wg hTI rfl ?_);show wpAny _ _ (Builtin.SmallTypes.ownedTupleIsFree (.ref z) >>= _) _ _ _;refine Xa ?_;unfold Builtin.SmallTypes.ownedTupleIsFree;refine Xa (Wa hz rfl (x:=.none) rfl (Xi ?_));simp only[Wo];refine Xa (wpAny_rule ?_);refine Xa (Wa hz rfl (x:=.ref TO) rfl ?_)
 refine Xa (Wp hz (by simp) λh₁ hz₁ hs₁=>?_)
 replace hz₁:IsZip h₁ z TI TO .ellipsis:=hz₁;refine Xa ?_;simp only[U3,Ti,Uo,Uu];refine Xa (Xa (Vm ?_));show wpAny _ _ (Builtin.SmallTypes.nextOf (.ref i1) >>= _) _ _ _;refine Xa (N1.item _ _ _ _ _ _ _ (kP1 h1 hs₁ D.i1z) (kL1 hl1 hs₁ D.l1z) hx λh₂ h1₂ hs₂=>Xi ?_);have hTO₂:IsPair h₂ TO a b:=hs₂.extBut _ _ D.TOi1 (hs₁.extBut _ _ D.TOz hTO);refine Xa (Wg hTO₂ rfl ?_);refine Xa (wpAny_updateSeq_pair hTO₂ λh₃ hTO₃ hs₃=>?_);replace hTO₃:IsPair h₃ TO x b:=hTO₃;refine Xa (Ui (Xi ?_));refine Xa (Xa (Vm ?_));show wpAny _ _ (Builtin.SmallTypes.nextOf (.ref i2) >>= _) _ _ _;refine Xa (N2.item _ _ _ _ _ _ _ (kP2 (kP2 (kP2 h2 hs₁ D.i2z) hs₂ D.i12.symm) hs₃ D.TOi2.symm) (kL2 (kL2 (kL2 hl2 hs₁ D.l2z) hs₂ D.l2i1) hs₃ D.l2TO) hy λh₄ h2₄ hs₄=>Xi ?_);have hTO₄:IsPair h₄ TO x b:=hs₄.extBut _ _ D.TOi2 hTO₃;refine Xa (Wg hTO₄ rfl ?_);refine Xa (wpAny_updateSeq_pair hTO₄ λh₅ hTO₅ hs₅=>?_);replace hTO₅:IsPair h₅ TO x y:=hTO₅;refine Xa (Ui (Xi (Xi ?_)));refine Xa (Wg hTO₅ rfl ?_);refine Xa (wpAny_newTuple ?_)
 have hsz:h₅.objs.size=s.heap.objs.size:=by rw[hs₅.1,hs₄.1,hs₃.1,hs₂.1,hs₁.1]
 have hz₅:IsZip h₅ z TI TO .ellipsis:=hs₅.extBut _ _ D.TOz.symm (hs₄.extBut _ _ D.i2z.symm (hs₃.extBut _ _ D.TOz.symm (hs₂.extBut _ _ D.i1z.symm hz₁)))
 have hk₅:∀c o,c≠z->c≠TO->c≠i1->c≠i2->s.heap.get? c=some o->h₅.get? c=some o:=λc o c1 c2 c3 c4 e=>
  hs₅.extBut _ _ c2 (hs₄.extBut _ _ c4 (hs₃.extBut _ _ c2 (hs₂.extBut _ _ c3 (hs₁.extBut _ _ c1 e))))
 have h1₅:P1 (k1+1) h₅:=kP1 (kP1 (kP1 h1₂ hs₃ D.TOi1.symm) hs₄ D.i12) hs₅ D.TOi1.symm;have h2₅:P2 (k2+1) h₅:=kP2 h2₄ hs₅ D.TOi2.symm;have hzlt:z<h₅.objs.size:=Xl hz₅;show wpAny _ _ (Builtin.SmallTypes.ownedTupleHandOut (.ref z) (.ref h₅.objs.size) >>= _) _ _ _;refine Xa ?_;unfold Builtin.SmallTypes.ownedTupleHandOut;have hz₆:IsZip (h₅.push {cls:=.type "tuple",data:=.seq #[x,y]}) z TI TO .ellipsis:=Xb _ hz₅
 refine Xa (Wp hz₆ (by simp) λh₇ hz₇ hs₇=>?_)
 replace hz₇:IsZip h₇ z TI TO (rawInt h₅.objs.size):=hz₇
 refine Wp hz₇ (by simp) λh₈ hz₈ hs₈=>?_
 replace hz₈:IsZip h₈ z TI TO (rawInt h₅.objs.size):=hz₈;have up:∀c o,c≠z->h₅.get? c=some o->h₈.get? c=some o:=λc o c1 e=>hs₈.extBut _ _ c1 (hs₇.extBut _ _ c1 (Xb _ e));have hT₈:IsPair h₈ h₅.objs.size x y:=hs₈.extBut _ _ (Nat.ne_of_gt hzlt) (hs₇.extBut _ _ (Nat.ne_of_gt hzlt) (Xr _ rfl))
 have hz8:h₈.objs.size=h₅.objs.size+1:=by rw[hs₈.1,hs₇.1,X1]
 rw[hsz]at hz₈ hT₈ hz8;refine Xi ⟨_,rfl,?_⟩;show Q (.ref h₅.objs.size) _;rw[hsz];exact hQ h₈ hz₈ (up _ _ D.TOz hTO₅) (N1.keepP _ _ _ h1₅ λo e=>up _ o D.i1z e) (N2.keepP _ _ _ h2₅ λo e=>up _ o D.i2z e) hT₈ hz8 λc o c1 c2 c3 c4 e=>up c o c1 (hk₅ c o c1 c2 c3 c4 e)
def QeE{b:Value}{Q:Fin->Shared->Prop}(N1:Nx prog w i1 l1 P1 L1)(N2:Nx prog w i2 l2 P2 L2)(hh:A.handled=none)(D:ZipApart z TI TO i1 i2 l1 l2)
  (hz:IsZip s.heap z TI TO .none) (hTI:IsPair s.heap TI (.ref i1) (.ref i2)) (hTO:IsPair s.heap TO a b)
  (h1:P1 k1 s.heap) (h2:P2 k2 s.heap) (hl1:L1 xs s.heap) (hl2:L2 ys s.heap) (hend:xs[k1]?=none\/ys[k2]?=none)
  (hE:∀h' e,(∀c o,c≠z->c≠TO->c≠i1->c≠i2->s.heap.get? c=some o->h'.get? c=some o)->(∃o,h'.get? e=some o/\o.cls=.type "StopIteration")->E (.ref e) {s with heap:=h'}):
  wpAny (model prog w) A (Builtin.«zip.__next__» ⟨[.ref z],[]⟩) Q E s:=by
 have kP1:∀{k:Nat} {h h':Heap} {c:Addr},P1 k h->Heap.SameBut c h h'->i1≠c->P1 k h':=λ{k h h' c} p sb ne=>N1.keepP k h h' p λo e=>(sb.2 i1 ne).trans e;have kP2:∀{k:Nat} {h h':Heap} {c:Addr},P2 k h->Heap.SameBut c h h'->i2≠c->P2 k h':=λ{k h h' c} p sb ne=>N2.keepP k h h' p λo e=>(sb.2 i2 ne).trans e;have kL1:∀{h h':Heap} {c:Addr},L1 xs h->Heap.SameBut c h h'->l1≠c->L1 xs h':=λ{h h' c} p sb ne=>N1.keepL xs h h' p λo e=>(sb.2 l1 ne).trans e;have kL2:∀{h h':Heap} {c:Addr},L2 ys h->Heap.SameBut c h h'->l2≠c->L2 ys h':=λ{h h' c} p sb ne=>N2.keepL ys h h' p λo e=>(sb.2 l2 ne).trans e;show wpAny _ _ (field (.ref z) 2 >>= _) _ _ _;refine Xa (Wa hz rfl (x:=.bool false) rfl ?_);show wpAny _ _ (field (.ref z) 3 >>= _) _ _ _;refine Xa (Wa hz rfl (x:=.ref TI) rfl ?_);refine Xa (Wg hTI rfl ?_);show wpAny _ _ (Builtin.SmallTypes.ownedTupleIsFree (.ref z) >>= _) _ _ _;refine Xa ?_;unfold Builtin.SmallTypes.ownedTupleIsFree;refine Xa (Wa hz rfl (x:=.none) rfl (Xi ?_));simp only[Wo];refine Xa (wpAny_rule ?_);refine Xa (Wa hz rfl (x:=.ref TO) rfl ?_)
 refine Xa (Wp hz (by simp) λh₁ hz₁ hs₁=>?_)
 replace hz₁:IsZip h₁ z TI TO .ellipsis:=hz₁;refine Xa ?_;simp only[U3,Ti,Uo,Uu];refine Xa (Xa (Vm ?_));show wpAny _ _ (Builtin.SmallTypes.nextOf (.ref i1) >>= _) _ _ _
 cases hx:xs[k1]? with
 |none=>
  refine Xa (N1.done _ _ _ _ _ _ hh (kP1 h1 hs₁ D.i1z) (kL1 hl1 hs₁ D.l1z) hx λh₂ e hs₂ he=>?_);obtain⟨oe,hoe,hce⟩:=he;have hz₂:IsZip h₂ z TI TO .ellipsis:=hs₂ _ _ D.i1z.symm hz₁
  have hez:e≠z:=λx=>by subst x;rw[hz₂]at hoe;cases hoe;simp at hce
  refine Wp hz₂ (by simp) λh₃ y hs₃=>hE h₃ e (λc o c1 y c3 y x=>hs₃.extBut _ _ c1 (hs₂ _ _ c3 (hs₁.extBut _ _ c1 x))) ⟨oe,hs₃.extBut _ _ hez hoe,hce⟩
 |some x=>
  have hy:ys[k2]?=none:=by rcases hend with h|h;rw[hx]at h;cases h;exact h
  refine Xa (N1.item _ _ _ _ _ _ _ (kP1 h1 hs₁ D.i1z) (kL1 hl1 hs₁ D.l1z) hx λh₂ h1₂ hs₂=>Xi ?_);have hTO₂:IsPair h₂ TO a b:=hs₂.extBut _ _ D.TOi1 (hs₁.extBut _ _ D.TOz hTO);refine Xa (Wg hTO₂ rfl ?_);refine Xa (wpAny_updateSeq_pair hTO₂ λh₃ hTO₃ hs₃=>?_);refine Xa (Ui (Xi ?_));refine Xa (Xa (Vm ?_));show wpAny _ _ (Builtin.SmallTypes.nextOf (.ref i2) >>= _) _ _ _;refine Xa (N2.done _ _ _ _ _ _ hh (kP2 (kP2 (kP2 h2 hs₁ D.i2z) hs₂ D.i12.symm) hs₃ D.TOi2.symm) (kL2 (kL2 (kL2 hl2 hs₁ D.l2z) hs₂ D.l2i1) hs₃ D.l2TO) hy λh₄ e hs₄ he=>?_);obtain⟨oe,hoe,hce⟩:=he;have hz₄:IsZip h₄ z TI TO .ellipsis:=hs₄ _ _ D.i2z.symm (hs₃.extBut _ _ D.TOz.symm (hs₂.extBut _ _ D.i1z.symm hz₁))
  have hez:e≠z:=λx=>by subst x;rw[hz₄]at hoe;cases hoe;simp at hce
  refine Wp hz₄ (by simp) λh₅ y hs₅=>hE h₅ e (λc o c1 c2 c3 c4 x=>hs₅.extBut _ _ c1 (hs₄ _ _ c4 (hs₃.extBut _ _ c2 (hs₂.extBut _ _ c3 (hs₁.extBut _ _ c1 x))))) ⟨oe,hs₅.extBut _ _ hez hoe,hce⟩
def Z5{y b:Value}{Q:Option Value->Shared->Prop}(N1:Nx prog w i1 l1 P1 L1)(N2:Nx prog w i2 l2 P2 L2)(D:ZipApart z TI TO i1 i2 l1 l2)
  (hz:IsZip s.heap z TI TO .none) (hTI:IsPair s.heap TI (.ref i1) (.ref i2)) (hTO:IsPair s.heap TO a b)
  (h1:P1 k1 s.heap) (h2:P2 k2 s.heap) (hl1:L1 xs s.heap) (hl2:L2 ys s.heap) (hx:xs[k1]?=some x) (hy:ys[k2]?=some y)
  (hQ:∀h',IsZip h' z TI TO (rawInt s.heap.objs.size)->IsPair h' TO x y->P1 (k1+1) h'->P2 (k2+1) h'->IsPair h' s.heap.objs.size x y->h'.objs.size=s.heap.objs.size+1 ->
   (∀c o,c≠z->c≠TO->c≠i1->c≠i2->s.heap.get? c=some o->h'.get? c=some o)->Q (some (.ref s.heap.objs.size)) {s with heap:=h'}):
  wpAny (model prog w) A (pyNext (.ref z)) Q E s:=by
 have hT:s.TypeIs (.ref z) "zip":=⟨_,hz,rfl⟩;unfold pyNext
 exact Xa (Ug (Wz (name:=Str.ofString "__next__") hT Vj
  (Vo Vj hT U4
   (QcF N1 N2 D hz hTI hTO h1 h2 hl1 hl2 hx hy λh' a1 a2 a3 a4 a5 a6 a7=>Xi (hQ h' a1 a2 a3 a4 a5 a6 a7)) (Uz _))))
def Yr{b:Value}{Q:Option Value->Shared->Prop}(N1:Nx prog w i1 l1 P1 L1)(N2:Nx prog w i2 l2 P2 L2)(hh:A.handled=none)(D:ZipApart z TI TO i1 i2 l1 l2)
  (hz:IsZip s.heap z TI TO .none) (hTI:IsPair s.heap TI (.ref i1) (.ref i2)) (hTO:IsPair s.heap TO a b)
  (h1:P1 k1 s.heap) (h2:P2 k2 s.heap) (hl1:L1 xs s.heap) (hl2:L2 ys s.heap) (hend:xs[k1]?=none\/ys[k2]?=none)
  (hQ:∀h',(∀c o,c≠z->c≠TO->c≠i1->c≠i2->s.heap.get? c=some o->h'.get? c=some o)->Q none {s with heap:=h'}):wpAny (model prog w) A (pyNext (.ref z)) Q E s:=by
 have hT:s.TypeIs (.ref z) "zip":=⟨_,hz,rfl⟩;unfold pyNext
 refine Xa (Ug (Wz (name:=Str.ofString "__next__") hT Vj
  (Vo Vj hT U4 (QeE N1 N2 hh D hz hTI hTO h1 h2 hl1 hl2 hend λh' e hk he=>?_) (Uz _))))
 obtain⟨o,ho,hc⟩:=he;refine Xa (wpAny_isInstance (T:="StopIteration") (b:=true) ⟨o,ho,hc⟩ isSubtype_stop ?_);exact Xi (hQ _ hk)
end
end
section
variable {X:Cx}{H:Hp}{pins:List (Addr×Obj)}{s:Shared}{Y:St}
section
variable {h':Heap}
def Inv.turnedLay{t':Nat}{ch:List Addr}{p:Addr}{vs:List V}{its:List Value}(I:Inv X pins Y H s)(hf:∀b∈ch,Qa5 X pins H b)(k:∀b o,b∉ch->s.heap.get? b=some o->h'.get? b=some o)
  (there:∀b o,b∈ch->s.heap.get? b=some o->∃o',h'.get? b=some o')
  (hp:s.heap.objs.size<=p) (hv:Vals vs its) (ht:IsTup h' p its.toArray) (hz:vs.length<=sizeLine):Inv X pins Y (upd H p (.tup vs)) {s with heap:=h',toks:=t'}:=by
 have hn:H p=none:=I.hok.fresh hp
 have ne:∀b o,s.heap.get? b=some o->b≠p:=λb o e z=>by
  have:=Xl e;rw[z]at this;exact absurd (Xu this hp) (Vb _)
 have nch:∀b u,H b=some u->b∉ch:=λb u e z=>by rw[(hf b z).1]at e;cases e
 have up:∀b u,H b=some u->upd H p (.tup vs) b=some u:=λb u e=>by rw[Qe (Q8 e hn)];exact e
 refine I.step (g':=s.gens) (d':=s.drawn) (ch:=ch) (λb hb=>?_) (λb o y y hc e y=>k b o hc e) (λb o y y hc e y=>⟨o.slots,k b o hc e⟩) (λb o y e n=>by rw[Qe (ne b o e)];exact n)
  (λb o hc e=>⟨o,k b o hc e⟩) (λb xs e=>up b _ e) (λb o u e=>up b _ e) (λb ps e=>⟨#[],by rw[up b _ e];simp⟩) (λm hm=>?_) (λb u e=>?_) I.bare
 ·obtain⟨_,f1,_,f3,f4,f5⟩:=hf b hb;exact⟨f3,f1,f4,f5⟩
 ·obtain⟨o,es,ep,ho,r⟩:=hm;refine⟨o,es,ep,k _ o (λz=>(hf _ z).2.1 rfl) ho,r⟩
 ·by_cases hb:b=p
  ·subst hb;rw[Qp]at e;cases e;exact⟨hz,its,hv,ht⟩
  ·rw[Qe hb]at e;refine(I.hok b u e).stay (λc v hc q=>k c v ?_ q) (λc q=>up c _ q) λc xs q=>up c _ q
   rcases hc with z|z
   ·rw[z];exact nch b u e
   ·exact nch c _ z
def Inv.turnedL{t':Nat}{ch:List Addr}(I:Inv X pins Y H s)(hf:∀b∈ch,Qa5 X pins H b)(k:∀b o,b∉ch->s.heap.get? b=some o->h'.get? b=some o):Inv X pins Y H {s with heap:=h',toks:=t'}:=by
 have nch:∀b u,H b=some u->b∉ch:=λb u e z=>by rw[(hf b z).1]at e;cases e
 refine I.step (g':=s.gens) (d':=s.drawn) (ch:=ch) (λb hb=>?_) (λb o y y hc e y=>k b o hc e) (λb o y y hc e y=>⟨o.slots,k b o hc e⟩) (λb o y e n=>n)
  (λb o hc e=>⟨o,k b o hc e⟩) (λb xs e=>e) (λb o u e=>e) (λb ps e=>⟨#[],by rw[e];simp⟩) (λm hm=>?_) (λb u e=>?_) I.bare
 ·obtain⟨_,f1,_,f3,f4,f5⟩:=hf b hb;exact⟨f3,f1,f4,f5⟩
 ·obtain⟨o,es,ep,ho,r⟩:=hm;exact⟨o,es,ep,k _ o (λz=>(hf _ z).2.1 rfl) ho,r⟩
 ·refine(I.hok b u e).stay (λc v hc q=>k c v ?_ q) (λc q=>q) λc xs q=>q
  rcases hc with z|z
  ·rw[z];exact nch b u e
  ·exact nch c _ z
end
def SqB:Bool->W.Frag->Hp->Addr->List V->Prop
 |true=>SqL
 |false=>SqT
def LB:Bool->Addr->Array Value->Heap->Prop
 |true,l=>λxs h=>h.IsList l xs
 |false,l=>λxs h=>h.IsTuple l xs
def PB:Bool->Addr->Addr->Nat->Heap->Prop
 |true,it,l=>λk h=>h.IsListIter it l k
 |false,it,l=>λk h=>h.IsTupleIter it l k
def nxB(b:Bool)(prog:Program)(w:World)(it l:Addr):Nx prog w it l (PB b it l) (LB b l):=by
 cases b with
 |true=>exact QhG prog w it l
 |false=>exact Qfi prog w it l
def Inv.sqB{b:Bool}{a:Addr}{xs:List V}(I:Inv X pins Y H s)(h:SqB b X.K H a xs):∃its:List Value,Vals xs its/\LB b a its.toArray s.heap/\xs.length<=sizeLine:=by
 cases b with
 |true=>obtain⟨its,r,p,z⟩:=I.list h;exact⟨its,r,p.isList,z⟩
 |false=>obtain⟨its,r,p,z⟩:=I.tuple h;exact⟨its,r,p,z⟩
def Inv.sqB_inj{b:Bool}{a:Addr}{xs ys:List V}(I:Inv X pins Y H s)(h:SqB b X.K H a xs)(h':SqB b X.K H a ys):xs=ys:=by
 cases b with
 |true=>exact I.list_inj h h'
 |false=>exact I.tuple_inj h h'
noncomputable def Itz(b c:Bool)(K:W.Frag)(a1 a2:Addr):It :=
 ⟨λi H=>∃xs ys x y,SqB b K H a1 xs/\SqB c K H a2 ys/\xs[i]?=some x/\ys[i]?=some y,
   λi H x H'=>∃p v w,H p=none/\x=.ref p/\H'=upd H p (.tup [v,w])/\(∀xs,SqB b K H a1 xs->xs[i]?=some v)/\∀ys,SqB c K H a2 ys->ys[i]?=some w,
   λi H=>∃xs ys,SqB b K H a1 xs/\SqB c K H a2 ys/\(xs.length<=i\/ys.length<=i)⟩
def QeI{P:Program}{w:World}{K:W.Frag}{elts:List Expr}{kt:Nat}{pt:Pos}(b b':Bool)(a1 a2 z TI TO i1 i2:Addr)(D:ZipApart z TI TO i1 i2 a1 a2):
  Turn P w K (.Tuple elts kt pt) (Itz b b' K a1 a2) [z,TI,TO,i1,i2] z (λi h=>IsZip h z TI TO .none/\IsPair h TI (.ref i1) (.ref i2)/\(∃a c,IsPair h TO a c)/\PB b i1 a1 i h/\PB b' i2 a2 i h) where
 mem:=by simp
 obj:=λi h st c hc=>by
  obtain⟨hz,hTI,⟨a,c',hTO⟩,p1,p2⟩:=st
  have hc':c=z\/c=TI\/c=TO\/c=i1\/c=i2:=by simpa using hc
  rcases hc' with rfl|rfl|rfl|rfl|rfl
  ·exact⟨_,hz,λv q=>nomatch q⟩
  ·exact⟨_,hTI,λv q=>nomatch q⟩
  ·exact⟨_,hTO,λv q=>nomatch q⟩
  ·obtain⟨o,vs,e,d⟩:=(nxB b P w c a1).obj i h p1
   exact⟨o,e,λv q=>by rw[d]at q;cases q⟩
  ·obtain⟨o,vs,e,d⟩:=(nxB b' P w c a2).obj i h p2
   exact⟨o,e,λv q=>by rw[d]at q;cases q⟩
 keep:=λi h h' st k=>by
  obtain⟨hz,hTI,⟨a,c',hTO⟩,p1,p2⟩:=st
  exact⟨k z (by simp) _ hz,k TI (by simp) _ hTI,⟨a,c',k TO (by simp) _ hTO⟩,(nxB b P w i1 a1).keepP i h h' p1 λo e=>k i1 (by simp) o e,(nxB b' P w i2 a2).keepP i h h' p2 λo e=>k i2 (by simp) o e⟩
 item:=by
  intro X hP hw hK hc i pins s Y H E I hf st hg;subst hP hw hK;obtain⟨hz,hTI,⟨a,c',hTO⟩,p1,p2⟩:=st;obtain⟨xs,ys,x,y,q1,q2,ex,ey⟩:=hg;obtain⟨it1,r1,l1,_⟩:=I.sqB q1;obtain⟨it2,r2,l2,_⟩:=I.sqB q2;obtain⟨u,hu,ru⟩:=r1.get ex;obtain⟨v,hv,rv⟩:=r2.get ey
  have ltz:∀c,c∈[z,TI,TO,i1,i2]->c<s.heap.objs.size:=λc hc=>by
   have hc':c=z\/c=TI\/c=TO\/c=i1\/c=i2:=by simpa using hc
   rcases hc' with rfl|rfl|rfl|rfl|rfl
   ·exact Xl hz
   ·exact Xl hTI
   ·exact Xl hTO
   ·obtain⟨o,vs,e,d⟩:=(nxB b X.prog X.w c a1).obj i _ p1;exact Xl e
   ·obtain⟨o,vs,e,d⟩:=(nxB b' X.prog X.w c a2).obj i _ p2;exact Xl e
  refine Z5 (nxB b X.prog X.w i1 a1) (nxB b' X.prog X.w i2 a2) D hz hTI hTO p1 p2 l1 l2 (x:=u) (y:=v) (by simpa using hu) (by simpa using hv) λh' b1 b2 b3 b4 b5 b6 b7=>?_
  refine⟨_,rfl,?_⟩;refine wpAny_letOwnedTupleGo_zip (s:={s with heap:=h'}) b1 λh2 c1 c2=>?_;have nep:∀c,c∈[z,TI,TO,i1,i2]->c≠s.heap.objs.size:=λc hc=>X4 (ltz c hc);have up:∀c o,c≠z->h'.get? c=some o->h2.get? c=some o:=λc o hc e=>c2.extBut _ _ hc e
  have kp:∀c o,c∉[z,TO,i1,i2]->s.heap.get? c=some o->h2.get? c=some o:=λc o hc e=>by
   have hc':¬(c=z\/c=TO\/c=i1\/c=i2):=by simpa using hc
   exact up c o (λq=>hc' (.inl q)) (b7 c o (λq=>hc' (.inl q)) (λq=>hc' (.inr (.inl q))) (λq=>hc' (.inr (.inr (.inl q)))) (λq=>hc' (.inr (.inr (.inr q)))) e)
  have hf':∀c∈[z,TO,i1,i2],Qa5 X pins H c:=λc hc=>hf c (by
   have hc':c=z\/c=TO\/c=i1\/c=i2:=by simpa using hc
   rcases hc' with rfl|rfl|rfl|rfl<;>simp)
  have hT:IsPair h2 s.heap.objs.size u v:=up _ _ (Wy (nep z (by simp))) b5
  have I2:Inv X pins Y (upd H s.heap.objs.size (.tup [x,y])) {s with heap:=h2}:=I.turnedLay (t':=s.toks) (its:=[u,v]) hf' kp (λc o t e=>by
   by_cases hc:c∈[z,TO,i1,i2]
   ·have hc':c=z\/c=TO\/c=i1\/c=i2:=by simpa using hc
    rcases hc' with rfl|rfl|rfl|rfl
    ·exact⟨_,c1⟩
    ·exact⟨_,up _ _ D.TOz b2⟩
    ·obtain⟨o,vs,e,d⟩:=(nxB b X.prog X.w c a1).obj _ _ b3;exact⟨o,up _ _ D.i1z e⟩
    ·obtain⟨o,vs,e,d⟩:=(nxB b' X.prog X.w c a2).obj _ _ b4;exact⟨o,up _ _ D.i2z e⟩
   ·exact⟨o,kp c o hc e⟩) (Xe _) (.cons ru (.cons rv .nil)) ⟨_,hT,rfl,_,rfl⟩ (by show 2<=sizeLine;decide)
  have hn:H s.heap.objs.size=none:=I.hok.fresh (Xe _)
  refine⟨.ref s.heap.objs.size,_,I2,rfl,⟨_,x,y,hn,rfl,rfl,λws hw=>by rw[I.sqB_inj hw q1];exact ex,λws hw=>by rw[I.sqB_inj hw q2];exact ey⟩,⟨c1,?_,⟨_,_,up _ _ D.TOz b2⟩,?_,?_⟩,λc hc=>?_⟩
  ·exact kp _ _ (by
    have d1:=D.TIz;have d2:=D.TITO;have d3:=D.TIi1;have d4:=D.TIi2
    simp[d1,d2,d3,d4]) hTI
  ·exact(nxB b X.prog X.w i1 a1).keepP _ _ _ b3 λo e=>up _ _ D.i1z e
  ·exact(nxB b' X.prog X.w i2 a2).keepP _ _ _ b4 λo e=>up _ _ D.i2z e
  ·rw[Qe (nep c hc)];exact(hf c hc).1
 done:=by
  intro X hP hw hK hc i pins s Y H E I hf st hg;subst hP hw hK;obtain⟨hz,hTI,⟨a,c',hTO⟩,p1,p2⟩:=st;obtain⟨xs,ys,q1,q2,hl⟩:=hg;obtain⟨it1,r1,l1,_⟩:=I.sqB q1;obtain⟨it2,r2,l2,_⟩:=I.sqB q2;have e1:=r1.length;have e2:=r2.length
  refine Yr (nxB b X.prog X.w i1 a1) (nxB b' X.prog X.w i2 a2) (I.ok.hd hc) D hz hTI hTO p1 p2 l1 l2 (by
   rcases hl with q|q
   ·exact .inl (by simp;omega)
   ·exact .inr (by simp;omega)) λh' kp=>⟨rfl,I.turnedL (t':=s.toks) (ch:=[z,TO,i1,i2]) (λc hc=>hf c (by
    have hc':c=z\/c=TO\/c=i1\/c=i2:=by simpa using hc
    rcases hc' with rfl|rfl|rfl|rfl<;>simp)) λc o hc e=>?_⟩
  have hc':¬(c=z\/c=TO\/c=i1\/c=i2):=by simpa using hc
  exact kp c o (λq=>hc' (.inl q)) (λq=>hc' (.inr (.inl q))) (λq=>hc' (.inr (.inr (.inl q)))) (λq=>hc' (.inr (.inr (.inr q)))) e
 self:=λA i s Q E st h=>U5 st.1 h
noncomputable abbrev Zj(b:Bool)(l:Addr):Obj:={cls:=.type (if b then "list_iterator" else "tuple_iterator"),data:=.fields #[.ref l,.int 0 0]}
noncomputable abbrev zH1(b:Bool)(h:Heap)(l1:Addr):Heap:=h.push (Zj b l1)
noncomputable abbrev zH2(b b':Bool)(h:Heap)(l1 l2:Addr):Heap:=(zH1 b h l1).push (Zj b' l2)
noncomputable abbrev zH3(b b':Bool)(h:Heap)(l1 l2:Addr):Heap:=(zH2 b b' h l1 l2).push {cls:=.type "tuple",data:=.seq #[.ref h.objs.size,.ref (zH1 b h l1).objs.size]}
noncomputable abbrev zH4(b b':Bool)(h:Heap)(l1 l2:Addr):Heap:=(zH3 b b' h l1 l2).push {cls:=.type "tuple",data:=.seq #[.none,.none]}
noncomputable abbrev zH5(b b':Bool)(h:Heap)(l1 l2:Addr):Heap:=(zH4 b b' h l1 l2).push {cls:=.type "zip",data:=.fields #[.none,.bool false,.bool false,.ref (zH2 b b' h l1 l2).objs.size,.ref (zH3 b b' h l1 l2).objs.size]}
def Qcg(b b':Bool)(l1 l2:Addr)(xs ys:Array Value):
  Meets (Builtin.«zip.__new__» ⟨[.type "zip",.ref l1,.ref l2],[]⟩) (λz R s=>LB b l1 xs s.heap/\LB b' l2 ys s.heap /\
   R (.ok (.ret (.ref (zH4 b b' s.heap l1 l2).objs.size))) {s with heap:=zH5 b b' s.heap l1 l2}):=by
 refine .of_wp λprog w A R s h=>?_;obtain⟨hp,g,d,tk,os⟩:=s;obtain⟨hl1,hl2,h⟩:=h;have hsub:=sub_zip
 cases b with
 |true=>
  have hL1:Heap.IsList (Shared.heap ⟨hp,g,d,tk,os⟩) l1 xs:=hl1
  cases b' with
  |true=>
   have hL2:Heap.IsList (Shared.heap ⟨hp.push {cls:=.type "list_iterator",data:=.fields #[.ref l1,.int 0 0]},g,d,tk,os⟩) l2 ys:=Vf hl2 _
   wp_walk using Wr hL1,Wr hL2
   exact⟨_,rfl,h⟩
  |false=>
   have hL2:Heap.IsTuple (Shared.heap ⟨hp.push {cls:=.type "list_iterator",data:=.fields #[.ref l1,.int 0 0]},g,d,tk,os⟩) l2 ys:=Heap.IsTuple.at hl2 λo e=>Xb _ e
   wp_walk using Wr hL1,Vq hL2
   exact⟨_,rfl,h⟩
 |false=>
  have hL1:Heap.IsTuple (Shared.heap ⟨hp,g,d,tk,os⟩) l1 xs:=hl1
  cases b' with
  |true=>
   have hL2:Heap.IsList (Shared.heap ⟨hp.push {cls:=.type "tuple_iterator",data:=.fields #[.ref l1,.int 0 0]},g,d,tk,os⟩) l2 ys:=Vf hl2 _
   wp_walk using Vq hL1,Wr hL2
   exact⟨_,rfl,h⟩
  |false=>
   have hL2:Heap.IsTuple (Shared.heap ⟨hp.push {cls:=.type "tuple_iterator",data:=.fields #[.ref l1,.int 0 0]},g,d,tk,os⟩) l2 ys:=Heap.IsTuple.at hl2 λo e=>Xb _ e
   wp_walk using Vq hL1,Vq hL2
   exact⟨_,rfl,h⟩
section
variable {prog:Program}{w:World}{A:Around}{E:Value->Shared->Prop}
def Qea{b b':Bool}{l1 l2:Addr}{xs ys:Array Value}{Q:Value->Shared->Prop}(hl1:LB b l1 xs s.heap)(hl2:LB b' l2 ys s.heap)
  (h:∀h',IsZip h' (s.heap.objs.size+4) (s.heap.objs.size+2) (s.heap.objs.size+3) .none->IsPair h' (s.heap.objs.size+2) (.ref s.heap.objs.size) (.ref (s.heap.objs.size+1)) ->
   IsPair h' (s.heap.objs.size+3) .none .none->PB b s.heap.objs.size l1 0 h'->PB b' (s.heap.objs.size+1) l2 0 h'->h'.objs.size=s.heap.objs.size+5 ->
   (∀c o,s.heap.get? c=some o->h'.get? c=some o)->Q (.ref (s.heap.objs.size+4)) {s with heap:=h'}):
  wpAny (model prog w) A (call (.type "zip") [.ref l1,.ref l2]) Q E s:=by
 refine callType_new F.called_zip (by decide) (F.typeCall_zip_2 _ _) (F.newCall_zip_2 _ _) (λobj=>F.args_object_init_3 obj _ _) F.entry_zip_new
  (Qcg b b' l1 l2 xs ys) ⟨hl1,hl2,?_⟩
 have z1:(zH1 b s.heap l1).objs.size=s.heap.objs.size+1:=X1 ..
 have z2:(zH2 b b' s.heap l1 l2).objs.size=s.heap.objs.size+2:=by rw[X1,z1]
 have z3:(zH3 b b' s.heap l1 l2).objs.size=s.heap.objs.size+3:=by rw[X1,z2]
 have z4:(zH4 b b' s.heap l1 l2).objs.size=s.heap.objs.size+4:=by rw[X1,z3]
 have z5:(zH5 b b' s.heap l1 l2).objs.size=s.heap.objs.size+5:=by rw[X1,z4]
 have g5:(zH5 b b' s.heap l1 l2).get? (zH4 b b' s.heap l1 l2).objs.size=some _:=Xr _ rfl;have g4:(zH5 b b' s.heap l1 l2).get? (zH3 b b' s.heap l1 l2).objs.size=some _:=Xb _ (Xr _ rfl);have g3:(zH5 b b' s.heap l1 l2).get? (zH2 b b' s.heap l1 l2).objs.size=some _:=Xb _ (Xb _ (Xr _ rfl));have g2:(zH5 b b' s.heap l1 l2).get? (zH1 b s.heap l1).objs.size=some (Zj b' l2):=Xb _ (Xb _ (Xb _ (Xr _ rfl)));have g1:(zH5 b b' s.heap l1 l2).get? s.heap.objs.size=some (Zj b l1):=Xb _ (Xb _ (Xb _ (Xb _ (Xr _ rfl))));show _/\_;rw[z2,z3,z4]at g5;rw[z1,z2]at g3;rw[z3]at g4;rw[z1]at g2;rw[z4];refine⟨⟨_,g5,rfl⟩,h _ g5 g3 g4 ?_ ?_ z5 λc o x=>Xb _ (Xb _ (Xb _ (Xb _ (Xb _ x))))⟩
 ·cases b<;>exact⟨_,g1,rfl,rfl⟩
 ·cases b'<;>exact⟨_,g2,rfl,rfl⟩
end
section

def Qoe(b b':Bool)(K:W.Frag)(ta:TA):TI:=λY H R=>ta Y H λvs H1=>∃a1 a2,vs=[.ref a1,.ref a2]/\(∃xs,SqB b K H1 a1 xs)/\(∃ys,SqB b' K H1 a2 ys)/\R (Itz b b' K a1 a2) H1
def Qbx{b b':Bool}{e1 e2:Expr}{ta:TA}{elts:List Expr}{kt:Nat}{pt p pos:Pos}(hg:Gl X "zip")(hm:X.mg "zip"=none)(ha:PA X [e1,e2] ta)(hs:starEach [e1,e2] X.env=[(false,eval e1 X.env),(false,eval e2 X.env)])(hs2:starEach [e2] X.env=[(false,eval e2 X.env)]):
  PI X (.Tuple elts kt pt) (.Call (.Name "zip" p) [e1,e2] [] pos) (Qoe b b' X.K ta):=by
 intro pins s Y H R I h
 refine Call_ (ZW I hg hm PyProof.Rows.boot_zip (Ww (thn (ha pos pins s Y H _ I h) λus s1 z=>?_) (by rw[hs,hs2]) (by rw[hs2];rfl)));obtain⟨vs,H1,I1,r1,q1⟩:=z
 obtain⟨a1,a2,e,⟨xs,q1⟩,⟨ys,q2⟩,q⟩:=q1;subst e;obtain⟨u,w',rfl,ru,rw'⟩:=QgM r1;cases(show u=_ from ru);cases(show w'=_ from rw');obtain⟨it1,v1,l1,_⟩:=I1.sqB q1;obtain⟨it2,v2,l2,_⟩:=I1.sqB q2
 have hlt1:a1<s1.heap.objs.size:=by
  cases b with
  |true=>obtain⟨o,e,_⟩:=l1;exact Xl e
  |false=>obtain⟨o,e,_⟩:=l1;exact Xl e
 have hlt2:a2<s1.heap.objs.size:=by
  cases b' with
  |true=>obtain⟨o,e,_⟩:=l2;exact Xl e
  |false=>obtain⟨o,e,_⟩:=l2;exact Xl e
 refine Qea l1 l2 λh' b1 b2 b3 b4 b5 b6 b7=>?_;refine U5 b1 ?_;have I2:Inv X pins Y H1 {s1 with heap:=h'}:=I1.kept (t':=s1.toks) b7;refine⟨_,[s1.heap.objs.size+4,s1.heap.objs.size+2,s1.heap.objs.size+3,s1.heap.objs.size,s1.heap.objs.size+1],_,_,H1,rfl,I2,QeI b b' a1 a2 _ _ _ _ _ (W.ktu_apart _ _ _ hlt1 hlt2),⟨b1,b2,⟨_,_,b3⟩,b4,b5⟩,λc hc=>?_,q⟩
 have hc':c=s1.heap.objs.size+4\/c=s1.heap.objs.size+2\/c=s1.heap.objs.size+3\/c=s1.heap.objs.size\/c=s1.heap.objs.size+1:=by simpa using hc
 have le:s1.heap.objs.size<=c:=by rcases hc' with rfl|rfl|rfl|rfl|rfl<;>omega
 exact I1.fpOk le (I1.hok.fresh le)
end
end
section
noncomputable def Ite(K:W.Frag)(a:Addr):It :=
 ⟨λi H=>∃xs x,SqL K H a xs/\xs[i]?=some x,
   λi H x H'=>∃p v,H p=none/\x=.ref p/\H'=upd H p (.tup [.int i,v])/\∀xs,SqL K H a xs->xs[i]?=some v,
   λi H=>∃xs,SqL K H a xs/\xs.length<=i⟩
def QcT{P:Program}{w:World}{K:W.Frag}{elts:List Expr}{kt:Nat}{pt:Pos}(a e it:Addr)(hne:e≠it):
  Turn P w K (.Tuple elts kt pt) (Ite K a) [e,it] e (λi h=>(∃old,IsEnum h e it (i:Nat) old)/\h.IsListIter it a i) where
 mem:=by simp
 obj:=λi h st c hc=>by
  obtain⟨⟨old,he⟩,o,hi,_,hd⟩:=st
  have hc':c=e\/c=it:=by simpa using hc
  rcases hc' with rfl|rfl
  ·exact⟨_,he,λv q=>nomatch q⟩
  ·exact⟨o,hi,λv q=>by rw[hd]at q;cases q⟩
 keep:=λi h h' st k=>by
  obtain⟨⟨old,he⟩,hi⟩:=st
  exact⟨⟨old,k e (by simp) _ he⟩,hi.at λo q=>k it (by simp) o q⟩
 item:=by
  intro X hP hw hK hc i pins s Y H E I hf st hg;subst hP hw hK;obtain⟨⟨old,he⟩,hi⟩:=st;obtain⟨xs,x,q1,ex⟩:=hg;obtain⟨its,r1,pl,_⟩:=I.list q1;obtain⟨u,hu,ru⟩:=r1.get ex;have lte:e<s.heap.objs.size:=Xl he
  have lti:it<s.heap.objs.size:=by obtain⟨o,q,_⟩:=hi;exact Xl q
  refine wpAny_pyNext_enum_item he hi pl.isList (x:=u) (by simpa using hu) hne λh' b1 b2 b3 b4 b5=>?_
  refine⟨_,rfl,?_⟩;refine wpAny_letOwnedTupleGo_enum (s:={s with heap:=h',toks:=s.toks+1}) b1 λh2 c1 c2=>?_;have up:∀c o,c≠e->h'.get? c=some o->h2.get? c=some o:=λc o hc q=>c2.extBut _ _ hc q
  have kp:∀c o,c∉[e,it]->s.heap.get? c=some o->h2.get? c=some o:=λc o hc q=>by
   have hc':¬(c=e\/c=it):=by simpa using hc
   exact up c o (λz=>hc' (.inl z)) (b5 c o (λz=>hc' (.inl z)) (λz=>hc' (.inr z)) q)
  have hT:h2.get? s.heap.objs.size=some {cls:=.type "tuple",data:=.seq #[.int i s.toks,u]}:=up _ _ (Nat.ne_of_gt lte) b3;have hi2:h2.IsListIter it a (i+1):=b2.at λo q=>up it o hne.symm q
  have I2:Inv X pins Y (upd H s.heap.objs.size (.tup [.int i,x])) {s with heap:=h2,toks:=s.toks+1}:=I.turnedLay (t':=s.toks+1) (its:=[.int i s.toks,u]) hf kp (λc o hc q=>by
   have hc':c=e\/c=it:=by simpa using hc
   rcases hc' with rfl|rfl
   ·exact⟨_,c1⟩
   ·obtain⟨o2,q2,_⟩:=hi2;exact⟨o2,q2⟩) (Xe _) (.cons ⟨_,rfl⟩ (.cons ru .nil)) ⟨_,hT,rfl,_,rfl⟩ (by show 2<=sizeLine;decide)
  have hn:H s.heap.objs.size=none:=I.hok.fresh (Xe _)
  have cast:((i+1:Nat):Int)=(i:Int)+1:=by push_cast;rfl
  refine⟨.ref s.heap.objs.size,_,I2,rfl,⟨_,x,hn,rfl,rfl,λws hw=>by rw[I.list_inj hw q1];exact ex⟩,⟨⟨_,by rw[cast];exact c1⟩,hi2⟩,λc hc=>?_⟩
  have hc':c=e\/c=it:=by simpa using hc
  have ne:c≠s.heap.objs.size:=by
   rcases hc' with rfl|rfl
   ·exact X4 lte
   ·exact X4 lti
  rw[Qe ne];exact(hf c hc).1
 done:=by
  intro X hP hw hK hc i pins s Y H E I hf st hg;subst hP hw hK;obtain⟨⟨old,he⟩,hi⟩:=st;obtain⟨xs,q1,hl⟩:=hg;obtain⟨its,r1,pl,_⟩:=I.list q1;have e1:=r1.length
  refine wpAny_pyNext_enum_end (I.ok.hd hc) he hi pl.isList (by simp;omega) λh' kp=>⟨rfl,I.turnedL (t':=s.toks) (ch:=[e,it]) hf λc o hc q=>?_⟩
  have hc':¬(c=e\/c=it):=by simpa using hc
  exact kp c o (λz=>hc' (.inr z)) q
 self:=λA i s Q E st h=>by
  obtain⟨⟨old,he⟩,_⟩:=st;exact wpAny_pyIter_enum he h
section
variable {X:Cx}
def Qm2(K:W.Frag)(tl:TE):TI:=λY H R=>tl Y H λx H1=>∃a xs,x=.ref a/\SqL K H1 a xs/\R (Ite K a) H1
def Qhq{e:Expr}{te:TE}{elts:List Expr}{kt:Nat}{pt p pos:Pos}(hg:Gl X "enumerate")(hm:X.mg "enumerate"=none)(he:PE X e te)(hs:starEach [e] X.env=[(false,eval e X.env)]):
  PI X (.Tuple elts kt pt) (.Call (.Name "enumerate" p) [e] [] pos) (Qm2 X.K te):=by
 intro pins s Y H R I h;refine Call_ (ZW I hg hm PyProof.Rows.boot_enumerate (Ww (e:=e) (rest:=[]) ?_ hs rfl));rw[hs];show wpAny _ _ (spliced ((false,eval e X.env)::backTo pos (starEach [] X.env))) _ _ s;refine Calls.spliced_cons (thn (he pins s Y H _ I h) λu s1 z=>?_);obtain⟨x,H1,I1,rx,q1⟩:=z;refine Calls.spliced_nil ?_;obtain⟨a,xs,ev,hq,q⟩:=q1;subst ev;cases rx;obtain⟨its,rv,pl,hz⟩:=I1.list hq;refine call_enumerate_list pl.isList λh' b1 b2 b3 b4=>?_;refine wpAny_pyIter_enum b1 ?_;have I2:Inv X pins Y H1 {s1 with heap:=h'}:=I1.kept (t':=s1.toks) b4;refine⟨_,[s1.heap.objs.size+1,s1.heap.objs.size],_,_,H1,rfl,I2,QcT a _ _ (Nat.succ_ne_self _),⟨⟨_,b1⟩,b2⟩,λc hc=>?_,q⟩
 have hc':c=s1.heap.objs.size+1\/c=s1.heap.objs.size:=by simpa using hc
 have le:s1.heap.objs.size<=c:=by rcases hc' with rfl|rfl<;>omega
 exact I1.fpOk le (I1.hok.fresh le)
end
end
section
variable {xs:Array Value}{h h':Heap}{i k n:Nat}{x:Value}{Q:Value->Shared->Prop}{w:World}
noncomputable def bz:Nat->Bool
 |0=>false
 |_=>true
noncomputable abbrev Qbh(xs:Array Value):Obj:={cls:=.type "tuple",data:=.seq xs}
structure Z4(n:Nat)(l:Nat->Nat)(f:Value)(j:Nat->Nat)(t:Array Value)(h:Heap):Prop where
 z:IsZip h (n+6) (n+4) (n+5) f
 ti:h.get? (n+4)=some (Qbh #[.ref n,.ref (n+1),.ref (n+2),.ref (n+3)])
 to:h.get? (n+5)=some (Qbh t)
 p:∀k,k<4->PB (bz k) (n+k) (l k) (j k) h
noncomputable def upj(j:Nat->Nat)(k:Nat):Nat->Nat:=λi=>if i=k then j k+1 else j i
def Qox(hk:k<4):upj (upj (upj (upj (λz=>i) 0) 1) 2) 3 k=i+1:=by
 match k,hk with
 |0,_=>rfl
 |1,_=>rfl
 |2,_=>rfl
 |3,_=>rfl
def nA{a b:Nat}(h:a≠b):@Ne Addr a b:=h
def Kp(n:Nat)(h h':Heap):Prop:=h'.objs.size=h.objs.size/\∀(c:Nat) o,c<n\/n+7<=c->h.get? c=some o->h'.get? c=some o
theorem Kp.trans{h'':Heap}(a:Kp n h h')(b:Kp n h' h''):Kp n h h'':=⟨b.1.trans a.1,λc o hc e=>b.2 c o hc (a.2 c o hc e)⟩
def QhN{c:Nat}(s:Heap.SameBut c h h')(hc:n<=c/\c<n+7):Kp n h h':=⟨s.1,λb o hb e=>s.extBut _ _ (nA (by omega)) e⟩
def Kp.lb{b:Bool}{l:Nat}(k:Kp n h h')(hl:l<n)(L:LB b l xs h):LB b l xs h':=by
 cases b<;>exact L.at λo e=>k.2 l o (.inl hl) e
section
variable {prog:Program}{A:Around}{E:Value->Shared->Prop}{s:Shared}{l:Nat->Nat}{f:Value}{j:Nat->Nat}{t:Array Value}
def Ye(hk:k<4)(Z:Z4 n l f j t s.heap)(L:LB (bz k) (l k) xs s.heap)(hx:xs[j k]?=some x)
  (hQ:∀h',Z4 n l f (upj j k) t h'->Kp n s.heap h'->Q x {s with heap:=h'}):wpAny (model prog w) A (Builtin.SmallTypes.nextOf (.ref (n+k))) Q E s:=by
 refine(nxB (bz k) prog w (n+k) (l k)).item _ _ _ _ _ _ _ (Z.p k hk) L hx λh' p' sb=>hQ h' ⟨sb.extBut _ _ (nA (by omega)) Z.z,sb.extBut _ _ (nA (by omega)) Z.ti,sb.extBut _ _ (nA (by omega)) Z.to,λi hi=>?_⟩ (QhN sb (by omega))
 by_cases q:i=k
 ·subst q;rw[upj,if_pos rfl];exact p'
 ·rw[upj,if_neg q]
  exact(nxB (bz i) prog w (n+i) (l i)).keepP _ _ _ (Z.p i hi) λo e=>sb.extBut _ _ (nA (by omega)) e
def QbE{Q:Unit->Shared->Prop}(ht:t.size=4)(Z:Z4 n l f j t s.heap)(hQ:∀h',Z4 n l f j (t.setIfInBounds k x) h'->Kp n s.heap h'->Q () {s with heap:=h'}):
  wpAny (model prog w) A (updateSeq (n+5) (·.setIfInBounds k x)) Q E s:=by
 refine wpAny_updateSeq Z.to rfl ?_ (by rw[ht];decide) (by rw[Array.size_setIfInBounds,ht];decide)
 have sb:Heap.SameBut (n+5) s.heap (s.heap.update (n+5) (Obj.mapSeq (·.setIfInBounds k x))):=Heap.SameBut.update ..
 refine hQ _ ⟨sb.extBut _ _ (nA (by omega)) Z.z,sb.extBut _ _ (nA (by omega)) Z.ti,?_,λi hi=>(nxB (bz i) prog w (n+i) (l i)).keepP _ _ _ (Z.p i hi) λo e=>sb.extBut _ _ (nA (by omega)) e⟩ (QhN sb (by omega))
 rw[V9 _ Z.to rfl];simp[Obj.mapSeq]
def Qdr{Q:Unit->Shared->Prop}(Z:Z4 n l f j t s.heap)(hQ:∀h',Z4 n l x j t h'->Kp n s.heap h'->Q () {s with heap:=h'}):wpAny (model prog w) A (setField (.ref (n+6)) 0 x) Q E s :=
 Wp Z.z (by simp) λh' z sb=>hQ h' ⟨z,sb.extBut _ _ (nA (by omega)) Z.ti,sb.extBut _ _ (nA (by omega)) Z.to,λi hi=>(nxB (bz i) prog w (n+i) (l i)).keepP _ _ _ (Z.p i hi) λo e=>sb.extBut _ _ (nA (by omega)) e⟩ (QhN sb (by omega))
def QgB{xs:Nat->Array Value}{x:Nat->Value}(ht:t.size=4)(hl:∀k,k<4->l k<n)(Z:Z4 n l .none (λy=>i) t s.heap)(L:∀k,k<4->LB (bz k) (l k) (xs k) s.heap)(hx:∀k,k<4->(xs k)[i]?=some (x k))
  (hQ:∀h',Z4 n l (rawInt s.heap.objs.size) (λy=>i+1) #[x 0,x 1,x 2,x 3] h'->h'.get? s.heap.objs.size=some (Qbh #[x 0,x 1,x 2,x 3])->h'.objs.size=s.heap.objs.size+1->(∀(c:Nat) o,c<n\/n+7<=c->s.heap.get? c=some o->h'.get? c=some o)->Q (.ref s.heap.objs.size) {s with heap:=h'}):
  wpAny (model prog w) A (Builtin.«zip.__next__» ⟨[.ref (n+6)],[]⟩) (λfin s'=>∃v,fin=.done (.ret v)/\Q v s') E s:=by
 show wpAny _ _ (field (.ref (n+6)) 2 >>= _) _ _ _;refine Xa (Wa Z.z rfl (x:=.bool false) rfl ?_);show wpAny _ _ (field (.ref (n+6)) 3 >>= _) _ _ _;refine Xa (Wa Z.z rfl (x:=.ref (n+4)) rfl ?_);refine Xa (Wg Z.ti rfl ?_);show wpAny _ _ (Builtin.SmallTypes.ownedTupleIsFree (.ref (n+6)) >>= _) _ _ _;refine Xa ?_;unfold Builtin.SmallTypes.ownedTupleIsFree;refine Xa (Wa Z.z rfl (x:=.none) rfl (Xi ?_));simp only[Wo];refine Xa (wpAny_rule ?_);refine Xa (Wa Z.z rfl (x:=.ref (n+5)) rfl ?_);refine Xa (Qdr Z λh₁ Z₁ K₁=>?_);refine Xa ?_;simp only[U3,Ti,Uo,Uu];refine Xa (Xa (Vm ?_));show wpAny _ _ (Builtin.SmallTypes.nextOf (.ref (n+0)) >>= _) _ _ _
 refine Xa (Ye (k:=0) (by omega) Z₁ (K₁.lb (hl 0 (by omega)) (L 0 (by omega))) (hx 0 (by omega)) λh₂ Z₂ K₂=>Xi ?_)
 have K₂:=K₁.trans K₂;refine Xa (Wg Z₂.to rfl ?_);refine Xa (QbE ht Z₂ λh₃ Z₃ K₃=>?_);have K₃:=K₂.trans K₃;refine Xa (Ui (Xi ?_));refine Xa (Xa (Vm ?_));show wpAny _ _ (Builtin.SmallTypes.nextOf (.ref (n+1)) >>= _) _ _ _
 refine Xa (Ye (k:=1) (by omega) Z₃ (K₃.lb (hl 1 (by omega)) (L 1 (by omega))) (hx 1 (by omega)) λh₄ Z₄ K₄=>Xi ?_)
 have K₄:=K₃.trans K₄;refine Xa (Wg Z₄.to rfl ?_)
 refine Xa (QbE (by simpa using ht) Z₄ λh₅ Z₅ K₅=>?_)
 have K₅:=K₄.trans K₅;refine Xa (Ui (Xi ?_));refine Xa (Xa (Vm ?_));show wpAny _ _ (Builtin.SmallTypes.nextOf (.ref (n+2)) >>= _) _ _ _
 refine Xa (Ye (k:=2) (by omega) Z₅ (K₅.lb (hl 2 (by omega)) (L 2 (by omega))) (hx 2 (by omega)) λh₆ Z₆ K₆=>Xi ?_)
 have K₆:=K₅.trans K₆;refine Xa (Wg Z₆.to rfl ?_)
 refine Xa (QbE (by simpa using ht) Z₆ λh₇ Z₇ K₇=>?_)
 have K₇:=K₆.trans K₇;refine Xa (Ui (Xi ?_));refine Xa (Xa (Vm ?_));show wpAny _ _ (Builtin.SmallTypes.nextOf (.ref (n+3)) >>= _) _ _ _
 refine Xa (Ye (k:=3) (by omega) Z₇ (K₇.lb (hl 3 (by omega)) (L 3 (by omega))) (hx 3 (by omega)) λh₈ Z₈ K₈=>Xi ?_)
 have K₈:=K₇.trans K₈;refine Xa (Wg Z₈.to rfl ?_)
 refine Xa (QbE (by simpa using ht) Z₈ λh₉ Z₉ K₉=>?_)
 have K₉:=K₈.trans K₉;refine Xa (Ui (Xi (Xi ?_)))
 have et:(((t.setIfInBounds 0 (x 0)).setIfInBounds 1 (x 1)).setIfInBounds 2 (x 2)).setIfInBounds 3 (x 3)=#[x 0,x 1,x 2,x 3]:=by
  obtain⟨t⟩:=t
  match t,ht with
  |[a,b,c,d],_=>rfl
 rw[et]at Z₉;refine Xa (Wg Z₉.to rfl ?_);refine Xa (wpAny_newTuple ?_);show wpAny _ _ (Builtin.SmallTypes.ownedTupleHandOut (.ref (n+6)) (.ref h₉.objs.size) >>= _) _ _ _;refine Xa ?_;unfold Builtin.SmallTypes.ownedTupleHandOut;have lt:n+6<h₉.objs.size:=Xl Z₉.z;have up:∀(c:Nat) o,h₉.get? c=some o->(h₉.push (Qbh #[x 0,x 1,x 2,x 3])).get? c=some o:=λc o e=>Xb _ e;have Z₁₀:Z4 n l .ellipsis (upj (upj (upj (upj (λy=>i) 0) 1) 2) 3) #[x 0,x 1,x 2,x 3] (h₉.push (Qbh #[x 0,x 1,x 2,x 3])):=⟨up _ _ Z₉.z,up _ _ Z₉.ti,up _ _ Z₉.to,λk hk=>(nxB (bz k) prog w (n+k) (l k)).keepP _ _ _ (Z₉.p k hk) λo e=>up _ o e⟩;have hT:(h₉.push (Qbh #[x 0,x 1,x 2,x 3])).get? h₉.objs.size=some (Qbh #[x 0,x 1,x 2,x 3]):=Xr _ rfl
 refine Xa (Wp Z₁₀.z (by simp) λg1 z1 s1=>?_)
 replace z1:IsZip g1 (n+6) (n+4) (n+5) (rawInt h₉.objs.size):=z1
 refine Wp z1 (by simp) λg2 z2 s2=>?_
 replace z2:IsZip g2 (n+6) (n+4) (n+5) (rawInt h₉.objs.size):=z2;have up2:∀(c:Addr) o,c≠n+6->(h₉.push (Qbh #[x 0,x 1,x 2,x 3])).get? c=some o->g2.get? c=some o:=λc o hc e=>s2.extBut _ _ hc (s1.extBut _ _ hc e);have hz:h₉.objs.size=s.heap.objs.size:=K₉.1
 have hg:g2.objs.size=s.heap.objs.size+1:=by rw[s2.1,s1.1,X1,hz]
 refine Xi ⟨_,rfl,?_⟩;show Q (.ref h₉.objs.size) _
 have hT2:=up2 _ _ (nA (by omega)) hT
 rw[hz]at z2 hT2 ⊢
 refine hQ g2 ⟨z2,up2 _ _ (nA (by omega)) Z₁₀.ti,up2 _ _ (nA (by omega)) Z₁₀.to,λk hk=>?_⟩ hT2 hg λc o hc e=>up2 c o (nA (by omega)) (up _ _ (K₉.2 c o hc e))
 have p:=(nxB (bz k) prog w (n+k) (l k)).keepP _ _ g2 (Z₁₀.p k hk) λo e=>up2 _ o (nA (by omega)) e
 rw[Qox hk]at p;exact p
def QiE{Q:Fin->Shared->Prop}(hh:A.handled=none)(hl:l 0<n)(Z:Z4 n l .none (λy=>i) t s.heap)(L:LB false (l 0) xs s.heap)(hx:xs[i]?=none)
  (hE:∀h' e,(∀(c:Nat) o,c<n\/n+7<=c->s.heap.get? c=some o->h'.get? c=some o)->(∃o,h'.get? e=some o/\o.cls=.type "StopIteration")->E (.ref e) {s with heap:=h'}):
  wpAny (model prog w) A (Builtin.«zip.__next__» ⟨[.ref (n+6)],[]⟩) Q E s:=by
 show wpAny _ _ (field (.ref (n+6)) 2 >>= _) _ _ _;refine Xa (Wa Z.z rfl (x:=.bool false) rfl ?_);show wpAny _ _ (field (.ref (n+6)) 3 >>= _) _ _ _;refine Xa (Wa Z.z rfl (x:=.ref (n+4)) rfl ?_);refine Xa (Wg Z.ti rfl ?_);show wpAny _ _ (Builtin.SmallTypes.ownedTupleIsFree (.ref (n+6)) >>= _) _ _ _;refine Xa ?_;unfold Builtin.SmallTypes.ownedTupleIsFree;refine Xa (Wa Z.z rfl (x:=.none) rfl (Xi ?_));simp only[Wo];refine Xa (wpAny_rule ?_);refine Xa (Wa Z.z rfl (x:=.ref (n+5)) rfl ?_);refine Xa (Qdr Z λh₁ Z₁ K₁=>?_);refine Xa ?_;simp only[U3,Ti,Uo,Uu];refine Xa (Xa (Vm ?_));show wpAny _ _ (Builtin.SmallTypes.nextOf (.ref (n+0)) >>= _) _ _ _
 refine Xa ((nxB false prog w (n+0) (l 0)).done _ _ _ _ _ _ hh (Z₁.p 0 (by omega)) (K₁.lb hl L) hx λh₂ e hs₂ he=>?_)
 obtain⟨oe,hoe,hce⟩:=he
 have hz₂:IsZip h₂ (n+6) (n+4) (n+5) .ellipsis:=hs₂ _ _ (nA (by omega)) Z₁.z
 have hez:@Ne Addr e (n+6):=λx=>by subst x;rw[hz₂]at hoe;cases hoe;simp at hce
 exact Wp hz₂ (by simp) λh₃ y hs₃=>hE h₃ e (λc o hc x=>hs₃.extBut _ _ (nA (by omega)) (hs₂ _ _ (nA (by omega)) (K₁.2 c o hc x))) ⟨oe,hs₃.extBut _ _ hez hoe,hce⟩
def YW{xs:Nat->Array Value}{x:Nat->Value}{Q:Option Value->Shared->Prop}(ht:t.size=4)(hl:∀k,k<4->l k<n)(Z:Z4 n l .none (λy=>i) t s.heap)(L:∀k,k<4->LB (bz k) (l k) (xs k) s.heap)(hx:∀k,k<4->(xs k)[i]?=some (x k))
  (hQ:∀h',Z4 n l (rawInt s.heap.objs.size) (λy=>i+1) #[x 0,x 1,x 2,x 3] h'->h'.get? s.heap.objs.size=some (Qbh #[x 0,x 1,x 2,x 3])->h'.objs.size=s.heap.objs.size+1->(∀(c:Nat) o,c<n\/n+7<=c->s.heap.get? c=some o->h'.get? c=some o)->Q (some (.ref s.heap.objs.size)) {s with heap:=h'}):
  wpAny (model prog w) A (pyNext (.ref (n+6))) Q E s:=by
 have hT:s.TypeIs (.ref (n+6)) "zip":=⟨_,Z.z,rfl⟩;unfold pyNext
 exact Xa (Ug (Wz (name:=Str.ofString "__next__") hT Vj
  (Vo Vj hT U4
   (QgB ht hl Z L hx λh' a1 a2 a3 a4=>Xi (hQ h' a1 a2 a3 a4)) (Uz _))))
def Ji{Q:Option Value->Shared->Prop}(hh:A.handled=none)(hl:l 0<n)(Z:Z4 n l .none (λy=>i) t s.heap)(L:LB false (l 0) xs s.heap)(hx:xs[i]?=none)
  (hQ:∀h',(∀(c:Nat) o,c<n\/n+7<=c->s.heap.get? c=some o->h'.get? c=some o)->Q none {s with heap:=h'}):wpAny (model prog w) A (pyNext (.ref (n+6))) Q E s:=by
 have hT:s.TypeIs (.ref (n+6)) "zip":=⟨_,Z.z,rfl⟩;unfold pyNext
 refine Xa (Ug (Wz (name:=Str.ofString "__next__") hT Vj
  (Vo Vj hT U4 (QiE hh hl Z L hx λh' e hk he=>?_) (Uz _))))
 obtain⟨o,ho,hc⟩:=he;refine Xa (wpAny_isInstance (T:="StopIteration") (b:=true) ⟨o,ho,hc⟩ isSubtype_stop ?_);exact Xi (hQ _ hk)
end
def Sq4(K:W.Frag)(H:Hp)(a:Nat->Nat)(xs:Nat->List V):Prop:=∀k,k<4->SqB (bz k) K H (a k) (xs k)
noncomputable def It4(K:W.Frag)(a:Nat->Nat):It :=
 ⟨λi H=>∃(xs:Nat->List V) (x:Nat->V),Sq4 K H a xs/\∀k,k<4->(xs k)[i]?=some (x k),
   λi H v H'=>∃(p:Addr) (x:Nat->V),H p=none/\v=.ref p/\H'=upd H p (.tup [x 0,x 1,x 2,x 3])/\∀xs,Sq4 K H a xs->∀k,k<4->(xs k)[i]?=some (x k),
   λi H=>∃xs:Nat->List V,Sq4 K H a xs/\(xs 0).length<=i⟩
noncomputable def fp4(n:Nat):List Addr:=[n,n+1,n+2,n+3,n+4,n+5,n+6]
def fp4_mem{c:Nat}:c∈fp4 n↔n<=c/\c<n+7:=by
 unfold fp4;simp only[Xm,Vg,U6];omega
def Ql1{P:Program}{K:W.Frag}{elts:List Expr}{kt:Nat}{pt:Pos}(a:Nat->Nat)(n:Nat)(hl:∀k,k<4->a k<n):
  Turn P w K (.Tuple elts kt pt) (It4 K a) (fp4 n) (n+6) (λi h=>∃t,t.size=4/\Z4 n a .none (λy=>i) t h) where
 mem:=fp4_mem.mpr (by omega)
 obj:=λi h m (c:Nat) hc=>by
  obtain⟨t,ht,Z⟩:=m
  have hc:=fp4_mem.mp hc;by_cases q:c<n+4
  ·obtain⟨o,vs,e,d⟩:=(nxB (bz (c-n)) P w (n+(c-n)) (a (c-n))).obj i h (Z.p (c-n) (by omega))
   rw[show n+(c-n)=c by omega]at e
   exact⟨o,e,λv q=>by rw[d]at q;cases q⟩
  ·rcases (show c=n+4\/c=n+5\/c=n+6 by omega)with rfl|rfl|rfl
   ·exact⟨_,Z.ti,λv q=>nomatch q⟩
   ·exact⟨_,Z.to,λv q=>nomatch q⟩
   ·exact⟨_,Z.z,λv q=>nomatch q⟩
 keep:=λi h h' ⟨t,ht,Z⟩ k=>⟨t,ht,k _ (fp4_mem.mpr (by omega)) _ Z.z,k _ (fp4_mem.mpr (by omega)) _ Z.ti,k _ (fp4_mem.mpr (by omega)) _ Z.to,λj hj=>(nxB (bz j) P w (n+j) (a j)).keepP _ _ _ (Z.p j hj) λo e=>k _ (fp4_mem.mpr (by omega)) o e⟩
 item:=by
  intro X hP hw hK hc i pins s Y H E I hf st hg;subst hP hw hK;obtain⟨t,ht,Z⟩:=st;obtain⟨xs,x,q1,ex⟩:=hg
  have r:∀k,∃its:List Value,k<4->Vals (xs k) its/\LB (bz k) (a k) its.toArray s.heap:=λk=>by
   by_cases hk:k<4
   ·obtain⟨its,r,L,_⟩:=I.sqB (q1 k hk);exact⟨its,λy=>⟨r,L⟩⟩
   ·exact⟨[],λz=>absurd z hk⟩
  obtain⟨its,r⟩:=Classical.skolem.mp r
  have r2:∀k,∃u,k<4->(its k)[i]?=some u/\RelV (x k) u:=λk=>by
   by_cases hk:k<4
   ·obtain⟨u,hu,ru⟩:=(r k hk).1.get (ex k hk);exact⟨u,λy=>⟨hu,ru⟩⟩
   ·exact⟨.none,λz=>absurd z hk⟩
  obtain⟨u,r2⟩:=Classical.skolem.mp r2
  refine YW (xs:=λk=>(its k).toArray) (x:=u) ht hl Z (λk hk=>(r k hk).2) (λk hk=>by simpa using (r2 k hk).1) λh' Z' hT hz kp=>⟨_,rfl,?_⟩
  refine wpAny_letOwnedTupleGo_zip (s:={s with heap:=h'}) Z'.z λh2 c1 c2=>?_;have lt:n+6<s.heap.objs.size:=Xl Z.z;have up:∀(c:Addr) o,c≠n+6->h'.get? c=some o->h2.get? c=some o:=λc o hc e=>c2.extBut _ _ hc e
  have kp2:∀(c:Nat) o,c∉fp4 n->s.heap.get? c=some o->h2.get? c=some o:=λc o hc e=>by
   have hc:¬(n<=c/\c<n+7):=λz=>hc (fp4_mem.mpr z)
   exact up c o (nA (by omega)) (kp c o (by omega) e)
  have Z2:Z4 n a .none (λy=>i+1) #[u 0,u 1,u 2,u 3] h2:=⟨c1,up _ _ (nA (by omega)) Z'.ti,up _ _ (nA (by omega)) Z'.to,λk hk=>(nxB (bz k) X.prog X.w (n+k) (a k)).keepP _ _ _ (Z'.p k hk) λo e=>up _ o (nA (by omega)) e⟩
  have I2:Inv X pins Y (upd H s.heap.objs.size (.tup [x 0,x 1,x 2,x 3])) {s with heap:=h2}:=I.turnedLay (t':=s.toks) (its:=[u 0,u 1,u 2,u 3]) hf kp2 (λ(c:Nat) o hc e=>by
   have hc:=fp4_mem.mp hc;by_cases q:c<n+4
   ·obtain⟨o,vs,e,d⟩:=(nxB (bz (c-n)) X.prog X.w (n+(c-n)) (a (c-n))).obj _ _ (Z2.p (c-n) (by omega))
    rw[show n+(c-n)=c by omega]at e
    exact⟨o,e⟩
   ·rcases (show c=n+4\/c=n+5\/c=n+6 by omega)with rfl|rfl|rfl
    ·exact⟨_,Z2.ti⟩
    ·exact⟨_,Z2.to⟩
    ·exact⟨_,Z2.z⟩) (Xe _) (.cons (r2 0 (by omega)).2 (.cons (r2 1 (by omega)).2 (.cons (r2 2 (by omega)).2 (.cons (r2 3 (by omega)).2 .nil)))) ⟨_,up _ _ (nA (by omega)) hT,rfl,_,rfl⟩ (by show 4<=sizeLine;decide)
  have hn:H s.heap.objs.size=none:=I.hok.fresh (Xe _)
  refine⟨.ref s.heap.objs.size,_,I2,rfl,⟨_,x,hn,rfl,rfl,λws hw k hk=>by rw[I.sqB_inj (hw k hk) (q1 k hk)];exact ex k hk⟩,⟨_,rfl,Z2⟩,λ(c:Nat) hc=>?_⟩
  have hc':=fp4_mem.mp hc
  rw[Qe (nA (show c≠s.heap.objs.size by omega))]
  exact(hf c hc).1
 done:=by
  intro X hP hw hK hc i pins s Y H E I hf st hg;subst hP hw hK;obtain⟨t,ht,Z⟩:=st;obtain⟨xs,q1,hlen⟩:=hg
  obtain⟨its,r,L,_⟩:=I.sqB (q1 0 (by omega))
  have e1:=r.length
  exact Ji (I.ok.hd hc) (hl 0 (by omega)) Z L (by simp;omega) λh' kp=>⟨rfl,I.turnedL (t':=s.toks) (ch:=fp4 n) hf λ(c:Nat) o hc e=>kp c o (by
   have hc:¬(n<=c/\c<n+7):=λz=>hc (fp4_mem.mpr z)
   omega) e⟩
 self:=λA i s Q E l h=>by obtain⟨t,ht,Z⟩:=l;exact U5 Z.z h
def YV(a b c d:Value):checkTypeCall "zip" ⟨[a,b,c,d],[]⟩=pure ():=by kernel_rfl
def Jq(a b c d:Value):checkBuiltinCall "zip.__new__" ⟨[.type "zip",a,b,c,d],[]⟩=pure ():=by kernel_rfl
def Qa3(a b c d e:Value):argsOk "object.__init__" ⟨[a,b,c,d,e],[]⟩:=by
 unfold argsOk; rw[signature?_of (id:="object.__init__") (n:=['_','_','t','i','n','i','_','_']) (o:=['t','c','e','j','b','o']) (by kernel_rfl) F.owner_object]; kernel_rfl
noncomputable abbrev qH4(h:Heap)(l:Nat->Nat):Heap:=(((h.push (Zj false (l 0))).push (Zj true (l 1))).push (Zj true (l 2))).push (Zj true (l 3))
noncomputable abbrev qTI(n:Nat):Obj:=Qbh #[.ref n,.ref (n+1),.ref (n+2),.ref (n+3)]
noncomputable abbrev qH(h:Heap)(l:Nat->Nat):Heap:=(((qH4 h l).push (qTI h.objs.size)).push (Qbh #[.none,.none,.none,.none])).push {cls:=.type "zip",data:=.fields #[.none,.bool false,.bool false,.ref (h.objs.size+4),.ref (h.objs.size+5)]}
def QaF(h:Heap)(l:Nat->Nat):(qH4 h l).objs.size=h.objs.size+4:=by simp only[X1]
def Qch(l:Nat->Nat)(xs:Nat->Array Value):
  Meets (Builtin.«zip.__new__» ⟨[.type "zip",.ref (l 0),.ref (l 1),.ref (l 2),.ref (l 3)],[]⟩) (λz R s=>(∀k,k<4->LB (bz k) (l k) (xs k) s.heap) /\
   R (.ok (.ret (.ref (s.heap.objs.size+6)))) {s with heap:=qH s.heap l}):=by
 refine .of_wp λprog w A R s h=>?_;obtain⟨hp,g,d,tk,os⟩:=s;obtain⟨hl,h⟩:=h;have hsub:=sub_zip
 have hL0:Heap.IsTuple (Shared.heap ⟨hp,g,d,tk,os⟩) (l 0) (xs 0):=hl 0 (by omega)
 have hL1:Heap.IsList (Shared.heap ⟨hp.push {cls:=.type "tuple_iterator",data:=.fields #[.ref (l 0),.int 0 0]},g,d,tk,os⟩) (l 1) (xs 1):=Vf (hl 1 (by omega)) _
 have hL2:Heap.IsList (Shared.heap ⟨(hp.push {cls:=.type "tuple_iterator",data:=.fields #[.ref (l 0),.int 0 0]}).push {cls:=.type "list_iterator",data:=.fields #[.ref (l 1),.int 0 0]},g,d,tk,os⟩) (l 2) (xs 2):=Vf (Vf (hl 2 (by omega)) _) _
 have hL3:Heap.IsList (Shared.heap ⟨((hp.push {cls:=.type "tuple_iterator",data:=.fields #[.ref (l 0),.int 0 0]}).push {cls:=.type "list_iterator",data:=.fields #[.ref (l 1),.int 0 0]}).push {cls:=.type "list_iterator",data:=.fields #[.ref (l 2),.int 0 0]},g,d,tk,os⟩) (l 3) (xs 3):=Vf (Vf (Vf (hl 3 (by omega)) _) _) _
 wp_walk using Vq hL0,Wr hL1,Wr hL2,Wr hL3
 refine⟨_,rfl,?_⟩;simp only[X1,Vv,Nat.reduceAdd];exact h
def gps(h:Heap)(o:Obj)(hf:o.isFreed=false):(h.push o).get? h.objs.size=some o:=Xr _ hf
section
variable {prog:Program}{A:Around}{E:Value->Shared->Prop}{s:Shared}
def Qeb{l:Nat->Nat}{xs:Nat->Array Value}(hl:∀k,k<4->LB (bz k) (l k) (xs k) s.heap)
  (h:∀h' t,t.size=4->Z4 s.heap.objs.size l .none (λy=>0) t h'->(∀c o,s.heap.get? c=some o->h'.get? c=some o)->Q (.ref (s.heap.objs.size+6)) {s with heap:=h'}):
  wpAny (model prog w) A (call (.type "zip") [.ref (l 0),.ref (l 1),.ref (l 2),.ref (l 3)]) Q E s:=by
 refine callType_new F.called_zip (by decide) (YV _ _ _ _) (Jq _ _ _ _) (λobj=>Qa3 obj _ _ _ _) F.entry_zip_new
  (Qch l xs) ⟨hl,?_⟩
 have z:∀(c:Nat) o,(qH4 s.heap l).get? c=some o->(qH s.heap l).get? c=some o:=λc o e=>Xb _ (Xb _ (Xb _ e))
 have g6:IsZip (qH s.heap l) (s.heap.objs.size+6) (s.heap.objs.size+4) (s.heap.objs.size+5) .none:=by
  have e:=gps (((qH4 s.heap l).push (qTI s.heap.objs.size)).push (Qbh #[.none,.none,.none,.none])) {cls:=.type "zip",data:=.fields #[.none,.bool false,.bool false,.ref (s.heap.objs.size+4),.ref (s.heap.objs.size+5)]} rfl;rwa [X1,X1,QaF]at e
 have g5:(qH s.heap l).get? (s.heap.objs.size+5)=some (Qbh #[.none,.none,.none,.none]):=by
  have e:=gps ((qH4 s.heap l).push (qTI s.heap.objs.size)) (Qbh #[.none,.none,.none,.none]) rfl;rw[X1,QaF]at e;exact Xb _ e
 have g4:(qH s.heap l).get? (s.heap.objs.size+4)=some (qTI s.heap.objs.size):=by
  have e:=gps (qH4 s.heap l) (qTI s.heap.objs.size) rfl;rw[QaF]at e;exact Xb _ (Xb _ e)
 have g0:(qH s.heap l).get? (s.heap.objs.size+0)=some (Zj false (l 0)):=z _ _ (Xb _ (Xb _ (Xb _ (Xr _ rfl))))
 have g1:(qH s.heap l).get? (s.heap.objs.size+1)=some (Zj true (l 1)):=by
  have e:=gps (s.heap.push (Zj false (l 0))) (Zj true (l 1)) rfl;rw[X1]at e;exact z _ _ (Xb _ (Xb _ e))
 have g2:(qH s.heap l).get? (s.heap.objs.size+2)=some (Zj true (l 2)):=by
  have e:=gps ((s.heap.push (Zj false (l 0))).push (Zj true (l 1))) (Zj true (l 2)) rfl;rw[X1,X1]at e;exact z _ _ (Xb _ e)
 have g3:(qH s.heap l).get? (s.heap.objs.size+3)=some (Zj true (l 3)):=by
  have e:=gps (((s.heap.push (Zj false (l 0))).push (Zj true (l 1))).push (Zj true (l 2))) (Zj true (l 3)) rfl;rw[X1,X1,X1]at e;exact z _ _ e
 refine⟨⟨_,g6,rfl⟩,h _ _ rfl ⟨g6,g4,g5,λk hk=>?_⟩ λc o x=>z _ _ (Xb _ (Xb _ (Xb _ (Xb _ x))))⟩
 match k,hk with
 |0,_=>exact⟨_,g0,rfl,rfl⟩
 |1,_=>exact⟨_,g1,rfl,rfl⟩
 |2,_=>exact⟨_,g2,rfl,rfl⟩
 |3,_=>exact⟨_,g3,rfl,rfl⟩
end
section
variable {X:Cx}
def iZ4(K:W.Frag)(ta:TA):TI:=λY H R=>ta Y H λvs H1=>∃a:Nat->Nat,vs=[.ref (a 0),.ref (a 1),.ref (a 2),.ref (a 3)]/\(∃xs,Sq4 K H1 a xs)/\R (It4 K a) H1
def Qhn{e1 e2 e3 e4:Expr}{ta:TA}{elts:List Expr}{kt:Nat}{pt p pos:Pos}(hg:Gl X "zip")(hm:X.mg "zip"=none)(ha:PA X [e1,e2,e3,e4] ta)
  (hs:starEach [e1,e2,e3,e4] X.env=(false,eval e1 X.env)::starEach [e2,e3,e4] X.env) (hs2:(backTo pos (starEach [e2,e3,e4] X.env)).any (·.1)=false):
  PI X (.Tuple elts kt pt) (.Call (.Name "zip" p) [e1,e2,e3,e4] [] pos) (iZ4 X.K ta):=by
 intro pins s Y H R I h;refine Call_ (ZW I hg hm PyProof.Rows.boot_zip (Ww (thn (ha pos pins s Y H _ I h) λus s1 y=>?_) hs hs2));obtain⟨vs,H1,I1,r1,q1⟩:=y;obtain⟨a,e,⟨xs,q1⟩,q⟩:=q1;subst e
 cases r1 with
 |cons r1 r2=>cases r2 with
 |cons r2 r3=>cases r3 with
 |cons r3 r4=>cases r4 with
 |cons r4 r5=>
 cases r5;cases r1;cases r2;cases r3;cases r4
 have r:∀k,∃its:List Value,k<4->LB (bz k) (a k) its.toArray s1.heap:=λk=>by
  by_cases hk:k<4
  ·obtain⟨its,r,L,_⟩:=I1.sqB (q1 k hk);exact⟨its,λx=>L⟩
  ·exact⟨[],λz=>absurd z hk⟩
 obtain⟨its,r⟩:=Classical.skolem.mp r
 have hlt:∀k,k<4->a k<s1.heap.objs.size:=λk hk=>by
  have L:=r k hk
  cases hb:bz k with
  |true=>rw[hb]at L;obtain⟨o,e,_⟩:=L;exact Xl e
  |false=>rw[hb]at L;obtain⟨o,e,_⟩:=L;exact Xl e
 refine Qeb (xs:=λk=>(its k).toArray) r λh' t ht Z kp=>?_;refine U5 Z.z ?_;have I2:Inv X pins Y H1 {s1 with heap:=h'}:=I1.kept (t':=s1.toks) kp;refine⟨_,fp4 s1.heap.objs.size,_,_,H1,rfl,I2,Ql1 a _ hlt,⟨t,ht,Z⟩,λc hc=>?_,q⟩;have le:s1.heap.objs.size<=c:=(fp4_mem.mp hc).1;exact I1.fpOk le (I1.hok.fresh le)
end
end
section
variable {elt iter tg:Expr}{n:Nat}{tl:Option Expr}{pos:Pos}{y:Str}{te:TE}{g:TG}{tt:TT}
noncomputable def Cx.block(X:Cx)(xs:List Str)(scope:Scope)(C:Addr)(s:Shared)(H:Hp)(fp:List Addr):Cx :=
 {X with N:=hideN xs X.N++xs,s₀:=s,H₀:=H,env:=compEnvC scope (Qcw X.env.cells scope.names []) C X.env,outer:=X.stack,ex:=fp,fn:=λz=>false,pn:=[],xe:=λz z=>False}
structure CompOk(X:Cx)(xs:List Str)(scope:Scope):Prop where
 kind:scope.kind=.function
 loc:∀x∈xs,scope.names.lookup x=some .local
 all:∀y∈scope.names,(y.2=.local->(y.1∈xs\/y.1=".0")/\scope.names.lookup y.1=some .local)/\y.2≠.cell/\(y.2=.free->X.env.scope.names.lookup y.1=some .cell\/X.env.scope.names.lookup y.1=some .free)
 hid:∀x∈xs,scope.names.lookup (mang x)=none
 nd:xs.Nodup
 dot:(".0":Str)∉X.N
section
variable {X:Cx}{xs:List Str}{scope:Scope}{pins:List (Addr×Obj)}{Y:St}{H:Hp}{s:Shared}{fp:List Addr}
def CompOk.free_of(k:CompOk X xs scope)(hk:X.env.scope.kind=.function)(h:(relabel scope X.env).names.lookup y=some .cell\/(relabel scope X.env).names.lookup y=some .free):(y,NameKind.free)∈scope.names:=by
 rw[QY hk,Zv]at h
 cases q:scope.names.lookup y with
 |none=>rw[q]at h;simp at h
 |some kd=>
  rw[q]at h;have m:=Zw q
  cases kd with
  |free=>exact m
  |cell=>exact absurd rfl (k.all _ m).2.1
  |_=>simp at h
def CompOk.local_of(k:CompOk X xs scope)(hk:X.env.scope.kind=.function)(h:(relabel scope X.env).names.lookup y=some .local): y∈xs\/y=".0":=by
 rw[QY hk,Zv]at h
 cases q:scope.names.lookup y with
 |none=>rw[q]at h;simp at h
 |some kd=>
  rw[q]at h;have m:=Zw q
  cases kd with
  | «local»=>exact((k.all _ m).1 rfl).1
  |free=>
   simp only[Te]at h;split at h<;>cases h
  |_=>simp at h
def Q9{cells:List (Str×Addr)}{l:List (Str×NameKind)}{c:Addr}(e:(Qcw cells l []).lookup y=some c):cells.lookup y=some c:=by
 rcases Qag e with z|z
 ·simp at z
 ·exact z
def Qhv{Y:St}{i:Nat}{v:V}(e:(Y++List.replicate n none)[i]?=some (some v)):Y[i]?=some (some v):=by
 by_cases h:i < Y.length
 ·rw[Xs h]at e;exact e
 ·rw[X3 (by omega),Uv]at e
  split at e<;>cases e
theorem Inv.block{h₁:Heap}{m:Str->Option Value}{tk:Nat}(I:Inv X pins Y H s)(k:CompOk X xs scope)(hf:∀b∈fp,Qa5 X pins H b)(hfs:∀b∈fp,b<s.heap.objs.size)
  (hn:h₁.Ns s.heap.objs.size m) (kp:∀b o,s.heap.get? b=some o->h₁.get? b=some o):Inv (X.block xs scope s.heap.objs.size s H fp) [] (Y++List.replicate xs.length none) H {s with heap:=h₁,toks:=tk}:=by
 have hk:X.env.scope.kind=.function:=I.ok.kind
 have fsub:∀b∈fp,b∉frs X.stack:=λb hb z=>by
  rcases Xm.mp (I.stkSub b z)with e|e
  ·exact(hf b hb).2.1 e
  ·exact(hf b hb).2.2.1 e
 have okB:(X.block xs scope s.heap.objs.size s H fp).Ok:={
  mod:=I.ok.mod
  kind:=k.kind
  glob:=I.ok.glob
  blt:=I.ok.blt
  above:=Xe _
  inj:=λy z c e1 e2=>I.ok.inj y z c (Q9 e1) (Q9 e2)
  has:=λy h=>by
   have m:=k.free_of hk h;obtain⟨c,hc⟩:=I.ok.has y ((k.all _ m).2.2 rfl);exact⟨c,Jx hc (.inl m)⟩
  cab:=λy c h=>nomatch h
  hd:=I.ok.hd
  frames:=I.ok.frames
  stk:=.inl rfl
  exf:=λb hb=>⟨X4 (hfs b hb),λy c e=>(hf b hb).2.2.2.2.1 y c (Q9 e)⟩
  bs:=I.bs
  bsz:=X2 I.ok.bsz I.sz
  noex:=λb o e hb=>by
   rcases (hf b hb).2.2.2.1 with z|z
   ·exact I.ok.noex b o e z
   ·exact absurd (Xu (Xl e) (X2 I.ok.bsz z)) (Vb _)
  exfs:=λb hb z=>fsub b hb z
  funs:=I.stack
  frf:=λb hb=>I.stkFree b hb}
 refine⟨okB,rfl,I.bare,Un.kept kp,⟨m,hn,λi y v e1 e2 e3=>?_⟩,λy c e=>?_,I.hok.fresh (Xe _),λy c e=>I.freeC y c (Q9 e),(λp hp=>by cases hp),I.hok.kept kp,?_⟩
 ·have e1:(hideN xs X.N++xs)[i]?=some y:=e1;have e3:Vis (relabel scope X.env) y:=e3;have q2:Y[i]?=some (some v):=Qhv e2
  have q0:(hideN xs X.N)[i]?=some y:=by
   have:=(Xf.mp q2).1;rw[I.len,<-ZK (xs:=xs)]at this;rw[Xs this]at e1;exact e1
  obtain⟨z,q1,⟨zm,rfl⟩|⟨zn,rfl⟩⟩:=Qfs q0
  ·have no:=k.hid z zm
   have no':(relabel scope X.env).names.lookup (mang z)=none:=by rw[QY hk,Zv,no];rfl
   rcases e3 with w|w|w<;>(rw[no']at w;cases w)
  have ym:y∈X.N:=X0 q1
  have hcf:(relabel scope X.env).names.lookup y=some .cell\/(relabel scope X.env).names.lookup y=some .free:=by
   rcases e3 with z|z
   ·rcases k.local_of hk z with q|q
    ·exact absurd q zn
    ·exact absurd (q▸ym) k.dot
   ·exact z
  have m':=k.free_of hk hcf;have xk:=(k.all _ m').2.2 rfl;obtain⟨mm,hnn,hl⟩:=I.loc;obtain⟨u,r,l⟩:=hl i y v q1 q2 (.inr xk);refine⟨u,r,.inr ⟨hcf,?_⟩⟩
  rcases l with⟨l,_⟩|⟨_,c,e,o,ho,hd⟩
  ·have l:X.env.scope.names.lookup y=some .local:=l
   rcases xk with z|z<;>(rw[l]at z;cases z)
  ·exact⟨c,Jx e (.inl m'),o,kp c o ho,hd⟩
 ·obtain⟨v,o,ho,hd⟩:=I.cell y c (Q9 e);exact⟨v,o,kp c o ho,hd⟩
 ·show(Y++List.replicate xs.length none).length=(hideN xs X.N++xs).length;simp[I.len,ZK]
def PTO(X:Cx)(tl:Option Expr)(tt:TT):Prop:=match tl with
 |none=>∀Y H Q,tt Y H Q->Q true H
 |some c=>PT X c tt
def QeO(wi:TI)(n:Nat)(g:TG)(tt:TT)(te:TE):TE:=λY H Q=>wi Y H λJ H1=>∀D,H1 D=none->∃W:Nat->Nat->List V->Hp->Prop,(∃m,W 0 m [] (upd H1 D (.lst [])))/\∀i m ys H2,W i m ys H2->H2 D=some (.lst ys) /\
 ((J.stop i H2/\Q (.ref D) H2)\/(J.go i H2/\ys.length<sizeLine/\∀x H3 os,os.length=n->J.yld i H2 x H3->g x (Y++os) H3 λY' H4=>(∃os',os'.length=n/\Y'=Y++os')/\tt Y' H4 λb H5=>if b=true then te Y' H5 λy H6=>H6 D=some (.lst ys)/\∃m',m'<m/\W (i+1) m' (ys++[y]) (upd H6 D (.lst (ys++[y])))else ∃m',m'<m/\W (i+1) m' ys H5))
def Ja{Q:VK}{it:Addr}{tn:Nat->Heap->Prop}{J:It}{E:Value->Shared->Prop}{RR:Value->Addr->Result->Shared->Prop}(hc:X.calm=true)(k:CompOk X xs scope)
  (hn:xs.length=n) (hg:∀C s H fp,PG (X.block xs scope C s H fp) tg g) (ht:∀C s H fp,PTO (X.block xs scope C s H fp) tl tt) (he:∀C s H fp,PE (X.block xs scope C s H fp) elt te)
  (I2:Inv X pins Y H s) (T:Turn X.prog X.w X.K tg J fp it tn) (st2:tn 0 s.heap) (f2:∀b∈fp,Qa5 X pins H b)
  (q:∀D,H D=none->∃W:Nat->Nat->List V->Hp->Prop,(∃m,W 0 m [] (upd H D (.lst [])))/\∀i m ys H2,W i m ys H2->H2 D=some (.lst ys) /\
   ((J.stop i H2/\Q (.ref D) H2)\/(J.go i H2/\ys.length<sizeLine/\∀x H3 os,os.length=n->J.yld i H2 x H3->g x (Y++os) H3 λY' H4=>(∃os',os'.length=n/\Y'=Y++os')/\tt Y' H4 λb H5=>if b=true then te Y' H5 λy H6=>H6 D=some (.lst ys)/\∃m',m'<m/\W (i+1) m' (ys++[y]) (upd H6 D (.lst (ys++[y])))else ∃m',m'<m/\W (i+1) m' ys H5)))
  (hRR:∀D C s' H' m,Inv X pins Y H' s'->s'.heap.Ns C m->Qa5 X pins H' C->Q (.ref D) H'->RR (.ref D) C (.ok .next) s'):
  wpAny (model X.prog X.w) X.A (newList []) (λacc s₃=>wpAny (model X.prog X.w) X.A (newFunctionEnv scope X.env.globals (Qcw X.env.cells scope.names []) [] X.env.qual none .none (some X.env)) (λcenv s₄=>
   codeAny (model X.prog X.w) X.A (.compStart (.ListComp elt [⟨tg,iter,tl.toList,0⟩] scope pos) 0 (.ref it) acc {cenv with scope:=relabel scope X.env}) (RR acc cenv.locals) s₄) E s₃) E s:=by
 have hk:X.env.scope.kind=.function:=I2.ok.kind
 refine Vk (wpAny_newFunctionEnv (λy hy=>(k.all y hy).2.1) (by intro y hy;simp at hy) (λh₁ hns₁ hsb₁=>?_) k.kind)
 dsimp only at hns₁ hsb₁ ⊢;have hD:H s.heap.objs.size=none:=I2.hok.fresh (Xe _);obtain⟨W,⟨m0,w0⟩,turn⟩:=q s.heap.objs.size hD
 have I3:Inv X pins Y (upd H s.heap.objs.size (.lst [])) {s with heap:=s.heap.push {cls:=.type "list",dict:=none,data:=.seq ([]:List Value).toArray} }:=
  I2.laid (t':=s.toks) (λb o e=>Xb _ e) (Xe _) (show ObjOk X.prog X.w _ _ _ (.lst [])from⟨Wq _,[],_,.nil,Xr _ rfl⟩)
 have lt2:∀b∈fp,b<s.heap.objs.size:=λb hb=>by
  obtain⟨o,e,_⟩:=T.obj 0 _ st2 b hb;exact Xl e
 have f3:∀b∈fp,Qa5 X pins (upd H s.heap.objs.size (.lst [])) b:=λb hb=>⟨by rw[Qe (X4 (lt2 b hb))];exact(f2 b hb).1,(f2 b hb).2⟩
 have lt3:∀b∈fp,b<(s.heap.push {cls:=.type "list",dict:=none,data:=.seq ([]:List Value).toArray}).objs.size:=λb hb=>by
  rw[X1];exact Nat.lt_succ_of_lt (lt2 b hb)
 generalize hs3:({s with heap:=s.heap.push {cls:=.type "list",dict:=none,data:=.seq ([]:List Value).toArray} }:Shared)=s3 at I3
 have e3:s3.heap=s.heap.push {cls:=.type "list",dict:=none,data:=.seq ([]:List Value).toArray}:=by rw[<-hs3]
 rw[<-e3]at hns₁ hsb₁ lt3 ⊢;have kp:∀b o,s3.heap.get? b=some o->h₁.get? b=some o:=λb o e=>hsb₁.extBut b o (X4 (Xl e)) (Xb _ e);have IB:=I3.block (tk:=s.toks+([]:List (Str×Value)).length) k f3 lt3 hns₁ kp
 have es:({s3 with heap:=h₁,toks:=s.toks+([]:List (Str×Value)).length}:Shared)={s with heap:=h₁,toks:=s.toks+([]:List (Str×Value)).length}:=by rw[<-hs3]
 rw[es]at IB;generalize hX:X.block xs scope s3.heap.objs.size s3 (upd H s.heap.objs.size (.lst [])) fp=Yyy at IB;have HE:PE Yyy elt te:=hX▸he _ _ _ _;have HT:PTO Yyy tl tt:=hX▸ht _ _ _ _;have HG:PG Yyy tg g:=hX▸hg _ _ _ _
 have hP:Yyy.prog=X.prog:=by rw[<-hX];rfl
 have hw:Yyy.w=X.w:=by rw[<-hX];rfl
 have hK:Yyy.K=X.K:=by rw[<-hX];rfl
 have hA:Yyy.A=X.A:=by rw[<-hX];rfl
 have hcY:Yyy.calm=true:=by rw[<-hX];exact hc
 have hxe:Yyy.xe=λt t=>False:=by rw[<-hX];rfl
 have henv:Yyy.env=compEnvC scope (Qcw X.env.cells scope.names []) s3.heap.objs.size X.env:=by rw[<-hX];rfl
 have fpY:∀{H':Hp},(∀b∈fp,H' b=none)->∀b∈fp,Qa5 Yyy [] H' b:=λhn b hb=>by
  have hb1:=(f2 b hb).2;rw[<-hX]
  refine⟨hn b hb,?_,λz=>?_,.inl hb,λy c e=>hb1.2.2.2.1 y c (Q9 e),(λp hp=>by cases hp)⟩
  ·exact X4 (lt3 b hb)
  ·rcases Xm.mp (I3.stkSub b z)with e|e
   ·exact hb1.1 e
   ·exact hb1.2.1 e
 have back:∀{Y':St} {H':Hp} {s':Shared},Inv Yyy [] Y' H' s'->Inv X pins Y H' s'/\(∃m,s'.heap.Ns s3.heap.objs.size m)/\Qa5 X pins H' s3.heap.objs.size:=λ{Y' H' s'} J'=>by
  have u:=J'.base;have os:=J'.os;have hok:=J'.hok;have bare:=J'.bare;obtain⟨mm,hnn,_⟩:=J'.loc;have fr:=J'.free;rw[henv]at hnn fr;rw[<-hX]at u os hok;refine⟨I3.call' os u hok bare λb hb=>?_,⟨mm,hnn⟩,I3.fpOk (Xe _) fr⟩;exact⟨(f2 b hb).2.2.2.1,(f2 b hb).2.1,(f2 b hb).2.2.2.2.1,(f2 b hb).2.2.2.2.2⟩
 have loop:∀s₃:Shared,Inv Yyy [] (Y++List.replicate xs.length none) (upd H s.heap.objs.size (.lst [])) s₃->tn 0 s₃.heap ->
   codeAny (model X.prog X.w) X.A (.compLoop (.ListComp elt [⟨tg,iter,tl.toList,0⟩] scope pos) 0 (.ref it) (.ref s.heap.objs.size) Yyy.env) (RR (.ref s.heap.objs.size) s3.heap.objs.size) s₃:=by
  intro s₃ J3 t3
  refine QaY (λm s'=>∃i os H' ys,os.length=n/\Inv Yyy [] (Y++os) H' s'/\tn i s'.heap/\(∀b∈fp,H' b=none)/\W i m ys H') ?_ m0 ⟨0,_,_,[],by rw[List.length_replicate];exact hn,J3,t3,λb hb=>(f3 b hb).1,w0⟩
  rintro m s4 ⟨i,os,H4,ys,lo,J4,st4,fr4,w4⟩;obtain⟨hDl,tr⟩:=turn i m ys H4 w4
  rcases tr with⟨stop,qn⟩|⟨go,hz,step⟩
  ·have dn:=T.done Yyy hP hw hK hcY i [] s4 (Y++os) H4 (notedBy (model X.prog X.w) X.A Yyy.env λe s'=>RR (.ref s.heap.objs.size) s3.heap.objs.size (.error e) s') J4 (fpY fr4) st4 stop;rw[hA]at dn;refine thn dn λr s5 l=>?_;obtain⟨hr,J5⟩:=l;subst hr;obtain⟨I5,⟨m5,n5⟩,f5⟩:=back J5;exact hRR _ _ _ _ _ I5 n5 f5 qn
  ·have im:=T.item Yyy hP hw hK hcY i [] s4 (Y++os) H4 (notedBy (model X.prog X.w) X.A Yyy.env λe s'=>RR (.ref s.heap.objs.size) s3.heap.objs.size (.error e) s') J4 (fpY fr4) st4 go;rw[hA]at im;refine thn im λr s5 j=>?_;obtain⟨u,hr,h5⟩:=j;subst hr;refine thn h5 λt s6 f=>?_;obtain⟨v,H6,J6,rv,y6,st6,fr6⟩:=f;have J6':=J6.pinned (fpY fr6) (T.obj _ _ st6)
   have noE:∀{EE:Value->Shared->Prop},∀e s',Yyy.xe e s'->EE e s':=λ{EE} e s' z=>by rw[hxe]at z;exact z.elim
   have asg:=HG _ s6 (Y++os) H6 v u _ J6' rv (step v H6 os lo y6);rw[hP,hw,hA]at asg;refine Xz asg (λt s7 a=>?_) noE;obtain⟨σ7,H7,J7,⟨os',lo',e7⟩,q7⟩:=a;subst e7
   have fin:∀{s9:Shared} {H9:Hp} {m':Nat} {zs:List V},Inv Yyy ([]++Yt fp s6.heap) (Y++os') H9 s9->m'<m->W (i+1) m' zs H9->∃m',m'<m/\∃i os H' ys,os.length=n/\Inv Yyy [] (Y++os) H' s9/\tn i s9.heap/\(∀b∈fp,H' b=none)/\W i m' ys H':=λ{s9 H9 m' zs} J9 hm' w9=>by
    refine⟨m',hm',i+1,os',H9,zs,lo',J9.unpinned,T.keep _ _ _ st6 λb hb ob e=>(J9.pin (b,ob) (Wb _ (Wb _ (Zk hb e)))).1,λb hb=>?_,w9⟩;obtain⟨ob,e,d⟩:=T.obj _ _ st6 b hb;exact(J9.pin (b,ob) (Wb _ (Wb _ (Zk hb e)))).2.1
   have tst:wpAny (model X.prog X.w) X.A (forIn tl.toList true λc r=>if r=true then do let ok <-isTrue c Yyy.env (eval c Yyy.env);pure (ForInStep.yield ok)else pure (ForInStep.yield r)) (TP Yyy ([]++Yt fp s6.heap) (Y++os') λb H5=>if b=true then te (Y++os') H5 λy H6=>H6 s.heap.objs.size=some (.lst ys)/\∃m',m'<m/\W (i+1) m' (ys++[y]) (upd H6 s.heap.objs.size (.lst (ys++[y])))else ∃m',m'<m/\W (i+1) m' ys H5) (notedBy (model X.prog X.w) X.A Yyy.env λe s'=>RR (.ref s.heap.objs.size) s3.heap.objs.size (.error e) s') s7:=by
    refine QeG ?_
    cases tl with
    |none=>exact⟨H7,J7,HT _ _ _ q7⟩
    |some c=>
     have z:=(show PT Yyy c tt from HT) _ s7 _ _ _ J7 q7;rw[hP,hw,hA]at z;exact Xz z (λt t h=>h) noE
   refine Xz tst (λb s8 Z=>?_) λt t e=>e;obtain⟨H8,J8,q8⟩:=Z
   cases b with
   |false=>
    rw[if_neg Xh]at q8 ⊢;obtain⟨m',hm',w8⟩:=q8;exact fin J8 hm' w8
   |true=>
    rw[if_pos rfl]at q8 ⊢;have ev:=HE _ s8 _ _ _ J8 q8;rw[hP,hw,hA]at ev;refine Xz ev (λy s8 U=>?_) noE;obtain⟨yv,H8,J8,ry,hD8,m',hm',w8⟩:=U;have ap:=Qac (X:=Yyy) _ s8 _ H8 (.ref s.heap.objs.size) [yv] (.ref s.heap.objs.size) [y] (λt H'=>H'=upd H8 s.heap.objs.size (.lst (ys++[yv]))) J8 rfl (.cons ry .nil) ⟨_,ys,yv,rfl,rfl,hD8,hz,rfl⟩;rw[hP,hw,hA]at ap;refine Xz ap (λt s9 S=>?_) noE;obtain⟨_,H9,J9,_,e9⟩:=S;subst e9;exact fin J9 hm' w8
 have t1:tn 0 h₁:=T.keep 0 _ _ st2 λb hb o e=>kp b o (by rw[e3];exact Xb _ e)
 have go:=loop _ IB t1;rw[henv]at go;refine codeAny_compStart_list ?_ ?_
 ·exact go
 ·exact T.self X.A 0 _ _ _ t1 go
def Qdo{wi:TI}(hc:X.calm=true)(k:CompOk X xs scope)(hi:PI X tg iter wi)(hn:xs.length=n)(hg:∀C s H fp,PG (X.block xs scope C s H fp) tg g)(ht:∀C s H fp,PTO (X.block xs scope C s H fp) tl tt)(he:∀C s H fp,PE (X.block xs scope C s H fp) elt te)
  (hs:∀v,foldedSetIterable iter X.env v=pure v):PE X (.ListComp elt [⟨tg,iter,tl.toList,0⟩] scope pos) (QeO wi n g tt te):=by
 intro pins s Y H Q I h;rw[eval_ListComp];refine wpAny_comprehension_free (use:=none) rfl hs (Jc λy hy hf=>I.ok.has y.1 ((k.all y hy).2.2 hf)) k.kind (λy hy hl=>((k.all y hy).1 hl).2) ?_;refine thn (hi pins s Y H _ I h) λv s1 h1=>thn h1 λitv s2 h2=>?_;obtain⟨it,fp,tn,J,H2,e,I2,T,st2,f2,q⟩:=h2;subst e;refine Ja (RR:=λacc C=>compPost (model X.prog X.w) X.A X.xe none (EP X pins Y Q) acc C) hc k hn hg ht he I2 T st2 f2 q ?_;intro D C s' H' m I' n' f' q';refine⟨m,n',λh' sb=>?_⟩;exact⟨.ref D,H',I'.turned (t':=s'.toks) (λb o hb e=>sb.extBut b o hb e) f'.1 f'.2.1 f'.2.2.2.1 f'.2.2.2.2.1 f'.2.2.2.2.2,rfl,q'⟩
def Qhi{py spos:Pos}{wi:TI}{j:Nat}(hc:X.calm=true)(hN:X.N.Nodup)(k:CompOk X xs scope)(hi:PI X tg iter wi)(hn:xs.length=n)(hg:∀C s H fp,PG (X.block xs scope C s H fp) tg g)(ht:∀C s H fp,PTO (X.block xs scope C s H fp) tl tt)(he:∀C s H fp,PE (X.block xs scope C s H fp) elt te)
  (hs:∀v,foldedSetIterable iter X.env v=pure v) (hj:X.N[j]?=some y) (hy:Loc X.env.scope y) (hfn:X.fn y=true\/X.env.scope.names.lookup y=some .local):
  PS X (.Assign [.Name y py] (.ListComp elt [⟨tg,iter,tl.toList,0⟩] scope pos) spos) (λD Y H=>QeO wi n g tt te Y H λv H1=>D.nx (Y.set j (some v)) H1):=by
 have hsw:∃b,swapsWith (.ListComp elt [⟨tg,iter,tl.toList,0⟩] scope pos) (some (.Name y py)) spos.line X.env=pure b:=⟨_,rfl⟩;obtain⟨b,hsw⟩:=hsw
 cases b with
 |false=>exact Qbt hN hj hy (Qdo hc k hi hn hg ht he hs) hsw hfn
 |true=>
  intro pins s Y H D I h;rw[exec_Assign_Name_used _ _ _ _ hsw];refine Xa (wpAny_standAt (Xa ?_))
  show wpAny _ _ (do let _ <-comprehension (.ListComp elt [⟨tg,iter,tl.toList,0⟩] scope pos) scope X.env _ (newList []) false (eval iter X.env) (some (assign (.Name y py) X.env))) _ _ s
  refine Xa (Xz (wpAny_comprehension_free (use:=some (assign (.Name y py) X.env)) (Q:=λx s'=>SP X pins D .next s') rfl hs (Jc λy hy hf=>I.ok.has y.1 ((k.all y hy).2.2 hf)) k.kind (λy hy hl=>((k.all y hy).1 hl).2) ?_)
   (λx s' hq=>Xi (Xi hq)) λx x e=>e)
  refine thn (hi pins s Y H _ I h) λv s1 h1=>thn h1 λitv s2 h2=>?_;obtain⟨it,fp,tn,J,H2,e,I2,T,st2,f2,q⟩:=h2;subst e;refine Ja (Q:=λv H1=>D.nx (Y.set j (some v)) H1) (RR:=λacc C=>compPost (model X.prog X.w) X.A X.xe (some (assign (.Name y py) X.env)) (λx s'=>SP X pins D .next s') acc C) hc k hn hg ht he I2 T st2 f2 q ?_;intro Da C s' H' m I' n' f' q';obtain⟨o,es,ep,ho,hd,r⟩:=id n'
  have Ip:Inv X (pins++Yt [C] s'.heap) Y H' s':=I'.pinned (λb hb=>by
   have e:b=C:=by simpa using hb
   subst e
   exact f') λb hb=>by
    have e:b=C:=by simpa using hb
    subst e
    exact⟨o,ho,λv z=>by rw[hd]at z;cases z⟩
  refine thn (ZO (i:=j) hN hj hy hfn _ s' Y H' (.ref Da) (.ref Da) _ Ip rfl q') λx s'' u=>?_;obtain⟨σ2,H2',J2,q2⟩:=u
  have pc:=J2.pin (C,o) (Wb _ (Wb _ (Zk (by simp) ho)))
  refine⟨m,⟨o,es,ep,pc.1,hd,r⟩,λh' sb=>?_⟩;exact⟨σ2,H2',J2.unpinned.turned (t':=s''.toks) (λb ob hb e=>sb.extBut b ob hb e) pc.2.1 f'.2.1 f'.2.2.2.1 f'.2.2.2.2.1 f'.2.2.2.2.2,q2⟩
end
end
section
variable {a c:Int}
section
variable {X:Cx}
noncomputable def Itc(lo c:Int)(n:Nat):It:=⟨λi z=>i<n,λi H x H'=>H'=H/\x=.int (lo+i*c),λi z=>n<=i⟩
def Qaz{P:Program}{w:World}{K:PySem.W.Frag}{tg:Expr}(it:Addr)(lo c:Int)(n:Nat):Turn P w K tg (Itc lo c n) [it] it (λi h=>IsRangeIter h it (lo+(i:Nat)*c) ((n:Int) - (i:Nat)) c) where
 mem:=by simp
 obj:=λi h st b hb=>by
  have e:b=it:=by simpa using hb
  subst e
  exact⟨_,st,λv z=>by
   have z':Data.fields _=Data.cell v:=z
   cases z'⟩
 keep:=λi h h' st k=>k it (by simp) _ st
 item:=by
  intro X hP hw hK hc i pins s Y H E I hf st hg;subst hP hw hK
  obtain⟨f0,f1,f2,f3,f4,f5⟩:=hf it (by simp)
  have W:=Walks.range (prog:=X.prog) (w:=X.w) (I.ok.hd hc) it lo c n;refine W.item i s _ _ hg st λv h' tk hv st' kk=>?_;obtain⟨t,rfl⟩:=hv
  have I1:Inv X pins Y H {s with heap:=h',toks:=tk}:=I.turned (λb o hb e=>kk b o (by simpa using hb) e) f0 f1 f3 f4 f5
  exact⟨_,rfl,Qfw (s:={s with heap:=h',toks:=tk}) (n:="range_iterator") st' rfl rfl (by decide) ⟨.int (lo+i*c),H,I1,⟨t,rfl⟩,⟨rfl,rfl⟩,st',λb hb=>(hf b hb).1⟩⟩
 done:=by
  intro X hP hw hK hc i pins s Y H E I hf st hg;subst hP hw hK
  obtain⟨f0,f1,f2,f3,f4,f5⟩:=hf it (by simp)
  exact wpAny_pyNext_range_end (I.ok.hd hc) st (by have:n<=i:=hg;omega) λh' eb=>⟨rfl,I.turned (t':=s.toks) (λb o hb e=>eb b o hb e) f0 f1 f3 f4 f5⟩
 self:=λy y y y y st h=>wpAny_pyIter_rangeiter st h
noncomputable def rngC(a b c:Int):Nat:=if a<b then((b-a-1) / c+1).toNat else 0
def Qg9{b:Int}(h:0<c):Builtin.Range.rangeSize a b c=(rngC a b c:Nat):=by
 unfold rngC Builtin.Range.rangeSize;rw[if_pos (show c>0 from h)];split
 ·have:=Int.ediv_nonneg (a:=b-a-1) (b:=c) (by omega) (by omega)
  omega
 ·rfl
def QcZ{b:Int}(ha:-(2 ^ 60)<=a)(ha':a<2 ^ 60)(hb:-(2 ^ 60)<=b)(hb':b<2 ^ 60)(h0:0<c)(h1:c<2 ^ 60):Builtin.Range.small a b c=true:=by
 have e:Builtin.Range.rangeSize a b c=if a<b then(b-a-1) / c+1 else 0:=by
  unfold Builtin.Range.rangeSize;rw[if_pos (show c>0 from h0)]
 have q1:a<b->(b-a-1) / c<=b-a-1:=λh=>Int.ediv_le_self _ (by omega)
 have q0:a<b->0<=(b-a-1) / c:=λh=>Int.ediv_nonneg (by omega) (by omega)
 have q2:a<b->c*((b-a-1) / c)<=b-a-1:=λh=>Int.mul_ediv_self_le (by omega)
 unfold Builtin.Range.small;rw[e];simp only[Builtin.Range.rangeFitsLong,Xg,V4,Xq,We,show(c>0)from h0,Wo];generalize (b-a-1) / c=d at q0 q1 ⊢;clear q2;split
 ·rename_i h;have:=q0 h;have:=q1 h;omega
 ·omega
def Qc0{b:Int}(ha:-(2 ^ 60)<=a)(ha':a<2 ^ 60)(hb:-(2 ^ 60)<=b)(hb':b<2 ^ 60):Builtin.Range.small a b (-1)=true/\Builtin.Range.rangeSize a b (-1)=((a-b).toNat:Nat):=by
 have e:Builtin.Range.rangeSize a b (-1)=((a-b).toNat:Nat):=by
  unfold Builtin.Range.rangeSize;simp;omega
 refine⟨?_,e⟩;unfold Builtin.Range.small;rw[e];simp only[Builtin.Range.rangeFitsLong,Xg,V4,Xq,We];simp;omega
def Qex(i j c:Int)(n:Nat):Prop:=(0<c/\c<1073741824/\n=rngC i j c)\/(c=-1/\n=(i-j).toNat)
def QgY{i j:Int}{n:Nat}(b1:-(2 ^ 60)<=i)(b2:i<2 ^ 60)(b3:-(2 ^ 60)<=j)(b4:j<2 ^ 60)(h:Qex i j c n):Builtin.Range.small i j c=true/\Builtin.Range.rangeSize i j c=(n:Nat)/\c≠0/\-1073741824<c/\c<1073741824:=by
 rcases h with⟨c0,c1,rfl⟩|⟨rfl,rfl⟩
 ·exact⟨QcZ b1 b2 b3 b4 c0 (by omega),Qg9 c0,by omega,by omega,c1⟩
 ·obtain⟨z1,z2⟩:=Qc0 b1 b2 b3 b4
  exact⟨z1,z2,by omega,by omega,by omega⟩
def QmZ(ta:TA):TI:=λY H R=>ta Y H λvs H1=>∃(i j c:Int) (n:Nat),vs=[.int i,.int j,.int c]/\(-(2 ^ 60)<=i/\i<2 ^ 60/\-(2 ^ 60)<=j/\j<2 ^ 60)/\Qex i j c n/\R (Itc i c n) H1
def Qdl{tg a:Expr}{args:List Expr}{ta:TA}{p pos:Pos}(hg:Gl X "range")(hm:X.mg "range"=none)(ha:PA X (a::args) ta)(he:starEach (a::args) X.env=(false,eval a X.env)::starEach args X.env)
  (hpl:(backTo pos (starEach args X.env)).any (·.1)=false):PI X tg (.Call (.Name "range" p) (a::args) [] pos) (QmZ ta):=by
 intro pins s Y H R I h;refine Call_ (ZW I hg hm boot_range (Ww (thn (ha pos pins s Y H _ I h) λus s1 z=>?_) he hpl));obtain⟨vs,H1,I1,r1,q1⟩:=z;obtain⟨i,j,c,n,e,⟨b1,b2,b3,b4⟩,so,q⟩:=q1;obtain⟨sm,sz,cz,c0,c1⟩:=QgY b1 b2 b3 b4 so;subst e
 cases r1 with
 |cons r rr=>
  obtain⟨x,y,rfl,⟨t',rfl⟩,u',rfl⟩:=Vals.two rr;obtain⟨t,rfl⟩:=r
  refine call_range_3 (by omega) ?_ (.inl (PyProof.noPylong_small (by omega)))
  have I2:Inv X pins Y H1 {s1 with heap:=s1.heap.push {cls:=.type "range",data:=.fields #[.int i t,.int j t',.int c u']},toks:=s1.toks}:=I1.kept λb o e=>Xb _ e;refine wpAny_pyIter_range (IsRange.new ..) sm ?_
  refine⟨(s1.heap.push {cls:=.type "range",data:=.fields #[.int i t,.int j t',.int c u']}).objs.size,[(s1.heap.push {cls:=.type "range",data:=.fields #[.int i t,.int j t',.int c u']}).objs.size],_,_,H1,rfl,
   I2.kept (t':=s1.toks) λb o e=>Xb _ e,Qaz _ i c n,?_,λb hb=>?_,q⟩
  ·show IsRangeIter _ _ (i+((0:Nat):Int)*c) (((n:Nat):Int) - ((0:Nat):Int)) c;rw[<-sz]
   have e1:i+((0:Nat):Int)*c=i:=by simp
   have e2:Builtin.Range.rangeSize i j c-((0:Nat):Int)=Builtin.Range.rangeSize i j c:=by simp
   rw[e1,e2];exact Xr _ rfl
  ·have e:b=(s1.heap.push {cls:=.type "range",data:=.fields #[.int i t,.int j t',.int c u']}).objs.size:=by simpa using hb
   subst e;exact I2.fpOk (Xe _) (I2.hok.fresh (Xe _))
end
end
end L2
namespace Iv
open PySem PySem.Spec PyProof.Rows L2
section
variable {a':E}{a it tg:Expr}{J:It}{d:Nat}{p q:Pos}{w:Wk}
section
variable {X:Cx}{T:Tbl}{A:Adr}{cf:Cf}{m k:Nat}{α:List Addr}{hs:Hs}{H:Hp}{u:U}{v:V}{ρ:Rho}{Y:St}
def WJ(A:Adr)(K:W.Frag)(α:List Addr)(J:It)(H:Hp):Wk->Prop
 |.seqL u=>∃a,RU A α u (.ref a)/\J=Itl K a
 |.seqT u=>∃a,RU A α u (.ref a)/\J=Itt K a
 |.rng lo n=>J=Itr lo n
 |.zipB p q x y=>∃a b,RU A α x (.ref a)/\RU A α y (.ref b)/\J=Itz p q K a b
 |.revL _ _=>False
 |.rngC lo c n=>J=Itc lo c n
 |.enmL u=>∃a,RU A α u (.ref a)/\J=Ite K a
 |.strW _=>False
 |.keyD _=>False
theorem WJ.mono{K:W.Frag}{α':List Addr}{H':Hp}(p:∀(n:Nat) a,α[n]?=some a->α'[n]?=some a)(f:∀b o u,H b=some (.frz o u)->H' b=some (.frz o u))(h:WJ A K α J H w):WJ A K α' J H' w:=by
 cases w with
 |seqL u=>obtain⟨a,r,e⟩:=h;exact⟨a,r.mono p,e⟩
 |seqT u=>obtain⟨a,r,e⟩:=h;exact⟨a,r.mono p,e⟩
 |rng lo n=>exact h
 |zipB b c x y=>obtain⟨a,b,r,r',e⟩:=h;exact⟨a,b,r.mono p,r'.mono p,e⟩
 |revL u n=>exact False.elim h
 |rngC lo c n=>exact h
 |enmL u=>obtain⟨a,r,e⟩:=h;exact⟨a,r.mono p,e⟩
 |strW x=>exact False.elim h
 |keyD n=>exact False.elim h
noncomputable def gT(K:W.Frag):Tg->TG
 |.name i=>Qad i
 |.pair i j=>Qm8 K 2 (Qfz (Qad i) (Qfz (Qad j) Qm9))
def Y1{b:Bool}{xs:List U}(tx:Txt T A X.K X.mg)(R:Rep T A X.K α hs H)(h:sqU T b u hs=some xs)(r:RU A α u v):∃a vs,v=.ref a/\RUs A α xs vs/\SqB b X.K H a vs:=by
 cases b with
 |true=>exact QB tx R h r
 |false=>exact ZB tx R h r
def QbM{i:Nat}(tx:Txt T A X.K X.mg)(R:Rep T A X.K α hs H)(W:WJ A X.K α J H w)(h:itm T w i hs=some none):J.stop i H:=by
 cases w with
 |seqL u=>
  obtain⟨a,r,rfl⟩:=W;simp only[itm,Xc,U1]at h;obtain⟨xs,e,h⟩:=h;obtain⟨a',vs,ea,rr,q⟩:=QB tx R e r;cases ea
  exact⟨vs,q,by rw[<-rr.length];exact Vx.mp h⟩
 |seqT u=>
  obtain⟨a,r,rfl⟩:=W;simp only[itm,Xc,U1]at h;obtain⟨xs,e,h⟩:=h;obtain⟨a',vs,ea,rr,q⟩:=ZB tx R e r;cases ea
  exact⟨vs,q,by rw[<-rr.length];exact Vx.mp h⟩
 |rng lo n=>
  cases(show J=_ from W);simp only[itm,Vl]at h;split at h
  ·cases h
  ·rename_i l;show n<=i;omega
 |zipB p q x y=>
  obtain⟨a,b,r1,r2,rfl⟩:=W;simp only[itm]at h;split at h
  case h_2=>cases h
  rename_i xs ys e1 e2;obtain⟨a',vs,ea,rr,q⟩:=Y1 tx R e1 r1;cases ea;obtain⟨b',ws,eb,rr',q'⟩:=Y1 tx R e2 r2;cases eb;refine⟨vs,ws,q,q',?_⟩;unfold two at h;rw[<-rr.length,<-rr'.length];by_cases l1:i<xs.length
  ·by_cases l2:i<ys.length
   ·rw[Xj l1,Xj l2]at h;cases h
   ·exact .inr (by omega)
  ·exact .inl (by omega)
 |revL u n=>exact False.elim W
 |rngC lo c n=>
  cases(show J=_ from W);simp only[itm,Vl]at h;split at h
  ·cases h
  ·rename_i l;show n<=i;omega
 |enmL u=>
  obtain⟨a,r,rfl⟩:=W;simp only[itm,Xc,U1]at h;obtain⟨xs,e,h⟩:=h;obtain⟨a',vs,ea,rr,q⟩:=QB tx R e r;cases ea
  exact⟨vs,q,by rw[<-rr.length];exact Vx.mp h⟩
 |strW x=>exact False.elim W
 |keyD n=>exact False.elim W
def Yo{t:Tg}{ρ':Rho}{Q:St->Hp->Prop}(R:Rep T A X.K α hs H)(rs:RS A α ρ Y)(r:RU A α u v)(h:tgt t (.one u) ρ hs=some ρ')(k:∀σ2,RS A α ρ' σ2->Q σ2 H):gT X.K t v Y H Q:=by
 cases t with
 |name i=>cases h;exact k _ (rs.set i r)
 |pair i j=>
  cases u with
  |ref n=>
   obtain⟨a,ha,rfl⟩:=r;simp only[tgt]at h;split at h
   case h_2=>cases h
   rename_i x y e;cases h;obtain⟨vs,q,rr⟩:=R.h.ob n a _ ha e;obtain⟨v1,ws,rfl,r1,rr⟩:=Qr rr;obtain⟨v2,ws,rfl,r2,rr⟩:=Qr rr;cases QH rr;exact⟨a,[v1,v2],rfl,SqT.of q,rfl,v1,[v2],rfl,v2,[],rfl,rfl,k _ ((rs.set i r1).set j r2)⟩
  |_=>simp[tgt]at h
def QbN{i:Nat}{x:Im}{t:Tg}{ρ':Rho}(tx:Txt T A X.K X.mg)(R:Rep T A X.K α hs H)(W:WJ A X.K α J H w)(rs:RS A α ρ Y)(h:itm T w i hs=some (some x))(ht:tgt t x ρ hs=some ρ'):
  J.go i H/\∀v H' (Q:St->Hp->Prop),J.yld i H v H'->(∀σ2,RS A α ρ' σ2->Rep T A X.K α hs H'->Ext α α H H'->Q σ2 H')->gT X.K t v Y H' Q:=by
 have zip:∀{b c:Bool} {a1 a2:Addr} {xs ys:List U} {vs ws:List V},SqB b X.K H a1 vs->SqB c X.K H a2 ws->RUs A α xs vs->RUs A α ys ws->some (two xs ys i)=some (some x) ->
   (Itz b c X.K a1 a2).go i H/\∀v H' (Q:St->Hp->Prop),(Itz b c X.K a1 a2).yld i H v H'->(∀σ2,RS A α ρ' σ2->Rep T A X.K α hs H'->Ext α α H H'->Q σ2 H')->gT X.K t v Y H' Q:=by
  intro b c a1 a2 xs ys vs ws q1 q2 r1 r2 h;unfold two at h;split at h
  case h_2=>cases h
  rename_i x1 y1 e1 e2;cases h;obtain⟨v1,f1,g1⟩:=r1.get e1;obtain⟨v2,f2,g2⟩:=r2.get e2;refine⟨⟨vs,ws,v1,v2,q1,q2,f1,f2⟩,?_⟩;rintro v H' Q ⟨p,w1,w2,hp,rfl,rfl,k1,k2⟩ k;have n1:w1=v1:=Xn ((k1 vs q1).symm.trans f1);have n2:w2=v2:=Xn ((k2 ws q2).symm.trans f2);subst n1 n2
  have ne:∀b y,H b=some y->b≠p:=λb y e z=>by rw[z,hp]at e;cases e
  have R':Rep T A X.K α hs (upd H p (.tup [w1,w2])):=⟨⟨R.h.len,R.h.nd_keep λb x m e=>by rw[Qe (ne _ _ e)];exact e,λn a o e1 e2=>RO.keep (R.h.ob n a o e1 e2) (λm m e=>e) λm y e m=>by rw[Qe (ne _ _ e)];exact e⟩,R.s.keep λy e m=>by rw[Qe (ne _ _ e)];exact e⟩
  have E':Ext α α H (upd H p (.tup [w1,w2])):=⟨λm m e=>e,λn a e l=>by have:=getElem?_lt e;omega,λb o e m=>by rw[Qe (ne _ _ e)];exact e,λb o kv e=>by rw[Qe (ne _ _ e)];exact e,λb o e=>⟨o,by rw[Qe (ne _ _ e)];exact e,λm=>Iff.rfl⟩⟩
  cases t with
  |name i=>simp[tgt]at ht
  |pair i j=>
   cases ht;exact⟨p,[w1,w2],rfl,SqT.of Qp,rfl,w1,[w2],rfl,w2,[],rfl,rfl,k _ ((rs.set i g1).set j g2) R' E'⟩
 cases w with
 |seqL u=>
  obtain⟨a,r,rfl⟩:=W;simp only[itm,Xc]at h;obtain⟨xs,e,y,h,rfl⟩:=h;obtain⟨a',vs,ea,rr,q⟩:=QB tx R e r;cases ea;obtain⟨v1,f1,g1⟩:=rr.get h;refine⟨⟨vs,v1,q,f1⟩,?_⟩;rintro v H' Q ⟨rfl,k1⟩ k;have n1:v=v1:=Xn ((k1 vs q).symm.trans f1);subst n1;exact Yo R rs g1 ht λσ2 r2=>k σ2 r2 R Ext.refl
 |seqT u=>
  obtain⟨a,r,rfl⟩:=W;simp only[itm,Xc]at h;obtain⟨xs,e,y,h,rfl⟩:=h;obtain⟨a',vs,ea,rr,q⟩:=ZB tx R e r;cases ea;obtain⟨v1,f1,g1⟩:=rr.get h;refine⟨⟨vs,v1,q,f1⟩,?_⟩;rintro v H' Q ⟨rfl,k1⟩ k;have n1:v=v1:=Xn ((k1 vs q).symm.trans f1);subst n1;exact Yo R rs g1 ht λσ2 r2=>k σ2 r2 R Ext.refl
 |rng lo n=>
  cases(show J=_ from W);simp only[itm,Vl]at h;split at h
  case isFalse=>cases h
  rename_i l;cases h;refine⟨l,?_⟩;rintro v H' Q ⟨rfl,rfl⟩ k;exact Yo (u:=.int (lo+i) 0) R rs ⟨_,rfl,Cg.refl _ _⟩ ht λσ2 r2=>k σ2 r2 R Ext.refl
 |zipB p q x1 y1=>
  obtain⟨a,b,r1,r2,rfl⟩:=W;simp only[itm]at h;split at h
  case h_2=>cases h
  rename_i xs ys e1 e2;obtain⟨a',vs,ea,rr,q⟩:=Y1 tx R e1 r1;cases ea;obtain⟨b',ws,eb,rr',q'⟩:=Y1 tx R e2 r2;cases eb;exact zip q q' rr rr' h
 |revL u n=>exact False.elim W
 |rngC lo c n=>
  cases(show J=_ from W);simp only[itm,Vl]at h;split at h
  case isFalse=>cases h
  rename_i l;cases h;refine⟨l,?_⟩;rintro v H' Q ⟨rfl,rfl⟩ k;exact Yo (u:=.int (lo+i*c) 0) R rs ⟨_,rfl,Cg.refl _ _⟩ ht λσ2 r2=>k σ2 r2 R Ext.refl
 |enmL u=>
  obtain⟨a,r,rfl⟩:=W;simp only[itm,Xc]at h;obtain⟨xs,e,y,h,rfl⟩:=h;obtain⟨a',vs,ea,rr,q⟩:=QB tx R e r;cases ea;obtain⟨v1,f1,g1⟩:=rr.get h;refine⟨⟨vs,v1,q,f1⟩,?_⟩;rintro v H' Q ⟨p,w1,hp,rfl,rfl,k1⟩ k;have n1:w1=v1:=Xn ((k1 vs q).symm.trans f1);subst n1
  have ne:∀b y,H b=some y->b≠p:=λb y e z=>by rw[z,hp]at e;cases e
  have R':Rep T A X.K α hs (upd H p (.tup [.int i,w1])):=⟨⟨R.h.len,R.h.nd_keep λb x m e=>by rw[Qe (ne _ _ e)];exact e,λn a o e1 e2=>RO.keep (R.h.ob n a o e1 e2) (λm m e=>e) λm y e m=>by rw[Qe (ne _ _ e)];exact e⟩,R.s.keep λy e m=>by rw[Qe (ne _ _ e)];exact e⟩
  have E':Ext α α H (upd H p (.tup [.int i,w1])):=⟨λm m e=>e,λn a e l=>by have:=getElem?_lt e;omega,λb o e m=>by rw[Qe (ne _ _ e)];exact e,λb o kv e=>by rw[Qe (ne _ _ e)];exact e,λb o e=>⟨o,by rw[Qe (ne _ _ e)];exact e,λm=>Iff.rfl⟩⟩
  cases t with
  |name i=>simp[tgt]at ht
  |pair i' j'=>
   cases ht;have g0:RU A α (.int i 0) (.int i):=⟨_,rfl,Cg.refl _ _⟩;exact⟨p,[.int i,w1],rfl,SqT.of Qp,rfl,.int i,[w1],rfl,w1,[],rfl,rfl,k _ ((rs.set i' g0).set j' g1) R' E'⟩
 |strW y=>exact False.elim W
 |keyD n=>exact False.elim W
noncomputable def TIW(T:Tbl)(A:Adr)(K:W.Frag)(f:Rho->Hs->Option (Wk×Hs)):L2.TI:=λY H R=>∃α ρ hs w hs',RS A α ρ Y/\Rep T A K α hs H/\f ρ hs=some (w,hs') /\
 ∀α' J H',Ext α α' H H'->Rep T A K α' hs' H'->WJ A K α' J H' w->R J H'
def Qez{t t':L2.TI}(h:PI X tg it t)(i:∀Y H R,t' Y H R->t Y H R):PI X tg it t':=λpins s Y H R I q=>h pins s Y H R I (i Y H R q)
def Qlk{t t':L2.TI}(h:PI X tg it t)(h':PI X tg it t'):PI X tg it (λY H R=>t Y H R\/t' Y H R):=λpins s Y H R I q=>q.elim (h pins s Y H R I) (h' pins s Y H R I)
def Qo4:PI X tg it (λz z z=>False):=λpins s Y H R I h=>h.elim
def QjP{ir:E}(tx:Txt T A X.K X.mg)(h:PE X it (Iv.TI T A X.K (ev T cf d ir))):PI X tg it (TIW T A X.K (λρ hs=>Zn T (ev T cf d) ρ (.seq ir) hs)):=by
 refine Qez (Qlk (Qlk (Qhp h) (QjO h)) Qo4) ?_;rintro Y H R ⟨α,ρ,hs,w,hs',rs,Rp,e,q⟩;simp only[Zn]at e;obtain⟨u,h1,e1,e⟩:=Qb e;simp only[Xc]at e;obtain⟨w',e2,e⟩:=e;cases e;unfold wkS at e2;split at e2
 ·rename_i xs el;cases e2;refine .inl (.inl (TI.run rs Rp e1 λα1 x H1 E1 R1 r1 rs1=>?_));obtain⟨a,vs,rfl,rr,sq⟩:=QB tx R1 el r1;exact⟨a,rfl,⟨vs,sq⟩,q α1 _ H1 E1 R1 ⟨a,r1,rfl⟩⟩
 ·split at e2
  ·rename_i xs el;cases e2;refine .inl (.inr (TI.run rs Rp e1 λα1 x H1 E1 R1 r1 rs1=>?_));obtain⟨a,vs,rfl,rr,sq⟩:=ZB tx R1 el r1;exact⟨a,rfl,⟨vs,sq⟩,q α1 _ H1 E1 R1 ⟨a,r1,rfl⟩⟩
  ·cases e2
def QgZ{i:Int}(h:Qg (i*4)=true):-(2 ^ 62)<=i/\i<2 ^ 62:=by
 obtain⟨h1,h2⟩:=Q3 h;constructor<;>omega
def QjQ(hg:Gl X "range")(hm:X.mg "range"=none)(hns:∀x p,a≠.Starred x p)(h:PE X a (Iv.TI T A X.K (ev T cf d a'))):PI X tg (.Call (.Name "range" p) [a] [] q) (TIW T A X.K (λρ hs=>Zn T (ev T cf d) ρ (.rng a') hs)):=by
 refine Qez (Qdm hg hm (ZD h J0 (Qn hns)) (Qn hns)) ?_;rintro Y H R ⟨α,ρ,hs,w,hs',rs,Rp,e,q⟩;simp only[Zn]at e;obtain⟨u,h1,e1,e⟩:=Qb e;split at e
 case h_2=>cases e
 split at e
 case isFalse=>cases e
 rename_i i c;cases e;refine TI.run rs Rp e1 λα1 x H1 E1 R1 r1 rs1=>?_;obtain⟨j,rfl,cg⟩:=r1;cases cg.exact;obtain⟨b1,b2⟩:=QgZ c;exact⟨_,rfl,b1,b2,q α1 _ H1 E1 R1 rfl⟩
def Qhm{elts:List Expr}{kt:Nat}{pt:Pos}{b:Expr}{b':E}(tx:Txt T A X.K X.mg)(hg:Gl X "zip")(hm:X.mg "zip"=none)(hna:∀x p,a≠.Starred x p)(hnb:∀x p,b≠.Starred x p)(ha:PE X a (Iv.TI T A X.K (ev T cf d a')))(hb:PE X b (Iv.TI T A X.K (ev T cf d b'))):
  PI X (.Tuple elts kt pt) (.Call (.Name "zip" p) [a,b] [] q) (TIW T A X.K (λρ hs=>Zn T (ev T cf d) ρ (.zip a' b') hs)):=by
 have s2:starEach [b] X.env=[(false,eval b X.env)]:=Qn hnb
 have s1:starEach [a,b] X.env=[(false,eval a X.env),(false,eval b X.env)]:=by rw[Qn hna,s2]
 have pa:=ZD ha (ZD hb J0 (Qn hnb)) (Qn hna);refine Qez (Qlk (Qlk (Qbx (b:=true) (b':=true) hg hm pa s1 s2) (Qbx (b:=true) (b':=false) hg hm pa s1 s2)) (Qlk (Qbx (b:=false) (b':=true) hg hm pa s1 s2) (Qbx (b:=false) (b':=false) hg hm pa s1 s2))) ?_;rintro Y H R ⟨α,ρ,hs,w,hs',rs,Rp,e,q⟩;simp only[Zn]at e;obtain⟨u1,h1,e1,e⟩:=Qb e;obtain⟨u2,h2,e2,e⟩:=Qb e;simp only[Xc]at e;obtain⟨w',e3,e⟩:=e;cases e;unfold wkZ at e3;simp only at e3;generalize (QV T u1 hs').isSome=p at e3;generalize (QV T u2 hs').isSome=p' at e3;split at e3
 case isFalse=>cases e3
 rename_i c;simp only[Xg]at c;obtain⟨xs,l1⟩:=W7.mp c.1;obtain⟨ys,l2⟩:=W7.mp c.2;cases e3
 have key:Qoe p p' X.K (QgV (Iv.TI T A X.K (ev T cf d a')) (QgV (Iv.TI T A X.K (ev T cf d b')) Qlr)) Y H R:=by
  refine TI.run rs Rp e1 λα1 x H1 E1 R1 r1 rs1=>TI.run rs1 R1 e2 λα2 y H2 E2 R2 r2 rs2=>?_;obtain⟨a,vs,rfl,rr,sq⟩:=Y1 tx R2 l1 (r1.mono E2.pre);obtain⟨b,ws,rfl,rr',sq'⟩:=Y1 tx R2 l2 r2;exact⟨a,b,rfl,⟨vs,sq⟩,⟨ws,sq'⟩,q α2 _ H2 (E1.trans E2 R2.h) R2 ⟨a,b,r1.mono E2.pre,r2,rfl⟩⟩
 cases p<;>cases p'
 ·exact .inr (.inr key)
 ·exact .inr (.inl key)
 ·exact .inl (.inr key)
 ·exact .inl (.inl key)
def Qho{args:List Expr}{es:List E}(hg:Gl X "range")(hm:X.mg "range"=none)(hns:YO (a::args))(h:PA X (a::args) (TIA T A X.K (λρ hs=>evs (ev T cf d) ρ es hs))):
  PI X tg (.Call (.Name "range" p) (a::args) [] q) (TIW T A X.K (λρ hs=>Zn T (ev T cf d) ρ (.rngA es) hs)):=by
 refine Qez (Qdl hg hm h (Qn (hns a (Xo ..))) (QS λz hz=>hns z (Xk _ hz))) ?_;rintro Y H R ⟨α,ρ,hs,w,hs',rs,Rp,e,q⟩;simp only[Zn]at e;obtain⟨us,h1,e1,e⟩:=Qb e;split at e
 case h_2=>cases e
 rename_i i j c
 obtain⟨n,so,ew,c1,c2⟩:∃n,Qex i j c n/\some (Wk.rngC i c n,h1)=some (w,hs')/\Qg (i*16)=true/\Qg (j*16)=true:=by
  split at e
  ·rename_i cc;simp only[Xg,Xq]at cc;obtain⟨⟨⟨c1,c2⟩,c3⟩,c4⟩:=cc;exact⟨_,.inl ⟨c3,c4,rfl⟩,e,c1,c2⟩
  ·split at e
   ·rename_i cc;simp only[Xg,Xq]at cc;obtain⟨⟨c1,c2⟩,rfl⟩:=cc;exact⟨_,.inr ⟨rfl,rfl⟩,e,c1,c2⟩
   ·cases e
 cases ew;obtain⟨d1,d2⟩:=Q3 c1;obtain⟨d3,d4⟩:=Q3 c2;refine TIA.run rs Rp e1 λα1 vs H1 E1 R1 r1 rs1=>?_;obtain⟨v1,ws,rfl,x1,rr⟩:=Qr r1;obtain⟨v2,ws,rfl,x2,rr⟩:=Qr rr;obtain⟨v3,ws,rfl,x3,rr⟩:=Qr rr;cases QH rr;cases Q5 x1;cases Q5 x2;cases Q5 x3
 exact⟨i,j,c,n,rfl,⟨by omega,by omega,by omega,by omega⟩,so,q α1 _ H1 E1 R1 rfl⟩
def Qhr{elts:List Expr}{kt:Nat}{pt:Pos}(tx:Txt T A X.K X.mg)(hg:Gl X "enumerate")(hm:X.mg "enumerate"=none)(hns:∀x p,a≠.Starred x p)(h:PE X a (Iv.TI T A X.K (ev T cf d a'))):
  PI X (.Tuple elts kt pt) (.Call (.Name "enumerate" p) [a] [] q) (TIW T A X.K (λρ hs=>Zn T (ev T cf d) ρ (.enm a') hs)):=by
 refine Qez (Qhq hg hm h (Qn hns)) ?_;rintro Y H R ⟨α,ρ,hs,w,hs',rs,Rp,e,q⟩;simp only[Zn]at e;obtain⟨u,h1,e1,e⟩:=Qb e;split at e
 case h_2=>cases e
 rename_i xs el;cases e;refine TI.run rs Rp e1 λα1 x H1 E1 R1 r1 rs1=>?_;obtain⟨a,vs,rfl,rr,sq⟩:=QB tx R1 el r1;exact⟨a,vs,rfl,sq,q α1 _ H1 E1 R1 ⟨a,r1,rfl⟩⟩
def Rep.aside{D:Addr}{ho:HO}(R:Rep T A X.K α hs H)(hn:D∉α)(hs':∀o u,H D≠some (.frz o u)):Rep T A X.K α hs (upd H D ho):=
 ⟨⟨R.h.len,R.h.nd_keep λb x hb e=>by rw[Qe (λ(z:b=D)=>hn (z▸hb))];exact e,λn a o e1 e2=>RO.keep (R.h.ob n a o e1 e2) (λv v e=>e) λc y e w=>by
   rcases w with rfl|⟨oz,fs,rfl⟩
   ·have ne:c≠D:=λz=>hn (z▸X0 e1);rw[Qe ne];exact e
   ·rw[Qe (λz=>hs' _ _ (z▸e))];exact e⟩,
  R.s.keep λy e z=>by
   obtain⟨ob,u,rfl⟩:=z;have ne:A.s≠D:=λz=>hs' ob _ (z▸e);rw[Qe ne]
   exact e⟩
def Rep.adopt{D:Addr}{us:List U}{ys:List V}(R:Rep T A X.K α hs H)(hn:D∉α)(hD:H D=some (.lst ys))(r:RUs A α us ys):Rep T A X.K (α++[D]) (hs++[.lst us]) H:=by
 refine⟨⟨by simp[R.h.len],Qdy R.h.nd hn,λn a o e1 e2=>?_⟩,R.s⟩
 rcases QN e1 with q|⟨q1,q2⟩
 ·rcases QN e2 with z|⟨z,_⟩
  ·exact RO.keep (R.h.ob n a o q z) QJ λy y e y=>e
  ·have:=getElem?_lt q;rw[R.h.len]at this;omega
 ·subst q2
  rcases QN e2 with z|⟨_,z⟩
  ·have:=(Xf.mp z).1;rw[<-R.h.len]at this;omega
  ·subst z;exact⟨ys,hD,RUs.mono QJ r⟩
def RS.pad{p:Rho}{os:St}(rs:RS A α ρ Y)(hl:p.length=os.length)(hp:∀x∈p,x=none):RS A α (ρ++p) (Y++os):=by
 refine⟨by simp[rs.len,hl],λi u e=>?_⟩
 by_cases l:i < ρ.length
 ·rw[Xs l]at e;obtain⟨v,h1,h2⟩:=rs.val i u e
  exact⟨v,by rw[Xs (Xf.mp h1).1];exact h1,h2⟩
 ·rw[X3 (by omega)]at e
  cases hp _ (X0 e)
noncomputable def nN(b:Bool):Nat:=if b then 2 else 1
def QbB(b:Bool):(Qfb b).length=nN b:=by cases b<;>rfl
def JZ(b:Bool):∀x∈Qfb b,x=none:=by cases b<;>simp[Qfb]
def QhX{K:W.Frag}{b:Bool}{os:St}{Q:St->Hp->Prop}(hl:os.length=nN b)(h:gT K (tgN b Y.length) v (Y++os) H Q):
  gT K (tgN b Y.length) v (Y++os) H λσ2 H2=>(∃os':St,os'.length=nN b/\σ2=Y++os')/\Q σ2 H2:=by
 cases b with
 |false=>
  have h:Q ((Y++os).set Y.length (some v)) H:=h
  exact⟨⟨os.set 0 (some v),by simp[hl],by rw[W5 _ _ (Xe _),Ub]⟩,h⟩
 |true=>
  obtain⟨a,xs,rfl,sq,len,v1,r1,rfl,v2,r2,rfl,e,q⟩:=h
  refine⟨a,_,rfl,sq,len,v1,_,rfl,v2,_,rfl,e,⟨(os.set 0 (some v1)).set 1 (some v2),by simp[hl],?_⟩,q⟩
  rw[W5 _ _ (Xe _),Ub,W5 _ _ (Uh _)]
  congr 1
  congr 1
  omega
def Qgg{α4:List Addr}{D:Addr}{ho:HO}{H4:Hp}(E4:Ext α α4 H H4)(nD:D∉α)(d3:H D=some ho)(hnt:∀vs,ho≠.tup vs:=by intro _ z;cases z):D∉α4:=λz=>by
 obtain⟨n,hn⟩:=Ud z;by_cases l:n < α.length
 ·have e1:α[n]?=some α[n]:=Xj l;have e2:=E4.pre _ _ e1;rw[hn]at e2;cases e2;exact nD (List.getElem_mem l)
 ·rcases E4.new n D hn (by omega)with q|⟨vs,q⟩
  ·rw[d3]at q;cases q
  ·rw[d3]at q;exact hnt vs (Xn q)
def Qd4{src:Src}{b:Bool}{t:Option E}{el:E}{Y:St}{H:Hp}{Q:VK}(tx:Txt T A X.K X.mg)(hl:Y.length=X.N.length)(h:Iv.TI T A X.K (ev T cf (d+1) (.comp src b t el)) Y H Q):
  QeO (TIW T A X.K (λρ hs=>Zn T (ev T cf d) ρ src hs)) (nN b) (gT X.K (tgN b X.N.length)) (TIT T A X.K (Qcu (evT T cf d) t)) (Iv.TI T A X.K (ev T cf d el)) Y H Q:=by
 rw[<-hl];obtain⟨α,ρ,hs,u,hs',rs,R,e,q⟩:=h;simp only[ev]at e;obtain⟨w,h1,e1,e⟩:=Qb e;obtain⟨us,h2,e2,e⟩:=Qb e;cases e;refine⟨α,ρ,hs,w,h1,rs,R,e1,λα1 J H1 E1 R1 W1 D hD=>?_⟩;have rs1:=rs.mono E1.pre
 refine⟨λi m ys H2=>∃αc hc acc,RS A αc ρ Y/\Rep T A X.K αc hc H2/\D∉αc/\H2 D=some (.lst ys)/\RUs A αc acc ys/\Ext α1 αc H1 H2/\WJ A X.K αc J H2 w/\YG T (ev T cf d) (Qcu (evT T cf d) t) w b el ρ m i acc hc=some (us,h2),⟨Q6 T w h1,α1,h1,[],rs1,?_,R1.h.notIn hD,Qp,.nil,?_,W1.mono (λs s e=>e) (λb o u e=>by rw[Qe (λz=>by rw[z,hD]at e;cases e)];exact e),e2⟩,?_⟩
 ·exact R1.aside (R1.h.notIn hD) λo u z=>by rw[hD]at z;cases z
 ·exact⟨λs s e=>e,λn a e l=>by have:=getElem?_lt e;omega,λb o e s=>by rw[Qe (λz=>by rw[z,hD]at e;cases e)];exact e,λb o kv e=>by rw[Qe (λz=>by rw[z,hD]at e;cases e)];exact e,λb o e=>⟨o,by rw[Qe (λz=>by rw[z,hD]at e;cases e)];exact e,λs=>Iff.rfl⟩⟩
 rintro i m ys H2 ⟨αc,hc,acc,rsc,Rc,nD,hDl,rr,Ec,Wc,ec⟩;refine⟨hDl,?_⟩
 cases m with
 |zero=>cases ec
 |succ m=>
  simp only[YG]at ec;split at ec
  ·cases ec
  ·rename_i ei;cases ec;refine .inl ⟨QbM tx Rc Wc ei,?_⟩;have Ra:=Rc.adopt nD hDl rr
   have Ea:Ext α1 (αc++[D]) H1 H2:=⟨λn a e=>QJ n a (Ec.pre n a e),λn a e l=>by
    rcases QN e with z|⟨_,z⟩
    ·exact Ec.new n a z l
    ·rw[z];exact .inl hD,Ec.keep,Ec.fz,Ec.tr⟩
   exact q _ _ _ (E1.trans Ea Ra.h) Ra ⟨D,by rw[<-Rc.h.len];exact Q2,rfl⟩
  ·rename_i x ei;split at ec
   ·cases ec
   rename_i ρ' et;split at ec
   case isFalse=>cases ec
   rename_i small;obtain⟨c,h3,e3,ec⟩:=Qb ec
   have go:J.go i H2:=(QbN tx Rc Wc (rsc.pad (os:=List.replicate (nN b) none) (by rw[QbB];simp) (JZ b)) ei et).1
   refine .inr ⟨go,?_,λv H3 os lo yl=>?_⟩
   ·have:=rr.length;rw[sizeLine_eq];omega
   have rsn:RS A αc (ρ++Qfb b) (Y++os):=rsc.pad (by rw[QbB,lo]) (JZ b)
   obtain⟨_,stp⟩:=QbN tx Rc Wc rsn ei et;rw[rs.len]at stp;refine QhX lo (stp v H3 _ yl λσ2 rs2 R3 E3=>?_);have d3:H3 D=some (.lst ys):=E3.keep D _ hDl nD;refine TIT.run rs2 R3 e3 λα4 H4 E4 R4 rs4=>?_;have d4:H4 D=some (.lst ys):=E4.keep D _ d3 nD;have nD4:=Qgg E4 nD d3;have Et4:=(Ec.trans E3 R3.h).trans E4 R4.h
   cases c with
   |false=>
    rw[if_neg Xh]at ec ⊢;exact⟨m,W6 _,α4,h3,acc,rsc.mono E4.pre,R4,nD4,d4,RUs.mono E4.pre rr,Et4,Wc.mono E4.pre λb o u e=>E4.fz _ _ _ (E3.fz _ _ _ e),ec⟩
   |true=>
    rw[if_pos rfl]at ec ⊢;obtain⟨u',h5,e5,ec⟩:=Qb ec;refine TI.run rs4 R4 e5 λα5 y H5 E5 R5 r5 rs5=>?_;have d5:H5 D=some (.lst ys):=E5.keep D _ d4 nD4;have nD5:=Qgg E5 nD4 d4
    refine⟨d5,m,W6 _,α5,h5,acc++[u'],(rsc.mono E4.pre).mono E5.pre,R5.aside nD5 (λo u z=>by rw[d5]at z;cases z),nD5,Qp,?_,?_,(Wc.mono (λn a e=>E5.pre n a (E4.pre n a e)) λb o u e=>by rw[Qe (λz=>by rw[z,hDl]at e;cases e)];exact E5.fz _ _ _ (E4.fz _ _ _ (E3.fz _ _ _ e))),ec⟩
    ·exact Paired.snoc (RUs.mono E5.pre (RUs.mono E4.pre rr)) r5
    ·have Et:=Et4.trans E5 R5.h
     exact⟨Et.pre,Et.new,λb o e hb=>by rw[Qe (λz=>by rw[z,hD]at e;cases e)];exact Et.keep b o e hb,λb o kv e=>by rw[Qe (λz=>by rw[z,hD]at e;cases e)];exact Et.fz b o kv e,λb o e=>by
      obtain⟨o',q1,q2⟩:=Et.tr b o e
      exact⟨o',by rw[Qe (λz=>by rw[z,hD]at e;cases e)];exact q1,q2⟩⟩
end
end
section
variable {scope:Scope}
section
variable {X:Cx}{T:Tbl}{A:Adr}{C:Ctx}{cf:Cf}{m k:Nat}
def Qjg{tg it:Expr}{src:Src}{d:Nat}(g:GX T A C X)(S:Snd T A C X cf m)(h:compSrc (m+1) C it=some src)(hz:QlA src=true->∃elts kt pt,tg=.Tuple elts kt pt):PI X tg it (TIW T A X.K (λρ hs=>Zn T (ev T cf d) ρ src hs)):=by
 have seq:∀{it:Expr} {src:Src},(Qf m C it).map Src.seq=some src->PI X tg it (TIW T A X.K (λρ hs=>Zn T (ev T cf d) ρ src hs)):=by
  intro it src h;simp only[Xc]at h;obtain⟨ir,hi,rfl⟩:=h;exact QjP g.txt (S.e d it ir hi)
 simp only[compSrc]at h;split at h
 ·rename_i f p args q;split at h
  case isFalse=>cases h
  rename_i hg;split at h
  ·exact seq h
  ·split at h
   ·cases h
   rename_i hx;split at h
   ·rename_i e;subst e;split at h
    ·rename_i a;simp only[Xc]at h;obtain⟨a',ha,rfl⟩:=h;exact QjQ (Q0 g hg) (g.blt _ hx) (QM ha) (S.e d a a' ha)
    ·rename_i a b c;simp only[Xc]at h;obtain⟨es,ha,rfl⟩:=h;exact Qho (Q0 g hg) (g.blt _ hx) (Ql ha) (S.a d _ es ha)
    ·cases h
   ·split at h
    ·rename_i e;subst e;split at h
     ·rename_i a b;simp only[Xd,Xc]at h;obtain⟨a',ha,b',hb,rfl⟩:=h;obtain⟨elts,kt,pt,rfl⟩:=hz rfl;exact Qhm g.txt (Q0 g hg) (g.blt _ hx) (QM ha) (QM hb) (S.e d a a' ha) (S.e d b b' hb)
     ·cases h
    ·split at h
     ·rename_i e;subst e;split at h
      ·rename_i a;simp only[Xc]at h;obtain⟨a',ha,rfl⟩:=h;obtain⟨elts,kt,pt,rfl⟩:=hz rfl;exact Qhr g.txt (Q0 g hg) (g.blt _ hx) (QM ha) (S.e d a a' ha)
      ·cases h
     ·exact seq h
 ·exact seq h
def QbG{it:Expr}{src:Src}{env:Env}(h:compSrc m C it=some src):∀x,foldedSetIterable it env x=pure x:=by
 intro x
 cases it<;>first|rfl|skip
 cases m with
 |zero=>simp[compSrc]at h
 |succ m=>
  simp only[compSrc,Xc]at h;obtain⟨_,h,_⟩:=h
  cases m<;>first|exact Znn h|simp[Qf]at h
def ZM{xs:List Str}(g:GX T A C X)(h:Jb C xs scope=true):CompOk X xs scope/\∀C0 s H fp,GX T A (C.inner xs scope) (X.block xs scope C0 s H fp):=by
 unfold Jb at h;simp only[Xg,We,Xw,Vw,Xq]at h;obtain⟨⟨⟨⟨h1,h2⟩,hd⟩,h3⟩,h5⟩:=h
 have nd:(".0":Str)∉X.N:=λz=>by
  rw[g.N]at z;rw[Vi.mpr z]at h5;cases h5
 refine⟨⟨h1,λx hx=>(h2 x hx).1,λy hy=>?_,λx hx=>(h2 x hx).2,(List.nodup_append.mp hd).2.1,nd⟩,λC0 s H fp=>?_⟩
 ·have:=h3 y hy;obtain⟨n,kd⟩:=y
  cases kd with
  | «local»=>
   simp only[Xg,V4,Xq,We,Vi]at this;exact⟨λw=>this,(λz=>nomatch z),λz=>nomatch z⟩
  |cell=>cases this
  |free=>
   simp only[V4,We]at this;rw[<-g.sc]at this;exact⟨(λz=>nomatch z),(λz=>nomatch z),λw=>this⟩
  |_=>exact⟨(λz=>nomatch z),(λz=>nomatch z),λz=>nomatch z⟩
 ·refine⟨g.CT,?_,?_,?_,g.calm,h1,rfl,g.gfn,g.gcl,g.gco,g.gtx,g.blt,g.txt,g.tab⟩
  ·show hideN xs X.N++xs=hideN xs C.N++xs;rw[g.N]
  ·show(hideN xs X.N++xs).Nodup;rw[g.N];exact hd
  ·show(relabel scope X.env).names=relN C.names scope.names;rw[QY g.kind,g.sc]
def Qby{tg:Expr}{b:Bool}{xs:List Str}{C0:Addr}{s:Shared}{H:Hp}{fp:List Addr}(g:GX T A C X)(hh:hdC C=false)(k:CompOk X xs scope)(gb:GX T A (C.inner xs scope) (X.block xs scope C0 s H fp))(h:QlK tg b xs):PG (X.block xs scope C0 s H fp) tg (gT X.K (tgN b X.N.length)):=by
 have nm:∀{x:Str} {p:Pos} {i:Nat},x∈xs->(hideN xs X.N++xs)[i]?=some x->PG (X.block xs scope C0 s H fp) (.Name x p) (Qad i):=λ{x p i} hx hi=>by
  have loc:(X.block xs scope C0 s H fp).env.scope.names.lookup x=some .local:=by
   show(relabel scope X.env).names.lookup x=some .local;rw[QY g.kind,Zv,k.loc x hx];rfl
  exact ZO gb.nd hi (.inl loc) (.inr loc)
 rcases h with⟨rfl,x,p,rfl,rfl⟩|⟨rfl,x,p,y,q,kt,pt,rfl,rfl⟩
 ·exact nm (by simp) (by rw[<-ZK (xs:=[x])];simp)
 ·refine JY (gb.calm hh) (Zp (nm (by simp) (by rw[<-ZK (xs:=[x,y])];simp)) (Zp (nm (by simp) ?_) Jk))
  rw[<-ZK (xs:=[x,y]),X3 (by omega)]
  simp
def CompParts(X:Cx)(elt:Expr)(gens:List Comprehension)(scope:Scope)(t:TE):Prop:=∃tg iter tl xs n wi g tt te,gens=[⟨tg,iter,Option.toList tl,0⟩]/\CompOk X xs scope/\PI X tg iter wi/\xs.length=n/\(∀C s H fp,PG (X.block xs scope C s H fp) tg g)/\(∀C s H fp,PTO (X.block xs scope C s H fp) tl tt)/\(∀C s H fp,PE (X.block xs scope C s H fp) elt te) /\
 (∀v,foldedSetIterable iter X.env v=pure v)/\∀Y H Q,Y.length=X.N.length->t Y H Q->QeO wi n g tt te Y H Q
def CompParts.pe{elt:Expr}{gens:List Comprehension}{pos:Pos}{t:TE}(hc:X.calm=true)(h:CompParts X elt gens scope t):PE X (.ListComp elt gens scope pos) t:=by
 obtain⟨tg,iter,tl,xs,n,wi,gg,tt,te,rfl,ok,hi,hn,hg,ht,he,hf,imp⟩:=h;intro pins s Y H Q I q;exact Qdo hc ok hi hn hg ht he hf pins s Y H Q I (imp Y H Q I.len q)
end
end
section
variable {ir:E}{d:Nat}{p:Pos}
section
variable {X:Cx}{T:Tbl}{A:Adr}{C:Ctx}{cf:Cf}{m k:Nat}
def Qc1{b:Expr}(h:Qlu b=none):ZH b=true:=by
 cases b with
 |Slice lo hi st p=>
  cases st with
  |none=>cases h
  |some e=>
   cases h
 |_=>rfl
def QeS{b:Expr}{lo hi:Option Expr}(h:Qlu b=some (.cut lo hi)):∃p,b=.Slice lo hi none p:=by
 cases b with
 |Slice lo' hi' st p=>
  cases st with
  |none=>cases h;exact⟨p,rfl⟩
  |some e=>
   cases h
 |_=>cases h
def QaC{a b:Expr}(g:GX T A C X)(hu:X.A.units+1<cLine)(S:Snd T A C X cf m)(h:Qf (m+1) C (.Subscript a b p)=some ir):PE X (.Subscript a b p) (TI T A X.K (ev T cf d ir)):=by
 simp only[QpB]at h;split at h
 ·rename_i lo hi hb;obtain⟨p2,rfl⟩:=QeS hb;exact Qg3 S h
 ·cases h
 ·rename_i hb;have hs:=Qc1 hb;refine QE λd=>?_;simp only[Xd]at h;obtain⟨b',hb',h⟩:=h;obtain⟨a',ha,h⟩:=h;cases h;exact QhQ hu g.txt (S.e d a a' ha) (S.e d b b' hb') hs
def hd0{C:Ctx}(h:¬hdC C=true):hdC C=false:=by
 cases q:hdC C with
 |true=>exact absurd q h
 |false=>rfl
def Qko{elt:Expr}{gens:List Comprehension}{scope:Scope}(h:Qf (m+1) C (.ListComp elt gens scope p)=some ir):hdC C=false:=by
 simp only[Qon]at h;split at h
 case h_2=>cases h
 split at h
 case isFalse=>cases h
 rename_i ok;simp only[Xg,Vw]at ok;exact ok.2
def Qb9{f:Expr}{args:List Expr}{kws:List Keyword}(g:GX T A C X)(F:Fc X T A cf k)(hr:hdC C=false->Room (k+1) X.A)(hu:X.A.units+64<cLine)(S:Snd T A C X cf m)(h:Qf (m+1) C (.Call f args kws p)=some ir):PE X (.Call f args kws p) (TI T A X.K (ev T cf d ir)):=by
 refine QE λd=>?_
 cases kws with
 |cons kw kws=>cases f<;>exact Znn h
 |nil=>
  cases f with
  |Name x px=>
   simp only[Qpz]at h;split at h
   ·cases h
   rename_i hn;have n1:x≠"__debug__":=λz=>hn (.inl z);have n2:x≠"__name__":=λz=>hn (.inr (.inl z))
   have hg:Zz C x=true:=by
    cases q:Zz C x with
    |true=>rfl
    |false=>exact absurd (.inr (.inr q)) hn
   split at h
   ·rename_i i hx;split at h
    ·cases h
    rename_i hh;simp only[Xd]at h;obtain⟨es,ha,h⟩:=h;exact Qg7 g F ((hr (hd0 hh)).mono (Uh _)) S hg n1 hx ha h
   ·rename_i i hx;split at h
    ·cases h
    rename_i hh;simp only[Xd]at h;obtain⟨es,ha,h⟩:=h;cases h;exact Qjm g F (hr (hd0 hh)) S hg n1 hx ha
   ·cases h
   ·cases h
   ·split at h
    ·cases h
    rename_i hx;split at h
    ·rename_i e;subst e;split at h
     ·rename_i a t pt;split at h
      ·rename_i c;simp only[Xd]at h;obtain⟨a',ha,ty,ht,h⟩:=h;cases h;exact Qmg g S hg hx c.1 c.2.1 c.2.2 ht ha
      ·cases h
     ·cases h
    ·split at h
     ·cases h
     rename_i hh;have hh:=hd0 hh;simp only[Xd]at h;obtain⟨b,hb,es,ha,h⟩:=h;cases h
     exact QoV g hh (by omega) S hg n1 n2 hb ha
  |Attribute o x pa=>
   simp only[Qpy]at h;split at h
   case isFalse=>cases h
   rename_i c;simp only[Xg,Xq]at c;split at h
   ·rename_i i hx;split at h
    ·cases h
    rename_i hh;simp only[Xd]at h;obtain⟨o',ho,es,ha,h⟩:=h;cases h;exact Qjl g F ((hr (hd0 hh)).mono (Uh _)) S c.1.1 c.1.2 c.2 hx ho ha
   ·simp only[Xd]at h;obtain⟨b,hb,o',ho,es,ha,h⟩:=h;cases h
    exact QoU (by omega) g.txt S hb c.1.1 c.1.2 c.2 ho ha
  |_=>exact Znn h
def Qc4(g:GX T A C X)(F:Fc X T A cf k)(hr:hdC C=false->Room (k+1) X.A)(hu:X.A.units+64<cLine)(S:Snd T A C X cf m)(cp:∀d elt gens scope p ir,Qf (m+1) C (.ListComp elt gens scope p)=some ir->CompParts X elt gens scope (TI T A X.K (ev T cf d ir)))(d:Nat)(e:Expr)(ir:E)(h:Qf (m+1) C e=some ir):PE X e (TI T A X.K (ev T cf d ir)):=by
 cases e with
 |Constant c j p=>exact Qg6 h
 |Name x p=>exact Qjk g h
 |BinOp a o b p=>exact Qmi S h
 |UnaryOp o a p=>
  cases o with
  |USub=>exact Qmf S h
  |Not=>exact(Qjj g.txt S h).1
  |_=>exact Znn h
 |BoolOp o vs p=>
  cases vs with
  |nil=>cases o<;>first|exact Znn h|simp[Qf]at h
  |cons a r=>
   cases o with
   |And=>exact(S.an d a r p ir h).2
   |Or=>exact(S.orr d a r p ir h).2
 |Compare a os bs p=>
  match os,bs,h with
  |[o],[b],h=>exact(Qjo g.txt g.tab hu S h).1
  |[_,_],[_,_],h=>exact Znn h
  |[],_,h=>exact Znn h
  |[_],[],h=>exact Znn h
  |[_],_::_::_,h=>exact Znn h
  |[_,_],[],h=>exact Znn h
  |[_,_],[_],h=>exact Znn h
  |[_,_],_::_::_::_,h=>exact Znn h
  |_::_::_::_,_,h=>exact Znn h
 |IfExp t a b p=>exact Qg5 S h
 |Tuple es j p=>exact Qg1 S h
 |List es p=>exact Qjn S h
 |Subscript a b p=>exact QaC g (by omega) S h
 |ListComp elt gens scope p=>exact(cp d elt gens scope p ir h).pe (g.calm (Qko h))
 |Attribute a f p=>exact Qjp g S h
 |Call f args kws p=>exact Qb9 g F hr hu S h
 |_=>exact Znn h
def QZ{e:Expr}(g:GX T A C X)(he:∀whole,isTrue e X.env whole=(do let v <-whole;standAt e.pos;holding [v] (truthy v)))(h:∀d,PE X e (TI T A X.K (ev T cf d ir)))(hir:∀d ρ hs,evT T cf (d+1) ir ρ hs=bd (ev T cf d ir ρ hs) λu h1=>(JI T u h1).map λb=>(b,h1)):
  PT X e (TIT T A X.K (evT T cf d ir)):=by
 refine Qbs λd=>?_;refine Qio (Qe1 (h d) he) ?_;rintro Y H Q ⟨α,ρ,hs,u,hs',rs,R,e,q⟩;rw[hir]at e;obtain⟨u1,h1,e1,e⟩:=Qb e;simp only[Xc]at e;obtain⟨b,e2,e⟩:=e;cases e;exact TI.run rs R e1 λα1 x H1 E1 R1 r1 rs1=>⟨_,QcW g.txt R1 e2 r1,q α1 H1 E1 R1⟩
def QL(h:Qdk ir=true):∀d ρ hs,evT T cf (d+1) ir ρ hs=bd (ev T cf d ir ρ hs) λu h1=>(JI T u h1).map λb=>(b,h1):=by
 intro d ρ hs
 cases ir<;>first|rfl|cases h
def Qje(g:GX T A C X)(F:Fc X T A cf k)(hr:hdC C=false->Room (k+1) X.A)(hu:X.A.units+64<cLine)(S:Snd T A C X cf m)(cp:∀d elt gens scope p ir,Qf (m+1) C (.ListComp elt gens scope p)=some ir->CompParts X elt gens scope (TI T A X.K (ev T cf d ir)))(d:Nat)(e:Expr)(ir:E)(hne:∀t a b p,e≠.IfExp t a b p)(ok:okT e ir=true)(h:Qf (m+1) C e=some ir):PT X e (TIT T A X.K (evT T cf d ir)):=by
 have all:=λd=>Qc4 g F hr hu S cp d e ir h
 cases e with
 |Constant c j p=>exact QZ g (λz=>rfl) all (QL ok)
 |Name x p=>exact QZ g (λz=>rfl) all (QL ok)
 |BinOp a o b p=>exact QZ g (λz=>rfl) all (QL ok)
 |UnaryOp o a p=>
  cases o with
  |USub=>exact QZ g (λz=>rfl) all (QL ok)
  |Not=>exact(Qjj g.txt S h).2
  |_=>exact Znn h
 |BoolOp o vs p=>
  cases vs with
  |nil=>cases o<;>first|exact Znn h|simp[Qf]at h
  |cons a r=>
   cases o with
   |And=>exact(S.an d a r p ir h).1.pt
   |Or=>exact(S.orr d a r p ir h).1.pt
 |Compare a os bs p=>
  match os,bs,h with
  |[o],[b],h=>exact(Qjo g.txt g.tab hu S h).2
  |[_,_],[_,_],h=>exact Znn h
  |[],_,h=>exact Znn h
  |[_],[],h=>exact Znn h
  |[_],_::_::_,h=>exact Znn h
  |[_,_],[],h=>exact Znn h
  |[_,_],[_],h=>exact Znn h
  |[_,_],_::_::_::_,h=>exact Znn h
  |_::_::_::_,_,h=>exact Znn h
 |IfExp t a b p=>exact absurd rfl (hne t a b p)
 |Tuple es j p=>exact QZ g (λz=>rfl) all (QL ok)
 |List es p=>exact QZ g (λz=>rfl) all (QL ok)
 |Subscript a b p=>exact QZ g (λz=>rfl) all (QL ok)
 |ListComp elt gens scope p=>exact QZ g (λz=>rfl) all (QL ok)
 |Dict ks vs p=>exact QZ g (λz=>rfl) all (QL ok)
 |Attribute a f p=>exact QZ g (λz=>rfl) all (QL ok)
 |Call f args kws p=>exact QZ g (λz=>rfl) all (QL ok)
 |_=>exact Znn h
def QoO:Snd T A C X cf 0 where
 e:=λd e ir h=>by first|exact Znn h|simp[Qf]at h
 t:=λd e ir h=>by simp[compT]at h
 an:=λd a r p ir h=>by simp[compAnd]at h
 orr:=λd a r p ir h=>by simp[compOr]at h
 a:=λd es irs h=>by simp[compA]at h
 o:=λd e ir h=>by simp[compO]at h
structure Snd2(T:Tbl)(A:Adr)(C:Ctx)(X:Cx)(cf:Cf)(m:Nat):Prop where
 s:Snd T A C X cf m
 w:∀d it src tg,compSrc m C it=some src->(QlA src=true->∃elts kt pt,tg=.Tuple elts kt pt)->PI X tg it (TIW T A X.K (λρ hs=>Zn T (ev T cf d) ρ src hs))
 c:∀d elt gens scope p ir,Qf m C (.ListComp elt gens scope p)=some ir->CompParts X elt gens scope (TI T A X.K (ev T cf d ir))
def QjH{tl:Option Expr}{t:Option E}{Yyy:Cx}{C':Ctx}(S:Snd T A C' Yyy cf m)(h:compTO (m+1) C' tl=some t):PTO Yyy tl (TIT T A Yyy.K (Qcu (evT T cf d) t)):=by
 cases tl with
 |none=>
  simp only[compTO]at h;cases h;rintro Y H Q ⟨α,ρ,hs,u,hs',rs,R,e,q⟩;simp only[Qcu]at e;cases e;exact q α H Ext.refl R
 |some e=>
  simp only[compTO,Xd]at h;obtain⟨e',he,h⟩:=h;cases h;exact(S.t d e e' he).1
def QcX{tg:Expr}{b:Bool}{xs:List Str}{src:Src}(ht:QlK tg b xs)(ok:QaO src (tgN b 0)=true):QlA src=true->∃elts kt pt,tg=.Tuple elts kt pt:=by
 intro hp
 rcases ht with⟨rfl,_⟩|⟨rfl,x,p,y,q,k,pt,rfl,_⟩
 ·cases src<;>first|(cases hp;done)|(cases ok;done)
 ·exact⟨_,_,_,rfl⟩
def Y9(g:GX T A C X)(S:Snd2 T A C X cf m)(SB:∀xs scope C0 s H fp,Jb C xs scope=true->Snd2 T A (C.inner xs scope) (X.block xs scope C0 s H fp) cf m)(ST:∀xs scope C0 s H fp tl t d,Jb C xs scope=true->compTO m (C.inner xs scope) tl=some t->PTO (X.block xs scope C0 s H fp) tl (TIT T A X.K (Qcu (evT T cf d) t)))(d:Nat)(elt:Expr)(gens:List Comprehension)(scope:Scope)(p:Pos)(ir:E)
  (h:Qf (m+1) C (.ListComp elt gens scope p)=some ir):CompParts X elt gens scope (TI T A X.K (ev T cf d ir)):=by
 simp only[Qon]at h;split at h
 case h_2=>cases h
 rename_i gn hgen;split at h
 case isFalse=>cases h
 rename_i ok;simp only[Xg,Vw]at ok;obtain⟨ok,hh⟩:=ok;simp only[Xd]at h;obtain⟨src,hsrc,h⟩:=h;split at h
 case isFalse=>cases h
 rename_i oks;simp only[Xd]at h;obtain⟨t,ht,el,hel,h⟩:=h;cases h;obtain⟨tg,rfl,htg⟩:=Qcs hgen;obtain⟨ck,gb⟩:=ZM g ok
 have hn:gn.xs.length=nN gn.b:=by
  rcases htg with⟨e,x,p,_,e'⟩|⟨e,x,p,y,q,k,pt,_,e'⟩<;>rw[e,e']<;>rfl
 cases d with
 |zero=>
  exact⟨tg,gn.iter,gn.tl,gn.xs,nN gn.b,_,_,TIT T A X.K (Qcu (evT T cf 0) t),TI T A X.K (ev T cf 0 el),rfl,ck,S.w 0 gn.iter src tg hsrc (QcX htg oks),hn,(λC0 s H fp=>Qby g hh ck (gb C0 s H fp) htg),(λC0 s H fp=>ST _ _ C0 s H fp _ _ 0 ok ht),(λC0 s H fp=>show PE _ elt (TI T A X.K (ev T cf 0 el))from(SB _ scope C0 s H fp ok).s.e 0 elt el hel),QbG hsrc,λY H Q z v=>by obtain⟨_,_,_,_,_,_,_,e,_⟩:=v;exact nomatch e⟩
 |succ d=>
  exact⟨tg,gn.iter,gn.tl,gn.xs,nN gn.b,_,_,TIT T A X.K (Qcu (evT T cf d) t),TI T A X.K (ev T cf d el),rfl,ck,S.w d gn.iter src tg hsrc (QcX htg oks),hn,(λC0 s H fp=>Qby g hh ck (gb C0 s H fp) htg),(λC0 s H fp=>ST _ _ C0 s H fp _ _ d ok ht),(λC0 s H fp=>show PE _ elt (TI T A X.K (ev T cf d el))from(SB _ scope C0 s H fp ok).s.e d elt el hel),QbG hsrc,λY H Q hl hq=>Qd4 g.txt hl hq⟩
theorem QeR:∀(m:Nat) {C:Ctx} {X:Cx},GX T A C X->Fc X T A cf k->(hdC C=false->Room (k+1) X.A)->X.A.units+64<cLine->Snd2 T A C X cf m
 |0,C,X,g,F,hr,hu=>⟨QoO,λd it src tg h=>by simp[compSrc]at h,λd elt gens scope p ir h=>by first|exact Znn h|simp[Qf]at h⟩
 |1,C,X,g,F,hr,hu=>by
  have S0:=QeR 0 g F hr hu;have S:=S0.s
  have cp:=Y9 g S0 (λx scope C0 s H fp ok=>QeR 0 ((ZM g ok).2 C0 s H fp) ⟨F.ok,F.some,F.df,F.xf⟩ hr hu) (λxs scope C0 s H fp tl t d ok h=>by simp[compTO]at h)
  refine⟨⟨Qc4 g F hr hu S cp,λd e ir h=>?_,Qjq S,QnR S,Qgc S,Qji S⟩,λd it src tg h hz=>Qjg g S h hz,cp⟩;cases e<;>exact Znn h
 |m+2,C,X,g,F,hr,hu=>by
  have S1:=QeR (m+1) g F hr hu;have S:=S1.s;have S':=QeR m g F hr hu;have cp:=Y9 g S1 (λx scope C0 s H fp ok=>QeR (m+1) ((ZM g ok).2 C0 s H fp) ⟨F.ok,F.some,F.df,F.xf⟩ hr hu) (λxs scope C0 s H fp tl t d ok h=>QjH (QeR m ((ZM g ok).2 C0 s H fp) ⟨F.ok,F.some,F.df,F.xf⟩ hr hu).s h);refine⟨⟨Qc4 g F hr hu S cp,λd e ir h=>?_,Qjq S,QnR S,Qgc S,Qji S⟩,λd it src tg h hz=>Qjg g S h hz,cp⟩
  have hne:∀t a b p,e≠.IfExp t a b p:=by
   rintro t a b p rfl;simp[compT]at h
  have h':((Qf (m+1) C e).bind λir=>if okT e ir=true then some ir else none)=some ir:=by
   cases e<;>first|exact h|(simp[compT]at h;done)
  simp only[Xd]at h';obtain⟨ir',he,h'⟩:=h';split at h'
  ·rename_i ok;cases h';exact⟨Qje g F hr hu S'.s S1.c d e ir hne ok he,S.e d e ir he⟩
  ·cases h'
end
end
section
variable {ir:E}{env:Env}{e i o tg:Expr}{fl:Fl}{H:Hp}{hs:Hs}{α:List Addr}{es ts:List Expr}{us:List U}{d l:Nat}{r:Option (List U)}{p:Pos}{ρ':Rho}{st:Stmt}{x:Str}{t:Tg}
section
variable {X:Cx}{T:Tbl}{A:Adr}{C:Ctx}{cf:Cf}{m k:Nat}
def Zs{t:TS}(h:∀D Y H,¬t D Y H):PS X st t:=λz z Y H D z q=>(h D Y H q).elim
def ZN{st:List Stmt}{t:TS}(h:∀D Y H,¬t D Y H):PSs X st t:=λz z Y H D z q=>(h D Y H q).elim
def Qdw{tg:Option Expr}(h:Qf m C e=some ir)(hn:∀elt gens scope p,e≠.ListComp elt gens scope p):swapsWith e tg l env=pure false:=by
 cases e<;>first|rfl|exact absurd rfl (hn _ _ _ _)|(cases m<;>exact Znn h)
def QhI{f:Str}(h:Qf m C e=some ir):swapsWith e (some (.Attribute o f p)) l env=pure false:=by
 cases e<;>first|rfl|(cases m<;>exact Znn h)
def QnQ(hc:X.calm=true)(g:GX T A C X)(fl:∀x,X.fn x=true\/X.env.scope.names.lookup x=some .local)(h:Z0 C tg=some t):PG X tg (gT X.K t):=by
 have nm:∀{x:Str} {p:Pos} {i:Nat},YD C x=true->idx x C.N=some i->PG X (.Name x p) (Qad i):=λ{x p i} h1 h2=>ZO g.nd (by rw[g.N];exact QU h2) (Y5 g h1) (fl x)
 unfold Z0 at h;split at h
 ·split at h
  ·rename_i hl;simp only[Xc]at h;obtain⟨i,hi,rfl⟩:=h;exact nm hl hi
  ·cases h
 ·split at h
  ·rename_i c;simp only[Xg]at c;simp only[Xd,Xc]at h;obtain⟨i,hi,j,hj,rfl⟩:=h;exact JY hc (Zp (nm c.1.1 hi) (Zp (nm c.1.2 hj) Jk))
  ·cases h
 ·cases h
def QcA{pos:Pos}(h:ZH i=true):∀v,assign (.Subscript o i pos) env v=(do
   let ov <-holding [v] (eval o env);let iv <-holding [v,ov] (eval i env)
   standAt pos
   holding [v,ov,iv] (setItem ov iv v)
   release [v,ov,iv] []):=by
 intro v
 cases i<;>first|rfl|cases h
def QhH(h:Qf m C e=some ir):swapsWithSole [.Subscript o i p] e l env=pure false:=by
 cases e<;>first|rfl|(cases m<;>exact Znn h)
def Qdv{kt:Nat}(h:Qf m C e=some ir):swapsWithSole [.Tuple es kt p] e l env=pure false:=by
 cases e<;>first|rfl|(cases m<;>exact Znn h)
def ZV{kt:Nat}(h:Qdt e=true):swappedStores [.Tuple es kt p] e env=pure none:=by
 cases e<;>first|rfl|cases h
def QfB(h:Qnb e=some true):∃x j q,e=.Constant (.str x) j q:=by
 cases e with
 |Constant c j q=>cases c<;>first|exact⟨_,_,_,rfl⟩|cases h
 |_=>cases h
def Yj{a:As}(h:Qew ts=some a):∃t,ts=[t]/\as1 t=some a:=by
 match ts,h with
 |[t],h=>exact⟨t,rfl,h⟩
def Qa2(h:Qew ts=some (.nm x)):∃p,ts=[.Name x p]:=by
 obtain⟨t,rfl,h'⟩:=Yj h;clear h;have h:=h';clear h';unfold as1 at h;split at h
 ·cases h;exact⟨_,rfl⟩
 ·cases h
 ·cases h
 ·split at h
  ·unfold Qb3 at h;split at h<;>cases h
  all_goals cases h
 ·cases h
def Qim{f:Str}(h:Qew ts=some (.at o f)):∃p,ts=[.Attribute o f p]:=by
 obtain⟨t,rfl,h'⟩:=Yj h;clear h;have h:=h';clear h';unfold as1 at h;split at h
 ·cases h
 ·cases h;exact⟨_,rfl⟩
 ·cases h
 ·split at h
  ·unfold Qb3 at h;split at h<;>cases h
  all_goals cases h
 ·cases h
def QfR(h:Qew ts=some (.sub o i)):∃p,ts=[.Subscript o i p]:=by
 obtain⟨t,rfl,h'⟩:=Yj h;clear h;have h:=h';clear h';unfold as1 at h;split at h
 ·cases h
 ·cases h
 ·cases h;exact⟨_,rfl⟩
 ·split at h
  ·unfold Qb3 at h;split at h<;>cases h
  all_goals cases h
 ·cases h
def QfQ{y:Str}{q:Pos}(h:Qew ts=some (.two x p y q)):∃kt pt,ts=[.Tuple [.Name x p,.Name y q] kt pt]:=by
 obtain⟨t,rfl,h'⟩:=Yj h;clear h;have h:=h';clear h';unfold as1 at h;split at h
 ·cases h
 ·cases h
 ·cases h
 ·split at h
  ·unfold Qb3 at h;split at h
   ·cases h;exact⟨_,_,rfl⟩
   ·cases h
  all_goals cases h
 ·cases h
def Qev(h:Qew ts=some (.many es)):∃kt pt,ts=[.Tuple es kt pt]:=by
 unfold Qew at h;split at h
 ·rename_i t;unfold as1 at h;split at h
  ·cases h
  ·cases h
  ·cases h
  ·rename_i es' kt pt;split at h
   ·unfold Qb3 at h;split at h<;>cases h
   ·cases h;exact⟨kt,pt,rfl⟩
   ·cases h;exact⟨kt,pt,rfl⟩
   ·cases h
  ·cases h
 ·cases h
def ZJ(h:ZY C x=true):C.names.lookup x=some .local:=by
 unfold ZY at h;split at h
 ·rename_i e;exact e
 ·cases h
noncomputable def QlB:List Nat->TGs
 |[]=>Qm9
 |i::is=>Qfz (Qad i) (QlB is)
def Y3{r:List Expr}{is:List Nat}(h:Jp C (e::r)=some is):∃x p i is',e=.Name x p/\YD C x=true/\idx x C.N=some i/\Jp C r=some is'/\is=i::is':=by
 unfold Jp at h;split at h
 ·rename_i x p;split at h
  ·rename_i l;simp only[Xd,Xc]at h;obtain⟨i,hi,is',h1,rfl⟩:=h;exact⟨x,p,i,is',rfl,l,hi,h1,rfl⟩
  ·cases h
 ·cases h
theorem QaL(g:GX T A C X)(fl:∀x,X.fn x=true\/X.env.scope.names.lookup x=some .local):∀{es:List Expr} {is:List Nat},Jp C es=some is->PGs X es (QlB is)
 |[],_,h=>by cases h;exact Jk
 |e::r,is,h=>by
  obtain⟨x,p,i,is',rfl,l,hi,h1,rfl⟩:=Y3 h
  have ix:X.N[i]?=some x:=by rw[g.N];exact QU hi
  exact Zp (ZO g.nd ix (Y5 g l) (fl x)) (QaL g fl h1)
theorem Jo{env:Env}:∀{es:List Expr} {is:List Nat},Jp C es=some is->(assignEach es env).length=is.length/\(assignEach es env).findIdx? (·.1)=none
 |[],_,h=>by cases h;exact⟨rfl,rfl⟩
 |e::r,is,h=>by
  obtain⟨x,p,i,is',rfl,l,hi,h1,rfl⟩:=Y3 h;obtain⟨a,b⟩:=Jo (env:=env) h1;have e:assignEach (.Name x p::r) env=(false,assign (.Name x p) env)::assignEach r env:=rfl;rw[e]
  exact⟨congrArg (· + 1) a,by rw[List.findIdx?_cons,b];rfl⟩
theorem Qdx{α:List Addr}{H:Hp}{Q:St->Hp->Prop}:∀{is:List Nat} {us:List U} {vs:List V} {ρ ρ':Rho} {Y:St},Qir is us ρ=some ρ'->RUs A α us vs->RS A α ρ Y->(∀σ2,RS A α ρ' σ2->Q σ2 H)->QlB is vs Y H Q/\vs.length=is.length
 |[],[],_,_,_,_,h,.nil,rs,k=>by cases h;exact⟨⟨rfl,k _ rs⟩,rfl⟩
 |i::is,u::us,v::vs,_,_,_,h,.cons r t,rs,k=>by
  obtain⟨w,l⟩:=Qdx (is:=is) (us:=us) h t (rs.set i r) k;exact⟨⟨v,vs,rfl,w⟩,congrArg (· + 1) l⟩
 |[],_::_,_,_,_,_,h,_,_,_=>nomatch (show none=some _ from h)
 |_::_,[],_,_,_,_,h,_,_,_=>nomatch (show none=some _ from h)
theorem RUs.set{u:U}{v:V}(p:Nat)(r:RU A α u v):∀{us:List U} {vs:List V},RUs A α us vs->RUs A α (us.set p u) (vs.set p v):=λ{us vs} h=>by
 induction h generalizing p with
 |nil=>exact .nil
 |cons a t ih=>
  cases p with
  |zero=>exact .cons r t
  |succ p=>exact .cons a (ih p)
def Qf7{src:Src}(ht:Z0 C tg=some t)(ok:QaO src t=true):QlA src=true->∃elts kt pt,tg=.Tuple elts kt pt:=by
 intro hp
 cases tg with
 |Tuple elts kt pt=>exact⟨_,_,_,rfl⟩
 |Name x p=>
  simp only[Z0]at ht;split at ht
  ·simp only[Xc]at ht;obtain⟨i,_,rfl⟩:=ht
   cases src<;>first|(cases hp;done)|(cases ok;done)
  ·cases ht
 |_=>simp[Z0]at ht
structure SndS(T:Tbl)(A:Adr)(C:Ctx)(X:Cx)(cf:Cf)(m:Nat):Prop where
 s:∀d st ir,QO m C st=some ir->PS X st (TIS T A X.K (ex T cf d ir))
 ss:∀d sts irs,compSs m C sts=some irs->PSs X sts (TIS T A X.K (exs T cf d irs))
def SndS.sB(SS:SndS T A C X cf m)(d:Nat)(st:Stmt):PS X st (TIS T A X.K (ex T cf d (Qlb (QO m C st)))):=by
 cases e:QO m C st with
 |some ir=>exact SS.s d st ir e
 |none=>exact Zs λD Y H y=>by obtain⟨_,_,_,_,_,_,_,_,z,_⟩:=y;cases d<;>simp[Qlb,ex]at z
def QmE{K:W.Frag}{ir:S}:∀D Y H,¬TIS T A K (ex T cf 0 ir) D Y H:=λz z z y=>by obtain⟨_,_,_,_,_,_,_,_,h,_⟩:=y;exact nomatch h
def Qgh{K:W.Frag}{irs:List S}:∀D Y H,¬TIS T A K (exs T cf 0 irs) D Y H:=λz z z y=>by obtain⟨_,_,_,_,_,_,_,_,h,_⟩:=y;exact nomatch h
def Qbu{ir:S}(h:∀d',PS X st (TIS T A X.K (ex T cf (d'+1) ir))):PS X st (TIS T A X.K (ex T cf d ir)):=by
 cases d with
 |zero=>exact Zs QmE
 |succ d=>exact h d
def TIS.run{K:W.Frag}{ρ:Rho}{Y:St}{h1:Hs}{f:Ex}{D:Ends}(rs:RS A α ρ Y)(rp:Rep T A K α hs H)(h:f ρ hs=some (fl,ρ',h1))
  (k:∀α1 σ1 H1,Ext α α1 H H1->Rep T A K α1 h1 H1->RS A α1 ρ' σ1->flE A α1 D σ1 H1 fl):TIS T A K f D Y H:=⟨α,ρ,hs,fl,ρ',h1,rs,rp,h,k⟩
def QfA{body:List S}{w:Wk}{J:It}{K:PySem.W.Frag}{D:Ends}{α0:List Addr}{H0:Hp}{σ0:St}{ρ0:Rho}{h0 hs':Hs}{n:Nat}(hK:K=X.K)(tx:Txt T A X.K X.mg)(rs0:RS A α0 ρ0 σ0)(R0:Rep T A X.K α0 h0 H0)(W0:WJ A X.K α0 J H0 w)
  (e0:Qct T w t (exs T cf d body) n 0 ρ0 h0=some (fl,ρ',hs'))
  (q:∀α' Y' H',Ext α0 α' H0 H'->Rep T A X.K α' hs' H'->RS A α' ρ' Y'->flE A α' D Y' H' fl):
  ∃W:Nat->Nat->St->Hp->Prop,(∃m,W 0 m σ0 H0)/\∀i m Y H,W i m Y H->(J.stop i H/\D.nx Y H)\/(J.go i H/\∃N:St->Hp->Prop,(∀Y' H',N Y' H'->∃m',m'<m/\W (i+1) m' Y' H') /\
   ∀x H',J.yld i H x H'->gT X.K t x Y H' λσ2 H2=>TIS T A X.K (exs T cf d body) {D with nx:=N,ct:=N,bk:=D.nx} σ2 H2):=by
 refine⟨λi m Y H=>∃α ρ hs,RS A α ρ Y/\Rep T A X.K α hs H/\Ext α0 α H0 H/\Qct T w t (exs T cf d body) m i ρ hs=some (fl,ρ',hs'),⟨n,α0,ρ0,h0,rs0,R0,Ext.refl,e0⟩,?_⟩;rintro i m Y H ⟨α,ρ,hs,rs,R,E,e⟩
 cases m with
 |zero=>cases e
 |succ m=>
  have W:=W0.mono E.pre E.fz;simp only[Qct]at e;split at e
  ·cases e
  ·rename_i ei;cases e;exact .inl ⟨QbM tx R W ei,q α Y H E R rs⟩
  ·rename_i x ei;split at e
   ·cases e
   ·rename_i ρ1 et;obtain⟨go,yl⟩:=QbN tx R W rs ei et;refine .inr ⟨go,λY' H'=>∃α ρ hs,RS A α ρ Y'/\Rep T A X.K α hs H'/\Ext α0 α H0 H'/\Qct T w t (exs T cf d body) m (i+1) ρ hs=some (fl,ρ',hs'),λY' H' z=>⟨m,W6 _,z⟩,?_⟩;intro v H' hy;refine yl v H' _ hy λσ2 rs2 R2 E2=>?_;have E02:Ext α0 α H0 H':=E.trans E2 R2.h;split at e
    ·rename_i ρ2 h2 eb;exact TIS.run rs2 R2 eb λα3 σ3 H3 E3 R3 rs3=>⟨α3,ρ2,h2,rs3,R3,E02.trans E3 R3.h,e⟩
    ·rename_i ρ2 h2 eb;exact TIS.run rs2 R2 eb λα3 σ3 H3 E3 R3 rs3=>⟨α3,ρ2,h2,rs3,R3,E02.trans E3 R3.h,e⟩
    ·rename_i ρ2 h2 eb;cases e;exact TIS.run rs2 R2 eb λα3 σ3 H3 E3 R3 rs3=>q α3 σ3 H3 (E02.trans E3 R3.h) R3 rs3
    ·rename_i n1 n2 n3
     cases fl with
     |next=>exact absurd e (n1 _ _)
     |cont=>exact absurd e (n2 _ _)
     |brk=>exact absurd e (n3 _ _)
     |ret u=>exact TIS.run rs2 R2 e λα3 σ3 H3 E3 R3 rs3=>q α3 σ3 H3 (E02.trans E3 R3.h) R3 rs3
theorem RF.put{α:List Addr}{x:Str}{i:Nat}{u:U}{v:V}(hk:T.fns'[i]?=some x)(nd:T.fns'.Nodup)(r:RU A α u v):∀{fs:List (Nat×U)} {fv:List (Str×V)},RF T A α fs fv->RF T A α (YX i u fs) (Jj x v fv)
 |_,_,.nil=>.cons ⟨hk,r⟩ .nil
 |_,_,.cons (a:=p) (b:=q) h t=>by
  obtain⟨pk,pu⟩:=p;obtain⟨qx,qv⟩:=q;simp only[YX,Jj];by_cases e:pk=i
  ·subst e;have e2:qx=x:=Xn (h.1.symm.trans hk);subst e2;rw[if_pos rfl,if_pos rfl];exact .cons ⟨hk,r⟩ t
  ·have n2:¬qx=x:=λz=>by
    subst z;obtain⟨l1,q1⟩:=Xf.mp hk;obtain⟨l2,q2⟩:=Xf.mp h.1;exact e ((List.getElem_inj nd).mp (q2.trans q1.symm))
   rw[if_neg e,if_neg n2];exact .cons h (RF.put hk nd r t)
theorem RF.length{fs:List (Nat×U)}{fv:List (Str×V)}(r:RF T A α fs fv):fs.length=fv.length:=Paired.length r
def QpG(o:Operator):∃ti,PIp X o ti/\∀{α:List Addr} {u w r:U} {x y:V} {H:Hp} {Q:VK},Qiy o u w=some r->RU A α u x->RU A α w y->(∀z,RU A α r z->Q z H)->ti x y H Q:=by
 have no:∀{o:Operator},(∀u w,Qiy o u w=none)->∃ti,PIp X o ti/\∀{α:List Addr} {u w r:U} {x y:V} {H:Hp} {Q:VK},Qiy o u w=some r->RU A α u x->RU A α w y->(∀z,RU A α r z->Q z H)->ti x y H Q:=λ{o} h=>⟨λv v v v=>False,λv v v v v v v v v v v v f=>f.elim,λe v v v=>by rw[h]at e;cases e⟩
 have two:∀{f:Int->Int->U} {u w r:U},(match u,w with|.int i 0,.int j 0=>some (f i j)|_,_=>none)=some r->∃i j,u=.int i 0/\w=.int j 0/\r=f i j:=λ{f u w r} h=>by
  split at h
  ·cases h;exact⟨_,_,rfl,rfl,rfl⟩
  ·cases h
 cases o with
 |Add=>
  refine⟨_,QhS,λ{α u w r x y H Q} e ru rw' k=>?_⟩;obtain⟨i,j,rfl,rfl,rfl⟩:=two (f:=λi j=>.int (i+j) 0) e;cases QbT ru;cases QbT rw';exact⟨i,j,rfl,rfl,k _ ⟨_,rfl,Cg.refl _ _⟩⟩
 |Sub=>
  refine⟨_,QhR,λ{α u w r x y H Q} e ru rw' k=>?_⟩;obtain⟨i,j,rfl,rfl,rfl⟩:=two (f:=λi j=>.int (i-j) 0) e;cases QbT ru;cases QbT rw';exact⟨i,j,rfl,rfl,k _ ⟨_,rfl,Cg.refl _ _⟩⟩
 |_=>exact no λv v=>rfl
def QeJ{b:List Stmt}{hs:List ExceptHandler}{o fn:List Stmt}{t:Tr}(h:QcU C b hs o fn=some t):∃f pf a args q1 q2 x px n b0 body ph,b=[.Expr (.Call (.Name f pf) (a::args) [] q1) q2] /\
  hs=[.ExceptHandler (some (.Name x px)) n (b0::body) ph]/\o=[]/\fn=[]/\QeL C n=some t.j/\QeN C x=some t.c/\QcV C f=some t.f/\t.args=a::args/\t.body=b0::body:=by
 unfold QcU at h;split at h
 ·simp only[Xd]at h;obtain⟨p,hp,c,hc,k,hk,h⟩:=h;cases h;exact⟨_,_,_,_,_,_,_,_,_,_,_,_,rfl,rfl,rfl,rfl,hp,hc,hk,rfl,rfl⟩
 ·cases h
def QeK{n:Str}{j:Option Nat}(h:QeL C (some n)= some j): ∃i,j=some i/\ZY C n=true/\n≠"__debug__"/\idx n C.N=some i:=by
 simp only[QeL]at h;split at h
 ·rename_i c;simp only[Xg,Xq]at c;simp only[Xc]at h;obtain⟨i,hi,h⟩:=h;exact⟨i,h.symm,c.1,c.2,hi⟩
 ·cases h
def QeM{c:Nat}(h:QeN C x=some c): Zz C x=true/\x≠"__debug__"/\C.gl.lookup x=some (.cls c):= by
 unfold QeN at h;split at h
 ·rename_i q;simp only[Xg,Xq]at q;split at h
  ·rename_i z;cases h;exact⟨q.1,q.2,z⟩
  ·cases h
 ·cases h
def Qbi{c:Nat}(h:QcV C x=some c): Zz C x=true/\x≠"__debug__"/\C.gl.lookup x=some (.fn c):= by
 unfold QcV at h;split at h
 ·rename_i q;simp only[Xg,Xq]at q;split at h
  ·rename_i z;cases h;exact⟨q.1,q.2,z⟩
  ·cases h
 ·cases h
structure Bd(X:Cx):Prop where
 stk:X.stack=X.env::X.outer
 frm:X.env.frame=some X.env.locals
 ex:X.ex=[]
 cm:X.calm=true
def QdP:hdC (hdX C)=true:=by simp[hdC,hdX]
def QfP{p:Nat×Expr}(h:Qil C st=some p):∃y py pos,st=.Assign [.Name y py] p.2 pos/\ZY C y=true/\idx y C.N=some p.1:=by
 cases st with
 |Assign ts e pos=>
  simp only[Qil]at h;split at h
  ·rename_i y hy;obtain⟨py,rfl⟩:=Qa2 hy;split at h
   ·rename_i hl;simp only[Xc]at h;obtain⟨i,hi,rfl⟩:=h;exact⟨y,py,pos,rfl,hl,hi⟩
   ·cases h
  ·cases h
 |_=>cases h
theorem QaB(g:GX T A (hdX C) X)(fl:∀x,X.fn x=true\/X.env.scope.names.lookup x=some .local)(S:Snd T A (hdX C) X cf m):∀(sts:List Stmt) (d:Nat) (irs:List Iv.S),Qd8 m C sts=some irs->PSs X sts (TIS T A X.K (exs T cf d irs))
 |_,0,_,_=>ZN Qgh
 |[],d+1,irs,h=>by
  cases h
  exact Qb1 Qdb λD Y H v=>by obtain⟨α,ρ,hs,fl,ρ',hs',rs,R,e,q⟩:=v;cases e;exact q α Y H Ext.refl R rs
 |st::r,d+1,irs,h=>by
  simp only[Qd8,Xd]at h;obtain⟨p,hp,e',he,r',hr,h⟩:=h;cases h;obtain⟨y,py,pos,rfl,hl,hi⟩:=QfP hp
  have ly:X.env.scope.names.lookup y=some .local:=by rw[g.sc];exact ZJ hl
  have P:∀d,PS X (.Assign [.Name y py] p.2 pos) (TIS T A X.K (ex T cf d (.set p.1 e'))):=λd=>by
   refine Qbu (λd=>?_) (d:=d)
   refine Q7 (Qbt (i:=p.1) g.nd (by rw[g.N];exact QU hi) (.inl ly) (S.e d p.2 e' he) (Qdw he λelt gens scope q z=>?_) (fl y)) ?_
   ·rw[z]at he
    cases m with
    |zero=>cases he
    |succ m=>
     have:=Qko he;rw[QdP]at this;cases this
   ·rintro D Y H ⟨α,ρ,hs,fl,ρ',hs',rs,R,e,q⟩;simp only[ex]at e;obtain⟨u,h1,e1,e⟩:=Qb e;cases e;exact TI.run rs R e1 λα1 x H1 E1 R1 r1 rs1=>q α1 _ H1 E1 R1 (rs1.set p.1 r1)
  refine Qb1 (Yb (P d) (QaB g fl S r d r' hr)) ?_;rintro D Y H ⟨α,ρ,hs,fl,ρ',hs',rs,R,e,q⟩;simp only[exs]at e;split at e
  ·rename_i ρ1 h1 e1;exact TIS.run rs R e1 λα1 σ1 H1 E1 R1 rs1=>TIS.run rs1 R1 e λα2 σ2 H2 E2 R2 rs2=>q α2 σ2 H2 (E1.trans E2 R2.h) R2 rs2
  ·rename_i n1;exfalso
   cases d with
   |zero=>cases e
   |succ d=>
    simp only[ex]at e n1
    cases z:ev T cf d e' ρ hs with
    |none=>rw[z]at e;cases e
    |some w=>rw[z]at n1;exact n1 _ _ rfl
def Qfv{ρ:Rho}{Y:St}{j:Nat}(r:RS A α ρ Y):RS A α (ρ.set j none) (Y.set j none):=by
 refine⟨by simpa using r.len,λk u e=>?_⟩
 have hk:k≠j:=λz=>by
  subst z
  have l:k < ρ.length:=(Xf.mp e).1 |> λz=>by simpa using z
  rw[Wd l]at e;cases e
 rw[X8 (Wy hk)]at e;rw[X8 (Wy hk)];exact r.val k u e
def Qme{b:List Stmt}{hs:List ExceptHandler}{o fn:List Stmt}{t:Tr}{es:List E}{sb:List Iv.S}(bX:Bd X)(g:GX T A C X)(fl:∀x,X.fn x=true\/X.env.scope.names.lookup x=some .local)(F:Fc X T A cf k)(hr:Room k X.A)(S:Snd T A C X cf m)(hbl:C.bl.contains ("isinstance":Str)= true)(ht:QcU C b hs o fn=some t)(ha:compA m C t.args=some es)(hb:Qd8 m C t.body=some sb):
  PS X (.Try b hs o fn p) (TIS T A X.K (ex T cf (d+1) (.tryS t.j t.f es t.c sb))):=by
 obtain⟨f,pf,a,args,q1,q2,x,px,n,b0,body,ph,rfl,rfl,rfl,rfl,t1,t2,t3,t4,t5⟩:=QeJ ht;obtain⟨gx,dx,lx⟩:=QeM t2;obtain⟨gf,df,lf⟩:=Qbi t3;rw[t4]at ha;rw[t5]at hb;have hns:=Ql ha;have st:starEach (a::args) X.env=(false,eval a X.env)::starEach args X.env:=Qn (hns a (Xo ..));have sa:(backTo q1 (starEach args X.env)).any (·.1)=false:=QS λz hz=>hns z (Xk _ hz);intro pins s Y H D I q;obtain⟨α,ρ,hs0,fw,ρ',hs',rs,R,e,q⟩:=q;simp only[Iv.ex]at e;obtain⟨us,hh1,e1,e⟩:=Qb e;refine wpAny_Try_except ?_
 have sw:swapsWith (.Call (.Name f pf) (a::args) [] q1) none q2.line X.env=pure false:=by rfl
 split at e
 ·rename_i u0 h2 ec;cases e;have P1:PS X (.Expr (.Call (.Name f pf) (a::args) [] q1) q2) _:=QaG (Qgb (d:=d) g F hr S gf df lf ha) sw;have P2:=Qhf P1
  have r:=P2 pins s Y H D I (TI.run rs R (u:=u0) (h1:=_) (by simp only[ev,e1,Iv.bd];exact ec) λα1 v H1 E1 R1 r1 rs1=>q α1 Y H1 E1 R1 rs1)
  rw[g.xe]at r ⊢;refine Xz r (λfl' s1 z=>?_) λy y z=>z.elim
  cases fl' with
  |next=>exact Uk z
  |ret v=>exact z
  |brk=>exact z
  |cont=>exact z
 ·rename_i ec;split at e
  case h_2=>cases e
  rename_i c' h2 ex';rw[Wi]at e;obtain⟨⟨c1,c2,c3⟩,e⟩:=e;split at e
  case h_2=>cases e
  rename_i ρ2 h3 eb;cases e
  cases hF:T.fns[t.f]? with
  |none=>rw[hF]at c3;cases c3
  |some Fn=>
  rw[hF]at c3;have c3:us.length=Fn.np:=Wn c3;obtain⟨fd,G,bb,kp⟩:=F.xf t.f Fn hF;refine wpAny_execs_cons (wpAny_Expr_any ?_ I.quiet sw);refine Wx (Zi I (Q0 g gf) (g.gfn f t.f lf) ?_ (QP df));have pa0:=S.a d (a::args) es ha q1 pins s Y H (λvs H1=>∃α1,Ext α α1 H H1/\Rep T A X.K α1 hh1 H1/\RUs A α1 us vs) I ⟨α,ρ,hs0,us,hh1,rs,R,e1,λα' vs H' E' R' r'=>⟨α',E',R',r'⟩⟩;rw[g.xe]at pa0;refine PySem.W.callWith_K (h₀:=X.base) I.ok.mod.kin kp (Xz pa0 (λus1 s1 ⟨vs,H1,I1,r,α1,E1,R1,ru⟩=>⟨I1.kIn,?_⟩) λy y z=>z.elim) st sa
  have ll:us1.length=Fn.ps.length:=by
   obtain⟨fd',fn',_,_,lp,_⟩:=g.txt.fn t.f Fn hF;rw[lp,<-c3,ru.length,r.length]
  have hsp:spX T A X.K T.xf t.f vs H1 (λy y=>False) (λCv o H'=>Cv=.ref (A.c c'.1)/\EF T H' c' o/\∃α',Ext α1 α' H1 H'/\Rep T A X.K α' h2 H'):=
   ⟨α1,us,hh1,c',h2,ru,R1,ex',⟨Fn,hF,c3⟩,λα' H' dd E' R' ef=>⟨rfl,ef,α',E',R'⟩⟩
  refine Ut (Uq (G.run X.A X.stack s1 H1 ⟨us1,[]⟩ us1 vs _ _ hr I1.env0 (by have:=bb s1 us1 I1.kIn (by rw[W4];exact ll);rw[W4]at this;exact this) r hsp) λrr s' hq=>?_)
  cases rr with
  |ok fl=>
   cases fl with
   |ret u=>
    obtain⟨_,_,_,_,_,_,_,z⟩:=hq;exact z.elim
   |next=>exact False.elim hq
   |brk=>exact False.elim hq
   |cont=>exact False.elim hq
  |error ev=>
   obtain⟨e0,C0,H',B,a0,dd,rfl,os,bare,un,hok,flw,cv,hn,hs0',da,⟨hC,ef,α2,E2,R2⟩⟩:=hq;cases hC
   have h00:X.s₀.heap.get? e0=none:=by
    cases q:X.s₀.heap.get? e0 with
    |none=>rfl
    |some ob=>
     obtain⟨o',ho⟩:=I1.base.there e0 ob q (by rw[bX.ex];simp)
     rw[hs0']at ho;cases ho
   have M:Met X pins Y H1 H' s1 s' e0 (A.c c'.1) dd B a0:=⟨I1,os,bare,un,hok,flw,cv,hn,hs0',h00,da⟩
   have gh:GX T A (hdX C) (X.hd (.ref e0)):=⟨g.CT,g.N,g.nd,g.sc,(λz=>by rw[QdP]at z;cases z),g.kind,g.xe,g.gfn,g.gcl,g.gco,g.gtx,(λz hz=>by
    refine g.blt z λw=>hz ?_;by_cases e:z=("isinstance":Str)
    ·rw[e,hbl]at w;cases w
    ·refine Bool.eq_false_iff.mpr λh=>?_
     rcases Xm.mp (Vi.mp h)with h|h
     ·exact e h
     ·rw[Vi.mpr (List.mem_filter.mp h).1]at w
      cases w),g.txt,g.tab⟩
   have Sh:=(QeR (k:=k) m gh (⟨F.ok,F.some,F.df,F.xf⟩:Fc (X.hd (.ref e0)) T A cf k) (λz=>by rw[QdP]at z;cases z) hr.units).s
   have rs2:=(rs.mono E1.pre).mono E2.pre;have xeh:(X.hd (.ref e0)).xe=λy y=>False:=g.xe
   cases n with
   |none=>
    have tj:t.j=none:=(Xn t1).symm;rw[tj]at eb q;have PP:=QaB gh fl Sh (b0::body) d sb hb;refine Qh1 (W:=λσ8 H8=>∃α8,Ext α2 α8 H' H8/\Rep T A X.K α8 hs' H8/\RS A α8 ρ2 σ8) bX.stk bX.frm M (Q0 g gx) (g.gcl x t.c lx) (g.txt.es c'.1 t.c c2) (QP dx) (λs7 J7=>?_) (λσ8 H8 s'' ⟨α8,E8,R8,r8⟩ J=>?_)
    ·have r:=PP pins s7 Y H' ⟨λσ8 H8=>∃α8,Ext α2 α8 H' H8/\Rep T A X.K α8 hs' H8/\RS A α8 ρ2 σ8,λy y=>False,λy y=>False,λy y=>False⟩ J7 ⟨α2,ρ,h2,.next,ρ2,hs',rs2,R2,eb,λα' Y' H' E' R' r'=>⟨α',E',R',r'⟩⟩;rw[xeh]at r;refine Xz r (λf8 s8 z=>?_) λy y z=>z
     cases f8 with
     |next=>exact⟨rfl,z⟩
     |brk=>obtain⟨_,_,_,z⟩:=z;exact z.elim
     |cont=>obtain⟨_,_,_,z⟩:=z;exact z.elim
     |ret u=>obtain⟨_,_,_,_,_,z⟩:=z;exact z.elim
    ·exact⟨_,_,J,q _ _ _ ((E1.trans E2 R2.h).trans E8 R8.h) R8 r8⟩
   |some n=>
    obtain⟨j,hj,ln,nd,hi⟩:=QeK t1;rw[hj]at eb q;have PP:=QaB gh fl Sh (b0::body) d sb hb
    obtain⟨R3,E3⟩:=R2.new (p:=e0) (o:=.err c'.1 c'.2) (ho:=QeC e0 (A.c c'.1) dd) hn ⟨dd,Qp,c1,ef.fz λb o fs e=>by rw[Qe (λz=>by rw[z,hn]at e;cases e)];exact e⟩
    have at3:(α2++[e0])[h2.length]?=some e0:=by rw[<-R2.h.len];exact Q2
    have rs4:=(rs2.mono E3.pre).set j (u:=.ref h2.length) (v:=.ref e0) ⟨e0,at3,rfl⟩
    refine Qh2 (W:=λσ8 H8=>∃α8,Ext (α2++[e0]) α8 (upd H' e0 (QeC e0 (A.c c'.1) dd)) H8/\Rep T A X.K α8 hs' H8/\RS A α8 ρ2 σ8) bX.stk bX.frm g.nd M (Q0 g gx) (g.gcl x t.c lx) (g.txt.es c'.1 t.c c2) (QP dx) (by rw[g.N];exact QU hi) (by rw[g.sc];exact ZJ ln) (λs7 J7=>?_) (λσ8 H8 s'' ⟨α8,E8,R8,r8⟩ J=>?_)
    ·have r:=PP pins s7 _ _ ⟨λσ8 H8=>∃α8,Ext (α2++[e0]) α8 (upd H' e0 (QeC e0 (A.c c'.1) dd)) H8/\Rep T A X.K α8 hs' H8/\RS A α8 ρ2 σ8,λy y=>False,λy y=>False,λy y=>False⟩ J7 ⟨α2++[e0],ρ.set j (some (.ref h2.length)),h2++[O.err c'.1 c'.2],.next,ρ2,hs',rs4,R3,eb,λα' Y' H' E' R' r'=>⟨α',E',R',r'⟩⟩;rw[xeh]at r;refine Xz r (λf8 s8 z=>?_) λy y z=>z
     cases f8 with
     |next=>exact⟨rfl,z⟩
     |brk=>obtain⟨_,_,_,z⟩:=z;exact z.elim
     |cont=>obtain⟨_,_,_,z⟩:=z;exact z.elim
     |ret u=>obtain⟨_,_,_,_,_,z⟩:=z;exact z.elim
    ·exact⟨_,_,J,q _ _ _ (((E1.trans E2 R2.h).trans E3 R3.h).trans E8 R8.h) R8 (Qfv r8)⟩
noncomputable def Qlz{β:Type}(a b c d:β):Nat->β
 |0=>a
 |1=>b
 |2=>c
 |_=>d
def QnB{P:Nat->Prop}(h0:P 0)(h1:P 1)(h2:P 2)(h3:P 3):∀k,k<4->P k
 |0,_=>h0
 |1,_=>h1
 |2,_=>h2
 |3,_=>h3
def QgC{it:Expr}{z:List Nat×List Expr}(h:Qln C tg it=some z): ∃pf a b c d q es kt pt,it=.Call (.Name "zip" pf) [a,b,c,d] [] q/\tg=.Tuple es kt pt/\Zz C "zip"=true/\C.gl.lookup ("zip":Str)= none/\C.bl.contains ("zip":Str)= true/\Jp C es=some z.1/\z.2=[a,b,c,d]:= by
 simp only[Qln,Xd,Xc]at h;obtain⟨as,h1,is,h2,rfl⟩:=h;unfold Qi1 at h2;split at h2
 case h_2=>cases h2
 unfold QiC at h1;split at h1
 case h_2=>cases h1
 split at h1
 case isFalse=>cases h1
 rename_i hc;simp only[Xg,Xq,Option.isNone_iff_eq_none]at hc;obtain⟨⟨⟨rfl,h4⟩,h5⟩,h6⟩:=hc;cases h1;exact⟨_,_,_,_,_,_,_,_,_,rfl,rfl,h4,h5,h6,h2,rfl⟩
def QcD{i:Nat}(h:QeD T us i hs=some r):∃a b c e xs ys zs ws,us=[a,b,c,e]/\Zu T a hs=some xs/\QV T b hs=some ys/\QV T c hs=some zs/\QV T e hs=some ws /\
  ((r=none/\xs[i]?=none)\/∃x y z w,r=some [x,y,z,w]/\xs[i]?=some x/\ys[i]?=some y/\zs[i]?=some z/\ws[i]?=some w):=by
 unfold QeD at h;split at h
 ·split at h
  ·rename_i e0 e1 e2 e3;refine⟨_,_,_,_,_,_,_,_,rfl,e0,e1,e2,e3,?_⟩;split at h
   ·rename_i ex;cases h;exact .inl ⟨rfl,ex⟩
   ·rename_i ex;split at h
    ·rename_i ey ez ew;cases h;exact .inr ⟨_,_,_,_,rfl,ex,ey,ez,ew⟩
    ·cases h
  ·cases h
 ·cases h
def QiS{a b c e:U}{vs:List V}(r:RUs A α [a,b,c,e] vs):∃x y z w,vs=[x,y,z,w]/\RU A α a x/\RU A α b y/\RU A α c z/\RU A α e w:=by
 obtain⟨x,r1,rfl,h0,r⟩:=Qr r;obtain⟨y,r2,rfl,h1,r⟩:=Qr r;obtain⟨z,r3,rfl,h2,r⟩:=Qr r;obtain⟨w,r4,rfl,h3,r⟩:=Qr r;cases QH r;exact⟨x,y,z,w,rfl,h0,h1,h2,h3⟩
def QiD{vs:List V}{i:Nat}(tx:Txt T A X.K X.mg)(R:Rep T A X.K α hs H)(rv:RUs A α us vs)(h:QeD T us i hs=some r):∃a:Nat->Nat,vs=[.ref (a 0),.ref (a 1),.ref (a 2),.ref (a 3)]/\∃xs,Sq4 X.K H a xs:=by
 obtain⟨_,_,_,_,xs,ys,zs,ws,rfl,e0,e1,e2,e3,_⟩:=QcD h;obtain⟨_,_,_,_,rfl,r0,r1,r2,r3⟩:=QiS rv;obtain⟨a0,v0,rfl,_,q0⟩:=ZB tx R e0 r0;obtain⟨a1,v1,rfl,_,q1⟩:=QB tx R e1 r1;obtain⟨a2,v2,rfl,_,q2⟩:=QB tx R e2 r2;obtain⟨a3,v3,rfl,_,q3⟩:=QB tx R e3 r3;exact⟨Qlz a0 a1 a2 a3,rfl,Qlz v0 v1 v2 v3,QnB q0 q1 q2 q3⟩
def QiF{a:Nat->Nat}{i:Nat}(tx:Txt T A X.K X.mg)(R:Rep T A X.K α hs H)(rv:RUs A α us [.ref (a 0),.ref (a 1),.ref (a 2),.ref (a 3)])(h:QeD T us i hs=some r):
  (r=none->(It4 X.K a).stop i H)/\∀xs,r=some xs->(It4 X.K a).go i H/\∀v H',(It4 X.K a).yld i H v H'->∃p ws,v=.ref p/\SqT X.K H' p ws/\RUs A α xs ws/\Rep T A X.K α hs H'/\Ext α α H H':=by
 obtain⟨_,_,_,_,xs,ys,zs,ws,rfl,e0,e1,e2,e3,hr⟩:=QcD h;obtain⟨_,_,_,_,ev,r0,r1,r2,r3⟩:=QiS rv;cases ev;obtain⟨_,v0,ea,g0,q0⟩:=ZB tx R e0 r0;cases ea;obtain⟨_,v1,ea,g1,q1⟩:=QB tx R e1 r1;cases ea;obtain⟨_,v2,ea,g2,q2⟩:=QB tx R e2 r2;cases ea;obtain⟨_,v3,ea,g3,q3⟩:=QB tx R e3 r3;cases ea;have sq:Sq4 X.K H a (Qlz v0 v1 v2 v3):=QnB q0 q1 q2 q3
 rcases hr with⟨rfl,hx⟩|⟨x,y,z,w,rfl,f0,f1,f2,f3⟩
 ·refine⟨λt=>⟨_,sq,?_⟩,λxs e=>nomatch e⟩;show v0.length<=i;rw[<-g0.length];exact Vx.mp hx
 ·refine⟨λe=>(nomatch e),λxs' e=>?_⟩;cases e;obtain⟨x0,k0,j0⟩:=g0.get f0;obtain⟨x1,k1,j1⟩:=g1.get f1;obtain⟨x2,k2,j2⟩:=g2.get f2;obtain⟨x3,k3,j3⟩:=g3.get f3;refine⟨⟨_,Qlz x0 x1 x2 x3,sq,QnB k0 k1 k2 k3⟩,?_⟩;rintro v H' ⟨p,u,hp,rfl,rfl,ku⟩
  have n0:u 0=x0:=Xn ((ku _ sq 0 (by omega)).symm.trans k0)
  have n1:u 1=x1:=Xn ((ku _ sq 1 (by omega)).symm.trans k1)
  have n2:u 2=x2:=Xn ((ku _ sq 2 (by omega)).symm.trans k2)
  have n3:u 3=x3:=Xn ((ku _ sq 3 (by omega)).symm.trans k3)
  rw[n0,n1,n2,n3]
  have ne:∀b y,H b=some y->b≠p:=λb y e z=>by rw[z,hp]at e;cases e
  refine⟨p,_,rfl,SqT.of Qp,.cons j0 (.cons j1 (.cons j2 (.cons j3 .nil))),⟨⟨R.h.len,R.h.nd_keep λb x t e=>by rw[Qe (ne _ _ e)];exact e,λn a o e1 e2=>RO.keep (R.h.ob n a o e1 e2) (λt t e=>e) λt y e t=>by rw[Qe (ne _ _ e)];exact e⟩,R.s.keep λy e t=>by rw[Qe (ne _ _ e)];exact e⟩,?_⟩
  exact⟨λt t e=>e,λn a e l=>by have:=getElem?_lt e;omega,λb o e t=>by rw[Qe (ne _ _ e)];exact e,λb o kv e=>by rw[Qe (ne _ _ e)];exact e,λb o e=>⟨o,by rw[Qe (ne _ _ e)];exact e,λt=>Iff.rfl⟩⟩
def QdS{body:List S}{is:List Nat}{a:Nat->Nat}{D:Ends}{α0:List Addr}{H0:Hp}{σ0:St}{ρ0:Rho}{h0 hs':Hs}{n:Nat}(tx:Txt T A X.K X.mg)(rs0:RS A α0 ρ0 σ0)(R0:Rep T A X.K α0 h0 H0)(W0:RUs A α0 us [.ref (a 0),.ref (a 1),.ref (a 2),.ref (a 3)])
  (e0:QbS T us is (exs T cf d body) n 0 ρ0 h0=some (fl,ρ',hs'))
  (q:∀α' Y' H',Ext α0 α' H0 H'->Rep T A X.K α' hs' H'->RS A α' ρ' Y'->flE A α' D Y' H' fl):
  ∃W:Nat->Nat->St->Hp->Prop,(∃m,W 0 m σ0 H0)/\∀i m Y H,W i m Y H->((It4 X.K a).stop i H/\D.nx Y H)\/((It4 X.K a).go i H/\∃N:St->Hp->Prop,(∀Y' H',N Y' H'->∃m',m'<m/\W (i+1) m' Y' H') /\
   ∀x H',(It4 X.K a).yld i H x H'->Qm8 X.K is.length (QlB is) x Y H' λσ2 H2=>TIS T A X.K (exs T cf d body) {D with nx:=N,ct:=N,bk:=D.nx} σ2 H2):=by
 refine⟨λi m Y H=>∃α ρ hs,RS A α ρ Y/\Rep T A X.K α hs H/\Ext α0 α H0 H/\QbS T us is (exs T cf d body) m i ρ hs=some (fl,ρ',hs'),⟨n,α0,ρ0,h0,rs0,R0,Ext.refl,e0⟩,?_⟩;rintro i m Y H ⟨α,ρ,hs,rs,R,E,e⟩
 cases m with
 |zero=>cases e
 |succ m=>
  have W:=W0.mono E.pre;simp only[QbS]at e;split at e
  ·cases e
  ·rename_i ei;cases e;exact .inl ⟨(QiF tx R W ei).1 rfl,q α Y H E R rs⟩
  ·rename_i xs ei;split at e
   ·cases e
   ·rename_i ρ1 et;obtain⟨go,yl⟩:=(QiF tx R W ei).2 xs rfl;refine .inr ⟨go,λY' H'=>∃α ρ hs,RS A α ρ Y'/\Rep T A X.K α hs H'/\Ext α0 α H0 H'/\QbS T us is (exs T cf d body) m (i+1) ρ hs=some (fl,ρ',hs'),λY' H' z=>⟨m,W6 _,z⟩,?_⟩;intro v H' hy;obtain⟨p,ws,rfl,sq,rw',R2,E2⟩:=yl v H' hy;have E02:Ext α0 α H0 H':=E.trans E2 R2.h
    have fin:∀σ2,RS A α ρ1 σ2->TIS T A X.K (exs T cf d body) {D with nx:=λY' H'=>∃α ρ hs,RS A α ρ Y'/\Rep T A X.K α hs H'/\Ext α0 α H0 H'/\QbS T us is (exs T cf d body) m (i+1) ρ hs=some (fl,ρ',hs'),ct:=λY' H'=>∃α ρ hs,RS A α ρ Y'/\Rep T A X.K α hs H'/\Ext α0 α H0 H'/\QbS T us is (exs T cf d body) m (i+1) ρ hs=some (fl,ρ',hs'),bk:=D.nx} σ2 H':=λσ2 rs2=>by
     split at e
     ·rename_i ρ2 h2 eb;exact TIS.run rs2 R2 eb λα3 σ3 H3 E3 R3 rs3=>⟨α3,ρ2,h2,rs3,R3,E02.trans E3 R3.h,e⟩
     ·rename_i ρ2 h2 eb;exact TIS.run rs2 R2 eb λα3 σ3 H3 E3 R3 rs3=>⟨α3,ρ2,h2,rs3,R3,E02.trans E3 R3.h,e⟩
     ·rename_i ρ2 h2 eb;cases e;exact TIS.run rs2 R2 eb λα3 σ3 H3 E3 R3 rs3=>q α3 σ3 H3 (E02.trans E3 R3.h) R3 rs3
     ·rename_i n1 n2 n3
      cases fl with
      |next=>exact absurd e (n1 _ _)
      |cont=>exact absurd e (n2 _ _)
      |brk=>exact absurd e (n3 _ _)
      |ret u=>exact TIS.run rs2 R2 e λα3 σ3 H3 E3 R3 rs3=>q α3 σ3 H3 (E02.trans E3 R3.h) R3 rs3
    obtain⟨w,l⟩:=Qdx (Q:=λσ2 H2=>TIS T A X.K (exs T cf d body) _ σ2 H2) et rw' rs fin;exact⟨p,ws,rfl,sq,l,w⟩
def Qg4{it:Expr}{a:List Stmt}{z:List Nat×List Expr}{es:List E}{a':List Iv.S}(bX:Bd X)(g:GX T A C X)(fl:∀x,X.fn x=true\/X.env.scope.names.lookup x=some .local)(S:Snd T A C X cf m)(SS:SndS T A C X cf m)(hz:Qln C tg it=some z)(hes:compA m C z.2=some es)(ha:compSs m C a=some a'):
  PS X (.For tg it a [] p) (TIS T A X.K (ex T cf (d+1) (.loopZ z.1 es a'))):=by
 obtain⟨pf,e1,e2,e3,e4,q,ns,kt,pt,rfl,rfl,hg,hl,hb,hn,ez⟩:=QgC hz;rw[ez]at hes;have hns:=Ql hes
 have hm:X.mg "zip"=none:=g.blt "zip" (by rw[hb];exact Bool.noConfusion)
 obtain⟨l1,l2⟩:=Jo (env:=X.env) hn
 refine Q7 (Qde (by rw[g.xe];exact PassesOwn.never) bX.cm (Qhn (Q0 g hg) hm (S.a d _ es hes) (Qn (hns e1 (Xo ..))) (QS λz hz=>hns z (Xk _ hz))) (JY bX.cm (QaL g fl hn) l1 l2) (SS.ss d a a' ha)) ?_
 rintro D Y H ⟨α,ρ,hs,fl,ρ',hs',rs,R,e,q⟩;simp only[ex]at e;obtain⟨us,h1,ee,e⟩:=Qb e;refine TIA.run rs R ee λα1 vs H1 E1 R1 r1 rs1=>?_
 have hi:∃r,QeD T us 0 h1=some r:=by
  unfold QlN at e;simp only[QbS]at e;split at e
  ·cases e
  ·rename_i z;exact⟨_,z⟩
  ·rename_i z;exact⟨_,z⟩
 obtain⟨r,hi⟩:=hi;obtain⟨ad,rfl,xs,sq⟩:=QiD g.txt R1 r1 hi;exact⟨ad,rfl,⟨xs,sq⟩,QdS g.txt rs1 R1 r1 e λα2 σ2 H2 E2 R2 rs2=>q α2 σ2 H2 (E1.trans E2 R2.h) R2 rs2⟩
def Qjf(bX:Bd X)(F:Fc X T A cf k)(hr:Room k X.A)(hu:X.A.units+1<cLine)(g:GX T A C X)(fl:∀x,X.fn x=true\/X.env.scope.names.lookup x=some .local)(S2:Snd2 T A C X cf m)(SS:SndS T A C X cf m)(d:Nat)(st:Stmt)(ir:Iv.S)(h:QO (m+1) C st=some ir):PS X st (TIS T A X.K (ex T cf d ir)):=by
 have S:=S2.s;refine Qbu λd=>?_
 cases st with
 |Pass p=>cases h;exact Q7 Qhh λD Y H Z=>by obtain⟨α,ρ,hs,fl,ρ',hs',rs,R,e,q⟩:=Z;cases e;exact q α Y H Ext.refl R rs
 |Break p=>cases h;exact Q7 Qe3 λD Y H W=>by obtain⟨α,ρ,hs,fl,ρ',hs',rs,R,e,q⟩:=W;cases e;exact q α Y H Ext.refl R rs
 |Continue p=>cases h;exact Q7 QaH λD Y H V=>by obtain⟨α,ρ,hs,fl,ρ',hs',rs,R,e,q⟩:=V;cases e;exact q α Y H Ext.refl R rs
 |Expr e p=>
  unfold QO at h;try dsimp only at h;split at h
  ·rename_i hd;obtain⟨x,j,q,rfl⟩:=QfB hd;cases h
   exact Q7 QjL λD Y H U=>by obtain⟨α,ρ,hs,fl,ρ',hs',rs,R,e,q⟩:=U;cases e;exact q α Y H Ext.refl R rs
  ·cases h
  ·rename_i hn;simp only[Xc]at h;obtain⟨e',he,rfl⟩:=h
   refine Q7 (QaG (S.e d e e' he) (Qdw he λelt gens scope q z=>by subst z;cases hn)) ?_
   rintro D Y H ⟨α,ρ,hs,fl,ρ',hs',rs,R,e,q⟩;simp only[ex]at e;obtain⟨u,h1,e1,e⟩:=Qb e;cases e;exact TI.run rs R e1 λα1 x H1 E1 R1 r1 rs1=>q α1 Y H1 E1 R1 rs1
 |Return v p=>
  cases v with
  |none=>
   cases h
   exact Q7 Qhg λD Y H P=>by obtain⟨α,ρ,hs,fl,ρ',hs',rs,R,e,q⟩:=P;cases e;exact q α Y H Ext.refl R rs .non rfl
  |some e=>
   unfold QO at h;simp only[Xc]at h;obtain⟨e',he,rfl⟩:=h;refine Q7 (Qdc (S.e d e e' he)) ?_;rintro D Y H ⟨α,ρ,hs,fl,ρ',hs',rs,R,e,q⟩;simp only[ex]at e;obtain⟨u,h1,e1,e⟩:=Qb e;cases e;exact TI.run rs R e1 λα1 x H1 E1 R1 r1 rs1=>q α1 Y H1 E1 R1 rs1 x r1
 |Raise x c p=>
  unfold QO at h;try dsimp only at h;split at h
  ·simp only[Xd]at h;obtain⟨es,_,h⟩:=h;cases h
   exact Zs λD Y H M=>by obtain⟨_,_,_,_,_,_,_,_,e,_⟩:=M;simp[ex]at e
  ·cases h
   exact Zs λD Y H L=>by obtain⟨_,_,_,_,_,_,_,_,e,_⟩:=L;simp[ex]at e
 |Try b hs o fn p=>
  unfold QO at h;try dsimp only at h;split at h
  ·rename_i t ht;split at h
   case isFalse=>cases h
   rename_i hbl;simp only[Xd]at h;obtain⟨es,hes,sb,hsb,h⟩:=h;cases h;exact Qme bX g fl F hr S hbl ht hes hsb
  ·split at h
   case isFalse=>cases h
   rename_i c;simp only[Xg,List.isEmpty_iff]at c;obtain⟨⟨rfl,rfl⟩,hne⟩:=c
   cases hs with
   |nil=>cases hne
   |cons h0 hs=>
   simp only[Xc]at h;obtain⟨b',hb,rfl⟩:=h;intro pins s Y H D I q;obtain⟨α,ρ,hs0,fw,ρ',hs',rs,R,e,q⟩:=q;simp only[Iv.ex]at e;refine wpAny_Try_except ?_;have r:=SS.ss d b b' hb pins s Y H D I (TIS.run rs R e q);rw[g.xe]at r ⊢;refine Xz r (λfl' s1 z=>?_) λG G z=>z.elim
   cases fl' with
   |next=>exact Uk z
   |ret v=>exact z
   |brk=>exact z
   |cont=>exact z
 |AugAssign t o e p=>
  unfold QO at h;try dsimp only at h;split at h
  case h_2=>cases h
  rename_i x px;split at h
  case isFalse=>cases h
  rename_i hl;simp only[Xd]at h;obtain⟨i,hi,e',he,h⟩:=h;cases h;obtain⟨ti,hp,ht⟩:=QpG (X:=X) (A:=A) o
  refine Q7 (QjM (i:=i) g.nd (by rw[g.N];exact QU hi) (Y5 g hl) (S.e d e e' he) hp (fl x)) ?_
  rintro D Y H ⟨α,ρ,hs,fl,ρ',hs',rs,R,e,q⟩;simp only[ex]at e;split at e
  case h_2=>cases e
  rename_i u eu;obtain⟨w,h1,e1,e⟩:=Qb e;simp only[Xc]at e;obtain⟨r,e2,e⟩:=e;cases e;obtain⟨v,ev',rv⟩:=rs.val i u eu;refine⟨v,ev',TI.run rs R e1 λα1 y H1 E1 R1 r1 rs1=>?_⟩;exact ht e2 (rv.mono E1.pre) r1 λz rz=>q α1 _ H1 E1 R1 (rs1.set i rz)
 |If t a b p=>
  unfold QO at h;simp only[Xd]at h;obtain⟨t',ht,a',ha,b',hb,h⟩:=h;cases h;refine Q7 (QjJ (S.t d t t' ht).1 (SS.ss d a a' ha) (SS.ss d b b' hb)) ?_;rintro D Y H ⟨α,ρ,hs,fl,ρ',hs',rs,R,e,q⟩;simp only[ex]at e;split at e
  ·rename_i h1 e1;refine TIT.run rs R e1 λα1 H1 E1 R1 rs1=>?_;rw[if_pos rfl];exact TIS.run rs1 R1 e λα2 σ2 H2 E2 R2 rs2=>q α2 σ2 H2 (E1.trans E2 R2.h) R2 rs2
  ·rename_i h1 e1;refine TIT.run rs R e1 λα1 H1 E1 R1 rs1=>?_;rw[if_neg Xh];exact TIS.run rs1 R1 e λα2 σ2 H2 E2 R2 rs2=>q α2 σ2 H2 (E1.trans E2 R2.h) R2 rs2
  ·cases e
 |While t a b p=>first|exact Znn h|simp[QO]at h
 |For tg it a b p=>
  cases b with
  |cons _ _=>first|exact Znn h|simp[QO]at h
  |nil=>
   unfold QO at h;try dsimp only at h;split at h
   ·rename_i z hz;simp only[Xd,Xc]at h;obtain⟨es,hes,a',ha,rfl⟩:=h;exact Qg4 bX g fl S SS hz hes ha
   simp only[Xd]at h;obtain⟨tg',ht,it',hi,h⟩:=h;split at h
   case isFalse=>cases h
   rename_i ok;simp only[Xd]at h;obtain⟨a',ha,h⟩:=h;cases h
   refine Q7 (Qde (by rw[g.xe];exact PassesOwn.never) bX.cm (S2.w d it _ tg hi (Qf7 ht ok)) (QnQ bX.cm g fl ht) (SS.ss d a a' ha) (QbG hi)) ?_
   rintro D Y H ⟨α,ρ,hs,fl,ρ',hs',rs,R,e,q⟩;simp only[ex]at e;obtain⟨w,h1,e1,e⟩:=Qb e;refine⟨α,ρ,hs,w,h1,rs,R,e1,λα1 J H1 E1 R1 W1=>?_⟩;exact QfA rfl g.txt (rs.mono E1.pre) R1 W1 e λα2 σ2 H2 E2 R2 rs2=>q α2 σ2 H2 (E1.trans E2 R2.h) R2 rs2
 |Assign ts e p=>
  unfold QO at h;try dsimp only at h;split at h
  ·rename_i x ht;obtain⟨px,rfl⟩:=Qa2 ht;split at h
   case isFalse=>cases h
   rename_i hl;simp only[Xd]at h;obtain⟨i,hi,e',he,h⟩:=h;cases h
   have fin:∀e' D Y H,TIS T A X.K (ex T cf (d+1) (.set i e')) D Y H->TI T A X.K (ev T cf d e') Y H λv H1=>D.nx (Y.set i (some v)) H1:=by
    intro e';rintro D Y H ⟨α,ρ,hs,fl,ρ',hs',rs,R,e,q⟩;simp only[ex]at e;obtain⟨u,h1,e1,e⟩:=Qb e;cases e;exact TI.run rs R e1 λα1 x H1 E1 R1 r1 rs1=>q α1 _ H1 E1 R1 (rs1.set i r1)
   by_cases hc:∃elt gens scope q,e=.ListComp elt gens scope q
   ·obtain⟨elt,gens,scope,pc,rfl⟩:=hc;obtain⟨tg,iter,tl,xs,n,wi,gg,tt,te,rfl,ok,hi',hn',hg',ht',he',hf,imp⟩:=S2.c d elt gens scope pc e' he;intro pins s Y H D I hq
    exact Qhi bX.cm g.nd ok hi' hn' hg' ht' he' hf (by rw[g.N];exact QU hi) (Y5 g hl) (fl x) pins s Y H D I (imp Y H _ I.len (fin _ D Y H hq))
   ·exact Q7 (Qbt (i:=i) g.nd (by rw[g.N];exact QU hi) (Y5 g hl) (S.e d e e' he) (Qdw he λelt gens scope q z=>hc ⟨elt,gens,scope,q,z⟩) (fl x)) (fin _)
  ·rename_i o f ht;obtain⟨pa,rfl⟩:=Qim ht;split at h
   case isFalse=>cases h
   rename_i hn;simp only[Xd]at h;obtain⟨e',he,o',ho,i,hi,h⟩:=h;cases h
   have hk':T.fns'[i]?=some f:=by rw[<-g.CT];exact QU hi
   refine Q7 (QjK (S.e d o o' ho) (S.e d e e' he) (QhI he)) ?_;rintro D Y H ⟨α,ρ,hs,fl,ρ',hs',rs,R,e,q⟩;simp only[ex]at e;obtain⟨u,h1,e1,e⟩:=Qb e;obtain⟨u2,h2,e2,e⟩:=Qb e;refine TI.run rs R e1 λα1 x H1 E1 R1 r1 rs1=>TI.run rs1 R1 e2 λα2 y H2 E2 R2 r2 rs2=>?_;split at e
   case h_2=>cases e
   rename_i n;split at e
   case h_2=>cases e
   rename_i c fs eo;split at e
   case isFalse=>cases e
   rename_i l;cases e;obtain⟨a,ha,rfl⟩:=r2;obtain⟨dx,fv,q1,rf,lc⟩:=R2.h.ob n a _ ha eo;have cl:=g.txt.cl c _ (Xj lc)
   refine⟨a,A.c c,dx,fv,rfl,q1,cl.cls,cl.nf f (X0 hk'),by rw[<-RF.length rf];omega,?_⟩
   obtain⟨R',E'⟩:=R2.put (o:=.ins c (YX i u fs)) (ho:=.ins (A.c c) dx (Jj f x fv)) ha ⟨dx,_,Qp,RF.put hk' g.txt.fd (r1.mono E2.pre) rf,lc⟩;exact q α2 Y _ ((E1.trans E2 R2.h).trans E' R'.h) R' rs2
  ·rename_i o i ht;obtain⟨ps,rfl⟩:=QfR ht;split at h
   case isFalse=>cases h
   rename_i nsl;simp only[Xd]at h;obtain⟨e',he,o',ho,i',hi,h⟩:=h;cases h;refine Q7 (Qdf (S.e d e e' he) (QjR (S.e d o o' ho) (S.e d i i' hi) (Qjd QeT (QeU hu)) (QcA nsl)) (QhH he) rfl rfl) ?_;rintro D Y H ⟨α,ρ,hs,fl,ρ',hs',rs,R,e,q⟩;simp only[ex]at e;obtain⟨u,h1,e1,e⟩:=Qb e;obtain⟨x,h2,e2,e⟩:=Qb e;obtain⟨k,h3,e3,e⟩:=Qb e;simp only[Xc]at e;obtain⟨h4,e4,e⟩:=e;cases e;refine TI.run rs R e1 λα1 v H1 E1 R1 r1 rs1=>TI.run rs1 R1 e2 λα2 y H2 E2 R2 r2 rs2=>TI.run rs2 R2 e3 λα3 z H3 E3 R3 r3 rs3=>?_;unfold Qiv at e4;split at e4
   case h_2=>cases e4
   rename_i n;split at e4
   case h_2=>cases e4
   rename_i xs eo;split at e4
   case h_2=>cases e4
   rename_i j;simp only[Xc]at e4;obtain⟨p,ep,rfl⟩:=e4;obtain⟨a,ha,rfl⟩:=r2.mono E3.pre;cases Q5 r3;obtain⟨vs,q1,rr⟩:=R3.h.ob n a _ ha eo
   refine .inl ⟨a,vs,j,p,rfl,rfl,q1,by rw[<-rr.length];exact ep,?_⟩
   obtain⟨R',E'⟩:=R3.put (o:=.lst (xs.set p u)) (ho:=.lst (vs.set p v)) ha ⟨_,Qp,RUs.set p (r1.mono λn a e=>E3.pre n a (E2.pre n a e)) rr⟩;exact q α3 Y _ (((E1.trans E2 R2.h).trans E3 R3.h).trans E' R'.h) R' rs3
  ·rename_i x px y py ht;obtain⟨kt,pt,rfl⟩:=QfQ ht;split at h
   case isFalse=>cases h
   rename_i c;simp only[Xg,Xq]at c;obtain⟨⟨lx,ly⟩,nxy⟩:=c;simp only[Xd]at h;obtain⟨i,hi,j,hj,h⟩:=h
   have kx:X.env.scope.names.lookup x=some .local:=by rw[g.sc];exact ZJ lx
   have ky:X.env.scope.names.lookup y=some .local:=by rw[g.sc];exact ZJ ly
   have ix:X.N[i]?=some x:=by rw[g.N];exact QU hi
   have iy:X.N[j]?=some y:=by rw[g.N];exact QU hj
   split at h
   ·cases h
   ·split at h
    case isFalse=>cases h
    rename_i nt;simp only[Xc]at h;obtain⟨e',he,rfl⟩:=h;refine Q7 (Qdf (S.e d e e' he) (JY bX.cm (Zp (ZO g.nd ix (.inl kx) (.inr kx)) (Zp (ZO g.nd iy (.inl ky) (.inr ky)) Jk))) (Qdv he) (ZV nt) rfl) ?_;rintro D Y H ⟨α,ρ,hs,fl,ρ',hs',rs,R,e,q⟩;simp only[ex]at e;obtain⟨u,h1,e1,e⟩:=Qb e;simp only[Xc]at e;obtain⟨ρ2,e2,e⟩:=e;cases e;refine TI.run rs R e1 λα1 v H1 E1 R1 r1 rs1=>?_;exact Yo (t:=.pair i j) R1 rs1 r1 e2 λσ2 r2=>q α1 σ2 H1 E1 R1 r2
  ·rename_i es ht;obtain⟨kt,pt,rfl⟩:=Qev ht;simp only[Xd]at h;obtain⟨is,his,h⟩:=h;split at h
   case isFalse=>cases h
   rename_i nt;simp only[Xc]at h;obtain⟨e',he,rfl⟩:=h;obtain⟨a1,a2⟩:=Jo (C:=C) (env:=X.env) his;refine Q7 (Qdf (S.e d e e' he) (JY bX.cm (QaL g fl his) a1 a2) (Qdv he) (ZV nt) rfl) ?_;rintro D Y H ⟨α,ρ,hs,fl,ρ',hs',rs,R,e,q⟩;simp only[ex]at e;obtain⟨u,h1,e1,e⟩:=Qb e;simp only[Xd,Xc]at e;obtain⟨us,et,ρ2,e2,e⟩:=e;cases e;refine TI.run rs R e1 λα1 v H1 E1 R1 r1 rs1=>?_
   cases u with
   |ref n=>
    simp only[Qlp]at et;split at et
    case h_2=>cases et
    rename_i eo;cases et;obtain⟨a,ha,rfl⟩:=r1;obtain⟨vs,qv,rr⟩:=R1.h.ob n a _ ha eo;obtain⟨w,l⟩:=Qdx (Q:=λσ2 H2=>D.nx σ2 H2) e2 rr rs1 (λσ2 r2=>q α1 σ2 H1 E1 R1 r2);exact⟨a,vs,rfl,SqT.of qv,l,w⟩
   |_=>exact nomatch (show none=some _ from et)
  ·cases h
 |_=>exact Znn h
def Qgu{s0 s':S}(hs:QlD m C st s0=some s')(h:∀d,PS X st (TIS T A X.K (ex T cf d s0)))(d:Nat):PS X st (TIS T A X.K (ex T cf d s')):=by
 unfold QlD at hs;split at hs
 ·rename_i t ht;simp only[Xc]at hs;obtain⟨es,_,rfl⟩:=hs
  cases d with
  |zero=>exact Zs λD Y H y=>by obtain⟨_,_,_,_,_,_,_,_,e,_⟩:=y;cases e
  |succ d=>
   have z:ex T cf (d+1) (.cal s0 t.1 es)=ex T cf d s0:=by funext ρ hs;simp only[ex]
   rw[z];exact h d
 ·cases hs;exact h d
def Qg2(SS:SndS T A C X cf m)(d:Nat)(sts:List Stmt)(irs:List S)(h:compSs (m+1) C sts=some irs):PSs X sts (TIS T A X.K (exs T cf d irs)):=by
 cases d with
 |zero=>exact ZN Qgh
 |succ d=>
  cases sts with
  |nil=>
   cases h
   exact Qb1 Qdb λD Y H z=>by obtain⟨α,ρ,hs,fl,ρ',hs',rs,R,e,q⟩:=z;cases e;exact q α Y H Ext.refl R rs
  |cons st r=>
   simp only[compSs,Xd]at h;obtain⟨s',hs,r',hr,h⟩:=h;cases h;refine Qb1 (Yb (Qgu hs (λd=>SS.sB d st) d) (SS.ss d r r' hr)) ?_;rintro D Y H ⟨α,ρ,hs,fl,ρ',hs',rs,R,e,q⟩;simp only[exs]at e;split at e
   ·rename_i ρ1 h1 e1;exact TIS.run rs R e1 λα1 σ1 H1 E1 R1 rs1=>TIS.run rs1 R1 e λα2 σ2 H2 E2 R2 rs2=>q α2 σ2 H2 (E1.trans E2 R2.h) R2 rs2
   ·rename_i n1;refine TIS.run rs R e λα1 σ1 H1 E1 R1 rs1=>?_
    cases fl with
    |next=>exact absurd e (n1 _ _)
    |cont=>exact q α1 σ1 H1 E1 R1 rs1
    |brk=>exact q α1 σ1 H1 E1 R1 rs1
    |ret u=>exact q α1 σ1 H1 E1 R1 rs1
theorem Qmc(bX:Bd X)(g:GX T A C X)(fl:∀x,X.fn x=true\/X.env.scope.names.lookup x=some .local)(F:Fc X T A cf k)(hr:Room (k+1) X.A):∀m,SndS T A C X cf m
 |0=>⟨λd st ir h=>by first|exact Znn h|simp[QO]at h,λd sts irs h=>by exact Znn h⟩
 |m+1=>by
  have SS:=Qmc bX g fl F hr m;exact⟨Qjf bX F (hr.mono (Uh k)) (Qm3 hr) g fl (QeR m g F (λz=>hr) hr.units) SS,Qg2 SS⟩
end
end
section
structure Top(T:Tbl)(A:Adr)(K:W.Frag)(mg:Str->Option Value)(gl:List (Str×G))(bl:List Str):Prop where
 txt:Txt T A K mg
 gfn:∀x i,gl.lookup x=some (.fn i)->mg x=some (.ref (A.f i))
 gcl:∀x i,gl.lookup x=some (.cls i)->mg x=some (.ref (A.c i))
 gco:∀x k,gl.lookup x=some (.con k)->mg x=some (.ref (A.k k))
 gtx:∀x t,gl.lookup x=some (.txt t)->∃v w,mg x=some w/\RelV v w/\∀α,RU A α t v
 blt:∀x,¬bl.contains x=false->mg x=none
def YR(T:Tbl)(gl:List (Str×G))(bl:List Str):Prop:=∀(i:Nat) (F:Fn),T.fns[i]?=some F->∃m,compSs m ⟨T,F.N,(Qv F.st).names,gl,bl,F.lc⟩ (Zq F.st)=some F.body
section
variable {P:Program}{w:World}{K:W.Frag}{mg:Str->Option Value}{base:Heap}{T:Tbl}{A:Adr}{gl:List (Str×G)}{bl:List Str}
def Jf{α:List Addr}{us:List U}{vs:List V}{N:List Str}{n:Nat}(r:RUs A α us vs)(hn:N.length=n):RS A α (Qit us n) (L2.start N vs):=by
 unfold Qit L2.start;have l:=r.length
 refine⟨by simp[l,hn],λi u e=>?_⟩
 by_cases hi:i<us.length
 ·rw[Xs (by simpa using hi),Wt]at e
  rw[Xs (by simpa[<-l]using hi),Wt]
  cases q:us[i]? with
  |none=>rw[q]at e;cases e
  |some x=>
   rw[q]at e;cases e;obtain⟨v,h1,h2⟩:=r.get q
   exact⟨v,by rw[h1];rfl,h2⟩
 ·rw[X3 (by simpa using U2 hi),Uv]at e
  split at e<;>cases e
def Jd{n:Nat}:∀f us hs r,Qd T n f us hs=some r->∃F,T.fns[f]?=some F/\us.length=F.np:=by
 intro f us hs r h
 cases n with
 |zero=>cases h
 |succ n=>
  simp only[Qd]at h;split at h
  ·cases h
  ·rename_i F e;split at h
   ·rename_i l;exact⟨F,e,l⟩
   ·cases h
def XOk(P:Program)(w:World)(K:W.Frag)(mg:Str->Option Value)(base:Heap)(T:Tbl)(A:Adr)(r:Nat):Prop:=∀f F,T.fns[f]?=some F->∃fd,FnOk P w K mg base (CXw P w) r (A.f f) fd F.ps (spX T A K T.xf f)/\Binds K fd F.ps []/\W.keepIn K (.ref (A.f f))=true
def Qo5(tp:Top T A K mg gl bl)(h:T.xf=λy y y=>none):XOk P w K mg base T A 0:=λf F hF=>by
 obtain⟨fd,fn,b,_⟩:=tp.txt.fn f F hF
 have no:∀vs H Q E,¬spX T A K T.xf f vs H Q E:=λvs H Q E z=>by
  obtain⟨α,us,hs,u,hs',_,_,e,_⟩:=z;rw[h]at e;cases e
 exact⟨fd,⟨λvs H Q E h=>absurd h (no vs H Q E),λA outer s H args us vs Q E y y y y h=>absurd h (no vs H Q E)⟩,b,fn.kp⟩
theorem Qaf{rm:Nat}(tp:Top T A K mg gl bl)(tab:JH P w T A K)(hb:YR T gl bl)(hX:XOk P w K mg base T A rm):∀n f F,T.fns[f]?=some F->∃fd,FnOk P w K mg base CX0 (rm+2*n) (A.f f) fd F.ps (spC T A K (Qd T n) f)/\Binds K fd F.ps []/\W.keepIn K (.ref (A.f f))=true/\FunD K F.name F.qual F.st (A.f f) fd
 |0,f,F,hF=>by
  obtain⟨fd,fn,b,_⟩:=tp.txt.fn f F hF
  have no:∀vs H Q E,¬spC T A K (Qd T 0) f vs H Q E:=λvs H Q E h=>by
   obtain⟨α,us,hs,u,hs',_,_,e,_⟩:=h;cases e
  exact⟨fd,⟨λvs H Q E h=>absurd h (no vs H Q E),λA outer s H args us vs Q E z z z z h=>absurd h (no vs H Q E)⟩,b,fn.kp,fn⟩
 |n+1,f,F,hF=>by
  obtain⟨fd,fn,b,sc,lp,lN⟩:=tp.txt.fn f F hF;obtain⟨m,hm⟩:=hb f F hF;refine⟨fd,?_,b,fn.kp,fn⟩;refine fn.ok (k:=rm+2*n+1) sc (λvs H Q E h=>?_) (λcdv A' outer s H vs Q E hr h=>?_)
  ·obtain⟨α,us,hs,u,hs',r,_,_,⟨F',h1,h2⟩,_⟩:=h;rw[hF]at h1;cases h1;rw[<-r.length,h2,lp]
  ·obtain⟨α,us,hs,u,hs',r,R,e,_,q⟩:=h;refine⟨TIS T A K (exs T (Qd T n) dd F.body),?_,?_⟩
   ·have gx:GX T A ⟨T,F.N,(Qv F.st).names,gl,bl,F.lc⟩ (Qd2 CX0 P w K mg base F.N F.qual (Qv F.st) (A.f f) cdv A' outer s H E).nox :=
     ⟨rfl,rfl,sc.nd,rfl,λz=>rfl,sc.kind,rfl,tp.gfn,tp.gcl,tp.gco,tp.gtx,tp.blt,tp.txt,tab⟩
    have fc:Fc (Qd2 CX0 P w K mg base F.N F.qual (Qv F.st) (A.f f) cdv A' outer s H E).nox T A (Qd T n) (rm+2*n):=⟨λf' F' h'=>by
     obtain⟨fd',G,b',kp,_⟩:=Qaf tp tab hb hX n f' F' h'
     exact⟨fd',G,b',kp⟩,Jd,λi D F' hD h'=>by
     obtain⟨fd',G,_,kp,fn'⟩:=Qaf tp tab hb hX n i F' h';obtain⟨fd2,x,q,st,fn2,dk,hp⟩:=tp.txt.df i D hD;have e:=FunD.same fn2 fn';subst e;rw[(hp F' h').1]at G
     exact⟨fd2,G,kp,dk⟩,λf' F' h'=>by
     obtain⟨fd',G,b',kp⟩:=hX f' F' h'
     exact⟨fd',G.mono (Nat.le_add_right _ _),b',kp⟩⟩
    exact(Qmc ⟨rfl,rfl,rfl,rfl⟩ gx (λz=>.inl rfl) fc hr m).ss dd (Zq F.st) F.body hm
   ·simp only[Qd,hF]at e;split at e
    case isFalse=>cases e
    unfold fin at e;split at e
    ·rename_i u' ρ' h1 e1;cases e;exact TIS.run (Jf r lN) R e1 λα1 σ1 H1 E1 R1 rs1 v rv=>q α1 v H1 E1 R1 rv
    ·rename_i ρ' h1 e1;cases e;exact TIS.run (Jf r lN) R e1 λα1 σ1 H1 E1 R1 rs1=>q α1 .non H1 E1 R1 rfl
    ·cases e
end
end
section
variable {n:Nat}
inductive AllI{α:Type}(P:Nat->α->Prop):Nat->List α->Prop where
 |nil {n:Nat}:AllI P n []
 |cons {n:Nat} {a:α} {r:List α}:P n a->AllI P (n+1) r->AllI P n (a::r)
def AllI.get{α:Type}{P:Nat->α->Prop}{l:List α}(h:AllI P n l)(i:Nat)(a:α)(e:l[i]?=some a):P (n+i) a:=by
 induction h generalizing i with
 |nil=>cases e
 |cons h _ ih=>
  cases i with
  |zero=>cases(show some _=some _ from e);exact h
  |succ i=>have:=ih i e;rw[Vv,Nat.add_comm 1 i]at this;exact this
def AllI.mem{α:Type}{P:α->Prop}{l:List α}(h:AllI (λz a=>P a) n l){a:α}(m:a∈l):P a:=by
 obtain⟨i,e⟩:=Ud m;exact AllI.get h i a e
def AllI.look{κ β:Type}[BEq κ][LawfulBEq κ]{P:κ->β->Prop}{l:List (κ×β)}(h:AllI (λz p=>P p.1 p.2) n l){k:κ}{b:β}(e:l.lookup k=some b):P k b:=AllI.mem (P:=λp=>P p.1 p.2) h (Zw e)
def gvP(A:Adr)(mg:Str->Option Value)(x:Str):G->Prop
 |.fn i=>mg x=some (.ref (A.f i))
 |.cls i=>mg x=some (.ref (A.c i))
 |.con k=>mg x=some (.ref (A.k k))
 |.txt t=>∃v w,mg x=some w/\RelV v w/\∀α,RU A α t v
section
variable {P:Program}{w:World}{K:W.Frag}{mg:Str->Option Value}{base:Heap}{T:Tbl}{A:Adr}{gl:List (Str×G)}{bl:List Str}
def Qoq(A:Adr)(K:W.Frag)(k:Nat)(c:Co):Prop:=match c with
 |Co.tup xs=>∃vs,RUs A [] xs vs/\∀H,SqT K H (A.k k) vs
 |Co.lst xs=>∃vs,RUs A [] xs vs/\∀H,SqL K H (A.k k) vs
 |Co.tab _=>True
def Qi2(fns:AllI (λi (F:Fn)=>∃fd,FunD K F.name F.qual F.st (A.f i) fd/\Binds K fd F.ps []/\FnScope F.N F.ps (Qv F.st)/\F.ps.length=F.np/\F.N.length=F.nN) 0 T.fns)
  (cls:AllI (λi C=>ClOk T A K i C) 0 T.cls)
  (fm:(T.fns'.all λx=>!(T.mns.contains x))=true) (fd:T.fns'.Nodup)
  (isi:AllI (λz p=>W.kitOne K (tyW A p.1.1) (tyW A p.1.2)=some p.2) 0 T.isi)
  (co:AllI (Qoq A K) 0 T.cons)
  (dfs:AllI (λz (p:Nat×Df)=>∃fd x q st,FunD K x q st (A.f p.1) fd/\QiB A K fd p.2/\∀F,T.fns[p.1]?=some F->F.ps=p.2.ps/\F.np=p.2.np) 0 T.dfl)
  (g:AllI (λz (p:Str×G)=>gvP A mg p.1 p.2) 0 gl)
  (b:AllI (λz x=>mg x=none) 0 bl)
  (er:AllI (λz c=>ErrCls K (A.c c)/\(∀f,T.efl.contains (c,f)= false)/\W.excIn K (A.c c) Qaw "ValueError.__new__"=true) 0 T.ers)
  (es:AllI (λz (p:Nat×Nat)=>W.exmOne K (.ref (A.c p.1)) (.ref (A.c p.2))=some true) 0 T.esb):Top T A K mg gl bl where
 txt:={
  fn:=λi F e=>by simpa using fns.get i F e
  df:=λi D e=>AllI.look (P:=λi (D:Df)=>∃fd x q st,FunD K x q st (A.f i) fd/\QiB A K fd D/\∀F,T.fns[i]?=some F->F.ps=D.ps/\F.np=D.np) dfs e
  cl:=λi C e=>by simpa using cls.get i C e
  fm:=λx m n=>by
   have:=Xw.mp fm x m;simp at this;exact this n
  fd:=fd
  isi:=λk t b e=>AllI.look (P:=λ(q:Ty×Ty) b=>W.kitOne K (tyW A q.1) (tyW A q.2)=some b) isi e
  co:=λk c e=>by
   have:=co.get k c e;simp only[Wv]at this;exact this
  er:=λc h=>AllI.mem er (by simpa using h)
  es:=λc c' h=>AllI.mem (P:=λ(p:Nat×Nat)=>W.exmOne K (.ref (A.c p.1)) (.ref (A.c p.2))=some true) es (a:=(c,c')) (by simpa using h)}
 gfn:=λx i e=>AllI.look (P:=λx (q:G)=>gvP A mg x q) g e
 gcl:=λx i e=>AllI.look (P:=λx (q:G)=>gvP A mg x q) g e
 gco:=λx i e=>AllI.look (P:=λx (q:G)=>gvP A mg x q) g e
 gtx:=λx i e=>AllI.look (P:=λx (q:G)=>gvP A mg x q) g e
 blt:=λx h=>by
  have:bl.contains x=true:=by cases q:bl.contains x with|true=>rfl|false=>exact absurd q h
  exact AllI.mem (P:=λx=>mg x=none) b (by simpa using this)
def Qep(h:AllI (λz (F:Fn)=>compSs 100 ⟨T,F.N,(Qv F.st).names,gl,bl,F.lc⟩ (Zq F.st)=some F.body) 0 T.fns):YR T gl bl:=λi F e=>⟨100,h.get i F e⟩
def tv{x:Str}{y:List Nat}{t:Tok}(h:x.cps.toList=y):∃v,RU A [] (.str y) v/\RelV v (.str x t):=by
 subst h;exact⟨.str x,rfl,⟨t,rfl⟩⟩
def tvi{i:Int}{t:Tok}:∃v,RU A [] (.int i 0) v/\RelV v (.int i t):=⟨.int i,⟨i,rfl,Cg.refl i 0⟩,⟨t,rfl⟩⟩
def QeQ(K:W.Frag):Sp:=λvs H Q z=>∃(a:Addr) (ns:List Int),vs=[.ref a]/\SqL K H a (ns.map V.int)/\QlM H/\ns.length<=63/\∀H',Q (.bl true) H'
def Abs:U->Int->Prop:=λu i=>∃r m,u=.int r m/\Cg i r m
def Abs.rus{s:List U}{ns:List Int}(h:Paired Abs s ns):RUs A [] s (ns.map V.int):=by
 induction h with
 |nil=>exact .nil
 | @cons _ i _ _ h _ ih=>obtain⟨r,m,e,c⟩:=h;subst e;exact .cons ⟨i,rfl,c⟩ ih
def Qkp{tb:List U->Tbl}{adr:Addr->Adr}{L r:Nat}{F:Fn}{x:Str}{fd:FuncData}(hF:∀s,(tb s).fns[L]?=some F)(hs:∀s,(tb s).scr=s)(hps:F.ps=[x])(hnp:F.np=1)
  (hA:∀a,(adr a).s=a) (hf:∀a,(adr a).f=(adr 0).f)
  (tp:∀s a,Top (tb s) (adr a) K mg gl bl) (tab:∀s a,JH P w (tb s) (adr a) K) (hb:∀s,YR (tb s) gl bl) (hX:∀s a,XOk P w K mg base (tb s) (adr a) r)
  (hfun:FunD K F.name F.qual F.st ((adr 0).f L) fd)
  (comp:∀ns:List Int,ns.length<=63->∃s hs',Paired Abs s ns/\Qd (tb s) n L [.scr] []=some (.bl true,hs')):
  FnOk P w K mg base CX0 (r+2*n) ((adr 0).f L) fd [x] (QeQ K):=by
 refine⟨λvs H Q E y=>by obtain⟨a,ns,h,_⟩:=y;rw[h];rfl,λA0 outer s H args us vs Q E hr e0 hbd rel ⟨a,ns,h,hS,hO,hl,q⟩=>?_⟩
 obtain⟨sc,hs',pr,hc⟩:=comp ns hl;obtain⟨fd',G,_,_,hfun'⟩:=Qaf (base:=base) (tp sc a) (tab sc a) (hb sc) (hX sc a) n L F (hF sc);rw[hf a]at G hfun';have ef:=FunD.same hfun hfun';subst ef;rw[hps]at G;refine G.run A0 outer s H args us vs Q E hr e0 hbd rel ?_;subst h
 refine⟨[],[.scr],[],.bl true,hs',.cons (show V.ref a=V.ref (adr a).s by rw[hA]) .nil,⟨⟨rfl,(λi j a e u=>by simp at e),λn b o e u=>by simp at e⟩,ns.map V.int,by rw[hs];exact Abs.rus pr,?_⟩,hc,⟨F,hF sc,hnp.symm⟩,λα' v H' u u rv=>?_⟩
 ·rw[hA]
  rcases hS with(h|⟨o,h⟩)|h
  ·rcases hO a with z|⟨o,xs,z⟩
   ·rw[h]at z;cases z
   ·rw[h]at z;cases z
  ·exact .inl ⟨o,h⟩
  ·exact .inr h
 ·have:v=.bl true:=rv;subst this;exact q H'
end
end
section
noncomputable def QaV(K:W.Frag)(a:Addr):FuncData:=match K.lookup a with
 |some o=>(match o.data with
  |.func fd=>fd
  |_=>default)
 |none=>default
noncomputable def fnT(F:Fn)(fd:FuncData):FuncData:=W.fnOf F.name F.qual (Jw F.st) (Zq F.st) (Qv F.st) fd.defaults fd.kwdefaults fd.doc fd.pyModule fd.annotations fd.code fd.closureTuple
noncomputable def vsN(n:Nat)(v:Nat->Value):List Value:=(List.range n).map v
def QcN(us:List Value):us=vsN us.length λi=>us.getD i .none:=by
 apply List.ext_getElem?;intro i;simp only[vsN,Wt,List.getElem?_range',List.getD_eq_getElem?_getD];by_cases h:i<us.length
 ·rw[Vz h];simp[Xj h]
 ·rw[Wl (U2 h),Wl (by simpa using U2 h)];rfl
noncomputable def scB(F:Fn)(sc:Scope):Bool:=decide (sc.kind=.function)&&(!sc.isCoroutine&&(!sc.isGenerator&&(decide F.N.Nodup&&(decide (F.N.take F.ps.length=F.ps)&&(F.ps.all (λx=>decide (sc.names.lookup x=some .local)||decide (sc.names.lookup x=some .cell))&&(sc.names.all (λy=>decide (y.2≠.free))&&(decide (F.ps.length=F.np)&&decide (F.N.length=F.nN))))))))
noncomputable def fnB(K:W.Frag)(F:Fn)(a:Addr):Bool:=W.fnIn K a&&(W.codeIn K (QaV K a).code F.qual&&scB F (Qv F.st))
section
variable {P:Program}{w:World}{K:W.Frag}{mg:Str->Option Value}{h:Heap}{T:Tbl}{A:Adr}{gl:List (Str×G)}{bl:List Str}{F:Fn}{a:Addr}
def QaU(h1:QaV K a=fnT F (QaV K a))(h2:fnB K F a=true):FunD K F.name F.qual F.st a (QaV K a)/\FnScope F.N F.ps (Qv F.st)/\F.ps.length=F.np/\F.N.length=F.nN:=by
 obtain⟨i,c,s⟩:_/\_/\_:=by simpa only[fnB,Xg]using h2
 obtain⟨s1,s2,s3,s4,s5,s6,s7,s8,s9⟩:_/\_/\_/\_/\_/\_/\_/\_/\_:=by simpa only[scB,Xg,Xq,Vw]using s
 have z:∃oc od sl,K.lookup a=some ⟨oc,od,.func (QaV K a),sl⟩:=by
  unfold W.fnIn at i;split at i
  ·rename_i oc od fd sl e
   exact⟨oc,od,sl,by rw[e];simp[QaV,e]⟩
  ·cases i
 obtain⟨oc,od,sl,e⟩:=z
 refine⟨⟨⟨oc,od,_,_,_,_,_,_,_,sl,h1,e,c⟩,by simp only[W.keepIn,e]⟩,⟨s1,s2,s3,s4,s5,λx m=>?_,λy m=>?_⟩,s8,s9⟩
 ·simpa using Xw.mp s6 x m
 ·simpa using Xw.mp s7 y m
def QfO(n:F.ps.length=F.np)(h3:∀v,bindArgs (QaV K a) ⟨vsN F.np v,[]⟩=pure (F.ps.zip (vsN F.np v))):Binds K (QaV K a) F.ps []:=.all λus l=>by
 have:=h3 λi=>us.getD i .none;rwa [<-n,<-l,<-QcN]at this
def Qb0{fd:FuncData}{ps:List Str}{ds:List Value}{m:Nat}(n:ps.length=m+ds.length)(h:∀(s:Shared) (v:Nat->Value),K.In s.heap->BindsTo s fd ⟨vsN m v,[]⟩ (ps.zip (vsN m v++ds))):Binds K fd ps ds:=λs us X l=>by
 have e:us.length=m:=by rw[Xv]at l;omega
 have:=h s (λi=>us.getD i .none) X;rwa [<-e,<-QcN]at this
def Qla{fd fd':FuncData}{ps:List Str}{ds:List Value}(e:fd=fd')(h:Binds K fd' ps ds):Binds K fd ps ds:=e▸h
noncomputable def Qiz{α:Type}(f:Nat->α->Bool):Nat->List α->Bool
 |_,[]=>true
 |n,a::r=>f n a&&Qiz f (n+1) r
theorem Yk{α:Type}{f:Nat->α->Bool}{Q:Nat->α->Prop}(q:∀n a,f n a=true->Q n a):∀{n:Nat} {l:List α},Qiz f n l=true->AllI Q n l
 |_,[],_=>.nil
 |_,_::_,e=>.cons (q _ _ (Wj.mp e).1) (Yk q (Wj.mp e).2)
def AllI.imp{α:Type}{Q R:Nat->α->Prop}(q:∀n a,Q n a->R n a){n:Nat}{l:List α}(h:AllI Q n l):AllI R n l:=by
 induction h with
 |nil=>exact .nil
 |cons e _ ih=>exact .cons (q _ _ e) ih
noncomputable def bi(x:String):Option (Option Value):=some (some (.builtin x))
noncomputable def clB(K:W.Frag)(T:Tbl)(A:Adr)(i:Nat)(C:Cl):Bool:=W.plainGet K (A.c i) Str.empty&&(W.hasDictIn K (A.c i)&&(W.plainOver K (A.c i)&&(W.findIn K (.ref (A.c i)) "__setattr__"==bi "object.__setattr__"&&(T.fns'.all (λx=>W.findIn K (.ref (A.c i)) x==some none) &&
 (C.meths.all (λp=>(T.mns[p.1]?).any λx=>W.findIn K (.ref (A.c i)) x==some (some (.ref (A.f p.2)))&&(W.isFn K (.ref (A.f p.2))&&W.keepIn K (.ref (A.f p.2)))) &&
 (W.makesIn K (A.c i)&&(W.keepIn K (.ref (A.c i))&&((match C.init with
  |some f=>W.findIn K (.ref (A.c i)) "__init__"==some (some (.ref (A.f f)))&&W.isFn K (.ref (A.f f))
  |none=>W.findIn K (.ref (A.c i)) "__init__"==bi "object.__init__")&&(W.findIn K (.ref (A.c i)) "__class__"==bi "object.__class__"&&W.mroIn K (A.c i) (.type "object")==some true)))))))))
noncomputable def obB(K:W.Frag):Bool:=W.specialIn K (.builtin "object.__class__") "__get__"==bi "getset_descriptor.__get__"&&W.takesIn K (.builtin "object.__class__")==some true
def Qnl{i:Nat}{C:Cl}(o:obB K=true)(e:clB K T A i C=true):ClOk T A K i C:=by
 obtain⟨o1,o2⟩:_/\_:=by simpa only[obB,bi,Xg,We]using o
 obtain⟨e1,e2,e3,e4,e5,e6,e7,e8,e9,e10,e11⟩:_/\_/\_/\_/\_/\_/\_/\_/\_/\_/\_:=by simpa only[clB,bi,Xg,We]using e
 have c:Cls K (A.c i):=⟨e1,e2,e3,e4⟩;refine⟨c,λx m=>We.mp (Xw.mp e5 x m),λm f q=>?_,e7,e8,?_,λH a dx fs e=>.ins e c e10 o1 o2 e11⟩
 ·obtain⟨x,h1,h2⟩:=Option.any_eq_true _ _ |>.mp (Xw.mp e6 _ (Zw q))
  obtain⟨h2,h3,h4⟩:_/\_/\_:=by simpa only[Xg,We]using h2
  exact⟨x,h1,h2,h3,h4⟩
 ·revert e9
  cases C.init with
  |none=>exact λe=>by simpa using e
  |some f=>exact λe=>by simpa using e
noncomputable def erB(K:W.Frag)(a:Addr):Bool:=W.findIn K (.ref a) "__getattribute__"==bi "BaseException.__getattribute__"&&(W.findIn K (.ref a) "__getattr__"==some none&&(W.findIn K (.ref a) "__class__"==bi "object.__class__"&&(W.subIn K (.ref a) (.type "BaseException")==some true&&(W.subIn K (.ref a) (.type "object")==some true&&((W.clsIn K a).isSome&&W.excIn K a Qaw "ValueError.__new__")))))
def Qnc{c:Nat}(o:obB K=true)(e:erB K (A.c c)= true)(n:∀f,T.efl.contains (c,f)= false): ErrCls K (A.c c)/\(∀f,T.efl.contains (c,f)= false)/\W.excIn K (A.c c) Qaw "ValueError.__new__"=true:=by
 obtain⟨o1,o2⟩:_/\_:=by simpa only[obB,bi,Xg,We]using o
 obtain⟨e1,e2,e3,e4,e5,e6,e7⟩:_/\_/\_/\_/\_/\_/\_:=by simpa only[erB,bi,Xg,We]using e
 exact⟨⟨e1,e2,e3,o1,o2,e4,e5,e6⟩,n,e7⟩
noncomputable def vB(A:Adr):U->Value->Bool
 |.str x,.str s _=>s.cps.toList==x
 |.int i 0,.int j _=>decide (i=j)
 |_,_=>false
def QiX{u:U}{v:Value}(e:vB A u v=true):∃z,RU A [] u z/\RelV z v:=by
 unfold vB at e;split at e
 ·exact tv (We.mp e)
 ·have:=Wn e;subst this;exact tvi
 ·cases e
noncomputable def vsB(A:Adr):List U->List Value->Bool
 |[],[]=>true
 |u::us,v::vs=>vB A u v&&vsB A us vs
 |_,_=>false
theorem Je:∀{us:List U} {vs:List Value},vsB A us vs=true->∃zs,RUs A [] us zs/\Vals zs vs
 |[],[],_=>⟨[],.nil,.nil⟩
 |_::_,_::_,e=>by
  obtain⟨z,r1,r2⟩:=QiX (Wj.mp e).1;obtain⟨zs,h1,h2⟩:=Je (Wj.mp e).2;exact⟨z::zs,.cons r1 h1,.cons r2 h2⟩
 |[],_::_,e=>nomatch e
 |_::_,[],e=>nomatch e
noncomputable def Qlt(K:W.Frag)(t:String)(a:Addr):Option (List Value):=match K.lookup a with
 |some o=>if o.cls=.type t/\o.dict=none then(match o.data with
  |.seq its _=>if its.size<=sizeLine then some its.toList else none
  |_=>none)else none
 |none=>none
noncomputable def Qix(K:W.Frag)(a:Addr):List DictEntry:=match K.lookup a with
 |some o=>(match o.data with
  |.dict es _=>es.toList
  |_=>[])
 |none=>[]
noncomputable def Qiw:Value->Key
 |.str s _=>.inr s
 |.int i _=>.inl i
 |_=>.inl 0
noncomputable def QmU:Value->Bool
 |.str _ _=>true
 |.int _ _=>true
 |_=>false
def QdG:∀{v:Value},QmU v=true->QaS (Qiw v) v=true
 |.str s t,_=>QdH s t
 |.int i t,_=>QdI i t
noncomputable def keB:U->Key->Bool
 |.int i 0,.inl j=>decide (i=j)
 |.str x,.inr s=>s.cps.toList==x
 |_,_=>false
def Qku{u:U}{k:Key}(e:keB u k=true):QmT u k:=by
 unfold keB at e;split at e
 ·exact congrArg Sum.inl (Wn e).symm
 ·rename_i s;have:=We.mp e;subst this;rfl
 ·cases e
noncomputable def kvB(A:Adr):List (U×U)->List DictEntry->Bool
 |[],[]=>true
 |p::ps,e::es=>QmU e.key&&(keB p.1 (Qiw e.key)&&(vB A p.2 e.val&&kvB A ps es))
 |_,_=>false
noncomputable def exB(K:W.Frag)(a:Addr):Bool:=match K.lookup a with
 |some o=>decide (o.cls=.type "dict")&&(decide (o.dict=none)&&decide (o.slots=#[]))&&(match o.data with
  |.dict _ _=>true
  |_=>false)
 |none=>false
noncomputable def coB(K:W.Frag)(A:Adr)(a:Addr)(c:Co):Bool:=match c with
 |.tup xs=>(Qlt K "tuple" a).any (vsB A xs)
 |.lst xs=>(Qlt K "list" a).any (vsB A xs)
 |.tab kvs=>exB K a&&(kvB A kvs (Qix K a)&&(decide (((Qix K a).map λe=>Qiw e.key).Nodup)&&!(a==sysModules)))
abbrev QnJ(K:W.Frag)(w:World)(a:Addr):Prop:=(Qix K a).map (·.hash)=(Qix K a).map λe=>Qob w (Qiw e.key)
def JT{t:String}{xs:List U}(e:(Qlt K t a).any (vsB A xs)=true):∃(o:Obj) (its:Array Value) (n:Nat),K.lookup a=some o/\o.cls=.type t/\o.dict=none/\o.data=.seq its n/\its.size<=sizeLine/\vsB A xs its.toList=true:=by
 unfold Qlt at e
 cases ho:K.lookup a with
 |none=>rw[ho]at e;cases e
 |some o=>
  simp only[ho]at e;split at e
  ·rename_i hc;split at e
   ·rename_i its n hd;split at e
    ·rename_i hz;exact⟨o,its,n,rfl,hc.1,hc.2,hd,hz,e⟩
    ·cases e
   ·cases e
  ·cases e
theorem Qgi:∀{kvs:List (U×U)} {es:List DictEntry},kvB A kvs es=true->(∀e∈es,QmU e.key=true)/\Paired (λ(p:U×U) (q:Key×Value)=>QmT p.1 q.1/\∃v,RU A [] p.2 v/\RelV v q.2) kvs (es.map λe=>(Qiw e.key,e.val))/\Pairs (Yw P w) es (es.map λe=>(Qiw e.key,e.val))
 |[],[],_=>⟨(λe m=>nomatch m),.nil,.nil⟩
 |_::_,_::_,z=>by
  obtain⟨h1,h2,h3,h4⟩:_/\_/\_/\_:=by simpa only[kvB,Xg]using z
  obtain⟨i1,i2,i3⟩:=Qgi h4;refine⟨λe m=>?_,.cons ⟨Qku h2,QiX h3⟩ i2,.cons (QdG h1) rfl i3⟩
  rcases Xm.mp m with rfl|m
  ·exact h1
  ·exact i1 e m
 |[],_::_,e=>nomatch e
 |_::_,[],e=>nomatch e
def Qnj{k:Nat}{c:Co}(e:coB K A (A.k k) c=true):Qoq A K k c:=by
 cases c with
 |tup xs=>
  obtain⟨o,its,n,h1,h2,_,h3,h4,h5⟩:=JT e;obtain⟨vs,g1,g2⟩:=Je h5;exact⟨vs,g1,λH=>.inr ⟨o,its,n,h1,h2,h3,h4,g2⟩⟩
 |lst xs=>
  obtain⟨o,its,n,h1,h2,h0,h3,h4,h5⟩:=JT e;obtain⟨vs,g1,g2⟩:=Je h5;exact⟨vs,g1,λH=>.inr ⟨o,its,n,h1,h2,h0,h3,h4,g2⟩⟩
 |tab=>trivial
theorem Y4{α β:Type}{f g:α->β}:∀{l:List α},l.map f=l.map g->∀a∈l,f a=g a
 |[],_,a,m=>by cases m
 |x::r,e,a,m=>by
  obtain⟨e1,e2⟩:=List.cons.inj e
  rcases Xm.mp m with rfl|m
  ·exact e1
  ·exact Y4 e2 a m
def Qi7(co:Qiz (λk c=>coB K A (A.k k) c) 0 T.cons=true)(hs:AllI (λk z=>QnJ K w (A.k k)) 0 T.cons):JH P w T A K:=λk kvs e=>by
 have c:=(Yk (Q:=λk c=>coB K A (A.k k) c=true) (λz z q=>q) co).get k _ e;have hh:=hs.get k _ e;simp only[Wv]at c hh
 obtain⟨c1,c2,c3,c4⟩:_/\_/\_/\_:=by simpa only[coB,Xg]using c
 obtain⟨k1,k2,k3⟩:=Qgi (P:=P) (w:=w) c2
 refine⟨_,by simpa using c4,?_,k2⟩
 unfold exB at c1
 cases ho:K.lookup (A.k k)with
 |none=>rw[ho]at c1;cases c1
 |some o=>
  simp only[ho]at c1;obtain⟨d1,d2⟩:=Wj.mp c1;split at d2
  ·rename_i es n hd
   obtain⟨x1,x2,x3⟩:_/\_/\_:=by simpa only[Xg,Xq]using d1
   have de:Qix K (A.k k)=es.toList:=by simp[Qix,ho,hd]
   unfold QnJ at hh;rw[de]at hh k1 k2 k3 c3 ⊢
   exact λh X=>⟨o,es,n,X _ _ ho,⟨x1,x2,x3⟩,hd,λe m=>⟨_,QdG (k1 e (by simpa using m)),Y4 hh e (by simpa using m)⟩,k3,by rw[List.map_map];exact Wn c3⟩
  ·cases d2
noncomputable def glB(K:W.Frag)(A:Adr)(p:Str×G):Bool:=match p.2 with
 |.fn i=>W.nsIn K mainGlobals p.1==some (some (.ref (A.f i)))
 |.cls i=>W.nsIn K mainGlobals p.1==some (some (.ref (A.c i)))
 |.con i=>W.nsIn K mainGlobals p.1==some (some (.ref (A.k i)))
 |.txt t=>(match W.nsIn K mainGlobals p.1 with
  |some (some (.str s _))=>t==.str s.cps.toList
  |some (some (.int i _))=>t==.int i 0
  |_=>false)
def Qm7(X:K.In h)(G:h.Ns mainGlobals mg){p:Str×Iv.G}(e:glB K A p=true):gvP A mg p.1 p.2:=by
 obtain⟨x,g⟩:=p
 cases g with
 |fn i=>exact W.mg_of X G (by simpa[glB]using e)
 |cls i=>exact W.mg_of X G (by simpa[glB]using e)
 |con i=>exact W.mg_of X G (by simpa[glB]using e)
 |txt t=>
  simp only[glB]at e;split at e
  ·rename_i s k q;cases We.mp e;exact⟨.str s,_,W.mg_of X G q,⟨k,rfl⟩,λz=>rfl⟩
  ·rename_i i k q;cases We.mp e;exact⟨.int i,_,W.mg_of X G q,⟨k,rfl⟩,λz=>⟨i,rfl,Cg.refl _ _⟩⟩
  ·cases e
noncomputable def Ql3(K:W.Frag)(T:Tbl)(A:Adr)(gl:List (Str×G))(bl:List Str):Bool:=obB K&&(Qiz (clB K T A) 0 T.cls&&(T.fns'.all (λx=>!(T.mns.contains x))&&(decide T.fns'.Nodup&&(T.isi.all (λp=>W.kitOne K (tyW A p.1.1) (tyW A p.1.2)==some p.2)&&(gl.all (glB K A)&&(bl.all (λx=>W.nsIn K mainGlobals x==some none)&&T.esb.all (λp=>W.exmOne K (.ref (A.c p.1)) (.ref (A.c p.2))==some true)))))))
abbrev FnA(K:W.Frag)(A:Adr)(i:Nat)(F:Fn):Prop:=QaV K (A.f i)=fnT F (QaV K (A.f i))/\fnB K F (A.f i)=true/\((∀v,bindArgs (QaV K (A.f i)) ⟨vsN F.np v,[]⟩=pure (F.ps.zip (vsN F.np v)))\/Binds K (QaV K (A.f i)) F.ps [])
theorem YM{α:Type}{Q:α->Prop}:∀{l:List α} {n:Nat},(∀a∈l,Q a)->AllI (λz a=>Q a) n l
 |[],_,_=>.nil
 |_::_,_,q=>.cons (q _ Xo) (YM λa m=>q a (Xk _ m))
def FnA.at{i:Nat}(q:FnA K A i F):∃fd,FunD K F.name F.qual F.st (A.f i) fd/\Binds K fd F.ps []/\FnScope F.N F.ps (Qv F.st)/\F.ps.length=F.np/\F.N.length=F.nN:=by
 obtain⟨d,s,l,n⟩:=QaU q.1 q.2.1;exact⟨_,d,q.2.2.elim (QfO l) id,s,l,n⟩
def Qi3(X:K.In h)(G:h.Ns mainGlobals mg)(fns:AllI (FnA K A) 0 T.fns)(co:Qiz (λk c=>coB K A (A.k k) c) 0 T.cons=true)(b:Ql3 K T A gl bl=true)
  (dfs:AllI (λz (p:Nat×Df)=>∃fd x q st,FunD K x q st (A.f p.1) fd/\QiB A K fd p.2/\∀F,T.fns[p.1]?=some F->F.ps=p.2.ps/\F.np=p.2.np) 0 T.dfl)
  (er:AllI (λz c=>ErrCls K (A.c c)/\(∀f,T.efl.contains (c,f)= false)/\W.excIn K (A.c c) Qaw "ValueError.__new__"=true) 0 T.ers): Top T A K mg gl bl:=by
 obtain⟨b1,b2,b3,b4,b5,b6,b7,b8⟩:_/\_/\_/\_/\_/\_/\_/\_:=by simpa only[Ql3,Xg]using b
 exact Qi2 (fns.imp λz z q=>q.at) (Yk (λz z e=>Qnl b1 e) b2) b3 (Wn b4) (YM λp m=>by simpa using Xw.mp b5 p m) (Yk (λz z e=>Qnj e) co) dfs
  (YM λp m=>Qm7 X G (Xw.mp b6 p m)) (YM λx m=>W.mg_none_of X G (by simpa using Xw.mp b7 x m)) er (YM λp m=>by simpa using Xw.mp b8 p m)
end
end
end Iv
namespace Iv
open PySem
variable {a e:E}{es:List E}{i:Nat}
section
variable {T:Tbl}{cf:Cf}{d:Nat}{ρ:Rho}{hs h1:Hs}{α β:Type}
def Qx{a:α}{f:α->Hs->Option β}:bd (some (a,h1)) f=f a h1:=rfl
def QgF:exs T cf (d+1) [] ρ hs=some (.next,ρ,hs):=rfl
def Zd{s:S}{r:List S}:exs T cf (d+1) (s::r) ρ hs=(match ex T cf d s ρ hs with
   |some (.next,ρ1,h1)=>exs T cf d r ρ1 h1
   |x=>x):=rfl
def JK:ex T cf (d+1) (.expr e) ρ hs=bd (ev T cf d e ρ hs) λz h1=>some (.next,ρ,h1):=rfl
def QgD:ex T cf (d+1) (.set i e) ρ hs=bd (ev T cf d e ρ hs) λu h1=>some (.next,ρ.set i (some u),h1):=rfl
def QgE:ex T cf (d+1) (.ret e) ρ hs=bd (ev T cf d e ρ hs) λu h1=>some (.ret u,ρ,h1):=rfl
def Qar{t:E}{a b:List S}:ex T cf (d+1) (.ite t a b) ρ hs=bd (evT T cf d t ρ hs) λc h1=>if c=true then exs T cf d a ρ h1 else exs T cf d b ρ h1:=by
 rw[ex]
 cases h:evT T cf d t ρ hs with
 |none=>rfl
 |some p=>obtain⟨c,h1⟩:=p;cases c<;>rfl
def QiJ{t:Tg}{s:Src}{body:List S}:ex T cf (d+1) (.loop t s body) ρ hs=bd (Zn T (ev T cf d) ρ s hs) λw h1=>Qct T w t (exs T cf d body) (Q6 T w h1) 0 ρ h1:=rfl
def QlP{o i:E}:ex T cf (d+1) (.put o i e) ρ hs=bd (ev T cf d e ρ hs) λu h1=>bd (ev T cf d o ρ h1) λx h2=>bd (ev T cf d i ρ h2) λk h3=>(Qiv x k u h3).map λh4=>(.next,ρ,h4):=rfl
def y_c{u:U}:ev T cf (d+1) (.c u) ρ hs=some (u,hs):=rfl
def Yl{k:Nat}:ev T cf (d+1) (.con k) ρ hs=some (.con k,hs):=rfl
def QlO:ev T cf (d+1) (.var i) ρ hs=(match ρ[i]? with|some (some u)=>some (u,hs)|_=>none):=rfl
def Qot{o:Operator}{b:E}:ev T cf (d+1) (.op o a b) ρ hs=bd (ev T cf d a ρ hs) λu h1=>bd (ev T cf d b ρ h1) λw h2=>opU o u w h2:=rfl
def QlS{o:CmpOp}{b:E}:ev T cf (d+1) (.cmp o a b) ρ hs=bd (ev T cf d a ρ hs) λu h1=>bd (ev T cf d b ρ h1) λw h2=>(QcC T o u w h2).map λc=>(.bl c,h2):=rfl
def QlQ:ev T cf (d+1) (.not a) ρ hs=bd (ev T cf d a ρ hs) λu h1=>(JI T u h1).map λc=>(.bl (!c),h1):=rfl
def QlR{t b:E}:ev T cf (d+1) (.ife t a b) ρ hs=bd (evT T cf d t ρ hs) λc h1=>if c=true then ev T cf d a ρ h1 else ev T cf d b ρ h1:=rfl
def Qb2:ev T cf (d+1) (.tup es) ρ hs=bd (evs (ev T cf d) ρ es hs) λus h1=>some (.ref h1.length,h1++[.tup us]):=rfl
def QiI:ev T cf (d+1) (.lst es) ρ hs=bd (evs (ev T cf d) ρ es hs) λus h1=>some (.ref h1.length,h1++[.lst us]):=rfl
def Qov{b:E}:ev T cf (d+1) (.ix a b) ρ hs=bd (ev T cf d a ρ hs) λu h1=>bd (ev T cf d b ρ h1) λw h2=>(Yp T u w h2).map λx=>(x,h2):=rfl
def QnL{lo hi:Option E}:ev T cf (d+1) (.sl a lo hi) ρ hs=bd (ev T cf d a ρ hs) λu h1=>bd (evO (ev T cf d) ρ lo h1) λl h2=>bd (evO (ev T cf d) ρ hi h2) λr h3=>slU T u l r h3:=rfl
def QcI{f:Nat}:ev T cf (d+1) (.call f es) ρ hs=bd (evs (ev T cf d) ρ es hs) λus h1=>cf f us h1:=rfl
def Qow{b:Bi}:ev T cf (d+1) (.bi b es) ρ hs=bd (evs (ev T cf d) ρ es hs) λus h1=>biU T b us h1:=rfl
def YT{t:Ty}:ev T cf (d+1) (.isi a t) ρ hs=bd (ev T cf d a ρ hs) λu h1=>(Zx T t u h1).map λb=>(.bl b,h1):=rfl
def Qlo{b:Bm}{o:E}:ev T cf (d+1) (.bm b o es) ρ hs=bd (ev T cf d o ρ hs) λu h1=>if Qda b u h1=true then bd (evs (ev T cf d) ρ es h1) λus h2=>bmU T b u us h2 else none:=rfl
def QfV{s:Src}{b:Bool}{t:Option E}{el:E}:ev T cf (d+1) (.comp s b t el) ρ hs=bd (Zn T (ev T cf d) ρ s hs) λw h1=>bd (YG T (ev T cf d) (Qcu (evT T cf d) t) w b el ρ (Q6 T w h1) 0 [] h1) λus h2=>some (.ref h2.length,h2++[.lst us]):=rfl
def QgG{b:E}:ev T cf (d+1) (.and a b) ρ hs=bd (ev T cf d a ρ hs) λu h1=>(match u with|.bl true=>ev T cf d b ρ h1|.bl false=>some (.bl false,h1)|_=>none):=rfl
def QlT{o:Operator}:ex T cf (d+1) (.aug i o e) ρ hs=(match ρ[i]? with
   |some (some u)=>bd (ev T cf d e ρ hs) λw h1=>(Qiy o u w).map λr=>(.next,ρ.set i (some r),h1)
   |_=>none):=rfl
def QiL:evT T cf (d+1) (.not a) ρ hs=bd (evT T cf d a ρ hs) λc h1=>some (!c,h1):=rfl
def QiN{b:E}:evT T cf (d+1) (.and a b) ρ hs=bd (evT T cf d a ρ hs) λc h1=>if c=true then evT T cf d b ρ h1 else some (false,h1):=rfl
def QlU{b:E}:evT T cf (d+1) (.or a b) ρ hs=bd (evT T cf d a ρ hs) λc h1=>if c=true then some (true,h1)else evT T cf d b ρ h1:=rfl
def QiM{o:CmpOp}{b:E}:evT T cf (d+1) (.cmp o a b) ρ hs=bd (ev T cf d (.cmp o a b) ρ hs) λu h1=>(JI T u h1).map λc=>(c,h1):=rfl
def QiK:evT T cf (d+1) (.var i) ρ hs=bd (ev T cf d (.var i) ρ hs) λu h1=>(JI T u h1).map λc=>(c,h1):=rfl
def QiH{f:Ev}{i j c:Int}(h:evs f ρ es hs=some ([.int i 0,.int j 0,.int c 0],h1))(c1:(Qg (i*16)&&Qg (j*16)&&decide (0<c)&&decide (c<1073741824))=true):Zn T f ρ (.rngA es) hs=some (.rngC i c (QeZ i j c),h1):=by
 simp only[Zn,h,Qx,c1,Wo]
def Qc{n f:Nat}{us:List U}(F:Fn)(hF:T.fns[f]?=some F)(hl:us.length=F.np):Qd T (n+1) f us hs=fin (exs T (Qd T n) dd F.body (Qit us F.nN) hs):=by simp[Qd,hF,hl]
end
end Iv
namespace Iv
open PySem PySem.Spec PyProof.Rows L2
variable {c:Er}{tg:Expr}{H:Hp}{es:List Iv.E}{d:Nat}{t:Nat×List Expr}{p:Pos}{ir:S}{st:Stmt}{T':Tbl}
def TX(T:Tbl)(A:Adr)(K:W.Frag)(f:Rho->Hs->Option (Er×Hs))(E:XK):TS:=λz Y H=>∃α ρ hs c hs',RS A α ρ Y/\Rep T A K α hs H/\f ρ hs=some (c,hs') /\
 ∀α' H' dd,Ext α α' H H'->Rep T A K α' hs' H'->EF T H' c dd->E (.ref (A.c c.1)) dd H'
section
variable {X:Cx}{T:Tbl}{A:Adr}{C:Ctx}{cf:Cf}{m k:Nat}{E:XK}
def QnG{t:TS}(h:PS X.nox st t):PS X st t:=λpins s Y H D I hw=>
 Xz (h pins s Y H D (I.wish _) hw) (λy y q=>q.unwish) λy y z=>False.elim z
def Qll{es:List Expr}{t:TA}(h:PA X.nox es t):PA X es t:=λpos pins s Y H Q I hw=>
 Xz (h pos pins s Y H Q (I.wish _) hw) (λy y x=>by obtain⟨vs,H',I',r,q⟩:=x;exact⟨vs,H',I'.unwish,r,q⟩) λy y z=>False.elim z
def TX.run{K:W.Frag}{α:List Addr}{ρ:Rho}{Y:St}{hs h1:Hs}{f:Rho->Hs->Option (Er×Hs)}{D:Ends}(rs:RS A α ρ Y)(rp:Rep T A K α hs H)(h:f ρ hs=some (c,h1))
  (q:∀α1 H1 dd,Ext α α1 H H1->Rep T A K α1 h1 H1->EF T H1 c dd->E (.ref (A.c c.1)) dd H1):TX T A K f E D Y H:=⟨α,ρ,hs,c,h1,rs,rp,h,q⟩
def QeW{e f:Option Expr}{c:Nat}{args:List Expr}(h:QeX C e f=some (c,args)): ∃x px q,e=some (.Call (.Name x px) args [] q)/\f=none/\Zz C x=true/\x≠"__debug__"/\C.gl.lookup x=some (.cls c)/\C.T.ers.contains c=true:=by
 unfold QeX at h;split at h
 ·split at h
  ·rename_i q;simp only[Xg,Xq]at q;split at h
   ·rename_i z;split at h
    ·rename_i z2;cases h;exact⟨_,_,_,rfl,rfl,q.1,q.2,z,z2⟩
    ·cases h
   ·cases h
  ·cases h
 ·cases h
structure SndX(T:Tbl)(A:Adr)(C:Ctx)(X:Cx)(cf:Cf)(E:XK)(m:Nat):Prop where
 s:∀d st ir,QO m C st=some ir->PS X st (TX T A X.K (exX T cf d ir) E)
 ss:∀d sts irs,compSs m C sts=some irs->PSs X sts (TX T A X.K (exsX T cf d irs) E)
def SndX.sB{E:XK}(SS:SndX T A C X cf E m)(d:Nat)(st:Stmt):PS X st (TX T A X.K (exX T cf d (Qlb (QO m C st))) E):=by
 cases e:QO m C st with
 |some ir=>exact SS.s d st ir e
 |none=>exact Zs λD Y H y=>by obtain⟨_,_,_,_,_,_,_,z,_⟩:=y;cases d<;>simp[Qlb,exX]at z
noncomputable def kdX:S->Bool
 |.rse ..|.ite ..|.cal ..|.loop ..=>true
 |_=>false
def nx(o:Option S):Prop:=∀ir,o=some ir->kdX ir=false
def QQ:nx none:=λz h=>nomatch h
def Zc{s:S}(h:kdX s=false):nx (some s):=λz e=>by cases e;exact h
def QT{α:Type}{o:Option α}{f:α->Option S}(h:∀a,nx (f a)):nx (o.bind f):=by
 cases o with
 |none=>exact QQ
 |some a=>exact h a
def Qaa{α:Type}{o:Option α}{f:α->S}(h:∀a,kdX (f a)=false):nx (o.map f):=by
 cases o with
 |none=>exact QQ
 |some a=>exact Zc (h a)
def Jm{c:Prop}[Decidable c]{a b:Option S}(ha:nx a)(hb:nx b):nx (if c then a else b):=by
 by_cases h:c
 ·rw[if_pos h];exact ha
 ·rw[if_neg h];exact hb
def Jl(h1:∀e f p,st≠.Raise e f p)(h2:∀t a b p,st≠.If t a b p)(h3:∀tg it a o p,st≠.For tg it a o p):nx (QO (m+1) C st):=by
 cases st with
 |Raise e f p=>exact absurd rfl (h1 e f p)
 |If t a b p=>exact absurd rfl (h2 t a b p)
 |Pass=>exact Zc rfl
 |Break=>exact Zc rfl
 |Continue=>exact Zc rfl
 |Expr e p=>
  unfold QO;dsimp only;generalize Qnb e=z
  rcases z with _|_|_
  ·exact Qaa λw=>rfl
  ·exact QQ
  ·exact Zc rfl
 |Return v p=>
  cases v with
  |none=>exact Zc rfl
  |some e=>exact Qaa λw=>rfl
 |Assign ts e p=>
  unfold QO;dsimp only;generalize Qew ts=z
  rcases z with _|z
  ·exact QQ
  ·cases z with
   |nm x=>exact Jm (QT λw=>QT λw=>Zc rfl) QQ
   | «at» o f=>exact Jm (QT λw=>QT λw=>QT λw=>Zc rfl) QQ
   |sub o i=>exact Jm (QT λw=>QT λw=>QT λw=>Zc rfl) QQ
   |two x p y q=>
    refine Jm (QT λw=>QT λw=>?_) QQ;generalize Qgf e=z
    rcases z with _|⟨a,b⟩
    ·exact Jm (Qaa λw=>rfl) QQ
    ·exact QQ
   |many es=>exact QT λw=>Jm (Qaa λw=>rfl) QQ
 |Try b hs o fn p=>
  unfold QO;dsimp only;generalize QcU C b hs o fn=z
  rcases z with _|z
  ·exact Jm (Qaa λw=>rfl) QQ
  ·exact Jm (QT λw=>QT λw=>Zc rfl) QQ
 |AugAssign t o e p=>
  cases t with
  |Name x px=>exact Jm (QT λw=>QT λw=>Zc rfl) QQ
  |_=>exact QQ
 |For tg it a o p=>exact absurd rfl (h3 tg it a o p)
 |_=>exact QQ
def Qpe(C:Ctx)(m:Nat)(tg it:Expr)(a:List Stmt):S->Prop
 |.loop t s b=>Z0 C tg=some t/\compSrc m C it=some s/\QaO s t=true/\compSs m C a=some b
 |.loopK ..=>True
 |.loopC ..=>True
 |.loopD ..=>True
 |.loopZ ..=>True
 |_=>False
def ZL{it:Expr}{a o:List Stmt}(h:QO (m+1) C (.For tg it a o p)=some ir):o=[]/\Qpe C m tg it a ir:=by
 cases o with
 |cons _ _=>exact nomatch (show none=some _ from h)
 |nil=>
  unfold QO at h;try dsimp only at h;split at h
  ·simp only[Xd,Xc]at h;obtain⟨_,_,_,_,rfl⟩:=h;exact⟨rfl,trivial⟩
  simp only[Xd]at h;obtain⟨tg',ht,it',hi,h⟩:=h;split at h
  ·rename_i ok;simp only[Xd]at h;obtain⟨a',ha,h⟩:=h;cases h;exact⟨rfl,ht,hi,ok,ha⟩
  ·cases h
def QlC(st:Stmt):(∃e f p,st=.Raise e f p)\/(∃t a b p,st=.If t a b p)\/(∃tg it a o p,st=.For tg it a o p)\/((∀e f p,st≠.Raise e f p)/\(∀t a b p,st≠.If t a b p)/\∀tg it a o p,st≠.For tg it a o p):=by
 cases st with
 |Raise e f p=>exact .inl ⟨e,f,p,rfl⟩
 |If t a b p=>exact .inr (.inl ⟨t,a,b,p,rfl⟩)
 |For tg it a o p=>exact .inr (.inr (.inl ⟨tg,it,a,o,p,rfl⟩))
 |_=>exact .inr (.inr (.inr ⟨λy y y z=>(nomatch z),λy y y y z=>(nomatch z),λy y y y y z=>(nomatch z)⟩))
def Zr{e f:Option Expr}(h:QO (m+1) C (.Raise e f p)=some ir):ir=.bad\/∃c args es,QeX C e f=some (c,args)/\compA m C args=some es/\ir=.rse c es:=by
 unfold QO at h;try dsimp only at h;split at h
 ·rename_i c args hr;simp only[Xd]at h;obtain⟨es,he,h⟩:=h;cases h;exact .inr ⟨c,args,es,hr,he,rfl⟩
 ·cases h;exact .inl rfl
def Yi{t0:Expr}{a0 b0:List Stmt}(h:QO (m+1) C (.If t0 a0 b0 p)=some ir):∃t a b,compT m C t0=some t/\compSs m C a0=some a/\compSs m C b0=some b/\ir=.ite t a b:=by
 unfold QO at h;simp only[Xd]at h;obtain⟨t',ht,a',ha,b',hb,h⟩:=h;cases h;exact⟨t',a',b',ht,ha,hb,rfl⟩
def Qd5{c:Nat}(h:QO (m+1) C st=some (.rse c es)): ∃x px q args p,st=.Raise (some (.Call (.Name x px) args [] q)) none p/\compA m C args=some es/\Zz C x=true/\x≠"__debug__"/\C.gl.lookup x=some (.cls c)/\C.T.ers.contains c=true:=by
 rcases QlC st with⟨e,f,p,rfl⟩|⟨t,a,b,p,rfl⟩|⟨tg,it,a,o,p,rfl⟩|⟨h1,h2,h3⟩
 ·rcases Zr h with z|⟨c',args,es',hr,he,z⟩
  ·cases z
  ·cases z;obtain⟨x,px,q,rfl,rfl,h1,h2,h3,h4⟩:=QeW hr;exact⟨x,px,q,args,p,rfl,he,h1,h2,h3,h4⟩
 ·obtain⟨_,_,_,_,_,_,z⟩:=Yi h;cases z
 ·exact(ZL h).2.elim
 ·exact nomatch Jl h1 h2 h3 _ h
def Qd6{t:Iv.E}{a b:List S}(h:QO (m+1) C st=some (.ite t a b)):∃t0 a0 b0 p,st=.If t0 a0 b0 p/\compT m C t0=some t/\compSs m C a0=some a/\compSs m C b0=some b:=by
 rcases QlC st with⟨e,f,p,rfl⟩|⟨t0,a0,b0,p,rfl⟩|⟨tg,it,a,o,p,rfl⟩|⟨h1,h2,h3⟩
 ·rcases Zr h with z|⟨_,_,_,_,_,z⟩<;>cases z
 ·obtain⟨t',a',b',ht,ha,hb,z⟩:=Yi h;cases z;exact⟨t0,a0,b0,p,rfl,ht,ha,hb⟩
 ·exact(ZL h).2.elim
 ·exact nomatch Jl h1 h2 h3 _ h
def Qcv{t:Tg}{s:Src}{b:List S}(h:QO (m+1) C st=some (.loop t s b)):∃tg it a p,st=.For tg it a [] p/\Z0 C tg=some t/\compSrc m C it=some s/\QaO s t=true/\compSs m C a=some b:=by
 rcases QlC st with⟨e,f,p,rfl⟩|⟨t0,a0,b0,p,rfl⟩|⟨tg,it,a,o,p,rfl⟩|⟨h1,h2,h3⟩
 ·rcases Zr h with z|⟨_,_,_,_,_,z⟩<;>cases z
 ·obtain⟨_,_,_,_,_,_,z⟩:=Yi h;cases z
 ·obtain⟨rfl,q⟩:=ZL h;exact⟨tg,it,a,p,rfl,q⟩
 ·exact nomatch Jl h1 h2 h3 _ h
def Qd7{n:S}{f:Nat}(h:QO (m+1) C st=some (.cal n f es)):False:=by
 rcases QlC st with⟨e,f,p,rfl⟩|⟨t0,a0,b0,p,rfl⟩|⟨tg,it,a,o,p,rfl⟩|⟨h1,h2,h3⟩
 ·rcases Zr h with z|⟨_,_,_,_,_,z⟩<;>cases z
 ·obtain⟨_,_,_,_,_,_,z⟩:=Yi h;cases z
 ·exact(ZL h).2
 ·exact nomatch Jl h1 h2 h3 _ h
def QfI{x:Str}{as:List Expr}(h:QfJ C x as=some t): Zz C x=true/\x≠"__debug__"/\C.gl.lookup x=some (.fn t.1)/\t.2=as:=by
 unfold QfJ at h;rw[Xd]at h;obtain⟨k,hk,h⟩:=h;rw[Wi]at h;obtain⟨_,h⟩:=h;cases h;obtain⟨h1,h2,h3⟩:=Qbi hk;exact⟨h1,h2,h3,rfl⟩
def JA{e:Expr}(h:QfK C e=some t): ∃f pf a args q,e=.Call (.Name f pf) (a::args) [] q/\t.2=a::args/\Zz C f=true/\f≠"__debug__"/\C.gl.lookup f=some (.fn t.1):= by
 cases e with
 |Call g as ks q=>
  cases g with
  |Name f pf=>
   cases as with
   |nil=>cases h
   |cons a r=>
    cases ks with
    |cons _ _=>cases h
    |nil=>
     obtain⟨h1,h2,h3,h4⟩:=QfI (show QfJ C f (a::r)=some t from h);exact⟨f,pf,a,r,q,rfl,h4,h1,h2,h3⟩
  |_=>exact nomatch (show none=some _ from h)
 |_=>exact nomatch (show none=some _ from h)
def Qh3{e:Expr}(h:QlE C e=some t): QfK C e=some t\/∃p e1 q,e=.Call (.Name "list" p) [e1] [] q/\Zz C "list"=true/\¬C.bl.contains ("list":Str)= false/\QfK C e1=some t:=by
 unfold QlE at h;split at h
 ·rename_i z;cases h;exact .inl z
 cases e with
 |Call g as ks q=>
  cases g with
  |Name x p=>
   have z:(if x="list"&&Zz C x&&(C.gl.lookup x).isNone&&C.bl.contains x then(match as with|[e]=>(match ks with|[]=>QfK C e|_::_=>none)|_=>none)else none)=some t:=h
   clear h;rw[Wi]at z;obtain⟨c,z⟩:=z;simp only[Xg,Xq]at c;obtain⟨⟨⟨rfl,c1⟩,_⟩,c3⟩:=c
   cases as with
   |nil=>cases z
   |cons e1 r=>
    cases r with
    |cons _ _=>cases z
    |nil=>
     cases ks with
     |cons _ _=>cases z
     |nil=>exact .inr ⟨p,e1,q,rfl,c1,by rw[c3];decide,z⟩
  |_=>exact nomatch (show none=some _ from h)
 |_=>exact nomatch (show none=some _ from h)
def TXE(T:Tbl)(A:Adr)(K:W.Frag)(f:Rho->Hs->Option (Er×Hs))(E:XK):TE:=λY H z=>∃α ρ hs c hs',RS A α ρ Y/\Rep T A K α hs H/\f ρ hs=some (c,hs') /\
 ∀α' H' dd,Ext α α' H H'->Rep T A K α' hs' H'->EF T H' c dd->E (.ref (A.c c.1)) dd H'
abbrev Qip(X:Cx)(A:Adr)(E:XK):Prop:=∀pins Y H H' s s' e B a0 c dd,Inv X pins Y H s->Inv X pins Y H' s'->Heap.FlyingW B X.stack e (.ref (A.c c)) a0 s'.heap->Cov B H' s X.stack->H' e=none->X.s₀.heap.get? e=none->DictAt s'.heap e dd->E (.ref (A.c c)) dd H'->X.xe (.ref e) s'
def Qbz{f:Str}{pf q1:Pos}{a:Expr}{args:List Expr}{i:Nat}(hxf:Qip X A E)(bX:Bd X)(g:GX T A C X.nox)(F:Fc X.nox T A cf k)(hr:Room k X.A)(S:Snd T A C X.nox cf m)(gf:Zz C f=true)(df:f≠"__debug__")(lf:C.gl.lookup f=some (.fn i))(ha:compA m C (a::args)=some es)(n:Iv.S):
  PE X (.Call (.Name f pf) (a::args) [] q1) (TXE T A X.K (exX T cf (d+1) (.cal n i es)) E):=by
 have hns:=Ql ha;have st:starEach (a::args) X.env=(false,eval a X.env)::starEach args X.env:=Qn (hns a (Xo ..));have sa:(backTo q1 (starEach args X.env)).any (·.1)=false:=QS λz hz=>hns z (Xk _ hz);intro pins s Y H Q I q;obtain⟨α,ρ,hs0,c',h2,rs,R,e,q⟩:=q;simp only[exX]at e;obtain⟨us,hh1,e1,e⟩:=Qb e;rw[Wi]at e;obtain⟨c3,ex'⟩:=e
 cases hF:T.fns[i]? with
 |none=>rw[hF]at c3;cases c3
 |some Fn=>
 rw[hF]at c3;have c3:us.length=Fn.np:=Wn c3;obtain⟨fd,G,bb,kp⟩:=F.xf i Fn hF;refine Wx (Zi I (show Gl X f from Q0 (X:=X.nox) g gf) (g.gfn f i lf) ?_ (QP df));have pa0:=Qll (S.a d (a::args) es ha) q1 pins s Y H (λvs H1=>∃α1,Ext α α1 H H1/\Rep T A X.K α1 hh1 H1/\RUs A α1 us vs) I ⟨α,ρ,hs0,us,hh1,rs,R,e1,λα' vs H' E' R' r'=>⟨α',E',R',r'⟩⟩;refine W.callWith_K (h₀:=X.base) I.ok.mod.kin kp (Xz pa0 (λus1 s1 ⟨vs,H1,I1,r,α1,E1,R1,ru⟩=>⟨I1.kIn,?_⟩) λy y z=>z) st sa
 have ll:us1.length=Fn.ps.length:=by
  obtain⟨fd',fn',_,_,lp,_⟩:=g.txt.fn i Fn hF;rw[lp,<-c3,ru.length,r.length]
 have hsp:spX T A X.K T.xf i vs H1 (λy y=>False) (λCv o H'=>Cv=.ref (A.c c'.1)/\EF T H' c' o/\∃α',Ext α1 α' H1 H'/\Rep T A X.K α' h2 H'):=
  ⟨α1,us,hh1,c',h2,ru,R1,ex',⟨Fn,hF,c3⟩,λα' H' dd E' R' ef=>⟨rfl,ef,α',E',R'⟩⟩
 refine Ut (Uq (G.run X.A X.stack s1 H1 ⟨us1,[]⟩ us1 vs _ _ hr I1.env0 (by have:=bb s1 us1 I1.kIn (by rw[W4];exact ll);rw[W4]at this;exact this) r hsp) λrr s' hq=>?_)
 cases rr with
 |ok fl=>
  cases fl with
  |ret u=>
   obtain⟨_,_,_,_,_,_,_,z⟩:=hq;exact z.elim
  |next=>exact False.elim hq
  |brk=>exact False.elim hq
  |cont=>exact False.elim hq
 |error ev=>
  obtain⟨e0,C0,H',B,a0,dd,rfl,J,flw,cv,hn,hs1,h00,da,⟨hC,ef,α2,E2,R2⟩⟩:=QkG I1 bX.ex (show CXw X.prog X.w X.stack H1 s1 (λCv o H'=>Cv=.ref (A.c c'.1)/\EF T H' c' o/\∃α',Ext α1 α' H1 H'/\Rep T A X.K α' h2 H') ev s' from hq);cases hC;exact hxf pins Y H1 H' s1 s' e0 B a0 c'.1 dd I1 J flw cv hn h00 da (q α2 H' dd (E1.trans E2 R2.h) R2 ef)
def Qmh{stt:Stmt}{n:Iv.S}(hxf:Qip X A E)(bX:Bd X)(g:GX T A C X.nox)(fl:∀x,X.fn x=true\/X.env.scope.names.lookup x=some .local)(F:Fc X.nox T A cf k)(hr:Room k X.A)(S:Snd T A C X.nox cf m)(ht:QkW C stt=some t)(ha:compA m C t.2=some es):
  PS X stt (TX T A X.K (exX T cf (d+1) (.cal n t.1 es)) E):=by
 cases stt with
 |Assign ts e p=>
  change Qnn C ts e=some t at ht
  unfold Qnn at ht;split at ht
  ·rename_i x hx;obtain⟨px,rfl⟩:=Qa2 hx;rw[Wi]at ht;obtain⟨hl,ht⟩:=ht;rw[Xg]at hl;obtain⟨i,hi⟩:=W7.mp hl.2;obtain⟨f,pf,a,args,q,rfl,h1,gf,df,lf⟩:=JA ht;rw[h1]at ha
   exact Q7 (Qbt (i:=i) g.nd (by have:=g.N;rw[show X.N=X.nox.N from rfl,this];exact QU hi) (Y5 (X:=X.nox) g hl.1) (Qbz hxf bX g F hr S gf df lf ha n) rfl (fl x)) λD Y H z=>z
  ·cases ht
 |Return v p=>
  cases v with
  |none=>cases ht
  |some e=>
   rcases Qh3 (show QlE C e=some t from ht)with hE|⟨p1,e1,q1,rfl,gl,hb,hE⟩
   ·obtain⟨f,pf,a,args,q,rfl,h1,gf,df,lf⟩:=JA hE;rw[h1]at ha;exact Q7 (Qdc (Qbz hxf bX g F hr S gf df lf ha n)) λD Y H z=>z
   ·obtain⟨f,pf,a,args,q,rfl,h1,gf,df,lf⟩:=JA hE;rw[h1]at ha
    exact Q7 (Qdc (Yu (T:="list") (r:=λy y y=>False) (λy y y y y y y y y z=>z.elim) (show Gl X "list" from Q0 (X:=X.nox) g gl) (g.blt _ hb) (by decide +kernel) (ZD (Qbz (d:=d) hxf bX g F hr S gf df lf ha n) J0 rfl) (by decide) (by decide) rfl rfl)) λD Y H z=>z
 |Expr e p=>
  obtain⟨f,pf,a,args,q,rfl,h1,gf,df,lf⟩:=JA (show QfK C e=some t from ht);rw[h1]at ha;exact Q7 (QaG (Qbz hxf bX g F hr S gf df lf ha n) rfl) λD Y H z=>z
 |_=>exact nomatch (show none=some _ from ht)
def QnH{it:Expr}{wi:L2.TI}(h:PI X.nox tg it wi):PI X tg it wi:=λpins s Y H R I hw=>
 Xz (h pins s Y H R (I.wish _) hw) (λv s1 z=>Xz z (λitv s2 y=>by obtain⟨it,fp,tn,J,H2,e,I2,T,st,f2,r⟩:=y;exact⟨it,fp,tn,J,H2,e,I2.unwish,T,st,f2,r⟩) λx x z=>False.elim z) λx x z=>False.elim z
def QnI{g:TG}(h:PG X.nox tg g):PG X tg g:=λpins s Y H v u Q I r hw=>
 Xz (h pins s Y H v u Q (I.wish _) r hw) (λy s' x=>by obtain⟨Y',H',I',q⟩:=x;exact⟨Y',H',I'.unwish,q⟩) λy y z=>False.elim z
def Qli{st:List Stmt}{t:TS}(h:PSs X.nox st t):PSs X st t:=λpins s Y H D I hw=>
 Xz (h pins s Y H D (I.wish _) hw) (λy y q=>q.unwish) λy y z=>False.elim z
def Qlj{b:List Stmt}{t1 t2:TS}(h1:PSs X b t1)(h2:PSs X b t2):PSs X b (λD Y H=>t1 D Y H\/t2 D Y H):=λpins s Y H D I z=>z.elim (h1 pins s Y H D I) (h2 pins s Y H D I)
def QdR{body:List S}{w:Wk}{t:Tg}{J:It}{D:Ends}{α0:List Addr}{H0:Hp}{σ0:St}{ρ0:Rho}{h0 hs':Hs}{n:Nat}(tx:Txt T A X.K X.mg)(rs0:RS A α0 ρ0 σ0)(R0:Rep T A X.K α0 h0 H0)(W0:WJ A X.K α0 J H0 w)
  (e0:QhZ T w t (exs T cf d body) (exsX T cf d body) n 0 ρ0 h0=some (c,hs'))
  (q:∀α' H' dd,Ext α0 α' H0 H'->Rep T A X.K α' hs' H'->EF T H' c dd->E (.ref (A.c c.1)) dd H'):
  ∃W:Nat->Nat->St->Hp->Prop,(∃m,W 0 m σ0 H0)/\∀i m Y H,W i m Y H->(J.stop i H/\D.nx Y H)\/(J.go i H/\∃N:St->Hp->Prop,(∀Y' H',N Y' H'->∃m',m'<m/\W (i+1) m' Y' H') /\
   ∀x H',J.yld i H x H'->gT X.K t x Y H' λσ2 H2=>TIS T A X.K (exs T cf d body) {D with nx:=N,ct:=N,bk:=D.nx} σ2 H2\/TX T A X.K (exsX T cf d body) E {D with nx:=N,ct:=N,bk:=D.nx} σ2 H2):=by
 refine⟨λi m Y H=>∃α ρ hs,RS A α ρ Y/\Rep T A X.K α hs H/\Ext α0 α H0 H/\QhZ T w t (exs T cf d body) (exsX T cf d body) m i ρ hs=some (c,hs'),⟨n,α0,ρ0,h0,rs0,R0,Ext.refl,e0⟩,?_⟩;rintro i m Y H ⟨α,ρ,hs,rs,R,E0,e⟩
 cases m with
 |zero=>cases e
 |succ m=>
  have W:=W0.mono E0.pre E0.fz;simp only[QhZ]at e;split at e
  ·cases e
  ·cases e
  ·rename_i x ei;split at e
   ·cases e
   ·rename_i ρ1 et;obtain⟨go,yl⟩:=QbN tx R W rs ei et;refine .inr ⟨go,λY' H'=>∃α ρ hs,RS A α ρ Y'/\Rep T A X.K α hs H'/\Ext α0 α H0 H'/\QhZ T w t (exs T cf d body) (exsX T cf d body) m (i+1) ρ hs=some (c,hs'),λY' H' z=>⟨m,W6 _,z⟩,?_⟩;intro v H' hy;refine yl v H' _ hy λσ2 rs2 R2 E2=>?_;have E02:Ext α0 α H0 H':=E0.trans E2 R2.h;split at e
    ·rename_i ρ2 h2 eb;exact .inl (TIS.run rs2 R2 eb λα3 σ3 H3 E3 R3 rs3=>⟨α3,ρ2,h2,rs3,R3,E02.trans E3 R3.h,e⟩)
    ·rename_i ρ2 h2 eb;exact .inl (TIS.run rs2 R2 eb λα3 σ3 H3 E3 R3 rs3=>⟨α3,ρ2,h2,rs3,R3,E02.trans E3 R3.h,e⟩)
    ·cases e
    ·exact .inr (TX.run rs2 R2 e λα3 H3 dd E3 R3 f3=>q α3 H3 dd (E02.trans E3 R3.h) R3 f3)
theorem QnO(hxe:∀pins Y H s h' e vs c,Inv X pins Y H s->Heap.MadeExcOf s.heap h' e (.ref (A.c c)) vs->E (.ref (A.c c)) none H->X.xe (.ref e) {s with heap:=h'})(hxi:∀pins Y H s e oe vs a0 c,Inv X pins Y H s->H e=none->X.s₀.heap.get? e=none->e≠X.env.locals->s.heap.get? e=some oe->oe.cls=.ref (A.c c)->oe.data=.fields vs->vs[0]?=some a0->vs[1]?=some .none->E (.ref (A.c c)) oe.dict H->X.xe (.ref e) s)(hxf:Qip X A E)(hpo:PassesOwn (model X.prog X.w) X.A X.env X.xe)(bX:Bd X)(g:GX T A C X.nox)(fl:∀x,X.fn x=true\/X.env.scope.names.lookup x=some .local)(F:Fc X.nox T A cf k)(hr:Room (k+1) X.A)(hr3:Room 3 X.A):∀m,SndX T A C X cf E m
 |0=>⟨λd st ir h=>by first|exact Znn h|simp[QO]at h,λd sts irs h=>by exact Znn h⟩
 |m+1=>by
  have IH:=QnO hxe hxi hxf hpo bX g fl F hr hr3 m;have N:Snd2 T A C X.nox cf m:=QeR m g F (λy=>hr) hr.units;have NS:SndS T A C X.nox cf m:=Qmc (X:=X.nox) ⟨bX.stk,bX.frm,bX.ex,bX.cm⟩ g fl F hr m;refine⟨λd st ir h=>?_,λd sts irs h=>?_⟩
  ·cases d with
   |zero=>exact Zs λD Y H v=>by obtain⟨_,_,_,_,_,_,_,e,_⟩:=v;cases e
   |succ d=>
   cases ir with
   |rse c es=>
    obtain⟨x,px,q,args,p,rfl,ha,g1,g2,g3,g4⟩:=Qd5 h;have cl:=g.gcl x c g3;rw[g.CT]at g4;have xk:=(g.txt.er c g4).2
    have en:(∀f,T.efl.contains (c,f)=false)->∀H,EF T H (c,.non) none:=λz H f q=>by rw[z f]at q;cases q
    have pa:=Qll (N.s.a d args es ha);have ln:=QG ha
    cases args with
    |nil=>
     have ee:es=[]:=by simpa using ln
     subst ee;obtain⟨nf,xk⟩:=xk;refine Q7 (Qdd (W:=λH=>E (.ref (A.c c)) none H) xk (show Gl X x from Q0 (X:=X.nox) g g1) cl bX.cm (λpins Y H s h' e vs I mx w=>hxe pins Y H s h' e vs c I mx w) (QP g2)) ?_;rintro D Y H ⟨α,ρ,hs,c',hs',rs,R,e,q⟩;simp only[exX,evs,bd,rsv,Te]at e;rw[Wi]at e;obtain⟨_,e⟩:=e;cases e;exact q α H none Ext.refl R (en nf H)
    |cons a r=>
     obtain⟨nf,xk⟩:=xk;refine Q7 (Qe2 (W:=λH=>E (.ref (A.c c)) none H) xk (show Gl X x from Q0 (X:=X.nox) g g1) cl bX.cm pa (λpins Y H s h' e vs I mx w=>hxe pins Y H s h' e vs c I mx w) (Qn (Ql ha a (Xo ..))) (QS λz hz=>Ql ha z (Xk _ hz)) (QP g2)) ?_;rintro D Y H ⟨α,ρ,hs,c',hs',rs,R,e,q⟩;simp only[exX]at e;obtain⟨us,h1,e1,e⟩:=Qb e;rw[Wi]at e;obtain⟨⟨_,lz⟩,e⟩:=e;simp only[rsv,Te]at e;cases e;refine TIA.run rs R e1 λα1 vs H1 E1 R1 r1 rs1=>⟨?_,q α1 H1 none E1 R1 (en nf H1)⟩;rw[<-r1.length,ZQ e1]
     exact X2 lz (by decide)
   |ite t a b=>
    obtain⟨t0,a0,b0,p,rfl,ht,ha,hb⟩:=Qd6 h;refine Q7 (QjJ (PT.nox (N.s.t d t0 t ht).1) (IH.ss d a0 a ha) (IH.ss d b0 b hb)) ?_;rintro D Y H ⟨α,ρ,hs,c',hs',rs,R,e,q⟩;simp only[exX]at e;split at e
    ·rename_i h1 e1;refine TIT.run rs R e1 λα1 H1 E1 R1 rs1=>?_;rw[if_pos rfl];exact TX.run rs1 R1 e λα2 H2 dd E2 R2 f2=>q α2 H2 dd (E1.trans E2 R2.h) R2 f2
    ·rename_i h1 e1;refine TIT.run rs R e1 λα1 H1 E1 R1 rs1=>?_;rw[if_neg Xh];exact TX.run rs1 R1 e λα2 H2 dd E2 R2 f2=>q α2 H2 dd (E1.trans E2 R2.h) R2 f2
    ·cases e
   |cal n f es=>exact(Qd7 h).elim
   |loop t s b=>
    obtain⟨tg,it,a,p,rfl,ht,hi,ok,ha⟩:=Qcv h;refine Q7 (Qde hpo bX.cm (QnH (N.w d it _ tg hi (Qf7 ht ok))) (QnI (QnQ (X:=X.nox) bX.cm g fl ht)) (Qlj (Qli (NS.ss d a b ha)) (IH.ss d a b ha)) (QbG hi)) ?_;rintro D Y H ⟨α,ρ,hs,c',hs',rs,R,e,q⟩;simp only[exX]at e;obtain⟨w,h1,e1,e⟩:=Qb e;refine⟨α,ρ,hs,w,h1,rs,R,e1,λα1 J H1 E1 R1 W1=>?_⟩;exact QdR g.txt (rs.mono E1.pre) R1 W1 e λα2 H2 dd E2 R2 f2=>q α2 H2 dd (E1.trans E2 R2.h) R2 f2
   |_=>exact Zs λD Y H u=>by obtain⟨_,_,_,_,_,_,_,e,_⟩:=u;simp[exX]at e
  ·cases d with
   |zero=>exact ZN λD Y H o=>by obtain⟨_,_,_,_,_,_,_,e,_⟩:=o;cases e
   |succ d=>
   cases sts with
   |nil=>
    cases h
    exact ZN λD Y H l=>by obtain⟨_,_,_,_,_,_,_,e,_⟩:=l;simp[exsX]at e
   |cons st r=>
    simp only[compSs,Xd]at h;obtain⟨s',hs',r',hr',h⟩:=h;cases h
    have IS:PS X st (TX T A X.K (exX T cf d s') E):=by
     unfold QlD at hs';split at hs'
     ·rename_i t ht;simp only[Xc]at hs';obtain⟨es,ha,rfl⟩:=hs'
      cases d with
      |zero=>exact Zs λD Y H j=>by obtain⟨_,_,_,_,_,_,_,e,_⟩:=j;cases e
      |succ d=>exact Qmh hxf bX g fl F (hr.mono (Uh _)) N.s ht ha
     ·cases hs';exact IH.sB d st
    intro pins s Y H D I z;obtain⟨α,ρ,hs,c',hs2,rs,R,e,q⟩:=z;simp only[exsX]at e;split at e
    ·rename_i ρ1 h1 e1;refine Yb (QnG (Qgu hs' (λd=>NS.sB d st) d)) (IH.ss d r r' hr') pins s Y H D I ?_;exact TIS.run rs R e1 λα1 σ1 H1 E1 R1 rs1=>TX.run (D:=D) rs1 R1 e λα2 H2 dd E2 R2 f2=>q α2 H2 dd (E1.trans E2 R2.h) R2 f2
    ·cases e
    ·refine Yb IS (ZN (t:=λy y y=>False) λy y y z=>z) pins s Y H D I ?_;exact TX.run (D:=D) rs R e q
end
section
variable {P:Program}{w:World}{K:W.Frag}{mg:Str->Option Value}{base:Heap}{T:Tbl}{A:Adr}{gl:List (Str×G)}{bl:List Str}
def Qh0{rm:Nat}(tp:Top T A K mg gl bl)(tab:JH P w T A K)(hb:YR T gl bl)(hX:XOk P w K mg base T A rm)(m f:Nat)(F:Fn)(hF:T.fns[f]?=some F):∃fd,FnOk P w K mg base (CXw P w) (rm+2+2*m) (A.f f) fd F.ps (spX T A K (Q4 T m) f)/\Binds K fd F.ps []/\W.keepIn K (.ref (A.f f))=true:=by
 obtain⟨fd,fn,b,sc,lp,lN⟩:=tp.txt.fn f F hF;refine⟨fd,?_,b,fn.kp⟩
 cases m with
 |zero=>
  have no:∀vs H Q E,¬spX T A K (Q4 T 0) f vs H Q E:=λvs H Q E h=>by
   obtain⟨α,us,hs,u,hs',_,_,e,_⟩:=h;cases e
  exact⟨λvs H Q E h=>absurd h (no vs H Q E),λA outer s H args us vs Q E z z z z h=>absurd h (no vs H Q E)⟩
 |succ n=>
  obtain⟨oc,od,dV,kV,doc,pm,an,cdv,ct,osl,rfl,lk,hcd⟩:=fn.ex;obtain⟨m,hm⟩:=hb f F hF;refine QkF (k:=rm+2+2*n+1) lk hcd sc (λvs H Q E h=>?_) (λA' outer s H vs Q E hr h=>?_)
  ·obtain⟨α,us,hs,u,hs',r,_,_,⟨F',h1,h2⟩,_⟩:=h;rw[hF]at h1;cases h1;rw[<-r.length,h2,lp]
  ·obtain⟨α,us,hs,c,hs',r,R,e,_,q⟩:=h;refine⟨TX T A K (exsX T (Qd T n) dd F.body) E,?_,?_⟩
   ·have gx:GX T A ⟨T,F.N,(Qv F.st).names,gl,bl,F.lc⟩ (Qd2 (CXw P w) P w K mg base F.N F.qual (Qv F.st) (A.f f) cdv A' outer s H E).nox :=
     ⟨rfl,rfl,sc.nd,rfl,λz=>rfl,sc.kind,rfl,tp.gfn,tp.gcl,tp.gco,tp.gtx,tp.blt,tp.txt,tab⟩
    have fc:Fc (Qd2 (CXw P w) P w K mg base F.N F.qual (Qv F.st) (A.f f) cdv A' outer s H E).nox T A (Qd T n) (rm+2*n):=⟨λf' F' h'=>by
     obtain⟨fd',G,b',kp,_⟩:=Qaf tp tab hb hX n f' F' h'
     exact⟨fd',G,b',kp⟩,Jd,λi D F' hD h'=>by
     obtain⟨fd',G,_,kp,fn'⟩:=Qaf tp tab hb hX n i F' h';obtain⟨fd2,x,q,st,fn2,dk,hp⟩:=tp.txt.df i D hD;have e:=FunD.same fn2 fn';subst e;rw[(hp F' h').1]at G
     exact⟨fd2,G,kp,dk⟩,λf' F' h'=>by
     obtain⟨fd',G,b',kp⟩:=hX f' F' h'
     exact⟨fd',G.mono (Nat.le_add_right _ _),b',kp⟩⟩
    refine(QnO (X:=Qd2 (CXw P w) P w K mg base F.N F.qual (Qv F.st) (A.f f) cdv A' outer s H E) (λpins Y H1 s1 h' e vs c I mx w=>?_) (λpins Y H1 s1 e oe vs a0 c I hn h0 hl he hc hd v0 v1 w=>?_) (λpins Y H1 H2 s1 s2 e B a0 c dd I J fl cv hn h0 da w=>?_) ?_ ⟨rfl,rfl,rfl,rfl⟩ gx (λz=>.inl rfl) fc (hr.mono (by omega)) (hr.mono (by omega)) m).ss dd (Zq F.st) F.body hm
    ·exact Qcn (L:=_) rfl rfl rfl I mx w
    ·exact YA (L:=_) rfl rfl rfl I hn h0 hl he hc hd v0 v1 w
    ·exact QdF (L:=_) rfl rfl rfl J fl (cv.up I rfl) hn h0 da w
    ·exact PassesOwn.leaving
   ·simp only[Q4,hF]at e;split at e
    case isFalse=>cases e
    exact TX.run (Jf r lN) R e q
def Qog{dd:Option Addr}(h1:T'.fns'=T.fns')(h5:T'.efl=T.efl)(h:EF T H c dd):EF T' H c dd:=λf q=>by
 rw[h5]at q;rw[h1];exact h f q
def Qju{α:List Addr}{hs:Hs}(h1:T'.fns'=T.fns')(h2:T'.cls=T.cls)(h3:T'.scr=T.scr)(h4:T'.ers=T.ers)(h5:T'.efl=T.efl)(R:Rep T A K α hs H):Rep T' A K α hs H:=by
 refine⟨⟨R.h.len,R.h.nd,λn a o e1 e2=>?_⟩,?_⟩
 ·have z:=R.h.ob n a o e1 e2
  cases o with
  |ins c fs=>
   obtain⟨dx,fv,q1,q2,q3⟩:=z
   refine⟨dx,fv,q1,?_,by rw[h2];exact q3⟩
   unfold RF at *;rw[h1];exact q2
  |err c w=>
   obtain⟨dd,q1,q2,q3⟩:=z
   exact⟨dd,q1,by rw[h4];exact q2,Qog h1 h5 q3⟩
  |_=>exact z
 ·obtain⟨vs,q1,q2⟩:=R.s
  exact⟨vs,by rw[h3];exact q1,q2⟩
def QlW{rm m:Nat}(hf:T'.fns=T.fns)(h1:T'.fns'=T.fns')(h2:T'.cls=T.cls)(h3:T'.scr=T.scr)(h4:T'.ers=T.ers)(h5:T'.efl=T.efl)(hx:T'.xf=Q4 T m)(tp:Top T A K mg gl bl)(tab:JH P w T A K)(hb:YR T gl bl)(hX:XOk P w K mg base T A rm):
  XOk P w K mg base T' A (rm+2+2*m):=λf F hF=>by
 rw[hf]at hF;obtain⟨fd,G,b,kp⟩:=Qh0 tp tab hb hX m f F hF;refine⟨fd,G.imp λvs H Q E h=>?_,b,kp⟩;obtain⟨α,us,hs,c,hs',r,R,e,⟨F',e1,e2⟩,q⟩:=h
 refine⟨α,us,hs,c,hs',r,Qju h1.symm h2.symm h3.symm h4.symm h5.symm R,by rw[<-hx];exact e,⟨F',by rw[<-hf];exact e1,e2⟩,λα' H' dd E' R' f'=>q α' H' dd E' (Qju h1 h2 h3 h4 h5 R') (Qog h1 h5 f')⟩
def QgQ{x:Nat->List U->Hs->Option (Er×Hs)}(tp:Top T A K mg gl bl):Top {T with xf:=x} A K mg gl bl :=
 ⟨⟨tp.txt.fn,tp.txt.df,λi C e=>let c:=tp.txt.cl i C e;⟨c.cls,c.nf,c.me,c.mks,c.kp,c.ini,c.ty⟩,tp.txt.fm,tp.txt.fd,tp.txt.isi,tp.txt.co,tp.txt.er,tp.txt.es⟩,tp.gfn,tp.gcl,tp.gco,tp.gtx,tp.blt⟩
end
end Iv
namespace K26
open PySem Iv L2
variable {rd:Bool}{cf:Cf}{a e el:E}{Q:Fl->Rho->Hs->Prop}{h h1 h2 h3 h4 hb hs:Hs}{g j x:Int}{es:List E}{N c ch ha ns o t':List Int}{body r:List Iv.S}{L cs s us vs xs ys:List U}{cp ct d f i k m m' n p p5 pp q st t:Nat}{x7:Option U}{ρ ρ' ρ1:Rho}{src:Src}{T:Tbl}{tg:Tg}{α β:Type}{cu ou u u4 v w way y z:U}
noncomputable def Qpg:List Str:=["side","way","counted","hand","other","kept","steps","cast","things"]
noncomputable def Qo6:List Str:=["ties","ends","takes","gives","mark","mirrored","turned","all_sums"]
noncomputable def glo:List (Str×G):=([("KEEPERS",.con 0),("Stitch",.cls 0),("Plain",.cls 1),("Off",.cls 2),("NOUGHT",.con 1),("plain_sum",.fn 9),("total",.fn 10),("product",.fn 11),("repeated",.fn 12),("worth",.fn 13),("is_sized",.fn 14),("counts",.fn 15),("part_counts",.fn 16),("stitch_counts",.fn 17),("counts_added",.fn 18),("totals",.fn 19),("counts_times",.fn 20),("choice_of",.fn 21),("is_fit",.fn 22),("choice_with",.fn 23)]:List (Str×G))++([("telling_size",.fn 24),("MOST_ROWS",.txt (.int 300 0)),("Walk",.cls 3),("walked",.fn 27),("written_rows",.fn 28),("counted_rows",.fn 29),("row_counts",.fn 30),("walked_many",.fn 31),("walk_items",.fn 32),("walk_block",.fn 33),("walk_row",.fn 34),("unit",.fn 35),("times_of_rest",.fn 36),("gap_of",.fn 37),("kept_behind",.fn 38),("choice_of_ones",.fn 39),("raised",.fn 40),("refuse_at",.fn 41),("MOST_STITCHES",.txt (.int 3000 0)),("rows_at",.fn 42)]:List (Str×G))++([("unrolled",.fn 43),("unrolled_often",.fn 44),("stitches_many",.fn 45),("worked_many",.fn 46),("worked_steps",.fn 47),("item_steps",.fn 48),("parts_of",.fn 49),("knitted",.fn 50),("Pattern",.cls 4),("own_copy",.fn 52),("_law_cell_at",.fn 53),("_law_often",.fn 54),("_law_is_too_many",.fn 55),("_law_refused",.fn 56),("_law_sum",.fn 57),("law",.fn 58),("StitchError",.cls 5),("NoSum",.cls 6),("NoPattern",.cls 7),("TooMany",.cls 8)]:List (Str×G))++([("Miscount",.cls 9)]:List (Str×G))
noncomputable def QlH:List Str:=["len","int","tuple","list","dict","isinstance","range","zip","reversed","enumerate","sum","any","sorted","ValueError"]
noncomputable def Qpr:List Co:=[.tup [.str [119],.str [120],.str [121],.str [122]],.tup [.int 0 0,.int 0 0,.int 0 0,.int 0 0,.int 0 0]]
noncomputable def Qoj:List Cl:=[⟨"Stitch",none,[(0,0),(1,1)],[0]⟩,⟨"Plain",some 2,[(0,5),(1,1),(2,3),(3,4)],[1,0]⟩,⟨"Off",none,[(0,0),(1,8),(2,6),(3,7)],[2,0]⟩,⟨"Walk",some 25,[(7,26)],[3]⟩,⟨"Pattern",some 51,[],[4]⟩]
noncomputable def Qo8:List ((Ty×Ty)×Bool):=[((.cls 1,.list),false),((.cls 1,.tuple),false),((.cls 2,.list),false),((.cls 2,.tuple),false),((.cls 8,.cls 6),false),((.cls 8,.cls 7),false),((.cls 8,.cls 8),true),((.cls 8,.cls 9),false),((.cls 8,.vale),true)]
noncomputable def Qpp:List (Nat×Df):=[(21,⟨["lies","asked","many"],3,"many",[.int 0 0]⟩)]
noncomputable def Qpm:List Str:=[]
noncomputable def Qos:List Str:=[]
noncomputable def Qpi:List Nat:=[8]
noncomputable def Qph:List (Nat×Nat):=[(8,8),(8,5)]
noncomputable def Qo3:List Nat:=[27,42]
noncomputable def Qpk:List (Nat×Nat):=[]
noncomputable def Qpl:List Nat:=[]
noncomputable def Qpn:List Str:=[]
noncomputable def b0:List S:=[.ret (.lst [])]
noncomputable def b1:List S:=[.ret (.lst [])]
noncomputable def b2:List S:=[.fld (.var 0) 0 (.var 1)]
noncomputable def b3:List S:=[.ret (.c (.int 1 0))]
noncomputable def b4:List S:=[.ret (.c (.int 1 0))]
noncomputable def b5:List S:=[.ret (.lst [.tup [.c (.str [110,101,119]),.tup [.c (.int 0 0)],.fld (.var 0) 0,.c (.int 0 0)]])]
noncomputable def b6:List S:=[.ret (.c (.int 1 0))]
noncomputable def b7:List S:=[.ret (.c (.int 0 0))]
noncomputable def b8:List S:=[.ret (.lst [.tup [.c (.int 0 0),.c (.str [111,102,102])]])]
noncomputable def b9:List S:=[.ret (.tup [.var 0,.c (.int 0 0),.c (.int 0 0),.c (.int 0 0),.c (.int 0 0)])]
noncomputable def b10:List S:=[.ret (.bi .tuple [.comp (.zip (.var 0) (.var 1)) true none (.op .Add (.var 2) (.var 3))])]
noncomputable def b11:List S:=[.ite (.not (.call 14 [.var 0])) [.ret (.call 12 [.var 1,.ix (.var 0) (.c (.int 0 0))])] [],.ite (.not (.call 14 [.var 1])) [.ret (.call 12 [.var 0,.ix (.var 1) (.c (.int 0 0))])] [],.bad]
noncomputable def b12:List S:=[.ret (.bi .tuple [.comp (.seq (.var 0)) false none (.op .Mult (.var 2) (.var 1))])]
noncomputable def b13:List S:=[.ret (.op .Add (.ix (.var 0) (.c (.int 0 0))) (.bi .sum [.comp (.zip (.sl (.var 0) (some (.c (.int 1 0))) none) (.var 1)) true none (.op .Mult (.var 2) (.var 3))]))]
noncomputable def b14:List S:=[.ret (.bi .any [.comp (.seq (.sl (.var 0) (some (.c (.int 1 0))) none)) false none (.cmp .NotEq (.var 1) (.c (.int 0 0)))])]
noncomputable def b15:List S:=[.set 1 (.tup [.con 1,.con 1,.comp (.seq (.con 0)) false none (.con 1),.comp (.seq (.con 0)) false none (.con 1)]),.loop (.name 2) (.seq (.var 0)) [.set 1 (.call 18 [.var 1,.call 16 [.var 2]])],.ret (.var 1)]
noncomputable def b16:List S:=[.ite (.cmp .Eq (.ix (.var 0) (.c (.int 0 0))) (.c (.str [111,110,101]))) [.ret (.call 17 [.ix (.var 0) (.c (.int 1 0))])] [],.ret (.call 20 [.call 15 [.ix (.var 0) (.c (.int 2 0))],.ix (.var 0) (.c (.int 1 0))])]
noncomputable def b17:List S:=[.set 1 (.comp (.seq (.meth 1 (.var 0) [])) false none (.ix (.var 5) (.c (.int 1 0)))),.set 2 (.meth 0 (.var 0) []),.set 3 (.comp (.seq (.con 0)) false none (.call 9 [.bm .count (.var 1) [.var 5]])),.set 4 (.comp (.seq (.con 0)) false none (.call 9 [.bm .count (.var 2) [.tup [.c (.str [102,114,111,109]),.var 5]]])),.ret (.tup [.call 9 [.meth 2 (.var 0) []],.call 9 [.meth 3 (.var 0) []],.var 3,.var 4])]
noncomputable def b18:List S:=[.ret (.tup [.call 10 [.ix (.var 0) (.c (.int 0 0)),.ix (.var 1) (.c (.int 0 0))],.call 10 [.ix (.var 0) (.c (.int 1 0)),.ix (.var 1) (.c (.int 1 0))],.call 19 [.ix (.var 0) (.c (.int 2 0)),.ix (.var 1) (.c (.int 2 0))],.call 19 [.ix (.var 0) (.c (.int 3 0)),.ix (.var 1) (.c (.int 3 0))]])]
noncomputable def b19:List S:=[.ret (.comp (.zip (.var 0) (.var 1)) true none (.call 10 [.var 2,.var 3]))]
noncomputable def b20:List S:=[.set 2 (.comp (.seq (.ix (.var 0) (.c (.int 2 0)))) false none (.call 11 [.var 4,.var 1])),.set 3 (.comp (.seq (.ix (.var 0) (.c (.int 3 0)))) false none (.call 11 [.var 4,.var 1])),.ret (.tup [.call 11 [.ix (.var 0) (.c (.int 0 0)),.var 1],.call 11 [.ix (.var 0) (.c (.int 1 0)),.var 1],.var 2,.var 3])]
noncomputable def b21:List S:=[.set 3 (.comp (.zip (.var 0) (.var 1)) true none (.op .Sub (.var 6) (.var 7))),.loop (.pair 4 5) (.enm (.var 3)) [.ite (.not (.call 22 [.var 5,.var 2])) [.ret (.call 23 [.var 4,.ix (.var 3) (.c (.int 0 0)),.var 5,.var 2])] []],.ret (.c .non)]
noncomputable def b22:List S:=[.ite (.cmp .Eq (.var 1) (.c (.int 0 0))) [.ret (.cmp .Eq (.var 0) (.c (.int 0 0)))] [],.ret (.and (.cmp .GtE (.var 0) (.c (.int 0 0))) (.cmp .Eq (.op .Mod (.var 0) (.var 1)) (.c (.int 0 0))))]
noncomputable def b23:List S:=[.set 4 (.lst [.c (.int 0 0),.c (.int 0 0),.c (.int 0 0),.c (.int 0 0)]),.ite (.cmp .Gt (.var 0) (.c (.int 0 0))) [.put (.var 4) (.op .Sub (.var 0) (.c (.int 1 0))) (.call 24 [.var 1,.var 2,.var 3])] [],.ret (.var 4)]
noncomputable def b24:List S:=[.ite (.or (.cmp .Eq (.var 2) (.c (.int 0 0))) (.cmp .NotEq (.op .Mod (.var 1) (.var 2)) (.c (.int 0 0)))) [.ret (.c (.int 1 0))] [],.ret (.op .Add (.op .FloorDiv (.var 0) (.neg (.var 1))) (.c (.int 1 0)))]
noncomputable def b25:List S:=[.fld (.var 0) 1 (.fld (.var 1) 1),.fld (.var 0) 2 (.var 2),.fld (.var 0) 3 (.fld (.var 1) 7),.fld (.var 0) 4 (.con 1),.fld (.var 0) 5 (.comp (.seq (.con 0)) false none (.con 1)),.fld (.var 0) 6 (.lst [])]
noncomputable def b26:List S:=[.ret (.op .Add (.lst [.fld (.var 0) 3,.fld (.var 0) 4]) (.fld (.var 0) 5))]
noncomputable def b27:List S:=[.set 1 (.make 3 [.var 0,.call 29 [.call 28 [.fld (.var 0) 8]]]),.ite (.cmp .Gt (.call 31 [.fld (.var 0) 8]) (.c (.int 300 0))) [.rse 8 []] [],.set 2 (.call 32 [.var 1,.fld (.var 0) 8,.c (.int 0 0)]),.set 3 (.call 10 [.fld (.var 1) 3,.fld (.var 1) 4]),.expr (.call 41 [.call 21 [.var 3,.con 1,.c (.int 0 0)],.var 2,.c (.str [101,110,100]),.var 3,.con 1]),.ret (.fld (.var 1) 6)]
noncomputable def b28:List S:=[.set 1 (.lst []),.loop (.name 2) (.seq (.var 0)) [.expr (.bm .extend (.var 1) [.ife (.cmp .Eq (.ix (.var 2) (.c (.int 0 0))) (.c (.str [114,111,119]))) (.lst [.var 2]) (.call 28 [.ix (.var 2) (.c (.int 2 0))])])],.ret (.var 1)]
noncomputable def b29:List S:=[.set 1 (.lst []),.loop (.pair 2 3) (.enm (.var 0)) [.tryN [.expr (.bm .append (.var 1) [.call 30 [.var 3]])]],.ret (.var 1)]
noncomputable def b30:List S:=[.ite (.cmp .Eq (.bi .len [.var 0]) (.c (.int 3 0))) [.ret (.tup [.call 15 [.ix (.var 0) (.c (.int 1 0))],.c .non])] [],.set 1 (.call 15 [.ix (.var 0) (.c (.int 3 0))]),.ite (.or (.cmp .Lt (.ix (.ix (.var 1) (.c (.int 0 0))) (.c (.int 0 0))) (.c (.int 1 0))) (.bi .any [.comp (.seq (.op .Add (.op .Add (.lst [.ix (.var 1) (.c (.int 0 0)),.ix (.var 1) (.c (.int 1 0))]) (.ix (.var 1) (.c (.int 2 0)))) (.ix (.var 1) (.c (.int 3 0))))) false none (.call 14 [.var 2])])) [.bad] [],.ret (.tup [.call 15 [.op .Add (.ix (.var 0) (.c (.int 1 0))) (.ix (.var 0) (.c (.int 4 0)))],.var 1])]
noncomputable def b31:List S:=[.set 1 (.c (.int 0 0)),.loop (.name 2) (.seq (.var 0)) [.ite (.cmp .Eq (.ix (.var 2) (.c (.int 0 0))) (.c (.str [114,111,119]))) [.aug 1 .Add (.c (.int 1 0))] [.aug 1 .Add (.op .Mult (.call 31 [.ix (.var 2) (.c (.int 2 0))]) (.ife (.call 14 [.ix (.var 2) (.c (.int 1 0))]) (.c (.int 1 0)) (.ix (.ix (.var 2) (.c (.int 1 0))) (.c (.int 0 0)))))]],.ret (.var 1)]
noncomputable def b32:List S:=[.loop (.name 3) (.seq (.var 1)) [.ite (.cmp .Eq (.ix (.var 3) (.c (.int 0 0))) (.c (.str [114,111,119]))) [.expr (.call 34 [.var 0,.var 3,.var 2]),.aug 2 .Add (.c (.int 1 0))] [.set 2 (.call 33 [.var 0,.var 3,.var 2])]],.ret (.var 2)]
noncomputable def b33:List S:=[.set 3 (.var 2),.ite (.call 14 [.ix (.var 1) (.c (.int 1 0))]) [.set 4 (.meth 7 (.var 0) []),.set 3 (.call 32 [.var 0,.ix (.var 1) (.c (.int 2 0)),.var 2]),.loop (.pair 5 6) (.zip (.meth 7 (.var 0) []) (.var 4)) [.expr (.call 41 [.call 21 [.var 5,.var 6,.c (.int 0 0)],.var 2,.c (.str [98,108,111,99,107]),.var 5,.var 6])]] [.loop (.name 7) (.rng (.ix (.ix (.var 1) (.c (.int 1 0))) (.c (.int 0 0)))) [.set 3 (.call 32 [.var 0,.ix (.var 1) (.c (.int 2 0)),.var 2])]],.ret (.var 3)]
noncomputable def b34:List S:=[.set 3 (.ix (.ix (.fld (.var 0) 2) (.var 2)) (.c (.int 0 0))),.set 4 (.ix (.ix (.fld (.var 0) 2) (.var 2)) (.c (.int 1 0))),.expr (.call 41 [.call 21 [.fld (.var 0) 3,.ix (.var 3) (.c (.int 0 0)),.call 35 [.var 1,.var 4]],.var 2,.c (.str [110,101,101,100,108,101]),.fld (.var 0) 3,.ix (.var 3) (.c (.int 0 0))]),.set 5 (.call 36 [.fld (.var 0) 3,.var 3,.var 4]),.set 6 (.ife (.cmp .Is (.var 4) (.c .non)) (.var 3) (.call 18 [.var 3,.call 20 [.var 4,.var 5]])),.expr (.bm .append (.fld (.var 0) 6) [.tup [.var 2,.fld (.var 0) 3,.fld (.var 0) 4,.var 5]]),.fld (.var 0) 5 (.call 38 [.fld (.var 0) 5,.var 6,.var 2]),.set 7 (.call 37 [.fld (.var 0) 3,.ix (.var 6) (.c (.int 0 0))]),.ite (.cmp .Eq (.fld (.var 0) 1) (.c (.str [114,111,117,110,100]))) [.fld (.var 0) 3 (.ix (.var 6) (.c (.int 1 0)))] [.fld (.var 0) 3 (.call 10 [.fld (.var 0) 4,.ix (.var 6) (.c (.int 1 0))]),.fld (.var 0) 4 (.var 7)]]
noncomputable def b35:List S:=[.ite (.cmp .IsNot (.var 1) (.c .non)) [.ret (.ix (.ix (.var 1) (.c (.int 0 0))) (.c (.int 0 0)))] [],.ret (.ife (.ix (.var 0) (.c (.int 2 0))) (.c (.int 1 0)) (.c (.int 0 0)))]
noncomputable def b36:List S:=[.ite (.cmp .Is (.var 2) (.c .non)) [.ret (.con 1)] [],.ret (.bi .tuple [.comp (.seq (.call 37 [.var 0,.ix (.var 1) (.c (.int 0 0))])) false none (.op .FloorDiv (.var 3) (.ix (.ix (.var 2) (.c (.int 0 0))) (.c (.int 0 0))))])]
noncomputable def b37:List S:=[.ret (.bi .tuple [.comp (.zip (.var 0) (.var 1)) true none (.op .Sub (.var 2) (.var 3))])]
noncomputable def b38:List S:=[.set 3 (.lst []),.loopZ [4,5,6,7] [.con 0,.var 0,.ix (.var 1) (.c (.int 2 0)),.ix (.var 1) (.c (.int 3 0))] [.ite (.and (.cmp .Eq (.var 6) (.con 1)) (.cmp .Eq (.var 7) (.con 1))) [.expr (.bm .append (.var 3) [.var 5])] [.expr (.call 41 [.call 39 [.var 5,.var 7],.var 2,.var 4,.var 5,.var 7]),.expr (.bm .append (.var 3) [.var 6])]],.ret (.var 3)]
noncomputable def b39:List S:=[.set 2 (.call 21 [.call 40 [.var 0],.call 40 [.var 1],.c (.int 0 0)]),.ret (.ife (.cmp .Is (.var 2) (.c .non)) (.c .non) (.comp (.seq (.var 2)) false none (.op .Add (.var 3) (.c (.int 1 0)))))]
noncomputable def b40:List S:=[.ret (.op .Add (.tup [.bi .sum [.var 0]]) (.sl (.var 0) (some (.c (.int 1 0))) none))]
noncomputable def b41:List S:=[.ite (.cmp .IsNot (.var 0) (.c .non)) [.bad] []]
noncomputable def b42:List S:=[.cal (.set 2 (.call 27 [.var 0])) 27 [.var 0],.ite (.cmp .Gt (.call 46 [.fld (.var 0) 8,.var 1]) (.c (.int 300 0))) [.rse 8 []] [],.set 3 (.call 28 [.fld (.var 0) 8]),.set 4 (.lst []),.set 5 (.lst []),.loop (.name 6) (.seq (.call 47 [.fld (.var 0) 8,.var 2,.var 1])) [.expr (.bm .append (.var 4) [.ix (.var 6) (.c (.int 0 0))]),.expr (.bm .append (.var 5) [.call 49 [.ix (.var 3) (.ix (.var 6) (.c (.int 0 0))),.ix (.var 6) (.c (.int 3 0))]])],.ite (.cmp .Gt (.bi .sum [.comp (.seq (.var 5)) false none (.call 45 [.var 7,.var 1])]) (.c (.int 3000 0))) [.rse 8 []] [],.ret (.comp (.zip (.var 4) (.var 5)) true none (.tup [.var 7,.call 43 [.var 8,.var 1],.ix (.ix (.var 3) (.var 7)) (.c (.int 2 0))]))]
noncomputable def b43:List S:=[.set 2 (.lst []),.loop (.name 3) (.seq (.var 0)) [.ite (.cmp .Eq (.ix (.var 3) (.c (.int 0 0))) (.c (.str [111,110,101]))) [.expr (.bm .append (.var 2) [.ix (.var 3) (.c (.int 1 0))])] [.expr (.bm .extend (.var 2) [.call 44 [.ix (.var 3) (.c (.int 2 0)),.call 13 [.ix (.var 3) (.c (.int 1 0)),.var 1],.var 1]])]],.ret (.var 2)]
noncomputable def b44:List S:=[.set 3 (.ife (.cmp .Eq (.var 1) (.c (.int 0 0))) (.lst []) (.call 43 [.var 0,.var 2])),.ret (.ife (.var 3) (.op .Mult (.var 3) (.var 1)) (.lst []))]
noncomputable def b45:List S:=[.set 2 (.c (.int 0 0)),.loop (.name 3) (.seq (.var 0)) [.aug 2 .Add (.ife (.cmp .Eq (.ix (.var 3) (.c (.int 0 0))) (.c (.str [111,110,101]))) (.c (.int 1 0)) (.op .Mult (.call 13 [.ix (.var 3) (.c (.int 1 0)),.var 1]) (.call 45 [.ix (.var 3) (.c (.int 2 0)),.var 1])))],.ret (.var 2)]
noncomputable def b46:List S:=[.set 2 (.c (.int 0 0)),.loop (.name 3) (.seq (.var 0)) [.aug 2 .Add (.ife (.cmp .Eq (.ix (.var 3) (.c (.int 0 0))) (.c (.str [114,111,119]))) (.c (.int 1 0)) (.op .Mult (.call 13 [.ix (.var 3) (.c (.int 1 0)),.var 1]) (.call 46 [.ix (.var 3) (.c (.int 2 0)),.var 1])))],.ret (.var 2)]
noncomputable def b47:List S:=[.set 3 (.lst []),.set 4 (.c (.int 0 0)),.loop (.name 5) (.seq (.var 0)) [.set 6 (.op .Add (.var 4) (.call 31 [.lst [.var 5]])),.expr (.bm .extend (.var 3) [.call 48 [.var 5,.sl (.var 1) (some (.var 4)) (some (.var 6)),.var 2]]),.set 4 (.var 6)],.ret (.var 3)]
noncomputable def b48:List S:=[.ite (.cmp .Eq (.ix (.var 0) (.c (.int 0 0))) (.c (.str [114,111,119]))) [.ret (.var 1)] [],.ite (.call 14 [.ix (.var 0) (.c (.int 1 0))]) [.ret (.op .Mult (.call 47 [.ix (.var 0) (.c (.int 2 0)),.var 1,.var 2]) (.call 13 [.ix (.var 0) (.c (.int 1 0)),.var 2]))] [],.set 3 (.lst []),.set 4 (.op .FloorDiv (.bi .len [.var 1]) (.ix (.ix (.var 0) (.c (.int 1 0))) (.c (.int 0 0)))),.loop (.name 5) (.rngA [.c (.int 0 0),.bi .len [.var 1],.var 4]) [.expr (.bm .extend (.var 3) [.call 47 [.ix (.var 0) (.c (.int 2 0)),.sl (.var 1) (some (.var 5)) (some (.op .Add (.var 5) (.var 4))),.var 2]])],.ret (.var 3)]
noncomputable def b49:List S:=[.ite (.cmp .Eq (.bi .len [.var 0]) (.c (.int 3 0))) [.ret (.ix (.var 0) (.c (.int 1 0)))] [],.ret (.op .Add (.op .Add (.ix (.var 0) (.c (.int 1 0))) (.lst [.tup [.c (.str [116,105,109,101,115]),.var 1,.ix (.var 0) (.c (.int 3 0))]])) (.ix (.var 0) (.c (.int 4 0))))]
noncomputable def b50:List S:=[.cal (.set 2 (.call 42 [.var 0,.var 1])) 42 [.var 0,.var 1],.bad,.bad,.bad]
noncomputable def b51:List S:=[.fld (.var 0) 1 (.var 1),.fld (.var 0) 7 (.var 2),.fld (.var 0) 8 (.call 52 [.var 3])]
noncomputable def b52:List S:=[.ite (.isi (.var 0) .list) [.ret (.comp (.seq (.var 0)) false none (.call 52 [.var 1]))] [],.ite (.isi (.var 0) .tuple) [.ret (.bi .tuple [.comp (.seq (.var 0)) false none (.call 52 [.var 1])])] [],.ret (.var 0)]
noncomputable def b53:List S:=[.ite (.cmp .Lt (.var 1) (.bi .len [.var 0])) [.ret (.ix (.var 0) (.var 1))] [],.ret (.c (.int 0 0))]
noncomputable def b54:List S:=[.set 2 (.ix (.var 0) (.c (.int 0 0))),.loop (.name 3) (.rng (.c (.int 4 0))) [.set 2 (.op .Add (.var 2) (.op .Mult (.ix (.var 0) (.op .Add (.var 3) (.c (.int 1 0)))) (.ix (.var 1) (.var 3))))],.ret (.var 2)]
noncomputable def b55:List S:=[.ite (.or (.not (.isi (.var 0) (.cls 8))) (.not (.isi (.var 0) .vale))) [.ret (.c (.bl false))] [],.ret (.and (.not (.isi (.var 0) (.cls 9))) (.and (.not (.isi (.var 0) (.cls 6))) (.not (.isi (.var 0) (.cls 7)))))]
noncomputable def b56:List S:=[.set 2 (.c .non),.tryS (some 3) 42 [.var 0,.var 1] 5 [.set 2 (.var 3)],.ite (.not (.call 55 [.var 2])) [.ret (.c (.bl false))] [],.set 2 (.c .non),.tryS (some 3) 50 [.var 0,.var 1] 5 [.set 2 (.var 3)],.ret (.call 55 [.var 2])]
noncomputable def b57:List S:=[.ret (.tup [.op .Add (.c (.int 1 0)) (.op .Mod (.var 0) (.var 1)),.op .Mod (.op .FloorDiv (.var 0) (.var 1)) (.c (.int 2 0)),.op .Mod (.op .FloorDiv (.op .FloorDiv (.var 0) (.var 1)) (.c (.int 2 0))) (.c (.int 2 0)),.op .Mod (.op .FloorDiv (.op .FloorDiv (.var 0) (.var 1)) (.c (.int 4 0))) (.c (.int 2 0)),.c (.int 0 0)])]
noncomputable def b58:List S:=[.set 1 (.op .Add (.comp (.rng (.c (.int 3 0))) false none (.op .Mod (.call 53 [.var 0,.var 19]) (.c (.int 41 0)))) (.lst [.c (.int 0 0)])),.ite (.cmp .Eq (.op .Mod (.call 53 [.var 0,.c (.int 3 0)]) (.c (.int 8 0))) (.c (.int 1 0))) [.put (.var 1) (.op .Mod (.op .FloorDiv (.call 53 [.var 0,.c (.int 3 0)]) (.c (.int 8 0))) (.c (.int 3 0))) (.op .Mod (.call 53 [.var 0,.c (.int 4 0)]) (.op .Pow (.c (.int 10 0)) (.c (.int 18 0))))] [],.set 2 (.call 57 [.call 53 [.var 0,.c (.int 5 0)],.c (.int 12 0)]),.set 3 (.call 57 [.call 53 [.var 0,.c (.int 6 0)],.c (.int 60 0)]),.ite (.cmp .Eq (.op .Mod (.op .FloorDiv (.call 53 [.var 0,.c (.int 3 0)]) (.c (.int 24 0))) (.c (.int 3 0))) (.c (.int 1 0))) [.set 3 (.tup [.op .Add (.c (.int 1 0)) (.op .Mod (.call 53 [.var 0,.c (.int 6 0)]) (.c (.int 298 0))),.c (.int 0 0),.c (.int 0 0),.c (.int 0 0),.c (.int 0 0)])] [],.set 4 (.tup [.c (.str [114,111,119]),.lst [],.c (.bl false),.lst [.tup [.c (.str [111,110,101]),.make 1 [.c (.int 1 0)]]],.lst []]),.set 5 (.lst [.var 4]),.set 6 (.c (.int 1 0)),.ite (.cmp .Eq (.op .Mod (.call 53 [.var 0,.c (.int 7 0)]) (.c (.int 2 0))) (.c (.int 1 0))) [.set 7 (.call 57 [.op .FloorDiv (.call 53 [.var 0,.c (.int 7 0)]) (.c (.int 2 0)),.c (.int 3 0)]),.ite (.cmp .Gt (.ix (.var 3) (.c (.int 0 0))) (.c (.int 60 0))) [.set 7 (.tup [.c (.int 1 0),.c (.int 0 0),.c (.int 0 0),.c (.int 0 0),.c (.int 0 0)]),.set 3 (.tup [.op .FloorDiv (.ix (.var 3) (.c (.int 0 0))) (.c (.int 3 0)),.c (.int 0 0),.c (.int 0 0),.c (.int 0 0),.c (.int 0 0)])] [],.set 5 (.lst [.var 4,.tup [.c (.str [98,108,111,99,107]),.var 7,.lst [.var 4,.var 4]]]),.set 6 (.op .Add (.c (.int 1 0)) (.op .Mult (.c (.int 2 0)) (.call 54 [.var 7,.var 1])))] [],.set 8 (.op .Add (.op .Mult (.var 6) (.call 54 [.var 3,.var 1])) (.c (.int 1 0))),.set 9 (.call 54 [.var 2,.var 1]),.set 10 (.tup [.c (.str [114,111,119]),.lst [],.c (.bl false),.lst [.tup [.c (.str [111,110,101]),.make 2 []]],.lst []]),.set 11 (.ix (.lst [.c (.str [102,108,97,116]),.c (.str [114,111,117,110,100])]) (.op .Mod (.op .FloorDiv (.call 53 [.var 0,.c (.int 7 0)]) (.c (.int 2 0))) (.c (.int 2 0)))),.set 12 (.make 4 [.var 11,.var 2,.lst [.tup [.c (.str [98,108,111,99,107]),.var 3,.var 5],.var 10]]),.ite (.or (.cmp .Gt (.var 8) (.c (.int 300 0))) (.cmp .Gt (.op .Mult (.var 8) (.var 9)) (.c (.int 3000 0)))) [.ret (.call 56 [.var 12,.var 1])] [],.cal (.set 13 (.call 42 [.var 12,.var 1])) 42 [.var 12,.var 1],.ite (.or (.not (.isi (.var 13) .list)) (.cmp .NotEq (.bi .len [.var 13]) (.var 8))) [.ret (.c (.bl false))] [],.loop (.name 14) (.rng (.var 8)) [.unpN [15,16,17] (.ix (.var 13) (.var 14)),.set 18 (.op .Add (.bi .len [.var 5]) (.bi .int [.cmp .Gt (.bi .len [.var 5]) (.c (.int 1 0))])),.ite (.cmp .Lt (.op .Add (.var 14) (.c (.int 1 0))) (.var 8)) [.set 18 (.c (.int 0 0)),.ite (.cmp .Gt (.op .Mod (.var 14) (.var 6)) (.c (.int 0 0))) [.set 18 (.op .Add (.c (.int 1 0)) (.op .Mod (.op .Sub (.op .Mod (.var 14) (.var 6)) (.c (.int 1 0))) (.c (.int 2 0))))] []] [],.ite (.or (.cmp .NotEq (.var 15) (.var 18)) (.or (.cmp .NotEq (.bi .len [.var 16]) (.var 9)) (.cmp .IsNot (.var 17) (.c (.bl false))))) [.ret (.c (.bl false))] []],.ret (.c (.bl true))]
noncomputable def F0(x:Str)(k:Nat)(N:List Str)(n:Nat)(b:List S):Fn:=⟨x,x,top k,N.take n,N,n,N.length,false,b⟩
noncomputable def F1(x q:Str)(k j:Nat)(N:List Str)(n:Nat)(b:List S):Fn:=⟨x,q,Qh (top k) j,N.take n,N,n,N.length,false,b⟩
noncomputable def fnL:List Fn:=[F1 "ties" "Stitch.ties" 9 0 ["self"] 1 b0,
 F1 "ends" "Stitch.ends" 9 1 ["self"] 1 b1,
 F1 "__init__" "Plain.__init__" 10 0 ["self","side"] 2 b2,
 F1 "takes" "Plain.takes" 10 1 ["self"] 1 b3,
 F1 "gives" "Plain.gives" 10 2 ["self"] 1 b4,
 F1 "ties" "Plain.ties" 10 3 ["self"] 1 b5,
 F1 "takes" "Off.takes" 11 0 ["self"] 1 b6,
 F1 "gives" "Off.gives" 11 1 ["self"] 1 b7,
 F1 "ends" "Off.ends" 11 2 ["self"] 1 b8,
 F0 "plain_sum" 14 ["number"] 1 b9,
 F0 "total" 15 ["one","other"] 2 b10,
 F0 "product" 16 ["one","other"] 2 b11,
 F0 "repeated" 17 ["one","often"] 2 b12,
 F0 "worth" 18 ["one","choice"] 2 b13,
 F0 "is_sized" 19 ["one"] 1 b14,
 F0 "counts" 21 ["parts","found","part"] 1 b15,
 F0 "part_counts" 22 ["part"] 1 b16,
 F0 "stitch_counts" 23 ["stitch","words","ties","keeps","fetches"] 1 b17,
 F0 "counts_added" 24 ["one","other"] 2 b18,
 F0 "totals" 25 ["some","others"] 2 b19,
 F0 "counts_times" 26 ["one","often","keeps","fetches"] 2 b20,
 F0 "choice_of" 27 ["lies","asked","many","gaps","place","gap"] 3 b21,
 F0 "is_fit" 28 ["gap","many"] 2 b22,
 F0 "choice_with" 29 ["place","first","gap","many","choice"] 4 b23,
 F0 "telling_size" 30 ["first","gap","many"] 3 b24,
 F1 "__init__" "Walk.__init__" 33 0 ["self","pattern","counted"] 3 b25,
 F1 "all_sums" "Walk.all_sums" 33 1 ["self"] 1 b26,
 F0 "walked" 34 ["pattern","walk","behind","lies"] 1 b27,
 F0 "written_rows" 35 ["items","rows","item"] 1 b28,
 F0 "counted_rows" 36 ["rows","counted","number","row"] 1 b29,
 F0 "row_counts" 37 ["row","rest"] 1 b30,
 F0 "walked_many" 38 ["items","many","item"] 1 b31,
 F0 "walk_items" 39 ["walk","items","number","item"] 3 b32,
 F0 "walk_block" 40 ["walk","block","number","behind","ahead","lies","asked","again"] 3 b33,
 F0 "walk_row" 41 ["walk","row","number","once","rest","often","whole","left"] 3 b34,
 F0 "unit" 42 ["row","rest"] 2 b35,
 F0 "times_of_rest" 43 ["hand","once","rest"] 3 b36,
 F0 "gap_of" 44 ["one","other"] 2 b37,
 F0 "kept_behind" 45 ["kept","whole","number","behind","keeper","lies","put","fetched"] 3 b38,
 F0 "choice_of_ones" 46 ["lies","asked","choice"] 2 b39,
 F0 "raised" 47 ["one"] 1 b40,
 F0 "refuse_at" 48 ["choice","row","place","lies","asked"] 5 b41,
 F0 "rows_at" 51 ["pattern","choice","steps","rows","numbers","works","step"] 2 b42,
 F0 "unrolled" 52 ["parts","choice","stitches","part"] 2 b43,
 F0 "unrolled_often" 53 ["parts","often","choice","once"] 3 b44,
 F0 "stitches_many" 54 ["parts","choice","many","part"] 2 b45,
 F0 "worked_many" 55 ["items","choice","many","item"] 2 b46,
 F0 "worked_steps" 56 ["items","steps","choice","worked","place","item","behind"] 3 b47,
 F0 "item_steps" 57 ["item","steps","choice","worked","once","place"] 3 b48,
 F0 "parts_of" 58 ["row","often"] 2 b49,
 F0 "knitted" 62 ["pattern","choice","rows","needles","number","stitches","turn"] 2 b50,
 F1 "__init__" "Pattern.__init__" 67 0 ["self","way","cast","items"] 4 b51,
 F0 "own_copy" 68 ["thing"] 1 b52,
 F0 "_law_cell_at" 70 ["_law_script","_law_k"] 2 b53,
 F0 "_law_often" 71 ["_law_one","_law_choice","_law_found","_law_k"] 2 b54,
 F0 "_law_is_too_many" 72 ["_law_error"] 1 b55,
 F0 "_law_refused" 73 ["_law_pattern","_law_choice","_law_error","e"] 2 b56,
 F0 "_law_sum" 74 ["_law_cell","_law_most"] 2 b57,
 ⟨"law","law",top 75,["_law_script"],["_law_script","_law_choice","_law_cast","_law_often_here","_law_plain_row","_law_inner","_law_many","_law_within","_law_rows","_law_size","_law_last","_law_way","_law_pattern","_law_found","_law_k","_law_number","_law_stitches","_law_turn","_law_due"],1,19,true,b58⟩]
noncomputable def tbX(s:List U):Tbl:=⟨fnL,Qoj,Qpr,Qpg,Qo6,s,Qo8,Qpp,Qpm,Qos,false,Qpi,Qph,Qo3,Qpk,Qpn,Qpl,λz z z=>none⟩
noncomputable def Qi6(s:List U):Tbl:={tbX s with xf:=Q4 (tbX s) 14}
noncomputable def Qi5(s:List U):Tbl:={tbX s with xf:=Q4 (Qi6 s) 14}
noncomputable def tb(s:List U):Tbl:={tbX s with xf:=Q4 (Qi5 s) 14}
noncomputable abbrev sR(n:Nat):Option U:=some (.ref n)
noncomputable abbrev sI(n:Int):Option U:=some (.int n 0)
noncomputable def tbG(x:Nat->List U->Hs->Option (Er×Hs))(s:List U):Tbl:={tbX s with xf:=x}
variable {xx:Nat->List U->Hs->Option (Er×Hs)}
def at0{a:O}{r:Hs}:(hs++a::r)[hs.length]?=some a:=by rw[X3 (Xe _),Ub];rfl
def Qt{r:Hs}{o:O}(h:hs[p]?=some o):(hs++r)[p]?=some o:=by
 rw[Xs (Xf.mp h).1];exact h
def Kp(hs hs':Hs):Prop:=∀(p:Nat) o,hs[p]?=some o->hs'[p]?=some o
def Kp.refl(hs:Hs):Kp hs hs:=λz z h=>h
def Kp.app(hs r:Hs):Kp hs (hs++r):=λz z h=>Qt h
def Kp.trans{a b c:Hs}(h:Kp a b)(h':Kp b c):Kp a c:=λp o e=>h' p o (h p o e)
def Kp.len{a b:Hs}(h:Kp a b):a.length<=b.length:=by
 cases ha:a.length with
 |zero=>lia
 |succ k=>
  have lt:k<a.length:=by lia
  have:=(Xf.mp (h k a[k] (by simp[lt]))).1
  lia
def Kp.put{a b:Hs}{j:Nat}{o:O}(h:Kp a b)(hj:a.length<=j):Kp a (b.set j o):=λp x e=>by
 have lt:=(Xf.mp e).1
 rw[X8 (by lia)]
 exact h p x e
section

def QW{r:List S}{st:S}(e:ex T cf d st ρ hs=some (.next,ρ',h1)):exs T cf (d+1) (st::r) ρ hs=exs T cf d r ρ' h1:=by
 rw[Zd,e]
def QgH{t:E}{a:List S}(e:evT T cf (d+1) t ρ hs=some (false,h1)):ex T cf (d+2) (.ite t a []) ρ hs=some (.next,ρ,h1):=by
 rw[Qar,e,Qx,if_neg (by decide),QgF]
def QcQ{b:E}{o:CmpOp}{c:Bool}(ea:ev T cf d a ρ hs=some (u,h1))(eb:ev T cf d b ρ h1=some (w,h2))(ec:QcC T o u w h2=some c):ev T cf (d+1) (.cmp o a b) ρ hs=some (.bl c,h2):=by
 rw[QlS,ea,Qx,eb,Qx,ec];rfl
def QI{b:E}{o:CmpOp}{c:Bool}(ea:ev T cf d a ρ hs=some (u,h1))(eb:ev T cf d b ρ h1=some (w,h2))(ec:QcC T o u w h2=some c):evT T cf (d+2) (.cmp o a b) ρ hs=some (c,h2):=by
 rw[QiM,QcQ ea eb ec,Qx];rfl
end
def Qcl(h:hs[p]?=some (.lst xs)):biU T .len [.ref p] hs=some (.int xs.length 0,hs):=by unfold biU;simp only[Z9,h]
def Ql2(h:hs[p]?=some (.lst xs)):biU T .tuple [.ref p] hs=some (.ref hs.length,hs++[.tup xs]):=by unfold biU;simp only[h]
def Qld(h:hs[p]?=some (.lst xs))(hl:xs.length<1000000):bmU T .append (.ref p) [u] hs=some (.non,hs.set p (.lst (xs++[u]))):=by
 simp only[bmU,h,bmL,hl];rfl
def Qjv(h:hs[p]?=some (.lst xs)):Qda .append (.ref p) hs=true:=by simp only[Qda,h];rfl
def md(h:0<j):Qkk (.int x 0) (.int j 0)=sI (x % j):=by simp only[Qkk];rw[if_pos h]
def TK(hs hs':Hs):Prop:=∀(i:Nat) us,hs[i]?=some (.tup us)->hs'[i]?=some (.tup us)
def TK.refl:TK hs hs:=λz z h=>h
def TK.trans{a b c:Hs}(h:TK a b)(h':TK b c):TK a c:=λi us e=>h' i us (h i us e)
def TK.app{r:Hs}:TK hs (hs++r):=λi us h=>Qt h
theorem TK.set{x y:O}(h:hs[i]?=some x)(n:∀us,x≠.tup us):TK hs (hs.set i y):=λj us e=>by
 have ne:i≠j:=λz=>by rw[z,e]at h;cases h;exact n us rfl
 rw[X8 ne];exact e
abbrev Nm:=Int×Int
structure Lp where
 ps:List Nm
 sd:Int
 lf:Int
def DN(hs:Hs)(u:U)(a:Nm):Prop:=∃i,u=.ref i/\hs[i]?=some (.tup [.int a.1 0,.int a.2 0])
def DL(hs:Hs)(u:U)(a:Lp):Prop:=∃i j us,u=.ref i/\hs[i]?=some (.tup [.ref j,.int a.sd 0,.int a.lf 0])/\hs[j]?=some (.tup us)/\Paired (DN hs) us a.ps
def DN.mono{hs':Hs}(t:TK hs hs'){a:Nm}(h:DN hs u a):DN hs' u a:=by obtain⟨i,e,h⟩:=h;exact⟨i,e,t _ _ h⟩
def QD{P Q:α->β->Prop}(f:∀a b,P a b->Q a b){l:List α}{r:List β}(h:Paired P l r):Paired Q l r:=Paired.mono f h
def Yc{P:α->β->Prop}{a:α}{b:β}(h:P a b){l:List α}{r:List β}(t:Paired P l r):Paired P (l++[a]) (r++[b]):=t.snoc h
def Qq{P:α->β->Prop}{l:List α}{r:List β}(h:Paired P l r):l.length=r.length:=h.length
theorem DL.mono{hs':Hs}(t:TK hs hs'){a:Lp}(h:DL hs u a):DL hs' u a:=by obtain⟨i,j,us,e,h1,h2,h3⟩:=h;exact⟨i,j,us,e,t _ _ h1,t _ _ h2,QD (λz z=>DN.mono t) h3⟩
def QoQ{lo hi:Option Int}(h:hs[p]?=some (.lst xs)):slU T (.ref p) lo hi hs=some (.ref hs.length,hs++[.lst (YS xs lo hi)]):=by simp only[slU,h]
def Qe5{P:α->β->Prop}(n:Nat){l:List α}{r:List β}(h:Paired P l r):Paired P (l.drop n) (r.drop n):=QaK h n
def Qe4{P:α->β->Prop}(n:Nat){l:List α}{r:List β}(h:Paired P l r):Paired P (l.take n) (r.take n):=QaJ h n
def Ys{P:α->β->Prop}{l l':List α}{r r':List β}(h:Paired P l r)(h':Paired P l' r'):Paired P (l++l') (r++r'):=Qdi h h'
def QoP(h:n<=1000000):Qg ((n:Int)*4)=true:=by
 simp only[Qg,Xg,Xq];lia
def QlJ{xs:List α}{x:α}(h:xs[i]?=some x):atU xs (i:Int)=some x:=by
 have l:=(Xf.mp h).1
 have e:ixU xs.length (i:Int)=some i:=by
  unfold ixU
  rw[if_pos (by lia),if_pos (by lia)]
  simp
 simp only[atU,e,h]
def Zy{TT:Tbl}(e:ev TT cf d a ρ h=some (u,h1)):ex TT cf (d+1) (.set i a) ρ h=some (.next,ρ.set i (some u),h1):=by
 rw[QgD,e,Qx]
def Qf3{TT:Tbl}{t:Option E}{w:Wk}(es:Zn TT (ev TT cf d) ρ src h=some (w,h1))(ec:YG TT (ev TT cf d) (Qcu (evT TT cf d) t) w false el ρ (Q6 TT w h1) 0 [] h1=some (us,h2)):ev TT cf (d+1) (.comp src false t el) ρ h=some (.ref h2.length,h2++[.lst us]):=by
 rw[QfV,es,Qx,ec,Qx]
def Zm{TT:Tbl}{o:Operator}{b:E}{r:Option (U×Hs)}(ea:ev TT cf d a ρ h=some (u,h1))(eb:ev TT cf d b ρ h1=some (w,h2))(eo:opU o u w h2=r):ev TT cf (d+1) (.op o a b) ρ h=r:=by
 rw[Qot,ea,Qx,eb,Qx,eo]
def Qa{TT:Tbl}(e:ρ[i]?=some (some u)):ev TT cf (d+1) (.var i) ρ h=some (u,h):=by
 rw[QlO,e]
def Qs{TT:Tbl}{st:S}(e:ex TT cf (d+1) st ρ h=some (.next,ρ',h1)):exs TT cf (d+2) [st] ρ h=some (.next,ρ',h1):=by
 rw[Zd,e];exact QgF
def Qjh{f:Ev}{i:Int}(e:f a ρ h=some (.int i 0,h1)):Zn T f ρ (.rng a) h=if Qg (i*4)=true then some (.rng 0 i.toNat,h1)else none:=by
 simp only[Zn,e,Qx]
def Qf2{TT:Tbl}(e:ev TT cf d a ρ h=some (.int (n:Int) 0,h1))(l:n<=1000000):Zn TT (ev TT cf d) ρ (.rng a) h=some (.rng 0 n,h1):=by
 rw[Qjh e,if_pos (QoP l),Int.toNat_natCast]
def Qdh{P:α->β->Prop}{l:List α}{r:List β}{a b:Option Int}(h:Paired P l r):Paired P (YS l a b) (YS r a b):=by
 unfold YS;rw[Qq h];exact Qe4 _ (Qe5 _ h)
def QfY{t:Tg}{body:List S}{w:Wk}{r:Option (Fl×Rho×Hs)}(es:Zn T (ev T cf d) ρ src hs=some (w,h1))(ef:Qct T w t (exs T cf d body) (Q6 T w h1) 0 ρ h1=r):ex T cf (d+1) (.loop t src body) ρ hs=r:=by
 rw[QiJ,es,Qx,ef]
def dvj(h:(decide ((0:Int) < j)&&decide (j<1606938044258990275541962092341162602522202993782792835301376))=true):QkK (.int x 0) (.int j 0)=sI (x / j):=by
 simp only[QkK];rw[if_pos h]
section

def Ym{t:E}{a b:List S}{k:Bool}{r:Option (Fl×Rho×Hs)}(e:evT T cf d t ρ hs=some (k,h1))(e2:(if k=true then exs T cf d a ρ h1 else exs T cf d b ρ h1)=r):ex T cf (d+1) (.ite t a b) ρ hs=r:=by
 rw[Qar,e,Qx,e2]
end
section

end
instance:DecidableEq Nm:=inferInstanceAs (DecidableEq (Int×Int))
def QnC{a b:Nat}(ha:hs[a]?=some (.lst xs))(hb:hs[b]?=some (.lst ys))(l:xs.length+ys.length<=1000000):Qle (.ref a) (.ref b) hs=some (.ref hs.length,hs++[.lst (xs++ys)]):=by
 simp only[Qle,ha,hb,Qnm,l,Wo]
def YZ{b c:E}{h0:Hs}{x:U}(ea:ev T cf d a ρ h0=some (u,h1))(eb:ev T cf d b ρ h1=some (v,h2))(ec:ev T cf d c ρ h2=some (w,h3))(ee:ev T cf d e ρ h3=some (x,h4)):ev T cf (d+1) (.tup [a,b,c,e]) ρ h0=some (.ref h4.length,h4++[.tup [u,v,w,x]]):=by
 simp only[Qb2,evs,ea,eb,ec,ee,Qx]
def QgP{TT:Tbl}{t:Option E}{w:Wk}{b:Bool}(es:Zn TT (ev TT cf d) ρ src h=some (w,h1))(ec:YG TT (ev TT cf d) (Qcu (evT TT cf d) t) w b el ρ (Q6 TT w h1) 0 [] h1=some (us,h2)):ev TT cf (d+1) (.comp src b t el) ρ h=some (.ref h2.length,h2++[.lst us]):=by
 rw[QfV,es,Qx,ec,Qx]
def Qat{TT:Tbl}(e:ev TT cf d a ρ h=some (u,h1)):fin (exs TT cf (d+2) [.ret a] ρ h)=some (u,h1):=by
 rw[Zd,QgE,e];rfl
section

def Rr(T:Tbl)(cf:Cf)(d:Nat)(e:E)(ρ:Rho)(h:Hs)(Q:U->Hs->Prop):Prop:=∃u h1,ev T cf d e ρ h=some (u,h1)/\Q u h1
def Xx(T:Tbl)(cf:Cf)(d:Nat)(ss:List S)(ρ:Rho)(h:Hs)(Q:Fl->Rho->Hs->Prop):Prop:=∃f ρ1 h1,exs T cf d ss ρ h=some (f,ρ1,h1)/\Q f ρ1 h1
def Cc(T:Tbl)(m f:Nat)(us:List U)(h:Hs)(Q:U->Hs->Prop):Prop:=∃u h1,Qd T m f us h=some (u,h1)/\Q u h1
def Fq(Q:U->Hs->Prop):Fl->Rho->Hs->Prop:=λf z h=>match f with
 |.next=>Q .non h
 |.ret u=>Q u h
 |_=>False
def Nq(T:Tbl)(cf:Cf)(d:Nat)(r:List S)(Q:Fl->Rho->Hs->Prop):Fl->Rho->Hs->Prop:=λf ρ h=>match f with
 |.next=>Xx T cf d r ρ h Q
 |f=>Q f ρ h
def Zf{b:List S}{Q:U->Hs->Prop}(e:Qd T (m+1) f us h=fin (exs T (Qd T m) dd b ρ h))(x:Xx T (Qd T m) 100 b ρ h (Fq Q)):Cc T (m+1) f us h Q:=by
 obtain⟨f,ρ1,h1,a,q⟩:=x
 cases f with
 |next=>exact⟨_,_,by rw[e,show dd=100 from rfl,a];rfl,q⟩
 |ret u=>exact⟨_,_,by rw[e,show dd=100 from rfl,a];rfl,q⟩
 |brk=>exact q.elim
 |cont=>exact q.elim
def Cc.mono{Q Q':U->Hs->Prop}(c:Cc T m f us h Q)(k:∀u h1,Q u h1->Q' u h1):Cc T m f us h Q':=by obtain⟨u,h1,a,b⟩:=c;exact⟨u,h1,a,k u h1 b⟩
variable {r:List S}{G:U->Hs->Prop}
def ZC(q:Q .next ρ h):Xx T cf (d+1) [] ρ h Q:=⟨_,_,_,QgF,q⟩
def Qcc{st:S}(e:ex T cf d st ρ h=some (.next,ρ1,h1))(q:Xx T cf d r ρ1 h1 Q):Xx T cf (d+1) (st::r) ρ h Q:=by obtain⟨f,a,b,c,x⟩:=q;exact⟨f,a,b,by rw[Zd,e];exact c,x⟩
def QjD(q:Rr T cf d e ρ h λz h1=>Xx T cf (d+1) r ρ h1 Q):Xx T cf (d+2) (.expr e::r) ρ h Q:=by obtain⟨u,h1,a,b⟩:=q;exact Qcc (by rw[JK,a,Qx]) b
def Qz(q:Rr T cf d e ρ h λu h1=>Q (.ret u) ρ h1):Xx T cf (d+2) (.ret e::r) ρ h Q:=by obtain⟨u,h1,a,b⟩:=q;exact⟨_,_,_,by rw[Zd,QgE,a,Qx],b⟩
def Qmo{o i:E}{x k:U}(ee:ev T cf d e ρ h=some (u,h1))(eo:ev T cf d o ρ h1=some (x,h2))(ei:ev T cf d i ρ h2=some (k,h3))(ep:Qiv x k u h3=some h4)(q:Xx T cf (d+1) r ρ h4 Q):Xx T cf (d+2) (.put o i e::r) ρ h Q:=Qcc (by rw[QlP,ee,Qx,eo,Qx,ei,Qx,ep];rfl) q
def Qbq{t:E}{a b:List S}{c:Bool}(e:evT T cf d t ρ h=some (c,h1))(q:Xx T cf d (if c=true then a else b) ρ h1 (Nq T cf (d+1) r Q)):Xx T cf (d+2) (.ite t a b::r) ρ h Q:=by
 obtain⟨f,ρ1,h2,x,q⟩:=q
 have e1:ex T cf (d+1) (.ite t a b) ρ h=some (f,ρ1,h2):=by rw[Qar,e,Qx];cases c<;>exact x
 cases f with
 |next=>exact Qcc e1 q
 |ret u=>exact⟨_,_,_,by rw[Zd,e1],q⟩
 |brk=>exact⟨_,_,_,by rw[Zd,e1],q⟩
 |cont=>exact⟨_,_,_,by rw[Zd,e1],q⟩
def QjC{t:E}{a b:List S}{c:Bool}(e:evT T cf d t ρ h=some (c,h1))(q:Xx T cf d (if c=true then a else b) ρ h1 (Fq G)):Xx T cf (d+2) [.ite t a b] ρ h (Fq G):=by
 obtain⟨f,ρ1,h2,x,q⟩:=q;refine Qbq e ⟨f,ρ1,h2,x,?_⟩
 cases f with
 |next=>exact ZC q
 |ret u=>exact q
 |brk=>exact q
 |cont=>exact q
def QjB{t:Tg}{body:List S}{w:Wk}(es:Zn T (ev T cf d) ρ src h=some (w,h1))(q:∃ρ2 h2,Qct T w t (exs T cf d body) (Q6 T w h1) 0 ρ h1=some (.next,ρ2,h2)/\Xx T cf (d+1) r ρ2 h2 Q):Xx T cf (d+2) (.loop t src body::r) ρ h Q:=by obtain⟨_,_,a,b⟩:=q;exact Qcc (QfY es a) b
def Za(a:ev T cf d e ρ h=some (u,h1))(q:G u h1):Rr T cf d e ρ h G:=⟨_,_,a,q⟩
def Qjw(a:evs (ev T (Qd T m) d) ρ es h=some (us,h1))(q:Cc T m f us h1 G):Rr T (Qd T m) (d+1) (.call f es) ρ h G:=by obtain⟨_,_,b,c⟩:=q;exact⟨_,_,by rw[QcI,a,Qx,b],c⟩
def Qj(a:evs (ev T cf d) ρ es h=some (us,h1))(b:cf f us h1=some (u,h2)):ev T cf (d+1) (.call f es) ρ h=some (u,h2):=by rw[QcI,a,Qx,b]
def QR{d':Nat}{ss:List S}{h':Hs}(e:exs T cf d ss ρ h=exs T cf d' r ρ' h')(x:Xx T cf d' r ρ' h' Q):Xx T cf d ss ρ h Q:=by obtain⟨a,b,c,x,q⟩:=x;exact⟨a,b,c,e.trans x,q⟩
def Qu(a:ev T cf d e ρ h=some (u,h1)):exs T cf (d+2) (.set i e::r) ρ h=exs T cf (d+1) r (ρ.set i (some u)) h1:=by rw[Zd,QgD,a,Qx]
def e_1(a:ev T cf d e ρ h=some (u,h1)):evs (ev T cf d) ρ [e] h=some ([u],h1):=by simp only[evs,a,Qx]
def QeF{t:E}{a:List S}{c:Bool}(e:evT T cf (d+1) t ρ h=some (c,h1))(hc:c=false):ex T cf (d+2) (.ite t a []) ρ h=some (.next,ρ,h1):=QgH (by rw[e,hc])
def Qab{t:E}{a:List S}{c:Bool}(e:evT T cf (d+1) t ρ h=some (c,h1))(hc:c=false):exs T cf (d+3) (.ite t a []::r) ρ h=exs T cf (d+2) r ρ h1:=QW (QeF e hc)
def QiO{t:E}{b:List S}{c:Bool}(et:evT T cf (d+2) t ρ h=some (c,h1))(hc:c=true)(v:ev T cf d e ρ h1=some (u,h2)):fin (exs T cf (d+4) (.ite t [.ret e] b::r) ρ h)=some (u,h2):=by subst hc;rw[Zd,Qar,et,Qx,if_pos rfl,Zd,QgE,v,Qx];rfl
def QgK{n:S}{x:Option (Fl×Rho×Hs)}(e:ex T cf d n ρ h=x):ex T cf (d+1) (.cal n f es) ρ h=x:=by rw[ex];exact e
def Qbf{b:E}(ea:ev T cf d a ρ h=some (u,h1))(eb:ev T cf d b ρ h1=some (v,h2)):ev T cf (d+1) (.tup [a,b]) ρ h=some (.ref h2.length,h2++[.tup [u,v]]):=by rw[Qb2];simp only[evs,ea,eb,Qx]
def Qbe{b c:E}(ea:ev T cf d a ρ h=some (u,h1))(eb:ev T cf d b ρ h1=some (v,h2))(ec:ev T cf d c ρ h2=some (w,h3)):ev T cf (d+1) (.tup [a,b,c]) ρ h=some (.ref h3.length,h3++[.tup [u,v,w]]):=by rw[Qb2];simp only[evs,ea,eb,ec,Qx]
def Qay{b:Bi}{x:Option (U×Hs)}(a:ev T cf d e ρ h=some (u,h1))(eb:biU T b [u] h1=x):ev T cf (d+1) (.bi b [e]) ρ h=x:=by rw[Qow];simp only[evs,a,Qx,eb]
def Qfh(hj:(decide ((0:Int) < j)&&decide (j<1606938044258990275541962092341162602522202993782792835301376))=true):opU .FloorDiv (.int x 0) (.int j 0) h=some (.int (x / j) 0,h):=by show(QkK _ _).map _=_;rw[dvj hj];rfl
def QaP(hj:0<j):opU .Mod (.int x 0) (.int j 0) h=some (.int (x % j) 0,h):=by show(Qkk _ _).map _=_;rw[md hj];rfl
def Yv:opU .Add (.int x 0) (.int j 0) h=some (.int (x+j) 0,h):=rfl
def QmD:opU .Sub (.int x 0) (.int j 0) h=some (.int (x-j) 0,h):=rfl
def Qax(ea:ev T cf (d+1) a ρ h=some (.int x 0,h1))(hj:(decide ((0:Int) < j)&&decide (j<1606938044258990275541962092341162602522202993782792835301376))=true):ev T cf (d+2) (.op .FloorDiv a (.c (.int j 0))) ρ h=some (.int (x / j) 0,h1):=Zm ea y_c (Qfh hj)
def YU(ea:ev T cf (d+1) a ρ h=some (.int x 0,h1))(hj:0<j):ev T cf (d+2) (.op .Mod a (.c (.int j 0))) ρ h=some (.int (x % j) 0,h1):=Zm ea y_c (QaP hj)
def Qf8{b:E}{y:Int}(ea:ev T cf d a ρ h=some (.int x 0,h1))(eb:ev T cf d b ρ h1=some (.int y 0,h2)):evT T cf (d+2) (.cmp .Gt a b) ρ h=some (decide (y<x),h2):=QI ea eb rfl
def Qlq{b:E}{y:Int}(ea:ev T cf d a ρ h=some (.int x 0,h1))(eb:ev T cf d b ρ h1=some (.int y 0,h2)):evT T cf (d+2) (.cmp .Eq a b) ρ h=some (decide (x=y),h2):=QI ea eb rfl
end
abbrev Vp:=Nat->O->Prop
def Le(P P':Vp):Prop:=∀i o,P i o->P' i o
def Le.refl{P:Vp}:Le P P:=λz z h=>h
def Le.trans{P P1 P2:Vp}(a:Le P P1)(b:Le P1 P2):Le P P2:=λi o h=>b i o (a i o h)
structure Own(h:Hs)(C:List (Nat×O))(P:Vp):Prop where
 c:∀(k i:Nat) x,C[k]?=some (i,x)->h[i]?=some x
 nd:∀(k k' i:Nat) x x',C[k]?=some (i,x)->C[k']?=some (i,x')->k=k'
 p:∀i o,P i o->h[i]?=some o
 q:∀i o,P i o->∀(k:Nat) x,C[k]?≠some (i,x)
section
variable {C:List (Nat×O)}{P:Vp}{x y:O}
def Qbm{C:List α}{k':Nat}{a b:α}(e:(C.set k a)[k']?=some b):(k'=k/\b=a)\/(k'≠k/\C[k']?=some b):=by
 by_cases z:k=k'
 ·subst z;rw[List.getElem?_set]at e;split at e
  ·split at e<;>cases e;exact .inl ⟨rfl,rfl⟩
  ·contradiction
 ·rw[X8 z]at e;exact .inr ⟨Wy z,e⟩
def Own.lt(o:Own h C P)(e:C[k]?=some (i,x)):i<h.length:=(Xf.mp (o.c _ _ _ e)).1
theorem Own.set(o:Own h C P)(k:Nat)(e:C[k]?=some (i,x)):Own (h.set i y) (C.set k (i,y)) P:=by
 have ne:∀(k' j:Nat) z,k'≠k->C[k']?=some (j,z)->i≠j:=λk' j z n a b=>n (o.nd _ _ _ _ _ a (b▸e));refine⟨λk' j z a=>?_,λk1 k2 j z1 z2 a b=>?_,λj z a=>?_,λj z a k' z' b=>?_⟩
 ·rcases Qbm a with⟨_,rfl,rfl⟩|⟨n,a⟩
  ·rw[Wd (o.lt e)]
  ·rw[X8 (ne _ _ _ n a)];exact o.c _ _ _ a
 ·rcases Qbm a with⟨e1,a⟩|⟨n1,a⟩<;>rcases Qbm b with⟨e2,b⟩|⟨n2,b⟩
  ·rw[e1,e2]
  ·cases a;exact absurd rfl (ne _ _ _ n2 b)
  ·cases b;exact absurd rfl (ne _ _ _ n1 a)
  ·exact o.nd _ _ _ _ _ a b
 ·rw[X8 (λz=>o.q _ _ a k x (by rw[<-z];exact e))];exact o.p _ _ a
 ·rcases Qbm b with⟨_,b⟩|⟨_,b⟩
  ·cases b;exact o.q _ _ a _ _ e
  ·exact o.q _ _ a _ _ b
def Own.new(o:Own h C P):Own (h++[y]) (C++[(h.length,y)]) P:=by
 have cs:∀(k j:Nat) z,(C++[(h.length,y)])[k]?=some (j,z)->C[k]?=some (j,z)\/(k=C.length/\j=h.length/\z=y):=λk j z a=>by
  rw[List.getElem?_append]at a;split at a
  ·exact .inl a
  ·rename_i n;have l:=(Xf.mp a).1
   have e:k=C.length:=by simp at l;lia
   subst e;simp at a;exact .inr ⟨rfl,a.1.symm,a.2.symm⟩
 refine⟨λk j z a=>?_,λk1 k2 j z1 z2 a b=>?_,λj z a=>Qt (o.p _ _ a),λj z a k z' b=>?_⟩
 ·rcases cs _ _ _ a with a|⟨_,rfl,rfl⟩
  ·exact Qt (o.c _ _ _ a)
  ·exact at0
 ·rcases cs _ _ _ a with a|⟨e1,f1,_⟩<;>rcases cs _ _ _ b with b|⟨e2,f2,_⟩
  ·exact o.nd _ _ _ _ _ a b
  ·subst f2;exact absurd (o.lt a) (Vb _)
  ·subst f1;exact absurd (o.lt b) (Vb _)
  ·rw[e1,e2]
 ·rcases cs _ _ _ b with b|⟨_,rfl,_⟩
  ·exact o.q _ _ a _ _ b
  ·exact absurd (Xf.mp (o.p _ _ a)).1 (Vb _)
end
theorem QhL{T:Tbl}{w:Wk}{t:Tg}{body:Ex}(I:Nat->Rho->Hs->Prop){n:Nat}
  (st:∀i,i<n->∀ρ hs,I i ρ hs->∃x ρ' ρ2 h2,itm T w i hs=some (some x)/\tgt t x ρ hs=some ρ'/\body ρ' hs=some (.next,ρ2,h2)/\I (i+1) ρ2 h2)
  (en:∀ρ hs,I n ρ hs->itm T w n hs=some none):
  ∀(m i k:Nat) (ρ:Rho) (hs:Hs),n=i+m->m<k->I i ρ hs->∃ρ2 h2,Qct T w t body k i ρ hs=some (.next,ρ2,h2)/\I n ρ2 h2
 |m,i,0,ρ,hs,e,l,h=>by lia
 |0,i,k+1,ρ,hs,e,l,h=>by
  have e':n=i:=by lia
  subst e'
  exact⟨ρ,hs,by simp only[Qct,en ρ hs h],h⟩
 |m+1,i,k+1,ρ,hs,e,l,h=>by
  obtain⟨x,ρ',ρ1,h1,a,b,c,d⟩:=st i (by lia) ρ hs h
  obtain⟨ρ2,h2,g1,g2⟩:=QhL I st en m (i+1) k ρ1 h1 (by lia) (by lia) d
  exact⟨ρ2,h2,by simp only[Qct,a,b,c,g1],g2⟩
def Qhj{P:α->β->Prop}{l:List α}{r:List β}(h:Paired P l r){b:β}(e:r[i]?=some b):∃a,l[i]?=some a/\P a b:=by
 induction h generalizing i with
 |nil=>cases e
 |cons x _ ih=>
  cases i with
  |zero=>cases(show some _=some _ from e);exact⟨_,rfl,x⟩
  |succ i=>exact ih e
noncomputable abbrev iU(i:Int):U:=.int i 0
section
variable {b:E}
def QX{c:Nat}{fs:List (Nat×U)}(hi:ρ[i]?=some (sR q))(hq:h[q]?=some (.ins c fs))(hf:fs.lookup f=some u):ev T cf (d+2) (.fld (.var i) f) ρ h=some (u,h):=by
 rw[ev,Qa hi,Qx];simp only[hq,hf,Option.map]
def Qou{m:Nat}{o:E}{es:List E}:ev T cf (d+1) (.meth m o es) ρ h=bd (ev T cf d o ρ h) λu h1=>match QaQ T m u h1 with
   |some f=>bd (evs (ev T cf d) ρ es h1) λus h2=>cf f (u::(us++Qfa T f (us.length+1))) h2
   |none=>none:=rfl
def QeH{c:Nat}{fs:List (Nat×U)}{C:Cl}(hi:ρ[i]?=some (sR q))(hq:h[q]?=some (.ins c fs))(hC:T.cls[c]?=some C)(hf:C.meths.lookup m=some f)(hz:Qfa T f 1=[]):ev T cf (d+2) (.meth m (.var i) []) ρ h=cf f [.ref q] h:=by
 have e:QaQ T m (.ref q) h=some f:=by
  unfold QaQ;simp only[hq,hC,hf]
 rw[Qou,Qa hi,Qx];simp only[e,evs,Qx,Th,Wv,hz,W4]
def e_2{a b:E}{u:U}{f:Ev}(x:f a ρ h=some (u,h1))(y:f b ρ h1=some (w,h2)):evs f ρ [a,b] h=some ([u,w],h2):=by simp only[evs,x,y,Qx]
def e_3{a b c:E}{u:U}{f:Ev}(x:f a ρ h=some (u,h1))(y:f b ρ h1=some (w,h2))(t:f c ρ h2=some (z,h3)):evs f ρ [a,b,c] h=some ([u,w,z],h3):=by simp only[evs,x,y,t,Qx]
def QeA{a b:E}{u r:U}(x:ev T cf d a ρ h=some (u,h1))(y:ev T cf d b ρ h1=some (w,h2))(s:Yp T u w h2=some r):ev T cf (d+1) (.ix a b) ρ h=some (r,h2):=by rw[Qov,x,Qx,y,Qx,s];rfl
def Qk{a:E}{u r:U}{k:Int}(x:ev T cf (d+1) a ρ h=some (u,h1))(s:Yp T u (iU k) h1=some r):ev T cf (d+2) (.ix a (.c (.int k 0))) ρ h=some (r,h1):=QeA x y_c s
def Qo{j:Nat}(ht:h[t]?=some (.tup us))(hj:us[j]?=some u):Yp T (.ref t) (iU (j:Int)) h=some u:=by
 simp only[Yp,ht];exact QlJ hj
def JS{j:Nat}(ht:h[t]?=some (.lst us))(hj:us[j]?=some u):Yp T (.ref t) (iU (j:Int)) h=some u:=by
 simp only[Yp,ht];exact QlJ hj
def JJ{e:E}{b:Bool}(n:Qdk e=true)(x:ev T cf d e ρ h=some (.bl b,h1)):evT T cf (d+1) e ρ h=some (b,h1):=by
 have z:evT T cf (d+1) e ρ h=bd (ev T cf d e ρ h) λu h1=>(JI T u h1).map λc=>(c,h1):=by
  cases e<;>first|rfl|cases n
 rw[z,x,Qx];rfl
def Qb6{a:E}{c:Bool}(x:evT T cf d a ρ h=some (c,h1)):evT T cf (d+1) (.not a) ρ h=some (!c,h1):=by rw[QiL,x,Qx]
def Qiq{a b:E}{c:Bool}{r:Option (Bool×Hs)}(x:evT T cf d a ρ h=some (c,h1))(y:(if c=true then some (true,h1)else evT T cf d b ρ h1)=r):evT T cf (d+1) (.or a b) ρ h=r:=by rw[QlU,x,Qx];exact y
def QgO{t a b:E}{c:Bool}{r:Option (U×Hs)}(x:evT T cf d t ρ h=some (c,h1))(y:(if c=true then ev T cf d a ρ h1 else ev T cf d b ρ h1)=r):ev T cf (d+1) (.ife t a b) ρ h=r:=by rw[QlR,x,Qx];exact y
def Qf5(k:Kp h h1)(e:Zu T u h=some xs):Zu T u h1=some xs:=by
 cases u with
 |ref n=>
  simp only[Zu]at e ⊢
  cases q:h[n]? with
  |none=>rw[q]at e;cases e
  |some o=>rw[q]at e;rw[k _ _ q];exact e
 |_=>exact e
def QdC(k:Kp h h1)(e:QV T u h=some xs):QV T u h1=some xs:=by
 cases u with
 |ref n=>
  simp only[QV]at e ⊢
  cases q:h[n]? with
  |none=>rw[q]at e;cases e
  |some o=>rw[q]at e;rw[k _ _ q];exact e
 |_=>exact e
def JQ(e:Zu T u h=some xs):QV T u h=none:=by
 cases u with
 |ref n=>
  simp only[Zu,QV]at e ⊢
  cases q:h[n]? with
  |none=>rfl
  |some o=>rw[q]at e;cases o<;>first|rfl|cases e
 |con n=>
  simp only[Zu,QV]at e ⊢
  cases q:T.cons[n]? with
  |none=>rfl
  |some o=>rw[q]at e;cases o<;>first|rfl|cases e
 |_=>cases e
def Qw(e:h[n]?=some (.lst xs)):QV T (.ref n) h=some xs:=by simp only[QV,e]
def ZU(e:h[n]?=some (.tup xs)):Zu T (.ref n) h=some xs:=by simp only[Zu,e]
def Sq(T:Tbl)(u:U)(h:Hs)(xs:List U):Prop:=QV T u h=some xs\/Zu T u h=some xs
def Sq.bb(s:Sq T u h xs):sqU T (QV T u h).isSome u h=some xs/\∀h1,Kp h h1->sqU T (QV T u h).isSome u h1=some xs:=by
 rcases s with e|e
 ·rw[e];exact⟨e,λh1 k=>QdC k e⟩
 ·rw[JQ e];exact⟨e,λh1 k=>Qf5 k e⟩
theorem QfG{f:Ev}{ft:E->Rho->Hs->Option (Bool×Hs)}{w:Wk}{bb:Bool}{el:E}{α:Type}{L:List α}{im:α->Im}{r:α->Rho}(F:α->U->Hs->Prop)(mono:∀a u h h',Kp h h'->F a u h->F a u h')(hit:∀(i:Nat) hs,Kp h1 hs->itm T w i hs=some ((L[i]?).map im))
  (ht:∀a hs,tgt (tgN bb ρ.length) (im a) (ρ++Qfb bb) hs=some (r a)) (st:∀a∈L,∀hs,Kp h1 hs->∃u h2,f el (r a) hs=some (u,h2)/\Kp hs h2/\F a u h2):
  ∀(m i k:Nat) (acc:List U) (hs:Hs),L.length=i+m->m<k->L.length<=900000->Kp h1 hs->Paired (λu a=>F a u hs) acc (L.take i)->∃us h2,YG T f (Qcu ft none) w bb el ρ k i acc hs=some (us,h2)/\Kp h1 h2/\Paired (λu a=>F a u h2) us L
 |m,i,0,acc,hs,e,l,_,_,_=>by lia
 |0,i,k+1,acc,hs,e,l,_,kp,pr=>by
  have e':L.length<=i:=by lia
  refine⟨acc,hs,?_,kp,by rw[Wf e']at pr;exact pr⟩
  have:itm T w i hs=some none:=by rw[hit i hs kp,Wl e'];rfl
  simp only[YG,this]
 |m+1,i,k+1,acc,hs,e,l,l9,kp,pr=>by
  have lt:i<L.length:=by lia
  have ei:itm T w i hs=some (some (im L[i])):=by rw[hit i hs kp,Xj lt];rfl
  obtain⟨u,h3,a,kp3,fu⟩:=st L[i] (List.getElem_mem lt) hs kp
  have la:acc.length<1000000:=by rw[Qq pr,Vn];lia
  obtain⟨us,h4,b,kp4,p4⟩:=QfG F mono hit ht st m (i+1) k (acc++[u]) h3 (by lia) (by lia) l9 (kp.trans kp3) (by
   rw[Wm,Xj lt]
   exact Yc (P:=λu a=>F a u h3) fu (QD (λz z=>mono _ _ _ _ kp3) pr))
  refine⟨us,h4,?_,kp4,p4⟩;rw[YG];simp only[ei,ht,la,Wo,Qcu,Qx,a];exact b
def QnP{x:U}:(ρ++[none]).set ρ.length (some x)=ρ++[some x]:=by
 rw[W5 _ _ (Xe _),Ub];rfl
def QoS{x:U}:((ρ++[none,none]).set ρ.length (some x)).set (ρ.length+1) (some y)=ρ++[some x,some y]:=by
 rw[W5 _ _ (Xe _),Ub,W5 _ _ (by lia),Uy];rfl
def Qic{w:Wk}(F:U->U->Hs->Prop)(mono:∀a u h h',Kp h h'->F a u h->F a u h')(es:Zn T (ev T cf d) ρ src h=some (w,h1))(tn:L.length<Q6 T w h1)(ll:L.length<=900000)(hit:∀(i:Nat) hs,Kp h1 hs->itm T w i hs=some ((L[i]?).map .one))
  (st:∀x∈L,∀hs,Kp h1 hs->∃u h2,ev T cf d el (ρ++[some x]) hs=some (u,h2)/\Kp hs h2/\F x u h2):∃us h2,ev T cf (d+1) (.comp src false none el) ρ h=some (.ref h2.length,h2++[.lst us])/\Kp h1 h2/\Paired (λu a=>F a u h2) us L:=by
 obtain⟨us,h2,a,k,p⟩:=QfG (T:=T) (ρ:=ρ) (f:=ev T cf d) (ft:=evT T cf d) (w:=w) (bb:=false) (el:=el) (im:=Im.one) (r:=λx=>ρ++[some x]) F mono hit (λx hs=>by simp only[tgN,Qfb,tgt,W9,V7,QnP]) st L.length 0 _ [] h1 (Wv _).symm tn ll (Kp.refl _) .nil
 exact⟨us,h2,Qf3 es a,k,p⟩
def Qnr{w:Wk}{L:List (U×U)}(F:U×U->U->Hs->Prop)(mono:∀a u h h',Kp h h'->F a u h->F a u h')(es:Zn T (ev T cf d) ρ src h=some (w,h1))(tn:L.length<Q6 T w h1)(ll:L.length<=900000)(hit:∀(i:Nat) hs,Kp h1 hs->itm T w i hs=some ((L[i]?).map λp=>.two p.1 p.2))
  (st:∀x∈L,∀hs,Kp h1 hs->∃u h2,ev T cf d el (ρ++[some x.1,some x.2]) hs=some (u,h2)/\Kp hs h2/\F x u h2):∃us h2,ev T cf (d+1) (.comp src true none el) ρ h=some (.ref h2.length,h2++[.lst us])/\Kp h1 h2/\Paired (λu a=>F a u h2) us L:=by
 obtain⟨us,h2,a,k,p⟩:=QfG (T:=T) (ρ:=ρ) (f:=ev T cf d) (ft:=evT T cf d) (w:=w) (bb:=true) (el:=el) (im:=λp:U×U=>Im.two p.1 p.2) (r:=λx=>ρ++[some x.1,some x.2]) F mono hit (λx hs=>by simp only[tgN,Qfb,tgt,Wo,QoS]) st L.length 0 _ [] h1 (Wv _).symm tn ll (Kp.refl _) .nil
 exact⟨us,h2,QgP es a,k,p⟩
def JC(F:U->U->Hs->Prop)(mono:∀a u h h',Kp h h'->F a u h->F a u h')(v:ev T cf d e ρ h=some (u,h1))(s:Sq T u h1 L)(ll:L.length<=900000)
  (st:∀x∈L,∀hs,Kp h1 hs->∃u h2,ev T cf d el (ρ++[some x]) hs=some (u,h2)/\Kp hs h2/\F x u h2):∃us h2,ev T cf (d+1) (.comp (.seq e) false none el) ρ h=some (.ref h2.length,h2++[.lst us])/\Kp h1 h2/\Paired (λu a=>F a u h2) us L:=by
 rcases s with s|s
 ·exact Qic (w:=.seqL u) F mono (by simp only[Zn,v,Qx,wkS,s];rfl) (by simp only[Q6,s,W8];lia) ll (λi hs k=>by simp only[itm,QdC k s,Option.map]) st
 ·exact Qic (w:=.seqT u) F mono (by simp only[Zn,v,Qx,wkS,s,JQ s];rfl) (by simp only[Q6,s,W8];lia) ll (λi hs k=>by simp only[itm,Qf5 k s,Option.map]) st
def Qi0:two xs ys i=((xs.zip ys)[i]?).map λp=>.two p.1 p.2:=by
 unfold two;show _=((List.zipWith Prod.mk xs ys)[i]?).map _;rw[List.getElem?_zipWith];cases xs[i]?<;>cases ys[i]?<;>rfl
def Qf0{u:U}(sa:Sq T u h xs)(sb:Sq T w h ys):wkZ T u w h=some (.zipB (QV T u h).isSome (QV T w h).isSome u w):=by
 simp only[wkZ,sa.bb.1,sb.bb.1,Option.isSome_some,Bool.and_self,Wo]
def QfS{u:U}(sa:Sq T u h xs)(sb:Sq T w h ys)(i:Nat)(hs:Hs)(k:Kp h hs):itm T (.zipB (QV T u h).isSome (QV T w h).isSome u w) i hs=some (((xs.zip ys)[i]?).map λp=>.two p.1 p.2):=by
 simp only[itm,sa.bb.2 hs k,sb.bb.2 hs k,Qi0]
def Qh4(F:U×U->U->Hs->Prop)(mono:∀a u h h',Kp h h'->F a u h->F a u h')(va:ev T cf d a ρ h=some (u,h1))(vb:ev T cf d b ρ h1=some (w,h2))(sa:Sq T u h2 xs)(sb:Sq T w h2 ys)(ll:xs.length<=900000)
  (st:∀x∈xs.zip ys,∀hs,Kp h2 hs->∃u h3,ev T cf d el (ρ++[some x.1,some x.2]) hs=some (u,h3)/\Kp hs h3/\F x u h3):∃us h3,ev T cf (d+1) (.comp (.zip a b) true none el) ρ h=some (.ref h3.length,h3++[.lst us])/\Kp h2 h3/\Paired (λu a=>F a u h3) us (xs.zip ys):=by
 have lz:(xs.zip ys).length<=xs.length:=by rw[Up];lia
 exact Qnr F mono (by simp only[Zn,va,Qx,vb,Qf0 sa sb];rfl) (by simp only[Q6,sa.bb.1,W8];lia) (by lia) (QfS sa sb) st
def Qbv{g:α->U}{L:List α}(h:Paired (λu a=>u=g a) us L):us=L.map g:=by
 induction h with
 |nil=>rfl
 |cons a _ ih=>rw[X7,<-ih,a]
def JO(v:ev T cf d e ρ h=some (.ref h1.length,h1++[.lst us])):ev T cf (d+1) (.bi .tuple [e]) ρ h=some (.ref (h1++[O.lst us]).length,h1++[O.lst us]++[.tup us]):=Qay v (Ql2 at0)
variable {r:List S}{t:Tg}{body:List S}
def JX{w:Wk}{L:List α}{im:α->Im}(I:Nat->Rho->Hs->Prop)(es:Zn T (ev T cf d) ρ src h=some (w,h1))(tn:L.length<Q6 T w h1)(hit:∀i ρ hs,I i ρ hs->itm T w i hs=some ((L[i]?).map im))(h0:I 0 ρ h1)
  (st:∀i a,L[i]?=some a->∀ρ hs,I i ρ hs->∃ρ' ρ2 h2,tgt t (im a) ρ hs=some ρ'/\exs T cf d body ρ' hs=some (.next,ρ2,h2)/\I (i+1) ρ2 h2) (k:∀ρ2 h2,I L.length ρ2 h2->Xx T cf (d+1) r ρ2 h2 Q):Xx T cf (d+2) (.loop t src body::r) ρ h Q:=by
 obtain⟨ρ2,h2,a,b⟩:=QhL (T:=T) (w:=w) (t:=t) (body:=exs T cf d body) I (n:=L.length) (λi hi ρ hs z=>by
  obtain⟨ρ',ρ2,h2,a,b,c⟩:=st i _ (Xj hi) ρ hs z
  exact⟨_,ρ',ρ2,h2,by rw[hit i ρ hs z,Xj hi];rfl,a,b,c⟩) (λρ hs z=>by rw[hit _ ρ hs z,Wl (Xe _)];rfl) L.length 0 _ ρ h1 (Wv _).symm tn h0
 exact QjB es ⟨ρ2,h2,a,k ρ2 h2 b⟩
def Z3(I:Nat->Rho->Hs->Prop)(v:ev T cf d e ρ h=some (u,h1))(hl:∀i ρ hs,I i ρ hs->QV T u hs=some L)(h0:I 0 ρ h1)
  (st:∀i x,L[i]?=some x->∀ρ hs,I i ρ hs->∃ρ' ρ2 h2,tgt t (.one x) ρ hs=some ρ'/\exs T cf d body ρ' hs=some (.next,ρ2,h2)/\I (i+1) ρ2 h2) (k:∀ρ2 h2,I L.length ρ2 h2->Xx T cf (d+1) r ρ2 h2 Q):Xx T cf (d+2) (.loop t (.seq e) body::r) ρ h Q:=by
 have s:=hl _ _ _ h0
 exact JX (w:=.seqL u) (im:=Im.one) I (by simp only[Zn,v,Qx,wkS,s];rfl) (by simp only[Q6,s,W8];lia) (λi ρ hs z=>by simp only[itm,hl _ _ _ z,Option.map]) h0 st k
def QjE(I:Nat->Rho->Hs->Prop)(v:ev T cf d e ρ h=some (u,h1))(hl:∀i ρ hs,I i ρ hs->QV T u hs=some L)(h0:I 0 ρ h1)
  (st:∀i x,L[i]?=some x->∀ρ hs,I i ρ hs->∃ρ' ρ2 h2,tgt t (.two (iU (i:Int)) x) ρ hs=some ρ'/\exs T cf d body ρ' hs=some (.next,ρ2,h2)/\I (i+1) ρ2 h2) (k:∀ρ2 h2,I L.length ρ2 h2->Xx T cf (d+1) r ρ2 h2 Q):Xx T cf (d+2) (.loop t (.enm e) body::r) ρ h Q:=by
 have s:=hl _ _ _ h0
 refine JX (w:=.enmL u) (L:=L.zipIdx) (im:=λp:U×Nat=>Im.two (iU (p.2:Int)) p.1) I (by simp only[Zn,v,Qx,s]) (by simp only[Q6,s,W8,List.length_zipIdx];lia) (λi ρ hs z=>?_) h0 (λi a ha ρ hs z=>?_) (by rw[List.length_zipIdx];exact k)
 ·simp only[itm,hl _ _ _ z,Option.map,List.getElem?_zipIdx,Wv];cases L[i]?<;>rfl
 ·rw[List.getElem?_zipIdx,Wv]at ha
  cases q:L[i]? with
  |none=>rw[q]at ha;cases ha
  |some x=>rw[q]at ha;cases ha;exact st i x q ρ hs z
def JL{y:Int}(hi:ρ[i]?=some (sI x))(v:ev T cf d e ρ h=some (.int y 0,h1)):ex T cf (d+1) (.aug i .Add e) ρ h=some (.next,ρ.set i (sI (x+y)),h1):=by
 rw[QlT,hi];simp only[v,Qx,Qiy];rfl
end
def Pc(T:Tbl)(m f:Nat)(us:List U)(h:Hs)(Q:U->Hs->Prop):Prop:=∃u h1,Qd T m f us h=some (u,h1)/\Kp h h1/\Q u h1
def Pc.of{Q:U->Hs->Prop}(c:Cc T m f us h λu h1=>Kp h h1/\Q u h1):Pc T m f us h Q:=c
def kp1{o:O}:Kp h (h++[o]):=Kp.app h [o]
def Qi{o:O}:(h++[o])[h.length]?=some o:=at0
def Sr(h:Hs)(u:U)(c:List Int):Prop:=∃i,u=.ref i/\h[i]?=some (.tup (c.map iU))
noncomputable def z5:List Int:=[0,0,0,0,0]
def Sm(h:Hs)(u:U)(c:List Int):Prop:=(u=.con 1/\c=z5)\/Sr h u c
def Sr.kp(k:Kp h h1)(z:Sr h u c):Sr h1 u c:=by obtain⟨i,a,b⟩:=z;exact⟨i,a,k _ _ b⟩
theorem Sm.kp(k:Kp h h1)(z:Sm h u c):Sm h1 u c:=z.elim .inl λr=>.inr (r.kp k)
section
variable {a b:List Int}{ea eb:E}
def Sm.tu(z:Sm h u c):Zu (tbG xx s) u h=some (c.map iU):=by
 rcases z with⟨rfl,rfl⟩|⟨i,rfl,e⟩
 ·rfl
 ·exact ZU e
def Sm.sq(z:Sm h u c):Sq (tbG xx s) u h (c.map iU):=.inr z.tu
def Sm.ix(z:Sm h u c){j:Nat}(e:c[j]?=some x):Yp (tbG xx s) u (iU (j:Int)) h=some (iU x):=by
 have q:(c.map iU)[j]?=some (iU x):=by rw[Wt,e];rfl
 rcases z with⟨rfl,rfl⟩|⟨i,rfl,e⟩
 ·show(match Z9 (tbG xx s) (.con 1) h with|some xs=>atU xs (j:Int)|none=>none)=_
  have:Z9 (tbG xx s) (.con 1) h=some (z5.map iU):=rfl;rw[this];exact QlJ q
 ·exact Qo e q
noncomputable def g2(f:Int->Int->Int):U×U->U
 | (.int x _,.int y _)=>iU (f x y)
 |_=>.non
theorem QfU{f:Int->Int->Int}:∀{a b:List Int},((a.map iU).zip (b.map iU)).map (g2 f)=(List.zipWith f a b).map iU
 |[],_=>rfl
 |_::_,[]=>rfl
 |x::a,y::b=>by
  have:=QfU (f:=f) (a:=a) (b:=b);simp only[X7,Us,List.zipWith_cons_cons,this];rfl
theorem QcE:∀{a b:List Int} {p:U×U},p∈(a.map iU).zip (b.map iU)->∃x∈a,∃y∈b,p=(iU x,iU y)
 |[],_,_,h=>nomatch h
 |_::_,[],_,h=>nomatch h
 |x::a,y::b,p,h=>by
  simp only[X7,Us]at h
  rcases Xm.mp h with rfl|h
  ·exact⟨x,Xo,y,Xo,rfl⟩
  ·obtain⟨x,hx,y,hy,e⟩:=QcE h;exact⟨x,Xk _ hx,y,Xk _ hy,e⟩
def Qbc(f:Int->Int->Int)(va:ev T cf d ea ρ h=some (u,h1))(vb:ev T cf d eb ρ h1=some (w,h2))(sa:Sq T u h2 (a.map iU))(sb:Sq T w h2 (b.map iU))(ll:a.length<=900000)
  (st:∀x∈a,∀y∈b,∀hs,ev T cf d el (ρ++[some (iU x),some (iU y)]) hs=some (iU (f x y),hs)):∃h3,ev T cf (d+1) (.comp (.zip ea eb) true none el) ρ h=some (.ref h3.length,h3++[.lst ((List.zipWith f a b).map iU)])/\Kp h2 h3:=by
 obtain⟨us,h3,e,k,p⟩:=Qh4 (λp r v=>r=g2 f p) (λv v v v v z=>z) va vb sa sb (by rw[X6];exact ll) (el:=el) (λp hp hs v=>by
  obtain⟨x,hx,y,hy,rfl⟩:=QcE hp
  exact⟨_,hs,st x hx y hy hs,Kp.refl _,rfl⟩)
 refine⟨h3,?_,k⟩;rw[e,Qbv p,QfU]
def QcP(g:Int->U)(va:ev T cf d ea ρ h=some (u,h1))(sa:Sq T u h1 (a.map iU))(ll:a.length<=900000)
  (st:∀x∈a,∀hs,Kp h1 hs->ev T cf d el (ρ++[some (iU x)]) hs=some (g x,hs)):∃h3,ev T cf (d+1) (.comp (.seq ea) false none el) ρ h=some (.ref h3.length,h3++[.lst (a.map g)])/\Kp h1 h3:=by
 obtain⟨us,h3,e,k,p⟩:=JC (λx r w=>∀y,x=iU y->r=g y) (λw w w w w z=>z) va sa (by rw[X6];exact ll) (el:=el) (λx hx hs kp=>by
  obtain⟨y,hy,rfl⟩:=List.mem_map.mp hx
  exact⟨_,hs,st y hy hs kp,Kp.refl _,λz e=>by cases e;rfl⟩)
 refine⟨h3,?_,k⟩
 have:us=a.map g:=by
  clear e st sa ll va;generalize hL:a.map iU=L at p
  induction p generalizing a with
  |nil=>cases a with
   |nil=>rfl
   |cons _ _=>cases hL
  |cons q _ ih=>cases a with
   |nil=>cases hL
   |cons y a=>
    simp only[X7,List.cons.injEq]at hL;rw[X7,ih hL.2,q y hL.1.symm]
 rw[e,this]
def YB(k:Kp h h3):Kp h (h3++[O.lst vs]++[.tup vs]):=(k.trans kp1).trans kp1
def Qeh{i:Int}:Pc (tbG xx s) (n+1) 9 [iU i] h λu h1=>Sr h1 u [i,0,0,0,0]:=⟨_,_,by rw[Qc fnL[9] rfl rfl];rfl,kp1,_,rfl,Qi⟩
def YH(ha:Sm h u a)(hb:Sm h w b)(la:a.length<=1000):Pc (tbG xx s) (n+1) 10 [u,w] h λr h1=>Sr h1 r (List.zipWith (· + ·) a b):=by
 obtain⟨h3,e,k⟩:=Qbc (T:=tbG xx s) (cf:=Qd (tbG xx s) n) (d:=96) (ρ:=[some u,some w]) (ea:=.var 0) (eb:=.var 1) (el:=.op .Add (.var 2) (.var 3)) (· + ·) (Qa rfl) (Qa rfl) ha.sq hb.sq (by lia) (λx z y z hs=>Zm (Qa rfl) (Qa rfl) rfl)
 exact Zf (Qc fnL[10] rfl rfl) (Qz (Za (JO e) ⟨YB k,_,rfl,Qi⟩))
def Qk5(ha:Sm h u a)(hb:Sm h w b)(la:a.length<=1000):Pc (tbG xx s) (n+1) 37 [u,w] h λr h1=>Sr h1 r (List.zipWith (· - ·) a b):=by
 obtain⟨h3,e,k⟩:=Qbc (T:=tbG xx s) (cf:=Qd (tbG xx s) n) (d:=96) (ρ:=[some u,some w]) (ea:=.var 0) (eb:=.var 1) (el:=.op .Sub (.var 2) (.var 3)) (· - ·) (Qa rfl) (Qa rfl) ha.sq hb.sq (by lia) (λx z y z hs=>Zm (Qa rfl) (Qa rfl) rfl)
 exact Zf (Qc fnL[37] rfl rfl) (Qz (Za (JO e) ⟨YB k,_,rfl,Qi⟩))
def J1(hj:Qg j=true):opU .Mult (.int x 0) (.int j 0) hs=some (.int (x*j) 0,hs):=by
 simp only[opU,Qkj,hj,Bool.or_true,Bool.true_or,Wo];rfl
def QbD(hj:Qg x=true):opU .Mult (.int x 0) (.int j 0) hs=some (.int (x*j) 0,hs):=by
 simp only[opU,Qkj,hj,Bool.true_or,Wo];rfl
def Qnu(ha:Sm h u a)(hj:Qg j=true)(la:a.length<=1000):Pc (tbG xx s) (n+1) 12 [u,iU j] h λr h1=>Sr h1 r (a.map (·*j)):=by
 obtain⟨h3,e,k⟩:=QcP (T:=tbG xx s) (cf:=Qd (tbG xx s) n) (d:=96) (ρ:=[some u,some (iU j)]) (ea:=.var 0) (el:=.op .Mult (.var 2) (.var 1)) (λx=>iU (x*j)) (Qa rfl) ha.sq (by lia) (λx z hs z=>Zm (Qa rfl) (Qa rfl) (J1 hj))
 refine Zf (Qc fnL[12] rfl rfl) (Qz (Za (JO e) ⟨YB k,_,rfl,?_⟩));rw[Qi,List.map_map];rfl
noncomputable def szd(c:List Int):Bool:=(c.drop 1).any λx=>!decide (x=0)
def sl1(z:Sr h u c)(l:0<c.length):slU T u (some 1) none h=some (.ref h.length,h++[.tup ((c.drop 1).map iU)]):=by
 obtain⟨i,rfl,e⟩:=z
 have e1:ZR (c.map iU).length 0 (some 1)=1:=by
  rw[X6];simp only[ZR]
  rw[if_neg (by decide)]
  show min 1 c.length=1;lia
 simp only[slU,e]
 rw[e1,if_neg (λz=>by cases z.1)]
 unfold YS;rw[e1];simp only[ZR]
 rw[List.map_drop,X6,Wf (by simp)]
def QiV(hi:ρ[i]?=some (some u))(z:Sr h u c)(l:0<c.length):ev T cf (d+2) (.sl (.var i) (some (.c (.int 1 0))) none) ρ h=some (.ref h.length,h++[.tup ((c.drop 1).map iU)]):=by
 rw[QnL,Qa hi,Qx];simp only[evO,y_c,Qx];exact sl1 z l
theorem Qaj{α:Type}{f:α->Bool}:∀{l:List α},YK (l.map λx=>U.bl (f x))=some (l.map f)
 |[]=>rfl
 |x::l=>by rw[X7];simp only[YK,Qaj (l:=l)];rfl
theorem QbO:∀{l:List Int},Js (l.map iU)=some l
 |[]=>rfl
 |x::l=>by rw[X7];simp only[Js,QbO (l:=l)];rfl
def QgA{f:α->Bool}{l:List α}(hp:h[p]?=some (.lst (l.map λx=>U.bl (f x)))):biU T .any [.ref p] h=some (.bl (l.any f),h):=by
 show biL T .any [.ref p] h=_;simp only[biL,Qw hp,Option.bind,Qaj,Option.map];rw[List.any_map];rfl
def Qgz{l:List Int}(hp:h[p]?=some (.lst (l.map iU))):biU T .sum [.ref p] h=some (iU l.sum,h):=by
 show biL T .sum [.ref p] h=_;simp only[biL,Qw hp,Option.bind,QbO,Option.map]
def YI(z:Sr h u c)(l:0<c.length)(lc:c.length<=1000):Pc (tbG xx s) (n+1) 14 [u] h λr y=>r=.bl (szd c):=by
 obtain⟨h3,e,k⟩:=QcP (T:=tbG xx s) (cf:=Qd (tbG xx s) n) (d:=96) (ρ:=[some u]) (a:=c.drop 1) (h1:=h++[.tup ((c.drop 1).map iU)]) (ea:=.sl (.var 0) (some (.c (.int 1 0))) none) (el:=.cmp .NotEq (.var 1) (.c (.int 0 0))) (λx=>.bl (!decide (x=0))) (QiV rfl z l) (.inr (ZU Qi)) (by simp;lia) (λx y hs y=>QcQ (Qa rfl) y_c rfl)
 exact Zf (Qc fnL[14] rfl rfl) (Qz (Za (Qay e (QgA Qi)) ⟨(kp1.trans k).trans kp1,rfl⟩))
noncomputable def wor(c ch:List Int):Int:=c.headD 0+(List.zipWith (·*·) (c.drop 1) ch).sum
def JB(z:Sr h u c)(l:0<c.length)(lc:c.length<=1000)(hp:h[p]?=some (.lst (ch.map iU)))(sm:∀x∈c,Qg x=true):Pc (tbG xx s) (n+1) 13 [u,.ref p] h λr v=>r=iU (wor c ch):=by
 obtain⟨h3,e,k⟩:=Qbc (T:=tbG xx s) (cf:=Qd (tbG xx s) n) (d:=95) (ρ:=[some u,sR p]) (a:=c.drop 1) (b:=ch) (ea:=.sl (.var 0) (some (.c (.int 1 0))) none) (eb:=.var 1) (el:=.op .Mult (.var 2) (.var 3)) (·*·) (QiV rfl z l) (Qa rfl) (.inr (ZU Qi)) (.inl (Qw (Qt hp))) (by simp;lia) (λx hx y v hs=>Zm (Qa rfl) (Qa rfl) (QbD (sm x (List.mem_of_mem_drop hx))))
 refine Zf (Qc fnL[13] rfl rfl) (Qz (Za (Zm (u:=iU (c.headD 0)) (w:=iU (List.zipWith (·*·) (c.drop 1) ch).sum) (Qk (Qa rfl) (Sm.ix (.inr z) (j:=0) ?_)) (Qay e (Qgz Qi)) rfl) ⟨(kp1.trans k).trans kp1,rfl⟩))
 cases c with
 |nil=>cases l
 |cons x c=>rfl
end
def Sx(b:Bool)(h:Hs)(u:U)(c:List Int):Prop:=(b=false/\u=.con 1/\c=z5)\/Sr h u c
def Zl(b:Bool)(h:Hs)(k:Nat):Prop:=∃us,h[k]?=some (.lst us)/\us.length=4/\∀u∈us,Sx b h u z5
def Ct(b:Bool)(m:Nat)(h:Hs)(u:U)(t g:List Int):Prop:=∃i x y k f,u=.ref i/\h[i]?=some (.tup [x,y,.ref k,.ref f])/\Sx b h x t/\Sx b h y g/\(Zl b h k/\m<=k)/\Zl b h f/\m<=f
noncomputable def i5(i:Int):List Int:=[i,0,0,0,0]
section
variable {a b t g g':List Int}{k':Nat}{bb b':Bool}{i:Int}
def Sx.sm(z:Sx bb h u c):Sm h u c:=z.elim (λz=>.inl z.2) .inr
def Sx.sr(z:Sx true h u c):Sr h u c:=z.elim (λz=>nomatch z.1) id
theorem Sx.kp(k:Kp h h1)(z:Sx bb h u c):Sx bb h1 u c:=z.elim .inl λr=>.inr (r.kp k)
theorem Zl.kp(q:Kp h h1)(z:Zl bb h k):Zl bb h1 k:=by obtain⟨us,a,b,c⟩:=z;exact⟨us,q _ _ a,b,λu hu=>(c u hu).kp q⟩
theorem Ct.kp(q:Kp h h1)(z:Ct bb m h u t g):Ct bb m h1 u t g:=by obtain⟨i,x,y,k,f,a,b,c,d,e,o,l⟩:=z;exact⟨i,x,y,k,f,a,q _ _ b,c.kp q,d.kp q,⟨e.1.kp q,e.2⟩,o.kp q,l⟩
def Ct.le(q:m'<=m)(z:Ct bb m h u t g):Ct bb m' h u t g:=by obtain⟨i,x,y,k,f,a,b,c,d,e,o,l⟩:=z;exact⟨i,x,y,k,f,a,b,c,d,⟨e.1,X2 q e.2⟩,o,X2 q l⟩
def QoM:szd (i5 i)=false:=rfl
def Qej(z:Sr h u (i5 i))(zb:Sm h w b)(hi:Qg i=true)(lb:b.length<=1000):Pc (tbG xx s) (n+2) 11 [u,w] h λr h1=>Sr h1 r (b.map (·*i)):=by
 obtain⟨_,h1,e1,k1,rfl⟩:=YI (xx:=xx) (s:=s) (n:=n) z (by show 0<5;decide) (by show 5<=1000;decide)
 obtain⟨r,h2,e2,k2,q2⟩:=Qnu (xx:=xx) (s:=s) (n:=n) (zb.kp k1) hi lb;refine Zf (Qc fnL[11] rfl rfl) (Qbq (c:=true) (Qb6 (c:=false) (JJ rfl (Qj (e_1 (Qa rfl)) e1))) (Qz (Za (Qj (e_2 (Qa rfl) (Qk (Qa rfl) (Sm.ix (.inr (z.kp k1)) (j:=0) (x:=i) rfl))) e2) ⟨k1.trans k2,q2⟩)))
def Qbw{P:U->Prop}{L:List α}(p:Paired (λu z=>P u) us L):us.length=L.length/\∀u∈us,P u:=by
 induction p with
 |nil=>exact⟨rfl,λu hu=>nomatch hu⟩
 |cons a _ ih=>exact⟨congrArg (· + 1) ih.1,λu hu=>(Xm.mp hu).elim (λe=>e▸a) (ih.2 u)⟩
def QfT{p:U×U}(h:p∈xs.zip ys):p.1∈xs/\p.2∈ys:=⟨(Um h).1,(Um h).2⟩
def QbZ(za:Zl bb h k)(zb:Zl b' h k'):Pc (tbG xx s) (n+2) 19 [.ref k,.ref k'] h λr h1=>∃p,r=.ref p/\h.length<=p/\Zl true h1 p:=by
 obtain⟨us,a1,a2,a3⟩:=za;obtain⟨ws,b1,b2,b3⟩:=zb
 obtain⟨vs,h3,e,kp,p⟩:=Qh4 (T:=tbG xx s) (cf:=Qd (tbG xx s) (n+1)) (d:=97) (ρ:=[sR k,sR k']) (a:=.var 0) (b:=.var 1) (el:=.call 10 [(.var 2),(.var 3)]) (λy r h=>Sx true h r z5) (λy y y y k z=>z.kp k) (Qa rfl) (Qa rfl) (.inl (Qw a1)) (.inl (Qw b1)) (by lia) (λx hx hs kp=>by
  obtain⟨m1,m2⟩:=QfT hx
  obtain⟨r,h4,e4,k4,q4⟩:=YH (xx:=xx) (s:=s) (n:=n) (((a3 _ m1).kp kp).sm) (((b3 _ m2).kp kp).sm) (by decide)
  exact⟨r,h4,Qj (e_2 (Qa rfl) (Qa rfl)) e4,k4,.inr q4⟩)
 obtain⟨l1,l2⟩:=Qbw p
 exact Zf (Qc fnL[19] rfl rfl) (Qz (Za e ⟨kp.trans kp1,_,rfl,kp.len,vs,Qi,by rw[l1,Up,a2,b2];rfl,λu hu=>(l2 u hu).kp kp1⟩))
def Qeo(za:Ct bb m h u t g)(zb:Ct b' m' h w t' g')(l1:t.length<=1000)(l2:g.length<=1000):Pc (tbG xx s) (n+3) 18 [u,w] h λr h1=>Ct true h.length h1 r (List.zipWith (· + ·) t t') (List.zipWith (· + ·) g g'):=by
 obtain⟨i,x,y,k,f,rfl,a1,a2,a3,⟨a4,_⟩,a5,_⟩:=za;obtain⟨i',x',y',k',f',rfl,b1,b2,b3,⟨b4,_⟩,b5,_⟩:=zb;obtain⟨r1,h1,e1,k1,q1⟩:=YH (xx:=xx) (s:=s) (n:=n+1) a2.sm b2.sm l1;obtain⟨r2,h2,e2,k2,q2⟩:=YH (xx:=xx) (s:=s) (n:=n+1) (a3.sm.kp k1) (b3.sm.kp k1) l2;have k12:=k1.trans k2;obtain⟨_,h3,e3,k3,r3,rfl,m3,q3⟩:=QbZ (xx:=xx) (s:=s) (n:=n) (a4.kp k12) (b4.kp k12);have k13:=k12.trans k3;obtain⟨_,h4,e4,k4,r4,rfl,m4,q4⟩:=QbZ (xx:=xx) (s:=s) (n:=n) (a5.kp k13) (b5.kp k13);refine Zf (Qc fnL[18] rfl rfl) (Qz (Za (YZ (Qj (e_2 (Qk (Qa rfl) (Qo (j:=0) a1 rfl)) (Qk (Qa rfl) (Qo (j:=0) b1 rfl))) e1) (Qj (e_2 (Qk (Qa rfl) (Qo (j:=1) (k1 _ _ a1) rfl)) (Qk (Qa rfl) (Qo (j:=1) (k1 _ _ b1) rfl))) e2) (Qj (e_2 (Qk (Qa rfl) (Qo (j:=2) (k12 _ _ a1) rfl)) (Qk (Qa rfl) (Qo (j:=2) (k12 _ _ b1) rfl))) e3) (Qj (e_2 (Qk (Qa rfl) (Qo (j:=3) (k13 _ _ a1) rfl)) (Qk (Qa rfl) (Qo (j:=3) (k13 _ _ b1) rfl))) e4)) ⟨(k13.trans k4).trans kp1,_,_,_,_,_,rfl,Qi,?_,?_,⟨?_,X2 k12.len m3⟩,?_,X2 k13.len m4⟩))
 ·exact .inr (q1.kp (((k2.trans k3).trans k4).trans kp1))
 ·exact .inr (q2.kp ((k3.trans k4).trans kp1))
 ·exact q3.kp (k4.trans kp1)
 ·exact q4.kp kp1
def Qn3(lc:c.length=5):c.map (·*0)=z5:=by
 match c,lc with
 |[_,_,_,_,_],_=>simp[z5]
def Qei(za:Zl true h k)(zb:Sm h w c)(lc:c.length=5){d q:Nat}(ve:∀d,ev (tbG xx s) (Qd (tbG xx s) (n+2)) (d+2) e ρ h=some (.ref k,h))(h1':ρ[1]?=some (some w))(hq:ρ.length=4):∃p h1,ev (tbG xx s) (Qd (tbG xx s) (n+2)) (d+5) (.comp (.seq e) false none (.call 11 [(.var 4),(.var 1)])) ρ h=some (.ref p,h1)/\Kp h h1/\Zl true h1 p:=by
 obtain⟨us,a1,a2,a3⟩:=za
 obtain⟨vs,h3,e3,kp,p⟩:=JC (T:=tbG xx s) (cf:=Qd (tbG xx s) (n+2)) (d:=d+4) (ρ:=ρ) (e:=e) (el:=.call 11 [(.var 4),(.var 1)]) (λy r h=>Sx true h r z5) (λy y y y k z=>z.kp k) (ve _) (.inl (Qw a1)) (by lia) (λx hx hs kp=>by
  obtain⟨r,h4,e4,k4,q4⟩:=Qej (xx:=xx) (s:=s) (n:=n) (i:=0) ((a3 _ hx).kp kp).sr (zb.kp kp) (by decide) (by lia)
  rw[Qn3 lc]at q4
  exact⟨r,h4,Qj (e_2 (Qa (by rw[X3 (by lia),hq];rfl)) (Qa (by rw[Xs (by lia)];exact h1'))) e4,k4,.inr q4⟩)
 obtain⟨l1,l2⟩:=Qbw p
 exact⟨_,_,e3,kp.trans kp1,vs,Qi,by rw[l1,a2],λu hu=>(l2 u hu).kp kp1⟩
def Qh8(za:Ct true m h u (i5 i) (i5 j))(zb:Sm h w c)(lc:c.length=5)(hi:Qg i=true)(hj:Qg j=true):Pc (tbG xx s) (n+3) 20 [u,w] h λr h1=>Ct true 0 h1 r (c.map (·*i)) (c.map (·*j)):=by
 obtain⟨ii,x,y,k,f,rfl,a1,a2,a3,⟨a4,_⟩,a5,_⟩:=za;obtain⟨p1,h1,e1,k1,q1⟩:=Qei (xx:=xx) (s:=s) (n:=n) (d:=93) (ρ:=[sR ii,some w,none,none]) (e:=.ix (.var 0) (.c (.int 2 0))) (q:=0) a4 zb lc (λd=>Qk (Qa rfl) (Qo (j:=2) a1 rfl)) rfl rfl;obtain⟨p2,h2,e2,k2,q2⟩:=Qei (xx:=xx) (s:=s) (n:=n) (d:=92) (ρ:=[sR ii,some w,sR p1,none]) (e:=.ix (.var 0) (.c (.int 3 0))) (q:=0) (a5.kp k1) (zb.kp k1) lc (λd=>Qk (Qa rfl) (Qo (j:=3) (k1 _ _ a1) rfl)) rfl rfl;have k12:=k1.trans k2
 obtain⟨r3,h3,e3,k3,q3⟩:=Qej (xx:=xx) (s:=s) (n:=n) (a2.sr.kp k12) (zb.kp k12) hi (by lia)
 have k13:=k12.trans k3
 obtain⟨r4,h4,e4,k4,q4⟩:=Qej (xx:=xx) (s:=s) (n:=n) (a3.sr.kp k13) (zb.kp k13) hj (by lia)
 refine Zf (Qc fnL[20] rfl rfl) (QR (Qu e1) (QR (Qu e2) (Qz (Za (YZ (Qj (e_2 (Qk (Qa rfl) (Qo (j:=0) (k12 _ _ a1) rfl)) (Qa rfl)) e3) (Qj (e_2 (Qk (Qa rfl) (Qo (j:=1) (k13 _ _ a1) rfl)) (Qa rfl)) e4) (Qa rfl) (Qa rfl)) ⟨(k13.trans k4).trans kp1,_,_,_,_,_,rfl,Qi,?_,?_,⟨?_,Wq _⟩,?_,Wq _⟩))))
 ·exact .inr (q3.kp (k4.trans kp1))
 ·exact .inr (q4.kp kp1)
 ·exact q1.kp (((k2.trans k3).trans k4).trans kp1)
 ·exact q2.kp ((k3.trans k4).trans kp1)
end
def St(h:Hs)(v:U)(g:Int):Prop:=∃q,v=.ref q/\((h[q]?=some (.ins 1 [(0,iU 1)])/\g=1)\/(h[q]?=some (.ins 2 [])/\g=0))
def One(h:Hs)(p:U)(g:Int):Prop:=∃i v,p=.ref i/\h[i]?=some (.tup [.str [111,110,101],v])/\St h v g
def Row(h:Hs)(r:U)(g:Int):Prop:=∃i a b p y,r=.ref i/\h[i]?=some (.tup [.str [114,111,119],.ref a,.bl false,.ref p,.ref b])/\h[a]?=some (.lst [])/\h[b]?=some (.lst [])/\h[p]?=some (.lst [y])/\One h y g
section

def St.kp(q:Kp h h1)(z:St h v g):St h1 v g:=by obtain⟨i,a,b⟩:=z;exact⟨i,a,b.imp (λz=>⟨q _ _ z.1,z.2⟩) λz=>⟨q _ _ z.1,z.2⟩⟩
theorem One.kp(q:Kp h h1)(z:One h v g):One h1 v g:=by obtain⟨i,a,b,c,d⟩:=z;exact⟨i,a,b,q _ _ c,d.kp q⟩
theorem Row.kp(q:Kp h h1)(z:Row h v g):Row h1 v g:=by obtain⟨i,a,b,p,y,c,d,e,f,m,o⟩:=z;exact⟨i,a,b,p,y,c,q _ _ d,q _ _ e,q _ _ f,q _ _ m,o.kp q⟩
def Qps(hp:h[p]?=some (.lst xs))(ox:(xs.all λx=>okW T 20 x h&&!eqW T 20 x w h)=true)(ow:okW T 20 w h=true):bmU T .count (.ref p) [w] h=some (iU 0,h):=by
 have e1:(xs.all λx=>okW T 20 x h)=true:=Xw.mpr λx hx=>(Wj.mp (Xw.mp ox x hx)).1
 have e2:(xs.countP λx=>eqW T 20 x w h)=0:=List.countP_eq_zero.mpr λx hx=>by
  have:=(Wj.mp (Xw.mp ox x hx)).2;simpa using this
 simp only[bmU,hp,bmL,e1,ow,Bool.and_self,Wo,e2];rfl
def QoY(hp:h[p]?=some (.lst xs)):Qda .count (.ref p) h=true:=by simp only[Qda,hp];rfl
def Ql0(hi:ρ[i]?=some (sR p))(hp:h[p]?=some (.lst xs))(v:ev T cf (d+1) e ρ h=some (w,h1))(hp1:h1[p]?=some (.lst xs))(ox:(xs.all λx=>okW T 20 x h1&&!eqW T 20 x w h1)=true)(ow:okW T 20 w h1=true):ev T cf (d+2) (.bm .count (.var i) [e]) ρ h=some (iU 0,h1):=by
 rw[Qlo,Qa hi,Qx,if_pos (QoY hp)];simp only[evs,v,Qx,Qps hp1 ox ow]
def Qgx(hl:ρ.length=5)(hi:ρ[i]?=some (sR p))(li:i<5)(hp:h[p]?=some (.lst xs))(st:∀x∈[U.str [119],.str [120],.str [121],.str [122]],∀hs,Kp h hs->∃w h1,ev (tbG xx s) (Qd (tbG xx s) (n+1)) (d+1) e (ρ++[some x]) hs=some (w,h1)/\Kp hs h1/\(xs.all λx=>okW (tbG xx s) 20 x h1&&!eqW (tbG xx s) 20 x w h1)=true/\okW (tbG xx s) 20 w h1=true):
  ∃k h1,ev (tbG xx s) (Qd (tbG xx s) (n+1)) (d+4) (.comp (.seq (.con 0)) false none (.call 9 [(.bm .count (.var i) [e])])) ρ h=some (.ref k,h1)/\Kp h h1/\Zl true h1 k:=by
 obtain⟨vs,h3,e3,kp,pp⟩:=JC (T:=tbG xx s) (cf:=Qd (tbG xx s) (n+1)) (d:=d+3) (ρ:=ρ) (u:=.con 0) (e:=.con 0) (L:=[U.str [119],.str [120],.str [121],.str [122]]) (el:=.call 9 [(.bm .count (.var i) [e])]) (λy r h=>Sx true h r z5) (λy y y y k z=>z.kp k) Yl (.inr rfl) (by decide) (λx hx hs kp=>by
  obtain⟨w,h1,e1,k1,o1,o2⟩:=st x hx hs kp;obtain⟨r,h4,e4,k4,q4⟩:=Qeh (xx:=xx) (s:=s) (n:=n) (h:=h1) (i:=0)
  exact⟨r,h4,Qj (e_1 (Ql0 (by rw[Xs (by lia)];exact hi) (kp _ _ hp) e1 (k1 _ _ (kp _ _ hp)) o1 o2)) e4,k1.trans k4,.inr q4⟩)
 obtain⟨l1,l2⟩:=Qbw pp;exact⟨_,_,e3,kp.trans kp1,vs,Qi,l1,λu hu=>(l2 u hu).kp kp1⟩
end
section

def ZT(x:ev T cf d a ρ h=some (u,h1)):ev T cf (d+1) (.lst [a]) ρ h=some (.ref h1.length,h1++[.lst [u]]):=by rw[QiI];simp only[evs,x,Qx]
def Y0{b:E}(x:ev T cf d a ρ h=some (u,h1))(y:ev T cf d b ρ h1=some (w,h2)):ev T cf (d+1) (.lst [a,b]) ρ h=some (.ref h2.length,h2++[.lst [u,w]]):=by rw[QiI];simp only[evs,x,y,Qx]
def QiT(x:ev T cf d a ρ h=some (u,h1)):ev T cf (d+1) (.tup [a]) ρ h=some (.ref h1.length,h1++[.tup [u]]):=by rw[Qb2];simp only[evs,x,Qx]
noncomputable def Qis:U:=.str [111,102,102]
def Qk6(z:St h v g):∃p h1 us,ev (tbG xx s) (Qd (tbG xx s) (n+1)) (d+2) (.meth 1 (.var 0) []) (some v::ρ) h=some (.ref p,h1)/\Kp h h1/\h1[p]?=some (.lst us)/\(us=[]\/∃i,us=[.ref i]/\h1[i]?=some (.tup [iU 0,Qis])):=by
 obtain⟨q,rfl,⟨e,_⟩|⟨e,_⟩⟩:=z
 ·exact⟨h.length,h++[.lst []],[],(QeH rfl e rfl rfl rfl).trans (by rw[Qc fnL[1] rfl rfl];rfl),kp1,Qi,.inl rfl⟩
 ·exact⟨(h++[O.tup [iU 0,Qis]]).length,h++[O.tup [iU 0,Qis]]++[.lst [.ref h.length]],[.ref h.length],(QeH rfl e rfl rfl rfl).trans ((Qc fnL[8] rfl rfl).trans (Qat (ZT (Qbf y_c y_c)))),kp1.trans kp1,Qi,.inr ⟨_,rfl,Qt Qi⟩⟩
def Qh5(z:St h v g):∃p h1 us,ev (tbG xx s) (Qd (tbG xx s) (n+1)) 98 (.comp (.seq (.meth 1 (.var 0) [])) false none (.ix (.var 5) (.c (.int 1 0)))) [some v,none,none,none,none] h=some (.ref p,h1)/\Kp h h1/\h1[p]?=some (.lst us)/\(us=[]\/us=[Qis]):=by
 obtain⟨p,h1,us,e1,k1,hp,z1⟩:=Qk6 (xx:=xx) (s:=s) (n:=n) (d:=95) (ρ:=[none,none,none,none]) z
 obtain⟨vs,h3,e3,kp,pp⟩:=JC (T:=tbG xx s) (cf:=Qd (tbG xx s) (n+1)) (d:=97) (ρ:=[some v,none,none,none,none]) (el:=.ix (.var 5) (.c (.int 1 0))) (λy r y=>r=Qis) (λy y y y y z=>z) e1 (.inl (Qw hp)) (by rcases z1 with rfl|⟨i,rfl,_⟩<;>simp) (λx hx hs kp=>by
  rcases z1 with rfl|⟨i,rfl,e⟩
  ·cases hx
  ·cases X5.mp hx
   exact⟨_,hs,Qk (Qa rfl) (Qo (j:=1) (kp _ _ e) rfl),Kp.refl _,rfl⟩)
 refine⟨_,_,vs,e3,(k1.trans kp).trans kp1,Qi,?_⟩
 rcases z1 with rfl|⟨i,rfl,_⟩
 ·cases pp;exact .inl rfl
 ·cases pp with
  |cons a b=>cases b;rw[a];exact .inr rfl
noncomputable def QnS:U:=.str [110,101,119]
noncomputable def Qg8:U:=.str [102,114,111,109]
def Tie(h:Hs)(us:List U):Prop:=us=[]\/∃i j,us=[.ref i]/\h[i]?=some (.tup [QnS,.ref j,iU 1,iU 0])/\h[j]?=some (.tup [iU 0])
def Tie.kp(q:Kp h h1)(z:Tie h us):Tie h1 us:=z.imp id λy=>by obtain⟨i,j,a,b,c⟩:=y;exact⟨i,j,a,q _ _ b,q _ _ c⟩
def QkY(z:St h v g):∃p h1 us,ev (tbG xx s) (Qd (tbG xx s) (n+1)) (d+2) (.meth 0 (.var 0) []) (some v::ρ) h=some (.ref p,h1)/\Kp h h1/\h1[p]?=some (.lst us)/\Tie h1 us:=by
 obtain⟨q,rfl,⟨e,_⟩|⟨e,_⟩⟩:=z
 ·refine⟨_,_,[_],(QeH rfl e rfl rfl rfl).trans ((Qc fnL[5] rfl rfl).trans (Qat (ZT (YZ (w:=iU 1) y_c (QiT y_c) (QX rfl (Qt e) rfl) y_c)))),(kp1.trans kp1).trans kp1,Qi,.inr ⟨_,_,rfl,Qt Qi,Qt (Qt Qi)⟩⟩
 ·exact⟨h.length,h++[.lst []],[],(QeH rfl e rfl rfl rfl).trans (by rw[Qc fnL[0] rfl rfl];rfl),kp1,Qi,.inl rfl⟩
def QmC{n:Nat}{u:U}(e:Zu T u h=some xs):okW T (n+1) u h=xs.all λx=>okW T n x h:=by simp only[okW,JQ e,e]
def QkJ{n:Nat}{u w:U}(e:Zu T u h=some xs)(e':Zu T w h=some ys):eqW T (n+1) u w h=((xs.length==ys.length)&&(xs.zip ys).all λp=>eqW T n p.1 p.2 h):=by simp only[eqW,JQ e,e,JQ e',e']
def Qfg{n:Nat}(e:h[p]?=some (.tup xs)):okW T (n+1) (.ref p) h=xs.all λx=>okW T n x h:=QmC (ZU e)
def okT{x:List Nat}(hx:(x.all λc=>decide (c<128))=true)(e:h[i]?=some (.tup [Qg8,.str x])):okW T 20 (.ref i) h=true :=
 (Qfg e).trans (show(true&&(x.all (λc=>decide (c<128))&&true))=true by rw[hx];rfl)
def neT{x:List Nat}(hx:(x.all λc=>decide (c<128))=true)(e:h[i]?=some (.tup [Qg8,.str x]))(z:Tie h us):(us.all λy=>okW T 20 y h&&!eqW T 20 y (.ref i) h)=true:=by
 rcases z with rfl|⟨a,b,rfl,ea,eb⟩
 ·rfl
 ·have o1:okW T 20 (.ref a) h=true:=(Qfg ea).trans (show(okW T 19 QnS h&&(okW T 19 (.ref b) h&&(true&&(true&&true))))=true by rw[Qfg (n:=18) eb];rfl)
  have n1:eqW T 20 (.ref a) (.ref i) h=false:=(QkJ (ZU ea) (ZU e)).trans rfl;show((okW T 20 (.ref a) h&&!eqW T 20 (.ref a) (.ref i) h)&&true)=true;rw[o1,n1];rfl
def neS{x:List Nat}(hx:x≠[111,102,102])(z:us=[]\/us=[Qis]):(us.all λy=>okW T 20 y h&&!eqW T 20 y (.str x) h)=true:=by
 rcases z with rfl|rfl
 ·rfl
 ·have:(([111,102,102]:List Nat)==x)=false:=by simpa using Wy hx
  show((true&&!([111,102,102]==x))&&true)=true;rw[this];rfl
def Qoa{x:U}(hx:x∈[U.str [119],.str [120],.str [121],.str [122]]):∃y:List Nat,x=.str y/\(y.all λc=>decide (c<128))=true/\y≠[111,102,102]:=by
 rcases Xm.mp hx with rfl|hx
 ·exact⟨_,rfl,rfl,by decide⟩
 rcases Xm.mp hx with rfl|hx
 ·exact⟨_,rfl,rfl,by decide⟩
 rcases Xm.mp hx with rfl|hx
 ·exact⟨_,rfl,rfl,by decide⟩
 cases X5.mp hx
 exact⟨_,rfl,rfl,by decide⟩
def Qns(z:St h v g):Pc (tbG xx s) (n+2) 17 [v] h λr h1=>Ct true 0 h1 r (i5 1) (i5 g):=by
 obtain⟨p1,h1,us,e1,k1,hp1,w1⟩:=Qh5 (xx:=xx) (s:=s) (n:=n) z;obtain⟨p2,h2,ts,e2,k2,hp2,w2⟩:=QkY (xx:=xx) (s:=s) (n:=n) (d:=95) (ρ:=[sR p1,none,none,none]) (z.kp k1)
 obtain⟨p3,h3,e3,k3,z3⟩:=Qgx (xx:=xx) (s:=s) (n:=n) (d:=92) (ρ:=[some v,sR p1,sR p2,none,none]) (i:=1) (e:=.var 5) rfl rfl (by decide) (k2 _ _ hp1) (λx hx hs kp=>by
  obtain⟨y,rfl,hy,ny⟩:=Qoa hx
  exact⟨_,hs,Qa rfl,Kp.refl _,neS ny w1,hy⟩)
 obtain⟨p4,h4,e4,k4,z4⟩:=Qgx (xx:=xx) (s:=s) (n:=n) (d:=91) (ρ:=[some v,sR p1,sR p2,sR p3,none]) (i:=2) (e:=.tup [(.c Qg8),(.var 5)]) rfl rfl (by decide) (k3 _ _ hp2) (λx hx hs kp=>by
  obtain⟨y,rfl,hy,ny⟩:=Qoa hx
  exact⟨_,_,Qbf y_c (Qa rfl),kp1,neT hy Qi (((w2.kp k3).kp kp).kp kp1),okT hy Qi⟩)
 have k14:=((k1.trans k2).trans k3).trans k4
 have mt:∀(m a:Nat) (x:Int),(m=2/\x=1)\/(m=3/\x=g)->∀hs,Kp h hs->ev (tbG xx s) (Qd (tbG xx s) (n+1)) 92 (.meth m (.var 0) []) [some v,sR p1,sR p2,sR p3,sR p4] hs=some (iU x,hs):=λm a x hm hs kp=>by
  obtain⟨q,rfl,⟨e,eg⟩|⟨e,eg⟩⟩:=z
  ·rcases hm with⟨rfl,rfl⟩|⟨rfl,rfl⟩
   ·exact(QeH rfl (kp _ _ e) rfl rfl rfl).trans (by rw[Qc fnL[3] rfl rfl];rfl)
   ·rw[eg];exact(QeH rfl (kp _ _ e) rfl rfl rfl).trans (by rw[Qc fnL[4] rfl rfl];rfl)
  ·rcases hm with⟨rfl,rfl⟩|⟨rfl,rfl⟩
   ·exact(QeH rfl (kp _ _ e) rfl rfl rfl).trans (by rw[Qc fnL[6] rfl rfl];rfl)
   ·rw[eg];exact(QeH rfl (kp _ _ e) rfl rfl rfl).trans (by rw[Qc fnL[7] rfl rfl];rfl)
 obtain⟨r5,h5,e5,k5,q5⟩:=Qeh (xx:=xx) (s:=s) (n:=n) (h:=h4) (i:=1);obtain⟨r6,h6,e6,k6,q6⟩:=Qeh (xx:=xx) (s:=s) (n:=n) (h:=h5) (i:=g);refine Zf (Qc fnL[17] rfl rfl) (QR (Qu e1) (QR (Qu (d:=97) e2) (QR (Qu (d:=96) e3) (QR (Qu (d:=95) e4) (Qz (Za (YZ (Qj (e_1 (mt 2 0 1 (.inl ⟨rfl,rfl⟩) _ k14)) e5) (Qj (e_1 (mt 3 0 g (.inr ⟨rfl,rfl⟩) _ (k14.trans k5))) e6) (Qa rfl) (Qa rfl)) ⟨((k14.trans k5).trans k6).trans kp1,_,_,_,_,_,rfl,Qi,.inr (q5.kp (k6.trans kp1)),.inr (q6.kp kp1),⟨z3.kp (((k4.trans k5).trans k6).trans kp1),Wq _⟩,z4.kp ((k5.trans k6).trans kp1),Wq _⟩))))))
end
section

def Qk2(z:One h y g):Pc (tbG xx s) (n+3) 16 [y] h λr h1=>Ct true 0 h1 r (i5 1) (i5 g):=by
 obtain⟨i,v,rfl,e,z⟩:=z;obtain⟨r,h1,e1,k1,q1⟩:=Qns (xx:=xx) (s:=s) (n:=n) z;exact Zf (Qc fnL[16] rfl rfl) (Qbq (c:=true) (QI (u:=.str [111,110,101]) (Qk (Qa rfl) (Qo (j:=0) e rfl)) y_c rfl) (Qz (Za (Qj (e_1 (Qk (Qa rfl) (Qo (j:=1) e rfl))) e1) ⟨k1,q1⟩)))
def YJ:∃k h1,ev (tbG xx s) cf (d+2) (.comp (.seq (.con 0)) false none (.con 1)) ρ h=some (.ref k,h1)/\Kp h h1/\Zl false h1 k/\h.length<=k:=by
 obtain⟨vs,h3,e3,kp,pp⟩:=JC (T:=tbG xx s) (cf:=cf) (d:=d+1) (ρ:=ρ) (h:=h) (u:=.con 0) (e:=.con 0) (L:=[U.str [119],.str [120],.str [121],.str [122]]) (el:=.con 1) (λy r y=>r=.con 1) (λy y y y k z=>z) Yl (.inr rfl) (by decide) (λx hx hs kp=>⟨_,hs,Yl,Kp.refl _,rfl⟩)
 obtain⟨l1,l2⟩:=Qbw pp;exact⟨_,_,e3,kp.trans kp1,⟨vs,Qi,l1,λu hu=>.inl ⟨rfl,l2 u hu,rfl⟩⟩,kp.len⟩
noncomputable def fnd:E:=.tup [(.con 1),(.con 1),(.comp (.seq (.con 0)) false none (.con 1)),(.comp (.seq (.con 0)) false none (.con 1))]
def Qel:∃u h1,ev (tbG xx s) cf (d+3) fnd ρ h=some (u,h1)/\Kp h h1/\Ct false h.length h1 u z5 z5:=by
 obtain⟨a,h1,e1,k1,z1,l1⟩:=YJ (xx:=xx) (s:=s) (cf:=cf) (d:=d) (ρ:=ρ) (h:=h);obtain⟨b,h2,e2,k2,z2,l2⟩:=YJ (xx:=xx) (s:=s) (cf:=cf) (d:=d) (ρ:=ρ) (h:=h1);exact⟨_,_,YZ Yl Yl e1 e2,(k1.trans k2).trans kp1,_,_,_,_,_,rfl,Qi,.inl ⟨rfl,rfl,rfl⟩,.inl ⟨rfl,rfl,rfl⟩,⟨z1.kp (k2.trans kp1),l1⟩,z2.kp kp1,X2 k1.len l2⟩
def QfN(hp:h[p]?=some (.lst [])):Pc (tbG xx s) (n+1) 15 [.ref p] h λr h1=>Ct false h.length h1 r z5 z5:=by
 obtain⟨u,h1,e1,k1,z1⟩:=Qel (xx:=xx) (s:=s) (cf:=Qd (tbG xx s) n) (d:=95) (ρ:=[sR p,none,none]) (h:=h)
 refine Zf (Qc fnL[15] rfl rfl) (QR (Qu e1) (Z3 (L:=[]) (λy ρ hs=>ρ=[sR p,some u,none]/\hs=h1) (Qa rfl) (λi ρ hs z=>by rw[z.2];exact Qw (k1 _ _ hp)) ⟨rfl,rfl⟩ (λi x hx=>nomatch hx) λρ2 h2 z=>?_))
 obtain⟨rfl,rfl⟩:=z;exact Qz (Za (Qa rfl) ⟨k1,z1⟩)
def Qoo:List.zipWith (· + ·) z5 (i5 g)=i5 g:=by simp[z5,i5]
def QfM(hp:h[p]?=some (.lst [y]))(z:One h y g):Pc (tbG xx s) (n+4) 15 [.ref p] h λr h1=>Ct true h.length h1 r (i5 1) (i5 g):=by
 obtain⟨u,h1,e1,k1,z1⟩:=Qel (xx:=xx) (s:=s) (cf:=Qd (tbG xx s) (n+3)) (d:=95) (ρ:=[sR p,none,none]) (h:=h);refine Zf (Qc fnL[15] rfl rfl) (QR (Qu e1) (Z3 (L:=[y]) (λi ρ hs=>Kp h1 hs/\∃r x,ρ=[sR p,some r,x]/\(if i=0 then Ct false h.length hs r z5 z5 else Ct true h.length hs r (i5 1) (i5 g))) (Qa rfl) (λi ρ hs z=>Qw (z.1 _ _ (k1 _ _ hp))) ⟨Kp.refl _,u,none,rfl,z1⟩ (λi x hx ρ hs z'=>?_) λρ2 h2 z=>?_))
 ·obtain⟨kp,r,x',rfl,q⟩:=z'
  cases i with
  |succ i=>simp at hx
  |zero=>
   cases(show some y=some x from hx);obtain⟨r2,h2,e2,k2,q2⟩:=Qk2 (xx:=xx) (s:=s) (n:=n) ((z.kp k1).kp kp)
   obtain⟨r3,h3,e3,k3,q3⟩:=Qeo (xx:=xx) (s:=s) (n:=n) (Ct.kp k2 q) q2 (by decide) (by decide)
   rw[Qoo,Qoo]at q3;exact⟨_,_,_,rfl,Qs (Zy (Qj (d:=94) (e_2 (Qa rfl) (Qj (e_1 (Qa rfl)) e2)) e3)),(kp.trans k2).trans k3,_,_,rfl,q3.le ((k1.trans kp).trans k2).len⟩
 ·obtain⟨kp,r,x,rfl,q⟩:=z;exact Qz (Za (Qa rfl) ⟨k1.trans kp,q⟩)
def Rc(m:Nat)(h:Hs)(u:U)(g:Int):Prop:=∃i a b,u=.ref i/\h[i]?=some (.tup [a,b])/\Ct false m h a z5 z5/\Ct true m h b (i5 1) (i5 g)
theorem Rc.kp(q:Kp h h1)(z:Rc m h u g):Rc m h1 u g:=by obtain⟨i,a,b,c,d,e,f⟩:=z;exact⟨i,a,b,c,q _ _ d,e.kp q,f.kp q⟩
def Qkn(e:h[p]?=some (.tup xs)):biU T .len [.ref p] h=some (.int xs.length 0,h):=by unfold biU;simp only[Z9,e]
def Yn{b:E}{p:Nat}(x:ev T cf d a ρ h=some (.ref p,h1))(y:ev T cf d b ρ h1=some (.ref q,h2))(hp:h2[p]?=some (.lst xs))(hq:h2[q]?=some (.lst ys))(l:xs.length+ys.length<=1000000):ev T cf (d+1) (.op .Add a b) ρ h=some (.ref h2.length,h2++[.lst (xs++ys)]):=Zm x y (QnC hp hq l)
def Qk1(z:Row h u g):Pc (tbG xx s) (n+5) 30 [u] h λr h1=>Rc h.length h1 r g:=by
 obtain⟨i,a,b,p,y,rfl,e,ea,eb,ep,z⟩:=z;obtain⟨r1,h1,e1,k1,q1⟩:=QfM (xx:=xx) (s:=s) (n:=n) ep z;obtain⟨j,x,y',kk,ff,rfl,f1,f2,f3,⟨⟨ks,k2,k3,k4⟩,_⟩,⟨fs,k5,k6,k7⟩,_⟩:=id q1
 have v1:ev (tbG xx s) (Qd (tbG xx s) (n+4)) 92 (.op .Add (.op .Add (.lst [(.ix (.var 1) (.c (.int 0 0))),(.ix (.var 1) (.c (.int 1 0)))]) (.ix (.var 1) (.c (.int 2 0)))) (.ix (.var 1) (.c (.int 3 0)))) [sR i,sR j] h1=some (.ref (h1++[O.lst [x,y']]++[O.lst ([x,y']++ks)]).length,h1++[O.lst [x,y']]++[O.lst ([x,y']++ks)]++[.lst ([x,y']++ks++fs)]):=
  Yn (Yn (Y0 (Qk (Qa rfl) (Qo (j:=0) f1 rfl)) (Qk (Qa rfl) (Qo (j:=1) f1 rfl))) (Qk (Qa rfl) (Qo (j:=2) (Qt f1) rfl)) Qi (Qt k2) (by simp;lia)) (Qk (Qa rfl) (Qo (j:=3) (Qt (Qt f1)) rfl)) Qi (Qt (Qt k5)) (by simp;lia)
 have kp:Kp h1 (h1++[O.lst [x,y']]++[O.lst ([x,y']++ks)]++[.lst ([x,y']++ks++fs)]):=(kp1.trans kp1).trans kp1
 obtain⟨vs,h3,e3,k8,pp⟩:=JC (T:=tbG xx s) (cf:=Qd (tbG xx s) (n+4)) (d:=92) (ρ:=[sR i,sR j]) (el:=.call 14 [(.var 2)]) (λw r w=>r=.bl false) (λw w w w k z=>z) v1 (.inl (Qw Qi)) (by simp;lia) (λx' hx hs k'=>by
  have sx:∃i,Sr h1 x' (i5 i):=by
   rcases Uj.mp hx with hx|hx
   ·rcases Uj.mp hx with hx|hx
    ·rcases Xm.mp hx with rfl|hx
     ·exact⟨_,f2.sr⟩
     ·cases X5.mp hx;exact⟨_,f3.sr⟩
    ·exact⟨0,(k4 _ hx).sr⟩
   ·exact⟨0,(k7 _ hx).sr⟩
  obtain⟨i',sx⟩:=sx
  obtain⟨_,h4,e4,k4',rfl⟩:=YI (xx:=xx) (s:=s) (n:=n+3) ((sx.kp kp).kp k') (by show 0<5;decide) (by show 5<=1000;decide)
  exact⟨_,h4,Qj (e_1 (Qa rfl)) e4,k4',QoM▸rfl⟩)
 have pe:=Qbv (g:=λw=>U.bl false) pp
 have t2:evT (tbG xx s) (Qd (tbG xx s) (n+4)) 96 (.or (.cmp .Lt (.ix (.ix (.var 1) (.c (.int 0 0))) (.c (.int 0 0))) (.c (.int 1 0))) (.bi .any [(.comp (.seq (.op .Add (.op .Add (.lst [(.ix (.var 1) (.c (.int 0 0))),(.ix (.var 1) (.c (.int 1 0)))]) (.ix (.var 1) (.c (.int 2 0)))) (.ix (.var 1) (.c (.int 3 0))))) false none (.call 14 [(.var 2)]))])) [sR i,sR j] h1=some (false,h3++[.lst vs]):=by
  refine Qiq (c:=false) (h1:=h1) (QI (u:=iU 1) (Qk (Qk (Qa rfl) (Qo (j:=0) f1 rfl)) (f2.sm.ix (j:=0) rfl)) y_c rfl) ?_;rw[if_neg Xh];refine JJ rfl (Qay e3 ?_)
  have:=QgA (T:=tbG xx s) (f:=λw=>false) (l:=[x,y']++ks++fs) (h:=h3++[.lst vs]) (p:=h3.length) (by rw[Qi,pe])
  rw[this];simp
 have kq:=kp.trans (k8.trans (kp1 (o:=.lst vs)));have k13:=k1.trans kq;obtain⟨r4,h4,e4,k4,q4⟩:=QfN (xx:=xx) (s:=s) (n:=n+3) (h:=h3++[.lst vs]++[.lst ([]++[])]) (p:=(h3++[O.lst vs]).length) Qi
 refine Zf (Qc fnL[30] rfl rfl) (QR (Qab (c:=false) (QI (Qay (Qa rfl) (Qkn e)) y_c rfl) rfl) (QR (Qu (d:=97) (Qj (e_1 (Qk (Qa rfl) (Qo (j:=3) e rfl))) e1)) (QR (Qab (d:=95) t2 rfl) (Qz (Za (Qbf (Qj (e_1 (Yn (Qk (Qa rfl) (Qo (j:=1) (k13 _ _ e) rfl)) (Qk (Qa rfl) (Qo (j:=4) (k13 _ _ e) rfl)) (k13 _ _ ea) (k13 _ _ eb) (by decide))) e4) (Qa rfl)) ⟨(((k13.trans kp1).trans k4).trans kp1),_,_,_,rfl,Qi,(q4.kp kp1).le (k13.trans kp1).len,q1.kp (((kq.trans kp1).trans k4).trans kp1)⟩)))))
end
section
variable {i:Int}{a b:List Int}
def Qnw{m:Int}(hm:(m=0/\x=0)\/(m=1/\0<=x)):Qd (tbG xx s) (n+1) 22 [iU x,iU m] h=some (.bl true,h):=by
 rw[Qc fnL[22] rfl rfl]
 rcases hm with⟨rfl,rfl⟩|⟨rfl,l⟩
 ·rfl
 ·exact(congrArg fin (Qab (d:=97) (c:=false) (QI (u:=iU 1) (Qa rfl) y_c rfl) rfl)).trans (Qat (d:=97) (by rw[QgG,QcQ (Qa rfl) y_c (by show some (decide (0<=x))=_;rw[X9 l]),Qx];exact QcQ (Zm (Qa rfl) (Qa rfl) (QaP (by decide))) y_c (by show some (decide (x % 1=0))=_;rw[Int.emod_one];rfl)))
def JF{m:Int}(ha:Sm h u a)(hb:Sm h w b)(la:a.length<=1000)(hf:∀x∈List.zipWith (· - ·) a b,(m=0/\x=0)\/(m=1/\0<=x)):Pc (tbG xx s) (n+2) 21 [u,w,iU m] h λr v=>r=.non:=by
 obtain⟨h3,e,k⟩:=Qbc (T:=tbG xx s) (cf:=Qd (tbG xx s) (n+1)) (d:=97) (ρ:=[some u,some w,some (iU m),none,none,none]) (ea:=.var 0) (eb:=.var 1) (el:=.op .Sub (.var 6) (.var 7)) (· - ·) (Qa rfl) (Qa rfl) ha.sq hb.sq (by lia) (λx v y v hs=>Zm (Qa rfl) (Qa rfl) rfl)
 refine Zf (Qc fnL[21] rfl rfl) (QR (Qu e) (QjE (L:=(List.zipWith (· - ·) a b).map iU) (λv ρ hs=>hs=h3++[.lst ((List.zipWith (· - ·) a b).map iU)]/\∃x y,ρ=[some u,some w,some (iU m),sR h3.length,x,y]) (Qa rfl) (λi ρ hs z=>by rw[z.1];exact Qw Qi) ⟨rfl,_,_,rfl⟩ (λi x hx ρ hs z=>?_) λρ2 h2 z=>?_))
 ·obtain⟨rfl,x1,y1,rfl⟩:=z;obtain⟨q,hq,rfl⟩:=List.mem_map.mp (X0 hx);exact⟨_,_,_,rfl,Qs (QeF (c:=false) (Qb6 (c:=true) (JJ rfl (Qj (e_2 (Qa rfl) (Qa rfl)) (Qnw (hf q hq))))) rfl),rfl,_,_,rfl⟩
 ·obtain⟨rfl,x1,y1,rfl⟩:=z;exact Qz (Za y_c ⟨k.trans kp1,rfl⟩)
def JD{u1 u2 u3:U}:Qd (tbG xx s) (n+1) 41 [.non,u1,u2,u3,u4] h=some (.non,h):=by
 rw[Qc fnL[41] rfl rfl];rfl
def Qmb(lc:c.length=5):List.zipWith (· - ·) c z5=c:=by
 match c,lc with
 |[_,_,_,_,_],_=>simp[z5]
def subs(lc:c.length=5):List.zipWith (· - ·) c c=z5:=by
 match c,lc with
 |[_,_,_,_,_],_=>simp[z5]
def QnD(lc:c.length=5):List.zipWith (· + ·) z5 c=c:=by
 match c,lc with
 |[_,_,_,_,_],_=>simp[z5]
def Qn2:c.map (·*1)=c:=by simp
def Qoc:QcC T .Is (.ref q) .non h=some false:=rfl
def Qo9:QcC T .IsNot (.ref q) .non h=some true:=rfl
def Qid(hc:Sm h u c)(lc:c.length=5)(zo:Ct false m h w z5 z5)(zr:Ct true m' h v (i5 1) (i5 g)):Pc (tbG xx s) (n+2) 36 [u,w,v] h λr h1=>Sr h1 r c:=by
 obtain⟨i1,x,y,k,f,rfl,a1,a2,a3,a4,a5⟩:=zo;obtain⟨i2,x',y',k',f',rfl,b1,b2,b3,b4,b5⟩:=zr
 obtain⟨r,h1,e1,k1,q1⟩:=Qk5 (xx:=xx) (s:=s) (n:=n) hc a2.sm (by lia)
 obtain⟨h3,e3,k3⟩:=QcP (T:=tbG xx s) (cf:=Qd (tbG xx s) (n+1)) (d:=95) (ρ:=[some u,sR i1,sR i2]) (ea:=.call 37 [(.var 0),(.ix (.var 1) (.c (.int 0 0)))]) (el:=.op .FloorDiv (.var 3) (.ix (.ix (.var 2) (.c (.int 0 0))) (.c (.int 0 0)))) (λx=>iU (x / 1)) (Qj (e_2 (Qa rfl) (Qk (Qa rfl) (Qo (j:=0) a1 rfl))) e1) (Sm.sq (.inr q1)) (by rw[Qmb lc];lia) (λx z hs kp=>Zm (Qa rfl) (Qk (Qk (Qa rfl) (Qo (j:=0) (kp _ _ (k1 _ _ b1)) rfl)) (((b2.sm.kp k1).kp kp).ix (j:=0) rfl)) (Qfh (by decide)))
 refine Zf (Qc fnL[36] rfl rfl) (QR (Qab (c:=false) (QI (Qa rfl) y_c Qoc) rfl) (Qz (Za (JO e3) ⟨YB (k1.trans k3),_,rfl,?_⟩)))
 have e:(List.zipWith (· - ·) c z5).map (λx=>iU (x / 1))=c.map iU:=by
  rw[Qmb lc]
  exact List.map_congr_left λx z=>by rw[Int.ediv_one]
 rw[Qi,e]
def QkX(zr:Ct true m h v (i5 1) (i5 g)):Qd (tbG xx s) (n+1) 35 [u,v] h=some (iU 1,h):=by
 obtain⟨i2,x',y',k',f',rfl,b1,b2,b3,b4,b5⟩:=zr;rw[Qc fnL[35] rfl rfl];exact QiO (d:=96) (c:=true) (QI (Qa rfl) y_c Qo9) rfl (Qk (Qk (Qa rfl) (Qo (j:=0) b1 rfl)) (b2.sm.ix (j:=0) rfl))
def Qof(z:Sr h u z5):QcC (tbG xx s) .Eq u (.con 1) h=some true:=by
 obtain⟨i,rfl,e⟩:=z;have o1:okW (tbG xx s) 20 (.ref i) h=true:=(Qfg e).trans rfl;have o2:okW (tbG xx s) 20 (.con 1) h=true:=rfl;have o3:eqW (tbG xx s) 20 (.ref i) (.con 1) h=true:=(QkJ (ZU e) rfl).trans rfl
 have o4:Qcm (tbG xx s) (.ref i) (.con 1) h=false:=by simp only[Qcm,QV,e]
 have o5:Qb8 (tbG xx s) (.ref i) (.con 1) h=false:=by simp only[Qb8,QV,e]
 show eqA (tbG xx s) (.ref i) (.con 1) h=_;have o6:eqS (.ref i) (.con 1)=none:=rfl;simp only[eqA,o6,o4,o5,o1,o2,o3,Bool.and_self,Wo,W9,V7]
end
section
variable {i:Int}{a b t:List Int}{bb:Bool}
theorem loopZ{is:List Nat}{body:Ex}(I:Nat->Rho->Hs->Prop){L:List (List U)}(hz:∀i ρ hs,I i ρ hs->QeD T us i hs=some L[i]?)
  (st:∀i xs,L[i]?=some xs->∀ρ hs,I i ρ hs->∃ρ' ρ2 h2,Qir is xs ρ=some ρ'/\body ρ' hs=some (.next,ρ2,h2)/\I (i+1) ρ2 h2):
  ∀(m i k:Nat) (ρ:Rho) (hs:Hs),L.length=i+m->m<k->I i ρ hs->∃ρ2 h2,QbS T us is body k i ρ hs=some (.next,ρ2,h2)/\I L.length ρ2 h2
 |m,i,0,ρ,hs,e,l,h=>by lia
 |0,i,k+1,ρ,hs,e,l,h=>by
  have e':L.length=i:=by lia
  have q:=hz i ρ hs h
  rw[Wl (by lia)]at q
  exact⟨ρ,hs,by simp only[QbS,q],e'▸h⟩
 |m+1,i,k+1,ρ,hs,e,l,h=>by
  have lt:i<L.length:=by lia
  obtain⟨ρ',ρ1,h1,a,b,c⟩:=st i _ (Xj lt) ρ hs h
  obtain⟨ρ2,h2,g1,g2⟩:=loopZ I hz st m (i+1) k ρ1 h1 (by lia) (by lia) c
  have q:=hz i ρ hs h;rw[Xj lt]at q
  exact⟨ρ2,h2,by simp only[QbS,q,a,b,g1],g2⟩
def QgI{is:List Nat}{r:Option (Fl×Rho×Hs)}(ea:evs (ev T cf d) ρ es h=some (us,h1))(ef:QbS T us is (exs T cf d body) (QlN T us h1) 0 ρ h1=r):ex T cf (d+1) (.loopZ is es body) ρ h=r:=by rw[ex,ea,Qx];exact ef
def e_4{a b c:E}{u w y:U}{f:Ev}(x:f a ρ h=some (u,h1))(y':f b ρ h1=some (w,h2))(t:f c ρ h2=some (z,h3))(t':f e ρ h3=some (y,h4)):evs f ρ [a,b,c,e] h=some ([u,w,z,y],h4):=by simp only[evs,x,y',t,t',Qx]
def Ju(l:us.length=4):∃a b c d,us=[a,b,c,d]:=by
 match us,l with
 |[a,b,c,d],_=>exact⟨a,b,c,d,rfl⟩
noncomputable def QmV:List Iv.S:=[(.ite (.and (.cmp .Eq (.var 6) (.con 1)) (.cmp .Eq (.var 7) (.con 1))) [(.expr (.bm .append (.var 3) [(.var 5)]))] [(.expr (.call 41 [(.call 39 [(.var 5),(.var 7)]),(.var 2),(.var 4),(.var 5),(.var 7)])),(.expr (.bm .append (.var 3) [(.var 6)]))])]
def Qk3(zk:Zl bb h k)(zw:Ct true m h w t t'):Pc (tbG xx s) (n+1) 38 [.ref k,w,u] h λr h1=>∃p,r=.ref p/\h.length<=p/\Zl bb h1 p:=by
 obtain⟨ks,z1,z2,z3⟩:=zk;obtain⟨wi,x,y,pk,fk,rfl,w1,w2,w3,⟨⟨ps,p1,p2,p3⟩,_⟩,⟨fs,f1,f2,f3⟩,_⟩:=zw;obtain⟨k0,k1,k2,k3,rfl⟩:=Ju z2;obtain⟨p0,p1',p2',p3',rfl⟩:=Ju p2;obtain⟨f0,f1',f2',f3',rfl⟩:=Ju f2;have b0:Kp h (h++[.lst []]):=kp1
 have hit:∀(i:Nat) hs,Kp h hs->QeD (tbG xx s) [.con 0,.ref k,.ref pk,.ref fk] i hs=some (([[U.str [119],k0,p0,f0],[.str [120],k1,p1',f1'],[.str [121],k2,p2',f2'],[.str [122],k3,p3',f3']]:List (List U))[i]?):=λi hs kp=>by
  have e0:Zu (tbG xx s) (.con 0) hs=some [.str [119],.str [120],.str [121],.str [122]]:=rfl;simp only[QeD,e0,Qw (kp _ _ z1),Qw (kp _ _ p1),Qw (kp _ _ f1)]
  match i with
  |0=>rfl
  |1=>rfl
  |2=>rfl
  |3=>rfl
  |_+4=>rfl
 obtain⟨ρ2,h2,e2,kp2,x4,x5,x6,x7,rfl,l2⟩:=loopZ (T:=tbG xx s) (us:=[.con 0,.ref k,.ref pk,.ref fk]) (is:=[4,5,6,7]) (body:=exs (tbG xx s) (Qd (tbG xx s) n) 97 QmV) (L:=[[.str [119],k0,p0,f0],[.str [120],k1,p1',f1'],[.str [121],k2,p2',f2'],[.str [122],k3,p3',f3']]) (λi ρ hs=>Kp h hs/\∃x4 x5 x6 x7,ρ=[sR k,sR wi,some u,sR h.length,x4,x5,x6,x7]/\hs[h.length]?=some (.lst ([k0,k1,k2,k3].take i)))
  (λi ρ hs z=>hit i hs z.1) (λi xs hx ρ hs z=>by
   obtain⟨kp,x4,x5,x6,x7,rfl,hl⟩:=z
   have q:∃ky kk pp ff,xs=[ky,kk,pp,ff]/\[k0,k1,k2,k3][i]?=some kk/\pp∈[p0,p1',p2',p3']/\ff∈[f0,f1',f2',f3']:=by
    match i,hx with
    |0,hx=>cases hx;exact⟨_,_,_,_,rfl,rfl,by simp,by simp⟩
    |1,hx=>cases hx;exact⟨_,_,_,_,rfl,rfl,by simp,by simp⟩
    |2,hx=>cases hx;exact⟨_,_,_,_,rfl,rfl,by simp,by simp⟩
    |3,hx=>cases hx;exact⟨_,_,_,_,rfl,rfl,by simp,by simp⟩
   obtain⟨ky,kk,pp,ff,rfl,hk,hp,hf⟩:=q;refine⟨_,_,hs.set h.length (.lst ([k0,k1,k2,k3].take i++[kk])),rfl,?_,?_,some ky,some kk,some pp,some ff,rfl,?_⟩
   ·refine Qs (Ym (d:=95) (k:=true) (h1:=hs) ?_ ?_)
    ·rw[QiN,QI (d:=92) (Qa rfl) Yl (Qof (((p3 _ hp).kp kp).sr)),Qx];exact QI (d:=92) (Qa rfl) Yl (Qof (((f3 _ hf).kp kp).sr))
    ·rw[if_pos rfl]
     exact Qs (d:=93) (by
      rw[JK,Qlo,Qa rfl,Qx,if_pos (Qjv hl)];simp only[evs];rw[Qa rfl];simp only[Qx]
      rw[Qld hl (by simp;lia)]
      rfl)
   ·exact kp.put (Xe _)
   ·rw[Wd (Xf.mp hl).1,Wm,hk]
    rfl) 4 0 5 _ (h++[.lst []]) rfl (by decide) ⟨b0,none,none,none,none,rfl,Qi⟩
 refine Zf (Qc fnL[38] rfl rfl) (QR (Qu (d:=98) rfl) (Qcc (QgI (d:=97) (e_4 Yl (Qa rfl) (Qk (Qa rfl) (Qo (j:=2) (b0 _ _ w1) rfl)) (Qk (Qa rfl) (Qo (j:=3) (b0 _ _ w1) rfl))) e2) (Qz (Za (Qa rfl) ⟨kp2,_,rfl,Xe _,_,l2,rfl,λu hu=>(z3 u hu).kp kp2⟩))))
end
def Sp(c:List Int)(h:Hs)(u:U)(m:Int):Prop:=∃i x y o,u=.ref i/\h[i]?=some (.tup [iU m,x,y,o])/\Sr h o c
noncomputable def F6(way:U)(ct:Nat)(x y:U)(k st:Nat):O:=.ins 3 [(1,way),(2,.ref ct),(3,x),(4,y),(5,.ref k),(6,.ref st)]
structure Wst(hb hs:Hs)(w st ct:Nat)(way:U)(ha c N:List Int):Prop where
 base:Kp hb hs
 lw:hb.length<=w
 ls:hb.length<=st
 ob:∃x y k,hs[w]?=some (F6 way ct x y k st)/\Sm hs x ha/\Sm hs y z5/\Zl false hs k/\k≠st
 sp:∃us,hs[st]?=some (.lst us)/\Paired (Sp c hs) us N
section
variable {w:Nat}{i:Int}{a b t:List Int}{bb:Bool}{x:O}
def Sr.tk(z:TK h h1)(r:Sr h u c):Sr h1 u c:=by obtain⟨i,a,b⟩:=r;exact⟨i,a,z _ _ b⟩
theorem Sm.tk(z:TK h h1)(r:Sm h u c):Sm h1 u c:=r.imp id (Sr.tk z)
theorem Sx.tk(z:TK h h1)(r:Sx bb h u c):Sx bb h1 u c:=r.imp id (Sr.tk z)
def Kp.tk(k:Kp h h1):TK h h1:=λz z e=>k _ _ e
theorem Sp.tk{m:Int}(z:TK h h1)(r:Sp c h u m):Sp c h1 u m:=by obtain⟨i,x,y,o,a,b,d⟩:=r;exact⟨i,x,y,o,a,z _ _ b,d.tk z⟩
theorem Sps.tk(z:TK h h1)(r:Paired (Sp c h) us N):Paired (Sp c h1) us N:=QD (λy y=>Sp.tk z) r
theorem Zl.tk(z:TK h h1)(e:∀us,h[k]?=some (.lst us)->h1[k]?=some (.lst us))(r:Zl bb h k):Zl bb h1 k:=by obtain⟨us,a,b,c⟩:=r;exact⟨us,e us a,b,λu hu=>(c u hu).tk z⟩
def QK{o:O}(n:p≠q)(e:h[p]?=some o):(h.set q x)[p]?=some o:=by rw[X8 (Wy n)];exact e
def QC{o:O}(e:h[p]?=some o):(h.set p x)[p]?=some x:=Wd (Xf.mp e).1
def QeB{o o':O}(a:h[p]?=some o)(b:h[q]?=some o')(n:o≠o'):p≠q:=λz=>by rw[z,b]at a;cases a;exact n rfl
def YY{o:O}(e:h[p]?=some o):p<h.length:=(Xf.mp e).1
def e_5{a b c f:E}{u w y x:U}{h5:Hs}{F:Ev}(x1:F a ρ h=some (u,h1))(x2:F b ρ h1=some (w,h2))(x3:F c ρ h2=some (z,h3))(x4:F e ρ h3=some (y,h4))(x5:F f ρ h4=some (x,h5)):evs F ρ [a,b,c,e,f] h=some ([u,w,z,y,x],h5):=by simp only[evs,x1,x2,x3,x4,x5,Qx]
def Kw(w st:Nat)(h h1:Hs):Prop:=∀(p:Nat) o,p≠w->p≠st->h[p]?=some o->h1[p]?=some o
def Kw.of(k:Kp h h1):Kw w st h h1:=λp o z z e=>k p o e
def Kw.trans(a:Kw w st h h1)(b:Kw w st h1 h2):Kw w st h h2:=λp o n m e=>b p o n m (a p o n m e)
def Kw.pw(a:Kw w st h h1):Kw w st h (h1.set w x):=λp o n m e=>QK n (a p o n m e)
def Kw.ps(a:Kw w st h h1):Kw w st h (h1.set st x):=λp o n m e=>QK m (a p o n m e)
def ZF{o:E}{cl:Nat}{fs:List (Nat×U)}(ve:ev T cf d e ρ h=some (u,h1))(vo:ev T cf d o ρ h1=some (.ref q,h2))(hq:h2[q]?=some (.ins cl fs))(lf:fs.length<500):ex T cf (d+1) (.fld o f e) ρ h=some (.next,ρ,h2.set q (.ins cl (YX f u fs))):=by
 rw[ex,ve,Qx,vo,Qx];simp only[hq];rw[if_pos lf]
def QcK{o:E}(vo:ev T cf d o ρ h=some (.ref p,h))(hp:h[p]?=some (.lst us))(ve:ev T cf d e ρ h=some (u,h1))(hp1:h1[p]?=some (.lst us))(l:us.length<1000000):ex T cf (d+2) (.expr (.bm .append o [e])) ρ h=some (.next,ρ,h1.set p (.lst (us++[u]))):=by
 rw[JK,Qlo,vo,Qx,if_pos (Qjv hp)];simp only[evs,ve,Qx,Qld hp1 l]
def JP{t a b:E}{r:Option (U×Hs)}(x:evT T cf d t ρ h=some (false,h1))(y:ev T cf d b ρ h1=r):ev T cf (d+1) (.ife t a b) ρ h=r:=QgO x y
def Qbg{t a b:E}{r:Option (U×Hs)}(x:evT T cf d t ρ h=some (true,h1))(y:ev T cf d a ρ h1=r):ev T cf (d+1) (.ife t a b) ρ h=r:=QgO x y
theorem Wst.kp(z:Wst hb h w st ct way ha c N)(q:Kp h h1):Wst hb h1 w st ct way ha c N:=by
 obtain⟨b,lw,ls,⟨x,y,k,e1,e2,e3,e4,e5⟩,us,e6,e7⟩:=z;exact⟨b.trans q,lw,ls,⟨x,y,k,q _ _ e1,e2.kp q,e3.kp q,e4.kp q,e5⟩,us,q _ _ e6,Sps.tk q.tk e7⟩
noncomputable def QA(r:Bool):U:=.str (if r then [114,111,117,110,100]else [102,108,97,116])
def Qgv{rc row:U}(z:Wst hb h w st ct (QA rd) c c N)(lc:c.length=5)(pc:∀x∈c,0<=x)(hct:hb[ct]?=some (.lst cs))(hm:cs[m]?=some rc){mm:Nat}(zr:Rc mm hb rc g)(sg:Qg g=true)(lN:N.length<900000):
  Cc (tbG xx s) (n+5) 34 [.ref w,row,iU (m:Int)] h λr h1=>r=.non/\Wst hb h1 w st ct (QA rd) (c.map (·*g)) c (N++[(m:Int)])/\Kw w st h h1:=by
 obtain⟨bs,lw,ls,⟨x,y,k,ew,sx,sy,zk,nk⟩,us,es,sps⟩:=z;obtain⟨ri,_,_,rfl,er,zo,zt⟩:=zr.kp bs;obtain⟨oi,ox,oy,ok,of,rfl,o1,o2,o3,o4,o5⟩:=id zo;obtain⟨ti,tx,ty,tk,tf,rfl,t1,t2,t3,t4,t5⟩:=id zt;have ect:=bs _ _ hct
 obtain⟨_,h1,e1,k1,rfl⟩:=JF (xx:=xx) (s:=s) (n:=n+2) (m:=1) sx o2.sm (by lia) (by rw[Qmb lc];exact λx hx=>.inr ⟨rfl,pc x hx⟩)
 obtain⟨r2,h2,e2,k2,q2⟩:=Qid (xx:=xx) (s:=s) (n:=n+2) (sx.kp k1) lc (zo.kp k1) (zt.kp k1);have k12:=k1.trans k2
 obtain⟨r3,h3,e3,k3,q3⟩:=Qh8 (xx:=xx) (s:=s) (n:=n+1) (zt.kp k12) (.inr q2) lc (by decide) sg
 have k13:=k12.trans k3
 obtain⟨r4,h4,e4,k4,q4⟩:=Qeo (xx:=xx) (s:=s) (n:=n+1) (zo.kp k13) q3 (by decide) (by decide)
 have k14:=k13.trans k4
 rw[Qn2,QnD lc,QnD (by rw[X6];exact lc)]at q4
 obtain⟨wi,wx,wy,wk,wf,rfl,w1,w2,w3,⟨w4,l1⟩,w5,l2⟩:=id q4;have lst:=YY es;have l13:=k13.len
 have v5:ev (tbG xx s) (Qd (tbG xx s) (n+4)) 92 (.tup [(.var 2),(.fld (.var 0) 3),(.fld (.var 0) 4),(.var 5)]) [sR w,some row,some (iU (m:Int)),sR oi,sR ti,some r2,sR wi,none] h4=some (.ref h4.length,h4++[.tup [iU (m:Int),x,y,r2]]):=YZ (Qa rfl) (QX rfl (k14 _ _ ew) rfl) (QX rfl (k14 _ _ ew) rfl) (Qa rfl);obtain⟨h5,eh5⟩:∃h5,h5=h4++[.tup [iU (m:Int),x,y,r2]]:=⟨_,rfl⟩;have k5:Kp h4 h5:=eh5▸kp1;have k15:=k14.trans k5;have a5:h5[h4.length]?=some (.tup [iU (m:Int),x,y,r2]):=eh5▸Qi;obtain⟨h6,eh6⟩:∃h6,h6=h5.set st (.lst (us++[.ref h4.length])):=⟨_,rfl⟩
 have tk6:TK h5 h6:=eh6▸TK.set (k15 _ _ es) (λv z=>by cases z)
 have nws:w≠st:=QeB ew es (by unfold F6;exact λz=>by cases z)
 have ew6:h6[w]?=some (F6 (QA rd) ct x y k st):=eh6▸QK nws (k15 _ _ ew);have es6:h6[st]?=some (.lst (us++[.ref h4.length])):=eh6▸QC (k15 _ _ es);have zk6:Zl false h6 k:=(zk.kp k15).tk tk6 λus e=>eh6▸QK nk e
 have q6:Ct true 0 h6 (.ref wi) c (c.map (·*g)):=⟨wi,wx,wy,wk,wf,rfl,tk6 _ _ (k5 _ _ w1),(w2.kp k5).tk tk6,(w3.kp k5).tk tk6,⟨(w4.kp k5).tk tk6 λus e=>eh6▸QK (by lia) e,Wq _⟩,(w5.kp k5).tk tk6 λus e=>eh6▸QK (by lia) e,Wq _⟩
 obtain⟨_,h7,e7,k7,p7,rfl,l7,z7⟩:=Qk3 (xx:=xx) (s:=s) (n:=n+3) (u:=iU (m:Int)) zk6 q6;obtain⟨h8,eh8⟩:∃h8,h8=h7.set w (F6 (QA rd) ct x y p7 st):=⟨_,rfl⟩;have ew7:=k7 _ _ ew6
 have tk8:TK h7 h8:=eh8▸TK.set ew7 (λv z=>by unfold F6 at z;cases z)
 have ew8:h8[w]?=some (F6 (QA rd) ct x y p7 st):=eh8▸QC ew7;have es8:h8[st]?=some (.lst (us++[.ref h4.length])):=eh8▸QK (Wy nws) (k7 _ _ es6)
 have K8:Kw w st h h8:=by
  rw[eh8];refine Kw.pw (Kw.trans ?_ (Kw.of k7));rw[eh6];exact Kw.ps (Kw.of k15)
 have T58:TK h5 h8:=(tk6.trans k7.tk).trans tk8;have T8:TK h h8:=k15.tk.trans T58;have w18:=T58 _ _ (k5 _ _ w1);have w28:Sm h8 wx c:=((w2.sm.kp k5)).tk T58;have w38:Sm h8 wy (c.map (·*g)):=((w3.sm.kp k5)).tk T58
 obtain⟨r9,h9,e9,k9,q9⟩:=Qk5 (xx:=xx) (s:=s) (n:=n+3) (sx.tk T8) w28 (by lia)
 rw[subs lc]at q9
 have nlw:∀us,h7[p7]?=some (.lst us)->p7≠w:=λus e=>QeB e ew7 (by unfold F6;exact λz=>by cases z)
 have z8:Zl false h8 p7:=z7.tk tk8 λus e=>eh8▸QK (nlw us e) e
 have lst6:h6.length=h5.length:=by rw[eh6,List.length_set]
 have n7:p7≠st:=by
  have:=YY (k15 _ _ es);lia
 have b8:Kp hb h8:=by
  rw[eh8];refine Kp.put ?_ lw;refine Kp.trans ?_ k7;rw[eh6];exact Kp.put (bs.trans k15) ls
 have sp8:Paired (Sp c h8) (us++[.ref h4.length]) (N++[(m:Int)]):=Yc ⟨h4.length,x,y,r2,rfl,T58 _ _ a5,(q2.kp ((k3.trans k4).trans k5)).tk T58⟩ (Sps.tk T8 sps);have nwp:p7≠w:=(by obtain⟨us,e,_⟩:=z7;exact nlw us e);have lus:=Qq sps;refine Zf (Qc fnL[34] rfl rfl) ?_;refine QR (Qu (d:=98) (Qk (QeA (QX rfl ew rfl) (Qa rfl) (JS (j:=m) ect hm)) (Qo (j:=0) er rfl))) ?_;refine QR (Qu (d:=97) (Qk (QeA (QX rfl ew rfl) (Qa rfl) (JS (j:=m) ect hm)) (Qo (j:=1) er rfl))) ?_;refine QjD (d:=96) (Za (Qj (e_5 (Qj (e_3 (QX rfl ew rfl) (Qk (Qa rfl) (Qo (j:=0) o1 rfl)) (Qj (e_2 (Qa rfl) (Qa rfl)) (QkX zt))) e1) (Qa rfl) y_c (QX rfl (k1 _ _ ew) rfl) (Qk (Qa rfl) (Qo (j:=0) (k1 _ _ o1) rfl))) JD) ?_);refine QR (Qu (d:=95) (Qj (e_3 (QX rfl (k1 _ _ ew) rfl) (Qa rfl) (Qa rfl)) e2)) ?_;refine QR (Qu (d:=94) (JP (h1:=h2) (QI (Qa rfl) y_c Qoc) (Qj (e_2 (Qa rfl) (Qj (e_2 (Qa rfl) (Qa rfl)) e3)) e4))) ?_;refine Qcc (d:=94) (ρ1:=[sR w,some row,some (iU (m:Int)),sR oi,sR ti,some r2,sR wi,none]) (h1:=h6) ?_ ?_
 ·have e6:=QcK (d:=92) (QX (i:=0) (f:=6) (u:=.ref st) rfl (k14 _ _ ew) rfl) (k14 _ _ es) v5 (Qt (k14 _ _ es)) (by lia)
  rw[<-eh5,<-eh6]at e6;exact e6
 refine Qcc (d:=93) (ρ1:=[sR w,some row,some (iU (m:Int)),sR oi,sR ti,some r2,sR wi,none]) (h1:=h8) ?_ ?_
 ·have:=ZF (T:=tbG xx s) (cf:=Qd (tbG xx s) (n+4)) (d:=92) (f:=5) (o:=.var 0) (e:=.call 38 [(.fld (.var 0) 5),(.var 6),(.var 2)]) (ρ:=[sR w,some row,some (iU (m:Int)),sR oi,sR ti,some r2,sR wi,none]) (h:=h6) (u:=.ref p7) (Qj (e_3 (QX rfl ew6 rfl) (Qa rfl) (Qa rfl)) e7) (Qa rfl) ew7 (by show 6<500;decide)
  rw[this,eh8];rfl
 refine QR (Qu (d:=91) (Qj (e_2 (QX rfl ew8 rfl) (Qk (Qa rfl) (Qo (j:=0) w18 rfl))) e9)) ?_
 ·cases rd with
  |true=>
   refine QjC (c:=true) (QI (QX rfl (k9 _ _ ew8) (u:=QA true) rfl) y_c rfl) (Qcc (ZF (Qk (Qa rfl) (Qo (j:=1) (k9 _ _ w18) rfl)) (Qa rfl) (k9 _ _ ew8) (by show 6<500;decide)) (ZC ?_))
   have tkf:TK h9 (h9.set w (F6 (QA true) ct wy y p7 st)):=TK.set (k9 _ _ ew8) (λv z=>by unfold F6 at z;cases z)
   have Tf:=k9.tk.trans tkf;refine⟨rfl,⟨Kp.put (b8.trans k9) lw,lw,ls,⟨wy,y,p7,QC (k9 _ _ ew8),w38.tk Tf,sy.tk (T8.trans Tf),(z8.kp k9).tk tkf λus e=>QK nwp e,n7⟩,_,QK (Wy nws) (k9 _ _ es8),Sps.tk Tf sp8⟩,(K8.trans (Kw.of k9)).pw⟩
  |false=>
   obtain⟨r10,h10,e10,k10,q10⟩:=YH (xx:=xx) (s:=s) (n:=n+3) ((sy.tk T8).kp k9) (w38.kp k9) (by decide)
   rw[QnD (by rw[X6];exact lc)]at q10
   have k910:=k9.trans k10
   refine QjC (c:=false) (QI (QX rfl (k9 _ _ ew8) (u:=QA false) rfl) y_c rfl) (Qcc (ZF (Qj (e_2 (QX rfl (k9 _ _ ew8) rfl) (Qk (Qa rfl) (Qo (j:=1) (k9 _ _ w18) rfl))) e10) (Qa rfl) (k910 _ _ ew8) (by show 6<500;decide)) (Qcc (ZF (h1:=h10.set w (F6 (QA false) ct r10 y p7 st)) (Qa rfl) (Qa rfl) (QC (k910 _ _ ew8)) (by show 6<500;decide)) (ZC ?_)))
   have tk1:TK h10 (h10.set w (F6 (QA false) ct r10 y p7 st)):=TK.set (k910 _ _ ew8) (λv z=>by unfold F6 at z;cases z)
   have tk2:TK (h10.set w (F6 (QA false) ct r10 y p7 st)) ((h10.set w (F6 (QA false) ct r10 y p7 st)).set w (F6 (QA false) ct r10 r9 p7 st)):=TK.set (QC (k910 _ _ ew8)) (λv z=>by unfold F6 at z;cases z)
   have Tf:=(k910.tk.trans tk1).trans tk2;refine⟨rfl,⟨Kp.put (Kp.put (b8.trans k910) lw) lw,lw,ls,⟨r10,r9,p7,QC (QC (k910 _ _ ew8)),.inr (q10.tk (tk1.trans tk2)),.inr (q9.tk ((k10.tk.trans tk1).trans tk2)),(z8.kp k910).tk (tk1.trans tk2) λus e=>QK nwp (QK nwp e),n7⟩,_,QK (Wy nws) (QK (Wy nws) (k910 _ _ es8)),Sps.tk Tf sp8⟩,((K8.trans (Kw.of k910)).pw).pw⟩
end
inductive D where
 |row (g:Int)|blk (c:List Int) (l:List D)
noncomputable def JV:U:=.str [98,108,111,99,107]
noncomputable def hd(c:List Int):Int:=c.headD 0
def RpI(f:Hs->U->List D->Prop)(h:Hs)(u:U):D->Prop
 |.row g=>Row h u g
 |.blk c l=>∃i x v,u=.ref i/\h[i]?=some (.tup [JV,x,v])/\Sr h x c/\c.length=5/\(∀x∈c,Qg x=true)/\f h v l/\1<=hd c/\hd c<=1000
def RpL:Nat->Hs->U->List D->Prop
 |0,_,_,_=>False
 |k+1,h,u,ds=>∃p us,u=.ref p/\h[p]?=some (.lst us)/\us.length<=1000/\Paired (RpI (RpL k) h) us ds
section
variable {ds:List D}
theorem RpL.kp:∀{k:Nat} {h h1:Hs} {u:U} {ds:List D},Kp h h1->RpL k h u ds->RpL k h1 u ds
 |k+1,h,h1,u,ds,q,⟨p,us,a,b,l,c⟩=>⟨p,us,a,q _ _ b,l,QD (λx d z=>by
  cases d with
  |row g=>exact Row.kp q z
  |blk c' l'=>
   obtain⟨i,x',v,a1,a2,a3,a4,a5,a6,a7⟩:=z
   exact⟨i,x',v,a1,q _ _ a2,a3.kp q,a4,a5,RpL.kp q a6,a7⟩) c⟩
theorem RpI.kp{d:D}(q:Kp h h1)(z:RpI (RpL k) h u d):RpI (RpL k) h1 u d:=by
 cases d with
 |row g=>exact Row.kp q z
 |blk c' l'=>
  obtain⟨i,x',v,a1,a2,a3,a4,a5,a6,a7⟩:=z;exact⟨i,x',v,a1,q _ _ a2,a3.kp q,a4,a5,RpL.kp q a6,a7⟩
def Qcb(hi:ρ[i]?=some (some u))(z:Row h u g):evT T cf (d+4) (.cmp .Eq (.ix (.var i) (.c (.int 0 0))) (.c (.str [114,111,119]))) ρ h=some (true,h):=by
 obtain⟨r,a,b,p,y,rfl,e,_⟩:=z;exact QI (u:=.str [114,111,119]) (Qk (Qa hi) (Qo (j:=0) e rfl)) y_c rfl
def Qcz{x:U}(hi:ρ[i]?=some (sR q))(e:h[q]?=some (.tup [JV,x,v])):evT T cf (d+4) (.cmp .Eq (.ix (.var i) (.c (.int 0 0))) (.c (.str [114,111,119]))) ρ h=some (false,h):=
 QI (u:=JV) (Qk (Qa hi) (Qo (j:=0) e rfl)) y_c rfl
def Jv{f:α->List β}{L:List α}{a:α}(e:L[i]?=some a):((L.take (i+1)).map f).flatten=((L.take i).map f).flatten++f a:=by
 rw[Wm,e,V5,V0];simp
def Qbk{f:α->Int}{L:List α}{a:α}(e:L[i]?=some a):((L.take (i+1)).map f).sum=((L.take i).map f).sum+f a:=by
 rw[Wm,e,V5,List.sum_append];simp
noncomputable def wrI(f:List D->List Int):D->List Int
 |.row g=>[g]
 |.blk _ l=>f l
noncomputable def wr:Nat->List D->List Int
 |0,_=>[]
 |k+1,ds=>(ds.map (wrI (wr k))).flatten
def QoX{T:Tbl}(hp:h[p]?=some (.lst xs)):Qda .extend (.ref p) h=true:=by simp only[Qda,hp];rfl
def QcJ(hi:ρ[i]?=some (sR p))(hp:h[p]?=some (.lst xs))(ve:ev T cf (d+1) e ρ h=some (.ref q,h1))(hp1:h1[p]?=some (.lst xs))(hq:h1[q]?=some (.lst ys))(l:xs.length+ys.length<=1000000):ex T cf (d+3) (.expr (.bm .extend (.var i) [e])) ρ h=some (.next,ρ,h1.set p (.lst (xs++ys))):=by
 rw[JK,Qlo,Qa hi,Qx,if_pos (QoX (T:=T) hp)];simp only[evs,ve,Qx,bmU,hp1,bmL,hq,l,Wo]
def Qna{f:D->List β}{ds:List D}{a:D}(e:ds[i]?=some a)(l:((ds.map f).flatten).length<=m):(((ds.take i).map f).flatten).length+(f a).length<=m:=by
 have q:(ds.map f).flatten=((ds.take (i+1)).map f).flatten++((ds.drop (i+1)).map f).flatten:=by
  rw[<-V0,<-V5,Vh]
 rw[q,Jv e,Xv,Xv]at l;lia
theorem Qno{hb:Hs}:∀{k:Nat} {h:Hs} {u:U} {ds:List D} {n:Nat},Kp hb h->RpL k hb u ds->(wr k ds).length<=900000->Pc (tbG xx s) (n+k) 28 [u] h λr h1=>∃p vs,r=.ref p/\h.length<=p/\h1[p]?=some (.lst vs)/\Paired (Row hb) vs (wr k ds)
 |k+1,h,_,ds,n,kb,⟨p,us,rfl,hp,lu,pr⟩,ll=>by
  have ld:=Qq pr;refine Zf (Qc fnL[28] rfl rfl) (QR (Qu (d:=98) rfl) (Z3 (u:=.ref p) (L:=us) (λi ρ hs=>Kp h hs/\∃x vs,ρ=[sR p,sR h.length,x]/\hs[h.length]?=some (.lst vs)/\Paired (Row hb) vs ((ds.take i).map (wrI (wr k))).flatten) (Qa rfl) (λi ρ hs z=>Qw (z.1 _ _ (kb _ _ hp))) ⟨kp1,none,[],rfl,Qi,.nil⟩ (λi x hx ρ hs z=>?_) λρ2 h2 z=>?_))
  ·obtain⟨kp,x0,vs,rfl,ev,pv⟩:=z;obtain⟨a,ha,za⟩:=Zb pr hx;have lt:=Qna (f:=wrI (wr k)) ha ll;have lv:=Qq pv
   cases a with
   |row g=>
    refine⟨_,_,_,rfl,Qs (QcJ (d:=93) (ys:=[x]) rfl ev (Qbg (Qcb rfl (Row.kp (kb.trans kp) za)) (ZT (Qa rfl))) (Qt ev) Qi (by simp only[wrI,Ua]at lt ⊢;lia)),Kp.put (kp.trans kp1) (Xe _),_,_,rfl,QC (Qt ev),?_⟩
    rw[Jv ha];exact Ys pv (.cons za .nil)
   |blk c l=>
    obtain⟨q,xc,v,rfl,a2,a3,a4,a5,a6,a7⟩:=za;simp only[wrI]at lt
    obtain⟨_,h3,e3,k3,p3,ws,rfl,l3,w1,w2⟩:=Qno (n:=n) (kb.trans kp) a6 (by lia)
    have a2':=kp _ _ (kb _ _ a2)
    refine⟨_,_,_,rfl,Qs (QcJ (d:=93) rfl ev (JP (Qcz rfl a2') (Qj (e_1 (Qk (Qa rfl) (Qo (j:=2) a2' rfl))) e3)) (k3 _ _ ev) w1 (by rw[lv,Qq w2];lia)),Kp.put (kp.trans k3) (Xe _),_,_,rfl,QC (k3 _ _ ev),?_⟩
    rw[Jv ha];exact Ys pv w2
  ·obtain⟨kp,x0,vs,rfl,ev,pv⟩:=z;rw[ld,Wf (Xe _)]at pv;exact Qz (Za (Qa rfl) ⟨kp,_,vs,rfl,Xe _,ev,pv⟩)
def QhU{x:U}{T:Tbl}(z:Sr h x c)(l:0<c.length):Yp (tbG xx s) x (iU (0:Nat)) h=some (iU (hd c)):=Sm.ix (.inr z) (by
 cases c with
 |nil=>cases l
 |cons a b=>rfl)
noncomputable def wmI(f:List D->Int):D->Int
 |.row _=>1
 |.blk c l=>f l*(if szd c=true then 1 else hd c)
noncomputable def wm:Nat->List D->Int
 |0,_=>0
 |k+1,ds=>(ds.map (wmI (wm k))).sum
noncomputable def ndI(ch:List Int)(f:List D->Int):D->Int
 |.row _=>1
 |.blk c l=>wor c ch*f l
noncomputable def nd(ch:List Int):Nat->List D->Int
 |0,_=>0
 |k+1,ds=>(ds.map (ndI ch (nd ch k))).sum
def Qm4(l:c.length=5)(z:∀x∈c,Qg x=true):Qg (if szd c=true then 1 else hd c)=true:=by
 split
 ·decide
 ·match c,l with
  |a::_,_=>exact z a Xo
theorem QlF:∀{k:Nat} {h:Hs} {u:U} {ds:List D} {n:Nat},RpL k h u ds->Pc (tbG xx s) (n+k+1) 31 [u] h λr y=>r=iU (wm k ds)
 |k+1,h,_,ds,n,⟨p,us,rfl,hp,lu,pr⟩=>by
  have ld:=Qq pr;refine Zf (Qc fnL[31] rfl rfl) (QR (Qu (d:=98) y_c) (Z3 (u:=.ref p) (L:=us) (λi ρ hs=>Kp h hs/\∃x,ρ=[sR p,some (iU ((ds.take i).map (wmI (wm k))).sum),x]) (Qa rfl) (λi ρ hs z=>Qw (z.1 _ _ hp)) ⟨Kp.refl _,none,rfl⟩ (λi x hx ρ hs z=>?_) λρ2 h2 z=>?_))
  ·obtain⟨kp,x0,rfl⟩:=z;obtain⟨a,ha,za⟩:=Zb pr hx;rw[Qbk ha]
   cases a with
   |row g=>exact⟨_,_,_,rfl,Qs (Ym (d:=95) (k:=true) (Qcb rfl (Row.kp kp za)) (by rw[if_pos rfl];exact Qs (JL (d:=93) rfl y_c))),kp,_,rfl⟩
   |blk c l=>
    obtain⟨q,xc,v,rfl,a2,a3,a4,a5,a6,a7⟩:=RpI.kp kp za;obtain⟨_,h3,e3,k3,rfl⟩:=QlF (n:=n) a6
    obtain⟨_,h4,e4,k4,rfl⟩:=YI (xx:=xx) (s:=s) (n:=n+k) (a3.kp k3) (by lia) (by lia)
    have v4:ev (tbG xx s) (Qd (tbG xx s) (n+k+1)) 92 (.ife (.call 14 [(.ix (.var 2) (.c (.int 1 0)))]) (.c (.int 1 0)) (.ix (.ix (.var 2) (.c (.int 1 0))) (.c (.int 0 0)))) [sR p,some (iU ((ds.take i).map (wmI (wm k))).sum),sR q] h3=some (iU (if szd c=true then 1 else hd c),h4):=by
     refine QgO (h1:=h4) (c:=szd c) (JJ rfl (Qj (e_1 (Qk (Qa rfl) (Qo (j:=1) (k3 _ _ a2) rfl))) e4)) ?_
     cases szd c with
     |true=>rw[if_pos rfl,if_pos rfl];exact y_c
     |false=>rw[if_neg Xh,if_neg Xh];exact Qk (Qk (Qa rfl) (Qo (j:=1) (k4 _ _ (k3 _ _ a2)) rfl)) (QhU (T:=tbG xx s) ((a3.kp k3).kp k4) (by lia))
    exact⟨_,_,_,rfl,Qs (Ym (d:=95) (k:=false) (Qcz rfl a2) (by rw[if_neg Xh];exact Qs (JL (d:=93) rfl (Zm (Qj (e_1 (Qk (Qa rfl) (Qo (j:=2) a2 rfl))) e3) v4 (J1 (Qm4 a4 a5)))))),(kp.trans k3).trans k4,_,rfl⟩
  ·obtain⟨kp,x0,rfl⟩:=z;rw[ld,Wf (Xe _)];exact Qz (Za (Qa rfl) ⟨kp,rfl⟩)
def SmI(ch:List Int)(f:List D->Prop):D->Prop
 |.row _=>True
 |.blk c l=>Qg (wor c ch)=true/\f l
def SmW(ch:List Int):Nat->List D->Prop
 |0,_=>True
 |k+1,ds=>∀d∈ds,SmI ch (SmW ch k) d
theorem Qom{ch:List Int}{cp:Nat}:∀{k:Nat} {h:Hs} {u:U} {ds:List D} {n:Nat},RpL k h u ds->h[cp]?=some (.lst (ch.map iU))->SmW ch k ds->Pc (tbG xx s) (n+k+1) 46 [u,.ref cp] h λr y=>r=iU (nd ch k ds)
 |k+1,h,_,ds,n,⟨p,us,rfl,hp,lu,pr⟩,hc,sw=>by
  have ld:=Qq pr;refine Zf (Qc fnL[46] rfl rfl) (QR (Qu (d:=98) y_c) (Z3 (u:=.ref p) (L:=us) (λi ρ hs=>Kp h hs/\∃x,ρ=[sR p,sR cp,some (iU ((ds.take i).map (ndI ch (nd ch k))).sum),x]) (Qa rfl) (λi ρ hs z=>Qw (z.1 _ _ hp)) ⟨Kp.refl _,none,rfl⟩ (λi x hx ρ hs z=>?_) λρ2 h2 z=>?_))
  ·obtain⟨kp,x0,rfl⟩:=z;obtain⟨a,ha,za⟩:=Zb pr hx;have sa:=sw a (X0 ha);rw[Qbk ha]
   cases a with
   |row g=>exact⟨_,_,_,rfl,Qs (JL (d:=95) rfl (Qbg (Qcb rfl (Row.kp kp za)) y_c)),kp,_,rfl⟩
   |blk c l=>
    obtain⟨q,xc,v,rfl,a2,a3,a4,a5,a6,a7⟩:=RpI.kp kp za
    obtain⟨_,h4,e4,k4,rfl⟩:=JB (xx:=xx) (s:=s) (n:=n+k) a3 (by lia) (by lia) (kp _ _ hc) a5
    obtain⟨_,h3,e3,k3,rfl⟩:=Qom (n:=n) (RpL.kp k4 a6) (k4 _ _ (kp _ _ hc)) sa.2;exact⟨_,_,_,rfl,Qs (JL (d:=95) rfl (JP (Qcz rfl a2) (Zm (Qj (e_2 (Qk (Qa rfl) (Qo (j:=1) a2 rfl)) (Qa rfl)) e4) (Qj (e_2 (Qk (Qa rfl) (Qo (j:=2) (k4 _ _ a2) rfl)) (Qa rfl)) e3) (QbD sa.1)))),(kp.trans k4).trans k3,_,rfl⟩
  ·obtain⟨kp,x0,rfl⟩:=z;rw[ld,Wf (Xe _)];exact Qz (Za (Qa rfl) ⟨kp,rfl⟩)
end
section
variable {w l:Nat}{i:Int}{a b t gs:List Int}{bb:Bool}{x:O}
theorem Ct.set(z:Ct bb m h u t t')(lt:l<m)(tk:TK h (h.set l x)):Ct bb m (h.set l x) u t t':=by obtain⟨i,x,y,k,f,a,b,c,d,e,o,r⟩:=z;exact⟨i,x,y,k,f,a,tk _ _ b,c.tk tk,d.tk tk,⟨e.1.tk tk λus z=>QK (by lia) z,e.2⟩,o.tk tk λus z=>QK (by lia) z,r⟩
theorem Rc.set(z:Rc m h u g)(lt:l<m)(tk:TK h (h.set l x)):Rc m (h.set l x) u g:=by obtain⟨i,a,b,c,d,e,f⟩:=z;exact⟨i,a,b,c,tk _ _ d,e.set lt tk,f.set lt tk⟩
theorem Rc.le(q:m'<=m)(z:Rc m h u g):Rc m' h u g:=by obtain⟨i,a,b,c,d,e,f⟩:=z;exact⟨i,a,b,c,d,e.le q,f.le q⟩
def QlV{b:List Iv.S}{r:Option (Fl×Rho×Hs)}(e:exs T cf d b ρ h=r):ex T cf (d+1) (.tryN b) ρ h=r:=by rw[ex];exact e
def Qie(kb:Kp hb h)(hp:h[p]?=some (.lst vs))(pv:Paired (Row hb) vs gs)(ll:vs.length<=900000):Pc (tbG xx s) (n+6) 29 [.ref p] h λr h1=>∃q cs,r=.ref q/\h1[q]?=some (.lst cs)/\Paired (Rc 0 h1) cs gs:=by
 have ld:=Qq pv;refine Zf (Qc fnL[29] rfl rfl) (QR (Qu (d:=98) rfl) (QjE (u:=.ref p) (L:=vs) (λi ρ hs=>Kp h hs/\∃x y cs,ρ=[sR p,sR h.length,x,y]/\hs[h.length]?=some (.lst cs)/\Paired (Rc (h.length+1) hs) cs (gs.take i)) (Qa rfl) (λi ρ hs z=>Qw (z.1 _ _ hp)) ⟨kp1,none,none,[],rfl,Qi,.nil⟩ (λi x hx ρ hs z=>?_) λρ2 h2 z=>?_))
 ·obtain⟨kp,x0,y0,cs,rfl,ec,pc⟩:=z;obtain⟨a,ha,za⟩:=Zb pv hx;obtain⟨r,h3,e3,k3,q3⟩:=Qk1 (xx:=xx) (s:=s) (n:=n) (za.kp (kb.trans kp));have lc:=Qq pc;have li:=YY ec;have lx:=(Xf.mp hx).1
  have tk:TK h3 (h3.set h.length (.lst (cs++[r]))):=TK.set (k3 _ _ ec) (λw z=>by cases z)
  refine⟨_,_,_,rfl,Qs (QlV (Qs (QcK (d:=92) (Qa rfl) ec (Qj (e_1 (Qa rfl)) e3) (k3 _ _ ec) (by rw[lc,Vn];lia)))),Kp.put (kp.trans k3) (Xe _),_,_,_,rfl,QC (k3 _ _ ec),?_⟩
  rw[Wm,ha]
  exact Yc ((q3.le (by lia)).set (by lia) tk) (QD (λw w z=>(Rc.kp k3 z).set (by lia) tk) pc)
 ·obtain⟨kp,x0,y0,cs,rfl,ec,pc⟩:=z;rw[ld,Wf (Xe _)]at pc;exact Qz (Za (Qa rfl) ⟨kp,_,cs,rfl,ec,QD (λw w=>Rc.le (Wq _)) pc⟩)
def Qk7(z:Wst hb h w st ct way ha c N):Pc (tbG xx s) (n+1) 26 [.ref w] h λr h1=>∃p us,r=.ref p/\h.length<=p/\h1[p]?=some (.lst us)/\Paired (Sm h1) us [ha,z5,z5,z5,z5,z5]:=by
 obtain⟨bs,lw,ls,⟨x,y,k,ew,sx,sy,⟨ks,z1,z2,z3⟩,nk⟩,us,es,sps⟩:=z;obtain⟨k0,k1,k2,k3,rfl⟩:=Ju z2;have kp:Kp h (h++[O.lst [x,y]]++[O.lst ([x,y]++[k0,k1,k2,k3])]):=kp1.trans kp1
 refine Zf (Qc fnL[26] rfl rfl) (Qz (Za (Yn (Y0 (QX rfl ew rfl) (QX rfl ew rfl)) (QX rfl (Qt ew) rfl) Qi (Qt z1) (by show 6<=1000000;decide)) ⟨kp,_,_,rfl,kp1.len,Qi,?_⟩))
 exact .cons (sx.kp kp) (.cons (sy.kp kp) (.cons ((z3 k0 (by simp)).sm.kp kp) (.cons ((z3 k1 (by simp)).sm.kp kp) (.cons ((z3 k2 (by simp)).sm.kp kp) (.cons ((z3 k3 (by simp)).sm.kp kp) .nil)))))
variable {ea eb:E}
def Qhc{L:Nat}(I:Nat->Rho->Hs->Prop)(v:ev T cf d e ρ h=some (.int (L:Int) 0,h1))(ll:L<=1000000)(h0:I 0 ρ h1)
  (st:∀i,i<L->∀ρ hs,I i ρ hs->∃ρ' ρ2 h2,tgt tg (.one (iU (i:Int))) ρ hs=some ρ'/\exs T cf d body ρ' hs=some (.next,ρ2,h2)/\I (i+1) ρ2 h2) (k:∀ρ2 h2,I L ρ2 h2->Xx T cf (d+1) r ρ2 h2 Q):Xx T cf (d+2) (.loop tg (.rng e) body::r) ρ h Q:=by
 refine JX (w:=.rng 0 L) (L:=List.range L) (im:=λj:Nat=>Im.one (iU (j:Int))) I (Qf2 v ll) (by simp only[Q6,Vd];lia) (λi ρ hs z=>?_) h0 (λi a ha ρ hs z=>?_) (by rw[Vd];exact k)
 ·simp only[itm];by_cases l:i<L
  ·rw[if_pos l,Vz l];simp
  ·rw[if_neg l,Wl (by rw[Vd];lia)];rfl
 ·have l:=(Xf.mp ha).1;rw[Vd]at l;rw[Vz l]at ha;cases ha;exact st i l ρ hs z
def Qmn{w:U}(I:Nat->Rho->Hs->Prop)(va:ev T cf d ea ρ h=some (u,h1))(vb:ev T cf d eb ρ h1=some (w,h2))(sa:Sq T u h2 xs)(sb:Sq T w h2 ys)(kp:∀i ρ hs,I i ρ hs->Kp h2 hs)(h0:I 0 ρ h2)
  (st:∀i a,(xs.zip ys)[i]?=some a->∀ρ hs,I i ρ hs->∃ρ' ρ2 h3,tgt tg (.two a.1 a.2) ρ hs=some ρ'/\exs T cf d body ρ' hs=some (.next,ρ2,h3)/\I (i+1) ρ2 h3) (k:∀ρ2 h3,I (xs.zip ys).length ρ2 h3->Xx T cf (d+1) r ρ2 h3 Q):Xx T cf (d+2) (.loop tg (.zip ea eb) body::r) ρ h Q:=by
 have lz:(xs.zip ys).length<=xs.length:=by rw[Up];lia
 exact JX (im:=λp:U×U=>Im.two p.1 p.2) I (by simp only[Zn,va,Qx,vb,Qf0 sa sb];rfl) (by simp only[Q6,sa.bb.1,W8];lia) (λi ρ hs z=>QfS sa sb i hs (kp _ _ _ z)) h0 st k
end
noncomputable def wkI(f:Nat->List D->List Int)(b:Nat):D->List Int
 |.row _=>[(b:Int)]
 |.blk c l=>if szd c=true then f b l else(List.replicate (hd c).toNat (f b l)).flatten
noncomputable def wkA(f:Nat->List D->List Int)(g:D->Nat):Nat->List D->List Int
 |_,[]=>[]
 |b,d::ds=>wkI f b d++wkA f g (b+g d) ds
noncomputable def nrI(k:Nat)(d:D):Nat:=(wrI (wr k) d).length
noncomputable def wk:Nat->Nat->List D->List Int
 |0,_,_=>[]
 |k+1,b,ds=>wkA (wk k) (nrI k) b ds
theorem Qba{f:Nat->List D->List Int}{g:D->Nat}{d:D}:∀{ds:List D} {b:Nat},wkA f g b (ds++[d])=wkA f g b ds++wkI f (b+(ds.map g).sum) d
 |[],b=>by simp[wkA]
 |e::ds,b=>by
  rw[List.cons_append,wkA,wkA,Qba (ds:=ds),Vc,X7,V3,Vv]
theorem Qau{f:Nat->List D->List Int}{g:D->Nat}:∀{ds es:List D} {b:Nat},wkA f g b (ds++es)=wkA f g b ds++wkA f g (b+(ds.map g).sum) es
 |[],es,b=>by simp[wkA]
 |e::ds,es,b=>by
  rw[List.cons_append,wkA,wkA,Qau (ds:=ds),Vc,X7,V3,Vv]
def QcL{ds:List D}:(wr (k+1) ds).length=(ds.map (nrI k)).sum:=by
 show((ds.map (wrI (wr k))).flatten).length=_;rw[List.length_flatten,List.map_map];rfl
def Z7{f:Nat->List D->List Int}{g:D->Nat}{ds:List D}{b:Nat}{d:D}(e:ds[i]?=some d):wkA f g b (ds.take (i+1))=wkA f g b (ds.take i)++wkI f (b+((ds.take i).map g).sum) d:=by
 rw[Wm,e];exact Qba
def Qf1{f:Nat->List D->List Int}{g:D->Nat}{ds:List D}{b:Nat}{d:D}(e:ds[i]?=some d)(l:(wkA f g b ds).length<=m):(wkA f g b (ds.take i)).length+(wkI f (b+((ds.take i).map g).sum) d).length<=m:=by
 rw[<-Vh (i+1) ds,Qau,Z7 e,Xv,Xv]at l;lia
def Qds{f:D->Nat}{L:List D}{a:D}(e:L[i]?=some a):((L.take (i+1)).map f).sum=((L.take i).map f).sum+f a:=by
 rw[Wm,e,V5,List.sum_append];simp
def Cts(hb:Hs)(cs:List U)(b:Nat)(gs:List Int):Prop:=∀(j:Nat) g,gs[j]?=some g->g=1/\∃rc,cs[b+j]?=some rc/\Rc 0 hb rc g
def Cts.at_{b:Nat}{ds:List D}{d:D}(z:Cts hb cs b (wr (k+1) ds))(e:ds[i]?=some d):Cts hb cs (b+((ds.take i).map (nrI k)).sum) (wrI (wr k) d):=λj g hj=>by
 have q:wr (k+1) ds=((ds.take i).map (wrI (wr k))).flatten++(wrI (wr k) d++((ds.drop (i+1)).map (wrI (wr k))).flatten):=by
  rw[<-Vc,<-Jv e,<-V0,<-V5,Vh];rfl
 have l:(((ds.take i).map (wrI (wr k))).flatten).length=((ds.take i).map (nrI k)).sum:=QcL (ds:=ds.take i)
 have:=z (((ds.take i).map (nrI k)).sum+j) g (by
  rw[q,X3 (by lia),l,Uy,Xs (Xf.mp hj).1]
  exact hj)
 rw[<-Vv]at this;exact this
section
variable {w:Nat}
def Kw.tk{x:O}{cl:Nat}{fs:List (Nat×U)}(z:Kw w st h h1)(a:h[w]?=some (.ins cl fs))(b:h[st]?=some (.lst us)):TK h h1:=λp us e=>z p _ (QeB e a (λz=>by cases z)) (QeB e b (λz=>by cases z)) e
theorem Wst.tk(q:Wst hb h w st ct way ha c N)(z:Kw w st h h1):TK h h1:=by
 obtain⟨_,_,_,⟨x,y,k,ew,_⟩,us,es,_⟩:=q;exact Kw.tk (x:=.lst us) z ew es
def Qf9{a:List Int}(l:a.length=5):∀x∈List.zipWith (· - ·) a a,((0:Int)=0/\x=0)\/((0:Int)=1/\0<=x):=by
 rw[subs l]
 exact λx hx=>.inl ⟨rfl,by simpa[z5]using hx⟩
def QgJ(v:ev T cf d e ρ h=some (u,h1)):ex T cf (d+1) (.expr e) ρ h=some (.next,ρ,h1):=by rw[JK,v,Qx]
def Qbp{W:List α}:(List.replicate (i+1) W).flatten=(List.replicate i W).flatten++W:=by
 rw[List.replicate_succ',V0];simp
def Qem{b m0 nr:Nat}{l:List D}{xc:U}{cc:List Int}(lc:c.length=5)(e2:hb[q]?=some (.tup [JV,xc,v]))(sc:Sr hb xc cc)(l5:cc.length=5)(h1c:1<=hd cc)(h2c:hd cc<=1000)
  (sub:∀{h:Hs} {N:List Int},Wst hb h w st ct (QA rd) c c N->N.length+(wk k b l).length<=800000->Cc (tbG xx s) (m0+2) 32 [.ref w,v,iU (b:Int)] h λr h1=>r=iU ((b+nr:Nat):Int)/\Wst hb h1 w st ct (QA rd) c c (N++wk k b l)/\Kw w st h h1) (zw:Wst hb h w st ct (QA rd) c c N) (ll:N.length+(wkI (wk k) b (.blk cc l)).length<=800000):
  Cc (tbG xx s) (m0+3) 33 [.ref w,.ref q,iU (b:Int)] h λr h1=>r=iU ((b+nr:Nat):Int)/\Wst hb h1 w st ct (QA rd) c c (N++wkI (wk k) b (.blk cc l))/\Kw w st h h1:=by
 obtain⟨_,h1,e1,k1,rfl⟩:=YI (xx:=xx) (s:=s) (n:=m0+1) (sc.kp zw.base) (by lia) (by lia)
 have z1:=zw.kp k1;have eq:=z1.base _ _ e2;refine Zf (Qc fnL[33] rfl rfl) (QR (Qu (d:=98) (Qa rfl)) (Qbq (d:=97) (h1:=h1) (JJ rfl (Qj (e_1 (Qk (Qa rfl) (Qo (j:=1) (zw.base _ _ e2) rfl))) e1)) ?_))
 cases hz:szd cc with
 |true=>
  simp only[wkI,hz,Wo]at ll ⊢;obtain⟨_,h2,e3,k2,p6,us6,rfl,l6,e6,s6⟩:=Qk7 (xx:=xx) (s:=s) (n:=m0+1) z1;have z2:=z1.kp k2;obtain⟨_,h3,e4,rfl,z3,kw3⟩:=sub z2 ll;obtain⟨_,h4,e5,k4,p7,us7,rfl,l7,e7,s7⟩:=Qk7 (xx:=xx) (s:=s) (n:=m0+1) z3;obtain⟨_,_,_,⟨x1,y1,kk1,ew1,_⟩,uss1,es1,_⟩:=id z1;obtain⟨_,_,_,⟨x3,y3,kk3,ew3,_⟩,uss3,es3,_⟩:=id z3;have lw1:=YY ew1;have ls1:=YY es1
  have e63:=kw3 _ _ (by lia) (by lia) e6
  have s63:Paired (Sm h4) us6 [c,z5,z5,z5,z5,z5]:=QD (λt t z=>(z.tk (z2.tk kw3)).kp k4) s6;have mt:∀{hs r:Hs} {x y:U} {kk:Nat} {u:U} {ρ:Rho} {d:Nat},hs[w]?=some (F6 (QA rd) ct x y kk st)->Qd (tbG xx s) (m0+2) 26 [.ref w] hs=some (u,r)->ρ[0]?=some (sR w)->ev (tbG xx s) (Qd (tbG xx s) (m0+2)) (d+2) (.meth 7 (.var 0) []) ρ hs=some (u,r):=λa b c=>(QeH c a rfl rfl rfl).trans b;refine QR (Qu (d:=95) (mt ew1 e3 rfl)) (QR (Qu (d:=94) (Qj (e_3 (Qa rfl) (Qk (Qa rfl) (Qo (j:=2) (z2.base _ _ e2) rfl)) (Qa rfl)) e4)) (Qmn (d:=93) (λt ρ hs=>Kp h4 hs/\∃x y,ρ=[sR w,sR q,some (iU (b:Int)),some (iU ((b+nr:Nat):Int)),sR p6,x,y,none]) (mt ew3 e5 rfl) (Qa rfl) (.inl (Qw e7)) (.inl (Qw (k4 _ _ e63))) (λi ρ hs z=>z.1) ⟨Kp.refl _,none,none,rfl⟩ (λi a ha ρ hs z=>?_) λρ2 h5 z=>?_))
  ·obtain⟨kp,x,y,rfl⟩:=z;obtain⟨g1,g2⟩:=List.getElem?_zip_eq_some.mp ha;obtain⟨b1,hb1,sb1⟩:=Zb s7 g1;obtain⟨b2,hb2,sb2⟩:=Zb s63 g2;rw[hb1]at hb2;cases hb2
   have lb:b1.length=5:=by
    have:=X0 hb1;simp only[Xm,Vg,U6]at this
    rcases this with rfl|rfl|rfl|rfl|rfl|rfl<;>first|exact lc|rfl
   obtain⟨_,h6,e8,k6,rfl⟩:=JF (xx:=xx) (s:=s) (n:=m0) (m:=0) (sb1.kp kp) (sb2.kp kp) (by lia) (Qf9 lb)
   exact⟨_,_,_,rfl,Qs (QgJ (Qj (d:=90) (e_5 (Qj (e_3 (Qa rfl) (Qa rfl) y_c) e8) (Qa rfl) y_c (Qa rfl) (Qa rfl)) JD)),kp.trans k6,_,_,rfl⟩
  ·obtain⟨kp,x,y,rfl⟩:=z;exact ZC (Qz (d:=96) (Za (Qa rfl) ⟨rfl,z3.kp (k4.trans kp),(((Kw.of (k1.trans k2)).trans kw3).trans (Kw.of (k4.trans kp)))⟩))
 |false=>
  simp only[wkI,hz,W9,V7]at ll ⊢
  have ht:((hd cc).toNat:Int)=hd cc:=by lia
  refine Qhc (d:=95) (L:=(hd cc).toNat) (λi ρ hs=>Kw w st h hs/\Wst hb hs w st ct (QA rd) c c (N++(List.replicate i (wk k b l)).flatten)/\∃x7 x3,ρ=[sR w,sR q,some (iU (b:Int)),some x3,none,none,none,x7]/\(0<i->x3=iU ((b+nr:Nat):Int))) (Qk (Qk (Qa rfl) (Qo (j:=1) eq rfl)) (by rw[ht];exact QhU (T:=tbG xx s) ((sc.kp z1.base)) (by lia))) (by lia) ⟨Kw.of k1,by simpa using z1,none,_,rfl,λz=>absurd z (Vb _)⟩ (λi hi ρ hs z=>?_) λρ2 h5 z=>?_
  ·obtain⟨kw,zs,x7,x3,rfl,_⟩:=z
   obtain⟨_,h6,e6,rfl,z6,k6⟩:=sub zs (by
    have:(List.replicate (hd cc).toNat (wk k b l)).flatten.length=(hd cc).toNat*(wk k b l).length:=by simp
    rw[this]at ll;rw[Xv]
    have e:(List.replicate i (wk k b l)).flatten.length=i*(wk k b l).length:=by simp
    rw[e];have:(i+1)*(wk k b l).length<=(hd cc).toNat*(wk k b l).length:=Ue _ hi;rw[Tc]at this
    lia)
   refine⟨_,_,_,rfl,Qs (Zy (Qj (d:=92) (e_3 (Qa rfl) (Qk (Qa rfl) (Qo (j:=2) (zs.base _ _ e2) rfl)) (Qa rfl)) e6)),kw.trans k6,?_,_,_,rfl,λt=>rfl⟩;rw[Qbp,<-Vc];exact z6
  ·obtain⟨kw,zs,x7,x3,rfl,hx⟩:=z
   rw[hx (by lia)]
   exact ZC (Qz (d:=96) (Za (Qa rfl) ⟨rfl,zs,kw⟩))
theorem Qgw(lc:c.length=5)(pc:∀x∈c,0<=x)(hct:hb[ct]?=some (.lst cs)):∀{k:Nat} {h:Hs} {u:U} {ds:List D} {n b:Nat} {N:List Int},RpL k hb u ds->Cts hb cs b (wr k ds)->Wst hb h w st ct (QA rd) c c N->N.length+(wk k b ds).length<=800000 ->
  Cc (tbG xx s) (n+2*k+4) 32 [.ref w,u,iU (b:Int)] h λr h1=>r=iU ((b+(wr k ds).length:Nat):Int)/\Wst hb h1 w st ct (QA rd) c c (N++wk k b ds)/\Kw w st h h1
 |k+1,h,_,ds,n,b,N,⟨p,us,rfl,hp,lu,pr⟩,zc,zw,ll=>by
  have ld:=Qq pr
  refine Zf (Qc fnL[32] rfl rfl) (Z3 (u:=.ref p) (L:=us) (λi ρ hs=>Kw w st h hs/\Wst hb hs w st ct (QA rd) c c (N++wkA (wk k) (nrI k) b (ds.take i))/\∃x,ρ=[sR w,sR p,some (iU ((b+((ds.take i).map (nrI k)).sum:Nat):Int)),x]) (Qa rfl) (λi ρ hs z=>Qw (z.2.1.base _ _ hp)) ⟨Kw.of (Kp.refl _),by simpa[wkA]using zw,none,rfl⟩ (λi x hx ρ hs z=>?_) λρ2 h2 z=>?_)
  ·obtain⟨kw,zs,x0,rfl⟩:=z;obtain⟨a,ha,za⟩:=Zb pr hx;have za':=RpI.kp zs.base za;have zd:=zc.at_ ha;have lw:=Qf1 (f:=wk k) (g:=nrI k) (b:=b) ha (Xe _);have lt:(wk (k+1) b ds).length=(wkA (wk k) (nrI k) b ds).length:=rfl;rw[Z7 ha,Qds ha,<-Vc]
   cases a with
   |row g=>
    obtain⟨rfl,rc,hr,zr⟩:=zd 0 g rfl
    obtain⟨_,h3,e3,rfl,z3,k3⟩:=Qgv (xx:=xx) (s:=s) (n:=n+2*k) (row:=x) zs lc pc hct hr zr (by decide) (by simp only[wkI,Xv,Ua]at lw ⊢;lia)
    rw[Qn2]at z3
    refine⟨_,_,_,rfl,Qs (Ym (d:=96) (k:=true) (Qcb rfl za') (by rw[if_pos rfl];exact(QW (d:=95) (QgJ (Qj (d:=93) (e_3 (Qa rfl) (Qa rfl) (Qa rfl)) e3))).trans (Qs (d:=93) (JL rfl y_c)))),kw.trans k3,z3,some x,?_⟩
    simp only[nrI,wrI,Ua,<-Vv];rfl
   |blk cc l=>
    obtain⟨q,xc,v,rfl,a2,a3,a4,a5,a6,a7,a8⟩:=za;obtain⟨q',xc',v',eq',a2',_⟩:=za'
    obtain⟨_,h3,e3,rfl,z3,k3⟩:=Qem (xx:=xx) (s:=s) (m0:=n+2*k+2) (nr:=(wr k l).length) lc a2 a3 a4 a7 a8 (λ{h N} z ll=>Qgw lc pc hct a6 zd z ll) zs (by rw[Xv];lia)
    rw[<-Vv,show nrI k (.blk cc l)=(wr k l).length from rfl]
    exact⟨_,_,_,rfl,Qs (Ym (d:=96) (k:=false) (Qcz rfl (zs.base _ _ a2)) (by rw[if_neg Xh];exact Qs (Zy (Qj (d:=93) (e_3 (Qa rfl) (Qa rfl) (Qa rfl)) e3)))),kw.trans k3,z3,_,rfl⟩
  ·obtain⟨kw,zs,x0,rfl⟩:=z;rw[ld,Wf (Xe _)]at zs ⊢;rw[QcL];exact Qz (Za (Qa rfl) ⟨rfl,zs,kw⟩)
end
section
variable {w:Nat}
def Qh7{l:List D}{u1 u2 rc:U}(lc:c.length=5)(pc:∀x∈c,0<=x)(hct:hb[ct]?=some (.lst cs))(hp:hb[p]?=some (.lst [u1,u2]))(r1:RpI (RpL k) hb u1 (.blk o l))(r2:Row hb u2 0)(zc:Cts hb cs 0 (wr k l))(hr:cs[(wr k l).length]?=some rc)(zr:Rc 0 hb rc 0)(zw:Wst hb h w st ct (QA rd) c c N)(ll:N.length+(wkI (wk k) 0 (.blk o l)).length<=700000):
  Cc (tbG xx s) (n+2*k+6) 32 [.ref w,.ref p,iU 0] h λr h1=>Wst hb h1 w st ct (QA rd) z5 c (N++wkI (wk k) 0 (.blk o l)++[((wr k l).length:Int)])/\∃x,r=iU x:=by
 refine Zf (Qc fnL[32] rfl rfl) (Z3 (u:=.ref p) (L:=[u1,u2]) (λi ρ hs=>match i with
  |0=>Wst hb hs w st ct (QA rd) c c N/\ρ=[sR w,sR p,some (iU 0),none]
  |1=>Wst hb hs w st ct (QA rd) c c (N++wkI (wk k) 0 (.blk o l))/\∃x,ρ=[sR w,sR p,some (iU ((wr k l).length:Int)),x]
  |_=>Wst hb hs w st ct (QA rd) z5 c (N++wkI (wk k) 0 (.blk o l)++[((wr k l).length:Int)])/\∃x y,ρ=[sR w,sR p,some (iU x),y]) (Qa rfl) (λi ρ hs z=>?_) ⟨zw,rfl⟩ (λi x hx ρ hs z=>?_) λρ2 h2 z=>?_)
 ·match i,z with
  |0,z=>exact Qw (z.1.base _ _ hp)
  |1,z=>exact Qw (z.1.base _ _ hp)
  |_+2,z=>exact Qw (z.1.base _ _ hp)
 ·match i,hx,z with
  |0,hx,z=>
   cases hx;obtain⟨zs,rfl⟩:=z;obtain⟨q,xc,v,rfl,a2,a3,a4,a5,a6,a7,a8⟩:=r1
   obtain⟨_,h3,e3,rfl,z3,k3⟩:=Qem (xx:=xx) (s:=s) (m0:=n+2*k+2) (nr:=(wr k l).length) (b:=0) lc a2 a3 a4 a7 a8 (λ{h N} z ll=>Qgw lc pc hct a6 zc z ll) zs (by lia)
   rw[Wv]at e3
   exact⟨_,_,_,rfl,Qs (Ym (d:=96) (k:=false) (Qcz rfl (zs.base _ _ a2)) (by rw[if_neg Xh];exact Qs (Zy (Qj (d:=93) (e_3 (Qa rfl) (Qa rfl) (Qa rfl)) e3)))),z3,_,rfl⟩
  |1,hx,z=>
   cases hx;obtain⟨zs,x,rfl⟩:=z
   obtain⟨_,h3,e3,rfl,z3,k3⟩:=Qgv (xx:=xx) (s:=s) (n:=n+2*k) (row:=u2) zs lc pc hct hr zr (by decide) (by rw[Xv];lia)
   rw[Qn3 lc]at z3
   exact⟨_,_,_,rfl,Qs (Ym (d:=96) (k:=true) (Qcb rfl (r2.kp zs.base)) (by rw[if_pos rfl];exact(QW (d:=95) (QgJ (Qj (d:=93) (e_3 (Qa rfl) (Qa rfl) (Qa rfl)) e3))).trans (Qs (d:=93) (JL rfl y_c)))),z3,_,_,rfl⟩
 ·obtain⟨zs,x,y,rfl⟩:=z;exact Qz (Za (Qa rfl) ⟨zs,_,rfl⟩)
noncomputable def Qop(way cu:U)(t:Nat):O:=.ins 4 [(1,way),(7,cu),(8,.ref t)]
def Qh6(ep:h[pp]?=some (Qop (QA rd) cu t))(sc:Sr h cu c):∃h1,Qd (tbG xx s) (n+1) 25 [.ref h.length,.ref pp,.ref ct] (h++[.ins 3 []])=some (.non,h1)/\∃st,Wst h h1 h.length st ct (QA rd) c c []:=by
 have n0:pp≠h.length:=by have:=YY ep;lia
 obtain⟨H1,q1⟩:∃H1,H1=(h++[O.ins 3 []]).set h.length (.ins 3 [(1,QA rd)]):=⟨_,rfl⟩;have a1:H1[h.length]?=some (.ins 3 [(1,QA rd)]):=q1▸QC Qi;have k1:Kp h H1:=q1▸Kp.put kp1 (Xe _);obtain⟨H2,q2⟩:∃H2,H2=H1.set h.length (.ins 3 [(1,QA rd),(2,.ref ct)]):=⟨_,rfl⟩;have a2:H2[h.length]?=some (.ins 3 [(1,QA rd),(2,.ref ct)]):=q2▸QC a1;have k2:Kp h H2:=q2▸Kp.put k1 (Xe _);obtain⟨H3,q3⟩:∃H3,H3=H2.set h.length (.ins 3 [(1,QA rd),(2,.ref ct),(3,cu)]):=⟨_,rfl⟩;have a3:H3[h.length]?=some (.ins 3 [(1,QA rd),(2,.ref ct),(3,cu)]):=q3▸QC a2;have k3:Kp h H3:=q3▸Kp.put k2 (Xe _);obtain⟨H4,q4⟩:∃H4,H4=H3.set h.length (.ins 3 [(1,QA rd),(2,.ref ct),(3,cu),(4,.con 1)]):=⟨_,rfl⟩;have a4:H4[h.length]?=some (.ins 3 [(1,QA rd),(2,.ref ct),(3,cu),(4,.con 1)]):=q4▸QC a3;have k4:Kp h H4:=q4▸Kp.put k3 (Xe _);obtain⟨kk,G,eg,kg,zg,lg⟩:=YJ (xx:=xx) (s:=s) (cf:=Qd (tbG xx s) n) (d:=92) (ρ:=[sR h.length,sR pp,sR ct]) (h:=H4);have b4:=kg _ _ a4;obtain⟨H5,q5⟩:∃H5,H5=G.set h.length (.ins 3 [(1,QA rd),(2,.ref ct),(3,cu),(4,.con 1),(5,.ref kk)]):=⟨_,rfl⟩;have a5:H5[h.length]?=some (.ins 3 [(1,QA rd),(2,.ref ct),(3,cu),(4,.con 1),(5,.ref kk)]):=q5▸QC b4;have k5:Kp h H5:=q5▸Kp.put (k4.trans kg) (Xe _)
 have t5:TK G H5:=q5▸TK.set b4 (λy z=>by cases z)
 have nk:kk≠h.length:=let ⟨us,e,_⟩:=zg;QeB e b4 (λz=>by cases z)
 have z5':Zl false H5 kk:=zg.tk t5 λus e=>q5▸QK nk e;obtain⟨H6,q6⟩:∃H6,H6=(H5++[O.lst []]).set h.length (F6 (QA rd) ct cu (.con 1) kk H5.length):=⟨_,rfl⟩
 have t6:TK (H5++[O.lst []]) H6:=q6▸TK.set (Qt a5) (λy z=>by cases z)
 have a6:H6[h.length]?=some (F6 (QA rd) ct cu (.con 1) kk H5.length):=q6▸QC (Qt a5);have l5:kk<H5.length:=(by obtain⟨us,e,_⟩:=z5';exact YY e);have lh:h.length<H5.length:=YY a5
 refine⟨H6,?_,H5.length,⟨q6▸Kp.put (k5.trans kp1) (Xe _),Xe _,by lia,⟨cu,.con 1,kk,a6,.inr (sc.kp (q6▸Kp.put (k5.trans kp1) (Xe _))),.inl ⟨rfl,rfl⟩,(z5'.kp kp1).tk t6 λus e=>q6▸QK nk e,by lia⟩,[],q6▸QK (by lia) Qi,.nil⟩⟩
 rw[Qc fnL[25] rfl rfl]
 have e1:=ZF (T:=tbG xx s) (cf:=Qd (tbG xx s) n) (d:=98) (o:=.var 0) (f:=1) (ρ:=[sR h.length,sR pp,sR ct]) (QX (i:=1) (f:=1) (u:=QA rd) rfl (Qt (r:=[O.ins 3 []]) ep) rfl) (Qa rfl) Qi (by decide)
 have e2:=ZF (T:=tbG xx s) (cf:=Qd (tbG xx s) n) (d:=97) (o:=.var 0) (f:=2) (ρ:=[sR h.length,sR pp,sR ct]) (Qa (i:=2) (u:=.ref ct) rfl) (Qa rfl) a1 (by show 1<500;decide)
 have e3:=ZF (T:=tbG xx s) (cf:=Qd (tbG xx s) n) (d:=96) (o:=.var 0) (f:=3) (ρ:=[sR h.length,sR pp,sR ct]) (QX (i:=1) (f:=7) (u:=cu) rfl (k2 _ _ ep) rfl) (Qa rfl) a2 (by show 2<500;decide)
 have e4:=ZF (T:=tbG xx s) (cf:=Qd (tbG xx s) n) (d:=95) (o:=.var 0) (f:=4) (ρ:=[sR h.length,sR pp,sR ct]) (u:=.con 1) (e:=.con 1) Yl (Qa rfl) a3 (by show 3<500;decide)
 have e5:=ZF (T:=tbG xx s) (cf:=Qd (tbG xx s) n) (d:=94) (o:=.var 0) (f:=5) (ρ:=[sR h.length,sR pp,sR ct]) (e:=.comp (.seq (.con 0)) false none (.con 1)) (u:=.ref kk) (h1:=G) (h2:=G) (h:=H4) eg (Qa rfl) b4 (by show 4<500;decide)
 have e6:=ZF (T:=tbG xx s) (cf:=Qd (tbG xx s) n) (d:=93) (o:=.var 0) (f:=6) (ρ:=[sR h.length,sR pp,sR ct]) (e:=.lst []) (u:=.ref H5.length) (h:=H5) (h1:=H5++[.lst []]) rfl (Qa rfl) (Qt a5) (by show 5<500;decide)
 have z:=(QW (r:=_) e1).trans ((QW (r:=_) (show ex _ _ 98 (.fld (.var 0) 2 (.var 2)) _ ((h++[O.ins 3 []]).set h.length (.ins 3 (YX 1 (QA rd) [])))=_ from by rw[show((h++[O.ins 3 []]).set h.length (.ins 3 (YX 1 (QA rd) [])))=H1 from q1.symm];exact e2)).trans ((QW (r:=_) (show ex _ _ 97 (.fld (.var 0) 3 (.fld (.var 1) 7)) _ (H1.set h.length (.ins 3 (YX 2 (.ref ct) [(1,QA rd)])))=_ from by rw[show(H1.set h.length (.ins 3 (YX 2 (.ref ct) [(1,QA rd)])))=H2 from q2.symm];exact e3)).trans ((QW (r:=_) (show ex _ _ 96 (.fld (.var 0) 4 (.con 1)) _ (H2.set h.length (.ins 3 (YX 3 cu [(1,QA rd),(2,.ref ct)])))=_ from by rw[show(H2.set h.length (.ins 3 (YX 3 cu [(1,QA rd),(2,.ref ct)])))=H3 from q3.symm];exact e4)).trans ((QW (r:=_) (show ex _ _ 95 (.fld (.var 0) 5 (.comp (.seq (.con 0)) false none (.con 1))) _ (H3.set h.length (.ins 3 (YX 4 (.con 1) [(1,QA rd),(2,.ref ct),(3,cu)])))=_ from by rw[show(H3.set h.length (.ins 3 (YX 4 (.con 1) [(1,QA rd),(2,.ref ct),(3,cu)])))=H4 from q4.symm];exact e5)).trans (Qs (show ex _ _ (93+1) (.fld (.var 0) 6 (.lst [])) _ (G.set h.length (.ins 3 (YX 5 (.ref kk) [(1,QA rd),(2,.ref ct),(3,cu),(4,.con 1)])))=_ from by rw[show(G.set h.length (.ins 3 (YX 5 (.ref kk) [(1,QA rd),(2,.ref ct),(3,cu),(4,.con 1)])))=H5 from q5.symm];exact e6))))))
 refine(congrArg fin z).trans ?_;rw[show((H5++[O.lst []]).set h.length (.ins 3 (YX 6 (.ref H5.length) [(1,QA rd),(2,.ref ct),(3,cu),(4,.con 1),(5,.ref kk)])))=H6 from q6.symm];rfl
def y_make{cl:Nat}:ev T cf (d+1) (.make cl es) ρ h=bd (evs (ev T cf d) ρ es h) λus h1=>Jr T cf cl us h1:=rfl
structure Pt(h:Hs)(pp t:Nat)(rd:Bool)(c o:List Int)(l:List D):Prop where
 ob:∃cu,h[pp]?=some (Qop (QA rd) cu t)/\Sr h cu c
 th:∃u1 u2,h[t]?=some (.lst [u1,u2])/\RpI (RpL 2) h u1 (.blk o l)/\Row h u2 0
 lc:c.length=5
 pc:∀x∈c,0<=x
 on:∀g∈wr 2 l,g=1
 ln:(wr 2 l).length<=1000
noncomputable def TH(o:List Int)(l:List D):List D:=[.blk o l,.row 0]
theorem Pt.kp{l:List D}(k:Kp h h1)(z:Pt h pp t rd c o l):Pt h1 pp t rd c o l:=by
 obtain⟨⟨cu,a,b⟩,⟨u1,u2,e,f,g⟩,x1,x2,x3,x4⟩:=z;exact⟨⟨cu,k _ _ a,b.kp k⟩,⟨u1,u2,k _ _ e,f.kp k,g.kp k⟩,x1,x2,x3,x4⟩
def Pt.rp{l:List D}(z:Pt h pp t rd c o l):RpL 3 h (.ref t) (TH o l):=by
 obtain⟨_,⟨u1,u2,e,f,g⟩,_⟩:=z
 exact⟨t,[u1,u2],rfl,e,by show 2<=1000;decide,.cons f (.cons g .nil)⟩
def QgL{l:List D}:wr 3 (TH o l)=wr 2 l++[0]:=by
 show([wr 2 l,[0]]:List (List Int)).flatten=_;simp
noncomputable def mkW:E:=.make 3 [(.var 0),(.call 29 [(.call 28 [(.fld (.var 0) 8)])])]
def Qen{l:List D}(z:Pt h pp t rd c o l):∃hb h1 w st ct cs,ev (tbG xx s) (Qd (tbG xx s) (n+6)) 98 mkW [sR pp,none,none,none] h=some (.ref w,h1)/\Kp h hb/\Wst hb h1 w st ct (QA rd) c c []/\hb[ct]?=some (.lst cs)/\Cts hb cs 0 (wr 2 l)/\∃rc,cs[(wr 2 l).length]?=some rc/\Rc 0 hb rc 0:=by
 obtain⟨cu,ep,sc⟩:=z.ob
 have lr:(wr 3 (TH o l)).length<=900000:=by rw[QgL];have:=z.ln;simp;lia
 obtain⟨_,h1,e1,k1,p1,vs,rfl,l1,hp1,pv⟩:=Qno (xx:=xx) (s:=s) (n:=n+3) (Kp.refl h) z.rp lr
 obtain⟨_,h2,e2,k2,q,cs,rfl,hq,pc⟩:=Qie (xx:=xx) (s:=s) (n:=n) k1 hp1 pv (by rw[Qq pv];exact lr)
 have k12:=k1.trans k2;obtain⟨h3,e3,st,zw⟩:=Qh6 (xx:=xx) (s:=s) (n:=n+5) (ct:=q) (k12 _ _ ep) (sc.kp k12);rw[QgL]at pc;refine⟨h2,h3,h2.length,st,q,cs,?_,k12,zw,hq,λj g hj=>⟨z.on g (X0 hj),?_⟩,?_⟩
 ·refine(y_make (d:=97)).trans ?_;rw[e_2 (Qa rfl) (Qj (d:=96) (e_1 (Qj (d:=95) (e_1 (QX (d:=93) rfl ep rfl)) e1)) e2),Qx]
  show(match Qd (tbG xx s) (n+6) 25 [.ref h2.length,.ref pp,.ref q] (h2++[O.ins 3 []])with|some (.non,h2')=>some (U.ref h2.length,h2')|_=>none)=_
  rw[e3]
 ·obtain⟨rc,hrc,zr⟩:=Qhj pc (i:=j) (b:=g) (by rw[Xs (Xf.mp hj).1];exact hj)
  exact⟨rc,by rw[Wv];exact hrc,zr⟩
 ·obtain⟨rc,hrc,zr⟩:=Qhj pc (i:=(wr 2 l).length) (b:=0) (by rw[X3 (Xe _),Ub];rfl)
  exact⟨rc,hrc,zr⟩
end
section
variable {w:Nat}{l:List D}
noncomputable def WN(o:List Int)(l:List D):List Int:=wkI (wk 2) 0 (.blk o l)++[((wr 2 l).length:Int)]
def QfL(z:Pt h pp t rd c o l)(hw:wm 3 (TH o l)<=300)(lw:(wkI (wk 2) 0 (.blk o l)).length<=700000):Cc (tbG xx s) (n+11) 27 [.ref pp] h λr h1=>Kp h h1/\∃st us,r=.ref st/\h1[st]?=some (.lst us)/\Paired (Sp c h1) us (WN o l):=by
 obtain⟨hb,h1,w,st,ct,cs,e1,kb,zw,hct,zc,rc,hr,zr⟩:=Qen (xx:=xx) (s:=s) (n:=n+4) z;have k1:=kb.trans zw.base;have z1:=z.kp k1;obtain⟨cu,ep,sc⟩:=z1.ob;obtain⟨_,h2,e2,k2,rfl⟩:=QlF (xx:=xx) (s:=s) (n:=n+6) z1.rp;have zw2:=zw.kp k2;obtain⟨u1,u2,et,r1,r2⟩:=z.th
 obtain⟨_,h3,e3,zw3,x3,rfl⟩:=Qh7 (xx:=xx) (s:=s) (n:=n) z.lc z.pc hct (kb _ _ et) (r1.kp kb) (r2.kp kb) zc hr zr zw2 (by simp only[Th];lia)
 obtain⟨b3,l3,l3',⟨x,y,kk,ew,sx,sy,zk,nk⟩,us,es,sp⟩:=zw3
 obtain⟨r4,h4,e4,k4,q4⟩:=YH (xx:=xx) (s:=s) (n:=n+9) sx sy (by decide)
 obtain⟨_,h5,e5,k5,rfl⟩:=JF (xx:=xx) (s:=s) (n:=n+8) (m:=0) (.inr q4) (.inl ⟨rfl,rfl⟩:Sm h4 (.con 1) z5) (by decide) (Qf9 rfl)
 have k45:=k4.trans k5
 refine Zf (Qc fnL[27] rfl rfl) (QR (Qu (d:=98) e1) (QR (Qab (d:=96) (c:=false) ((Qf8 (Qj (e_1 (QX rfl ep rfl)) e2) y_c).trans (by rw[Xy (by lia)])) rfl) (QR (Qu (d:=96) (Qj (e_3 (Qa rfl) (QX rfl (k2 _ _ ep) rfl) y_c) e3)) (QR (Qu (d:=95) (Qj (e_2 (QX rfl ew rfl) (QX rfl ew rfl)) e4)) (QjD (d:=94) (Za (Qj (e_5 (Qj (e_3 (Qa rfl) Yl y_c) e5) (Qa rfl) y_c (Qa rfl) Yl) JD) (Qz (Za (QX rfl (k45 _ _ ew) rfl) ⟨(kb.trans b3).trans k45,st,us,rfl,k45 _ _ es,Sps.tk k45.tk sp⟩))))))))
def Qas(F:Fn)(hF:T.fns[f]?=some F)(hl:us.length=F.np):Q4 T (n+1) f us h=exsX T (Qd T n) dd F.body (Qit us F.nN) h:=by simp[Q4,hF,hl]
def QcH{st:Iv.S}(e:ex T cf d st ρ h=some (.next,ρ1,h1)):exsX T cf (d+1) (st::r) ρ h=exsX T cf d r ρ1 h1:=by rw[exsX,e]
def QcG{st:Iv.S}(e:ex T cf d st ρ h=none):exsX T cf (d+1) (st::r) ρ h=exX T cf d st ρ h:=by rw[exsX,e]
def Qaq{t:E}(e:evT (tbG xx s) cf (d+3) t ρ h=some (true,h1)):exsX (tbG xx s) cf (d+5) (.ite t [.rse 8 []] []::r) ρ h=some ((8,.non),h1):=by
 have e1:ex (tbG xx s) cf (d+4) (.ite t [.rse 8 []] []) ρ h=none:=by rw[Qar,e,Qx];rfl
 rw[QcG e1,exX,e];rfl
def Qa6(z:Pt h pp t rd c o l)(hw:300<wm 3 (TH o l)):∃h1,Q4 (tbG xx s) (n+11) 27 [.ref pp] h=some ((8,.non),h1)/\Qd (tbG xx s) (n+11) 27 [.ref pp] h=none/\Kp h h1:=by
 obtain⟨hb,h1,w,st,ct,cs,e1,kb,zw,hct,zc,rc,hr,zr⟩:=Qen (xx:=xx) (s:=s) (n:=n+4) z;have k1:=kb.trans zw.base;have z1:=z.kp k1;obtain⟨cu,ep,sc⟩:=z1.ob;obtain⟨_,h2,e2,k2,rfl⟩:=QlF (xx:=xx) (s:=s) (n:=n+6) z1.rp
 have t2:evT (tbG xx s) (Qd (tbG xx s) (n+10)) 97 (.cmp .Gt (.call 31 [(.fld (.var 0) 8)]) (.c (.int 300 0))) [sR pp,sR w,none,none] h1=some (true,h2):=(Qf8 (Qj (e_1 (QX rfl ep rfl)) e2) y_c).trans (by rw[X9 hw])
 refine⟨h2,?_,?_,k1.trans k2⟩
 ·rw[Qas fnL[27] rfl rfl];exact(QcH (Zy e1)).trans (Qaq (d:=94) t2)
 ·rw[Qc fnL[27] rfl rfl]
  have:exs (tbG xx s) (Qd (tbG xx s) (n+10)) 99 ((.ite (.cmp .Gt (.call 31 [(.fld (.var 0) 8)]) (.c (.int 300 0))) [.rse 8 []] [])::b27.drop 2) [sR pp,sR w,none,none] h1=none:=by
   rw[Zd,Qar,t2,Qx];rfl
  exact congrArg fin ((Qu (d:=98) (i:=1) (r:=(.ite (.cmp .Gt (.call 31 [(.fld (.var 0) 8)]) (.c (.int 300 0))) [.rse 8 []] [])::b27.drop 2) e1).trans this)
end
noncomputable def wdI(ch:List Int)(f:Nat->List D->List Int)(b:Nat):D->List Int
 |.row _=>[(b:Int)]
 |.blk c l=>(List.replicate (wor c ch).toNat (f b l)).flatten
noncomputable def wdA(ch:List Int)(f:Nat->List D->List Int)(g:D->Nat):Nat->List D->List Int
 |_,[]=>[]
 |b,d::ds=>wdI ch f b d++wdA ch f g (b+g d) ds
noncomputable def wd(ch:List Int):Nat->Nat->List D->List Int
 |0,_,_=>[]
 |k+1,b,ds=>wdA ch (wd ch k) (nrI k) b ds
section
variable {f:Nat->List D->List Int}{g:D->Nat}
theorem Qav:∀{ds es:List D} {b:Nat},wdA ch f g b (ds++es)=wdA ch f g b ds++wdA ch f g (b+(ds.map g).sum) es
 |[],es,b=>by simp[wdA]
 |e::ds,es,b=>by
  rw[List.cons_append,wdA,wdA,Qav (ds:=ds),Vc,X7,V3,Vv]
def Qbb{ds:List D}{b:Nat}{d:D}(e:ds[i]?=some d):wdA ch f g b (ds.take (i+1))=wdA ch f g b (ds.take i)++wdI ch f (b+((ds.take i).map g).sum) d:=by
 rw[Wm,e];show wdA ch f g b (ds.take i++[d])=_;rw[Qav];simp[wdA]
def QiQ{ds:List D}{b:Nat}{d:D}(e:ds[i]?=some d)(l:(wdA ch f g b ds).length<=m):(wdA ch f g b (ds.take i)).length+(wdI ch f (b+((ds.take i).map g).sum) d).length<=m:=by
 rw[<-Vh (i+1) ds,Qav,Qbb e,Xv,Xv]at l;lia
end
def OkI(ch:List Int)(k:Nat)(f:List D->Prop):D->Prop
 |.row _=>True
 |.blk c l=>0<wm k l/\1<=wor c ch/\wor c ch<=1000000/\(szd c=false->wor c ch=hd c)/\f l
def OkD(ch:List Int):Nat->List D->Prop
 |0,_=>True
 |k+1,ds=>∀d∈ds,OkI ch k (OkD ch k) d
theorem Qa9{h:Hs}:∀{k:Nat} {u:U} {ds:List D} {b:Nat},RpL k h u ds->((wk k b ds).length:Int)=wm k ds
 |k+1,_,ds,b,⟨p,us,rfl,hp,lu,pr⟩=>by
  show((wkA (wk k) (nrI k) b ds).length:Int)=(ds.map (wmI (wm k))).sum;clear hp lu
  induction pr generalizing b with
  |nil=>rfl
  |cons a _ ih=>
   rename_i x d _ _ _;rw[wkA,Xv,X7,V3,Tj,ih]
   congr 1
   cases d with
   |row g=>rfl
   |blk c l=>
    obtain⟨i,x',v,a1,a2,a3,a4,a5,a6,a7,a8⟩:=a;have e:=Qa9 (b:=b) a6;simp only[wkI,wmI]
    cases szd c with
    |true=>simp[e]
    |false=>
     simp only[W9,V7,List.length_flatten,List.map_replicate,List.sum_replicate_nat,Vs];rw[e,Int.mul_comm]
     congr 1
     lia
section
variable {A B C:List α}
def Qd3:YS (A++(B++C)) (some (A.length:Int)) (some ((A.length:Int)+(B.length:Int)))=B:=by
 have e1:ZR (A++(B++C)).length 0 (some (A.length:Int))=A.length:=by
  simp only[ZR]
  rw[if_neg (by lia)]
  simp
 have e2:ZR (A++(B++C)).length (A++(B++C)).length (some ((A.length:Int)+(B.length:Int)))=A.length+B.length:=by
  simp only[ZR]
  rw[if_neg (by lia)]
  simp;lia
 unfold YS;rw[e1,e2,List.drop_left,Uy,List.take_left]
def Qc8{j:Nat}(h:j<n):(List.replicate n B).flatten=(List.replicate j B).flatten++(B++(List.replicate (n-j-1) B).flatten):=by
 have e:List.replicate n B=List.replicate j B++(B::List.replicate (n-j-1) B):=by
  rw[<-Wh,List.replicate_append_replicate]
  congr 1
  lia
 rw[e,V0,Wu]
end
def Zg{B:List α}:(List.replicate n B).flatten.length=n*B.length:=by simp
theorem Qdg{α β:Type}{P:α->β->Prop}{l:List α}{r:List β}(h:Paired P l r):∀n:Nat,Paired P (List.replicate n l).flatten (List.replicate n r).flatten
 |0=>.nil
 |n+1=>by
  rw[Wh,Wh,Wu,Wu];exact Ys h (Qdg h n)
def QeY{W:Nat}(hW:0<W):QeZ 0 ((n*W:Nat):Int) (W:Int)=n:=by
 unfold QeZ
 cases n with
 |zero=>simp
 |succ n=>
  rw[if_pos (by
   have:0<(n+1)*W:=Nat.mul_pos (Nat.succ_pos _) hW
   lia)]
  have e:(((n+1)*W:Nat):Int) - 0-1=((W:Int) - 1)+(W:Int)*(n:Int):=by
   rw[Tc,Nat.mul_comm]
   push_cast
   lia
  rw[e,Int.add_mul_ediv_left _ _ (by lia),Int.ediv_eq_zero_of_lt (by lia) (by lia)]
  lia
section

def QiU{lo hi:E}{a b:Int}(vi:ρ[i]?=some (sR p))(hp:h[p]?=some (.lst us))(vl:ev T cf (d+1) lo ρ h=some (.int a 0,h))(vh:ev T cf (d+1) hi ρ h=some (.int b 0,h)):ev T cf (d+2) (.sl (.var i) (some lo) (some hi)) ρ h=some (.ref h.length,h++[.lst (YS us (some a) (some b))]):=by
 rw[QnL,Qa vi,Qx];simp only[evO,vl,vh,Qx];exact QoQ hp
def QjA{L W:Nat}(I:Nat->Rho->Hs->Prop)(v:evs (ev T cf d) ρ es h=some ([iU 0,iU ((L*W:Nat):Int),iU (W:Int)],h1))(hW:0<W)(lW:W<=1000000)(ll:L*W<=1000000)(h0:I 0 ρ h1)
  (st:∀i,i<L->∀ρ hs,I i ρ hs->∃ρ' ρ2 h2,tgt tg (.one (iU ((i*W:Nat):Int))) ρ hs=some ρ'/\exs T cf d body ρ' hs=some (.next,ρ2,h2)/\I (i+1) ρ2 h2) (k:∀ρ2 h2,I L ρ2 h2->Xx T cf (d+1) r ρ2 h2 Q):Xx T cf (d+2) (.loop tg (.rngA es) body::r) ρ h Q:=by
 have sm:∀x:Nat,x<=1000000->Qg ((x:Int)*16)=true:=λx hx=>by
  simp only[Qg,Xg,Xq];lia
 refine JX (w:=.rngC 0 (W:Int) L) (L:=List.range L) (im:=λj:Nat=>Im.one (iU ((j*W:Nat):Int))) I ((QiH v (by
  have a:=sm _ ll
  have b:Qg ((0:Int)*16)=true:=by decide
  simp only[Xg,Xq]
  exact⟨⟨⟨b,a⟩,by lia⟩,by lia⟩)).trans (by rw[QeY hW])) (by simp only[Q6,Vd];lia) (λi ρ hs z=>?_) h0 (λi a ha ρ hs z=>?_) (by rw[Vd];exact k)
 ·simp only[itm];by_cases l:i<L
  ·rw[if_pos l,Vz l];simp
  ·rw[if_neg l,Wl (by rw[Vd];lia)];rfl
 ·have l:=(Xf.mp ha).1;rw[Vd]at l;rw[Vz l]at ha;cases ha;exact st i l ρ hs z
def Ws(k:Nat)(m:Nat)(x:Nat->List U->Hs->Option (Er×Hs))(s:List U)(ch c:List Int)(cp:Nat)(v:U)(l:List D)(b:Nat):Prop:=∀{h:Hs} {st:Nat} {us:List U},RpL k h v l->h[cp]?=some (.lst (ch.map iU))->h[st]?=some (.lst us)->Paired (Sp c h) us (wk k b l)->(wd ch k b l).length<=800000->us.length<=800000->Pc (tbG x s) m 47 [v,.ref st,.ref cp] h λr h1=>∃p vs,r=.ref p/\h.length<=p/\h1[p]?=some (.lst vs)/\Paired (Sp c h1) vs (wd ch k b l)
def Qk4{b m0:Nat}{d:D}(sub:∀v l,(∃cc,d=.blk cc l)->Ws k (m0+1) xx s ch c cp v l b)(z:RpI (RpL k) h u d)(ok:OkI ch k (OkD ch k) d)(hc:h[cp]?=some (.lst (ch.map iU)))(hs:h[st]?=some (.lst us))(sp:Paired (Sp c h) us (wkI (wk k) b d))(ll:(wdI ch (wd ch k) b d).length<=800000)(lu:us.length<=800000):
  Pc (tbG xx s) (m0+2) 48 [u,.ref st,.ref cp] h λr h1=>∃p vs,r=.ref p/\h1[p]?=some (.lst vs)/\Paired (Sp c h1) vs (wdI ch (wd ch k) b d):=by
 cases d with
 |row g=>exact Zf (Qc fnL[48] rfl rfl) (Qbq (c:=true) (Qcb rfl z) (Qz (Za (Qa rfl) ⟨Kp.refl _,st,us,rfl,hs,sp⟩)))
 |blk cc l=>
  obtain⟨q,xc,v,rfl,a2,a3,a4,a5,a6,a7,a8⟩:=z;obtain⟨o1,o2,o3,o4,o5⟩:=ok
  obtain⟨_,h1,e1,k1,rfl⟩:=YI (xx:=xx) (s:=s) (n:=m0) a3 (by lia) (by lia)
  have lW:0<(wk k b l).length:=by have:=Qa9 (b:=b) a6;lia
  have lwd:(wd ch k b l).length<=800000:=by
   simp only[wdI,Zg]at ll
   have:1*(wd ch k b l).length<=(wor cc ch).toNat*(wd ch k b l).length:=Ue _ (by lia)
   lia
  refine Zf (Qc fnL[48] rfl rfl) (QR (Qab (d:=97) (Qcz rfl a2) rfl) (Qbq (d:=97) (h1:=h1) (JJ rfl (Qj (e_1 (Qk (Qa rfl) (Qo (j:=1) a2 rfl))) e1)) ?_))
  cases hz:szd cc with
  |true=>
   simp only[wkI,hz,Wo]at sp;obtain⟨_,h2,e2,k2,p2,vs,rfl,l2,ep2,s2⟩:=sub v l ⟨cc,rfl⟩ (RpL.kp k1 a6) (k1 _ _ hc) (k1 _ _ hs) (Sps.tk k1.tk sp) lwd lu;have k12:=k1.trans k2
   obtain⟨_,h3,e3,k3,rfl⟩:=JB (xx:=xx) (s:=s) (n:=m0) (a3.kp k12) (by lia) (by lia) (k12 _ _ hc) a5
   have lv:=Qq s2;simp only[wdI,Zg]at ll;refine Qz (d:=95) (Za (Zm (Qj (e_3 (Qk (Qa rfl) (Qo (j:=2) (k1 _ _ a2) rfl)) (Qa rfl) (Qa rfl)) e2) (Qj (e_2 (Qk (Qa rfl) (Qo (j:=1) (k12 _ _ a2) rfl)) (Qa rfl)) e3) (r:=some (.ref h3.length,h3++[.lst (List.replicate (wor cc ch).toNat vs).flatten])) ?_) ⟨(k12.trans k3).trans kp1,_,_,rfl,Qi,?_⟩)
   ·show Qiu p2 (iU (wor cc ch)) h3=_;simp only[Qiu,k3 _ _ ep2]
    rw[if_pos ⟨by lia,by lia,by rw[Nat.mul_comm,lv];lia⟩]
   ·exact Qdg (Sps.tk (k3.trans kp1).tk s2) _
  |false=>
   simp only[wkI,hz,W9,V7]at sp;have ew:wor cc ch=hd cc:=o4 hz
   have lus:us.length=(hd cc).toNat*(wk k b l).length:=by rw[Qq sp,Zg]
   have hn:((hd cc).toNat:Int)=hd cc:=by lia
   have ed:((us.length:Nat):Int) / hd cc=((wk k b l).length:Int):=by
    rw[lus]
    push_cast
    rw[hn]
    exact Int.mul_ediv_cancel_left _ (by lia)
   have lsm:(wk k b l).length<=us.length:=by
    rw[lus]
    have:1*(wk k b l).length<=(hd cc).toNat*(wk k b l).length:=Ue _ (by lia)
    lia
   simp only[wdI,Zg,ew]at ll ⊢;refine ZC (d:=96) (show Xx _ _ 98 _ _ _ _ from ?_)
   refine QR (Qu (d:=96) rfl) (QR (Qu (d:=95) (Zm (w:=iU (hd cc)) (Qay (Qa rfl) (Qcl (Qt (k1 _ _ hs)))) (Qk (Qk (Qa rfl) (Qo (j:=1) (Qt (k1 _ _ a2)) rfl)) (QhU (T:=tbG xx s) ((a3.kp k1).kp kp1) (by lia))) ((Qfh (by simp only[Xg,Xq];lia)).trans (by rw[ed])))) ?_)
   refine QjA (d:=94) (L:=(hd cc).toNat) (W:=(wk k b l).length) (λi ρ hs=>Kp h1 hs/\∃x vs,ρ=[sR q,sR st,sR cp,sR h1.length,some (iU ((wk k b l).length:Int)),x]/\hs[h1.length]?=some (.lst vs)/\Paired (Sp c hs) vs (List.replicate i (wd ch k b l)).flatten) (e_3 y_c ((Qay (Qa rfl) (Qcl (Qt (k1 _ _ hs)))).trans (by rw[lus])) (Qa rfl)) lW (by lia) (by lia) ⟨kp1,none,[],rfl,Qi,.nil⟩ (λi hi ρ hs' z=>?_) λρ2 h5 z=>?_
   ·obtain⟨kp,x,vs,rfl,ev,pv⟩:=z;have kq:=k1.trans kp
    have cut:Paired (Sp c (hs'++[O.lst (YS us (some ((i*(wk k b l).length:Nat):Int)) (some (((i*(wk k b l).length:Nat):Int)+((wk k b l).length:Int))))])) (YS us (some ((i*(wk k b l).length:Nat):Int)) (some (((i*(wk k b l).length:Nat):Int)+((wk k b l).length:Int)))) (wk k b l):=by
     have:=Qdh (a:=some ((i*(wk k b l).length:Nat):Int)) (b:=some (((i*(wk k b l).length:Nat):Int)+((wk k b l).length:Int))) (Sps.tk (kq.trans (kp1 (o:=O.lst (YS us (some ((i*(wk k b l).length:Nat):Int)) (some (((i*(wk k b l).length:Nat):Int)+((wk k b l).length:Int))))))).tk sp);rw[Qc8 hi]at this
     have e:((List.replicate i (wk k b l)).flatten.length:Int)=((i*(wk k b l).length:Nat):Int):=by rw[Zg]
     rw[<-e,Qd3,e]at this;exact this
    have kq1:=kq.trans (kp1 (o:=O.lst (YS us (some ((i*(wk k b l).length:Nat):Int)) (some (((i*(wk k b l).length:Nat):Int)+((wk k b l).length:Int))))))
    obtain⟨_,h2,e2,k2,p2,ws,rfl,l2,ep2,s2⟩:=sub v l ⟨cc,rfl⟩ (RpL.kp kq1 a6) (kq1 _ _ hc) Qi cut lwd (by rw[Qq cut];lia)
    have k3:=(kp1 (o:=O.lst (YS us (some ((i*(wk k b l).length:Nat):Int)) (some (((i*(wk k b l).length:Nat):Int)+((wk k b l).length:Int)))))).trans k2
    have tk:TK h2 (h2.set h1.length (.lst (vs++ws))):=TK.set (k3 _ _ ev) (λy z=>by cases z)
    have lv:=Qq pv;have lw2:=Qq s2;rw[Zg]at lv;have:(i+1)*(wd ch k b l).length<=(hd cc).toNat*(wd ch k b l).length:=Ue _ hi;rw[Tc]at this
    refine⟨_,_,_,rfl,Qs (QcJ (d:=90) rfl ev (Qj (e_3 (Qk (Qa rfl) (Qo (j:=2) (kq _ _ a2) rfl)) (QiU rfl (kq _ _ hs) (Qa rfl) (Zm (Qa rfl) (Qa rfl) Yv)) (Qa rfl)) e2) (k3 _ _ ev) ep2 (by lia)),Kp.put (kp.trans k3) (Xe _),_,_,rfl,QC (k3 _ _ ev),?_⟩
    rw[Qbp];exact Ys (Sps.tk (k3.tk.trans tk) pv) (Sps.tk tk s2)
   ·obtain⟨kp,x,vs,rfl,ev,pv⟩:=z;exact Qz (d:=93) (Za (Qa rfl) ⟨k1.trans kp,_,vs,rfl,ev,pv⟩)
theorem Qok:∀{k n b:Nat} {v:U} {l:List D},OkD ch k l->Ws k (n+2*k+2) xx s ch c cp v l b
 |k+1,n,b,_,ds,ok,h,st,us,⟨p,is,rfl,hp,li,pr⟩,hc,hs,sp,ll,lu=>by
  have ld:=Qq pr;have lus:us.length=(wkA (wk k) (nrI k) b ds).length:=Qq sp
  refine Zf (Qc fnL[47] rfl rfl) (QR (Qu (d:=98) rfl) (QR (Qu (d:=97) y_c) (Z3 (d:=96) (u:=.ref p) (L:=is) (λi ρ hs'=>Kp h hs'/\∃x y vs,ρ=[sR p,sR st,sR cp,sR h.length,some (iU ((wkA (wk k) (nrI k) b (ds.take i)).length:Int)),x,y]/\hs'[h.length]?=some (.lst vs)/\Paired (Sp c hs') vs (wdA ch (wd ch k) (nrI k) b (ds.take i))) (Qa rfl) (λi ρ hs z=>Qw (z.1 _ _ hp)) ⟨kp1,none,none,[],by simp only[List.take_zero,wkA];rfl,Qi,by simp only[List.take_zero,wdA];exact .nil⟩ (λi x hx ρ hs' z=>?_) λρ2 h2 z=>?_)))
  ·obtain⟨kp,x0,y0,vs,rfl,ev,pv⟩:=z;obtain⟨a,ha,za⟩:=Zb pr hx;have oa:=ok a (X0 ha);have ka:Kp hs' (hs'++[O.lst [x]]):=kp1
   have rp1:RpL (k+1) (hs'++[O.lst [x]]) (.ref hs'.length) [a]:=⟨hs'.length,[x],rfl,Qi,by simp,.cons ((RpI.kp kp za).kp ka) .nil⟩
   obtain⟨_,h3,e3,k3,rfl⟩:=QlF (xx:=xx) (s:=s) (n:=n+k+1) rp1
   rw[show n+k+1+(k+1)+1=n+2*k+3 by lia]at e3
   have lwa:((wkI (wk k) (b+((ds.take i).map (nrI k)).sum) a).length:Int)=wm (k+1) [a]:=by
    have:=Qa9 (b:=b+((ds.take i).map (nrI k)).sum) rp1;rw[<-this];show _=(((wkI (wk k) (b+((ds.take i).map (nrI k)).sum) a)++[]).length:Int);rw[W4]
   obtain⟨P,eP⟩:∃P,P=wkA (wk k) (nrI k) b (ds.take i):=⟨_,rfl⟩;obtain⟨B,eB⟩:∃B,B=wkI (wk k) (b+((ds.take i).map (nrI k)).sum) a:=⟨_,rfl⟩
   have es:wk (k+1) b ds=P++(B++wkA (wk k) (nrI k) (b+((ds.take (i+1)).map (nrI k)).sum) (ds.drop (i+1))):=by
    rw[eP,eB,<-Vc,<-Z7 ha,<-Qau,Vh];rfl
   have lB:=Qf1 (f:=wk k) (g:=nrI k) (b:=b) ha (Xe _);have lD:=QiQ (ch:=ch) (f:=wd ch k) (g:=nrI k) (b:=b) ha ll;rw[<-eP,<-eB]at lB;rw[<-eB]at lwa;have k13:=(kp.trans ka).trans k3;obtain⟨cl,ecl⟩:∃cl,cl=YS us (some (P.length:Int)) (some ((P.length:Int)+(B.length:Int))):=⟨_,rfl⟩;have k4:Kp h3 (h3++[O.lst cl]):=kp1
   have cut:Paired (Sp c (h3++[O.lst cl])) cl B:=by
    have:=Qdh (a:=some (P.length:Int)) (b:=some ((P.length:Int)+(B.length:Int))) (Sps.tk (k13.trans k4).tk sp);rw[es,Qd3,<-ecl]at this;exact this
   have k14:=k13.trans k4
   obtain⟨_,h5,e5,k5,p5,ws,rfl,ep5,s5⟩:=Qk4 (xx:=xx) (s:=s) (k:=k) (m0:=n+2*k+1) (b:=b+((ds.take i).map (nrI k)).sum) (λv l hl=>Qok (k:=k) (n:=n) (by
    obtain⟨cc,rfl⟩:=hl
    exact oa.2.2.2.2)) (RpI.kp k14 za) oa (k14 _ _ hc) Qi (eB▸cut) (by lia) (by rw[Qq cut];lia)
   have k45:=k4.trans k5;have k35:=(ka.trans k3).trans k45
   have tk:TK h5 (h5.set h.length (.lst (vs++ws))):=TK.set (k35 _ _ ev) (λw z=>by cases z)
   have lv:=Qq pv;have lw5:=Qq s5
   have v1:Iv.ev (tbG xx s) (Qd (tbG xx s) (n+2*k+3)) 94 (.op .Add (.var 4) (.call 31 [(.lst [(.var 5)])])) [sR p,sR st,sR cp,sR h.length,some (iU (P.length:Int)),some x,y0] hs'=some (iU ((P.length:Int)+(B.length:Int)),h3):=Zm (Qa rfl) (Qj (e_1 (ZT (Qa rfl))) e3) (by rw[<-lwa];exact Yv)
   have v2:=QcJ (T:=tbG xx s) (cf:=Qd (tbG xx s) (n+2*k+3)) (d:=91) (i:=3) (ρ:=[sR p,sR st,sR cp,sR h.length,some (iU (P.length:Int)),some x,some (iU ((P.length:Int)+(B.length:Int)))]) (e:=.call 48 [(.var 5),(.sl (.var 1) (some (.var 4)) (some (.var 6))),(.var 2)]) (h:=h3) rfl ((ka.trans k3) _ _ ev) (Qj (e_3 (Qa rfl) ((QiU rfl (k13 _ _ hs) (Qa rfl) (Qa rfl)).trans (by rw[<-ecl])) (Qa rfl)) e5) (k35 _ _ ev) ep5 (by lia)
   rw[<-eP];refine⟨_,_,_,rfl,(QW (d:=95) (Zy v1)).trans ((QW (d:=94) v2).trans (Qs (d:=92) (Zy (Qa rfl)))),Kp.put (kp.trans k35) (Xe _),some x,some (iU ((P.length:Int)+(B.length:Int))),_,?_,QC (k35 _ _ ev),?_⟩
   ·rw[Z7 ha,<-eP,<-eB,Xv,Tj];rfl
   ·rw[Qbb ha];exact Ys (Sps.tk (k35.tk.trans tk) pv) (Sps.tk tk s5)
  ·obtain⟨kp,x0,y0,vs,rfl,ev,pv⟩:=z;rw[ld,Wf (Xe _)]at pv;exact Qz (d:=95) (Za (Qa rfl) ⟨kp,_,vs,rfl,Xe _,ev,pv⟩)
end
noncomputable def Qlv:U:=.str [116,105,109,101,115]
def Pl(hb:Hs)(m:Nat)(h:Hs)(q:Nat)(c:List Int):Prop:=m<=q/\∃tm o p y g,h[q]?=some (.lst [.ref tm])/\h[tm]?=some (.tup [Qlv,o,.ref p])/\Sr h o c/\hb[p]?=some (.lst [y])/\One hb y g
section
variable {o:U}
def Qib(kb:Kp hb h)(z:Row hb u g)(so:Sr h o c):Pc (tbG xx s) (n+1) 49 [u,o] h λr h1=>∃q,r=.ref q/\Pl hb h.length h1 q c:=by
 obtain⟨i,a,b,p,y,rfl,e,ea,eb,ep,z⟩:=z;have e':=kb _ _ e;have k1:Kp h (h++[O.tup [Qlv,o,.ref p]]++[O.lst [.ref h.length]]):=kp1.trans kp1;have k2:=k1.trans (kp1 (o:=O.lst ([]++[.ref h.length])))
 refine Zf (Qc fnL[49] rfl rfl) (QR (Qab (d:=97) (c:=false) (QI (Qay (Qa rfl) (Qkn e')) y_c rfl) rfl) (Qz (d:=97) (Za (Yn (Yn (Qk (Qa rfl) (Qo (j:=1) e' rfl)) (ZT (Qbe y_c (Qa rfl) (Qk (Qa rfl) (Qo (j:=3) e' rfl)))) (k1 _ _ (kb _ _ ea)) Qi (by show 1<=1000000;decide)) (Qk (Qa rfl) (Qo (j:=4) (k2 _ _ e') rfl)) Qi (k2 _ _ (kb _ _ eb)) (by show 1<=1000000;decide)) ⟨k2.trans kp1,_,rfl,k2.len,h.length,o,p,y,g,Qi,?_,so.kp (k2.trans kp1),ep,z⟩)))
 exact Qt (Qt (Qt Qi))
def Qkf(hi:ρ[i]?=some (some y))(z:One h y g):evT T cf (d+4) (.cmp .Eq (.ix (.var i) (.c (.int 0 0))) (.c (.str [111,110,101]))) ρ h=some (true,h):=by
 obtain⟨r,v,rfl,e,_⟩:=z;exact QI (u:=.str [111,110,101]) (Qk (Qa hi) (Qo (j:=0) e rfl)) y_c rfl
def Qi4{tm:Nat}{x:U}(hi:ρ[i]?=some (sR tm))(e:h[tm]?=some (.tup [Qlv,o,x])):evT T cf (d+4) (.cmp .Eq (.ix (.var i) (.c (.int 0 0))) (.c (.str [111,110,101]))) ρ h=some (false,h):=QI (u:=Qlv) (Qk (Qa hi) (Qo (j:=0) e rfl)) y_c rfl
def Qnt(hp:h[p]?=some (.lst [y]))(z:One h y g):Qd (tbG xx s) (n+1) 45 [.ref p,.ref cp] h=some (iU 1,h):=by
 have:Cc (tbG xx s) (n+1) 45 [.ref p,.ref cp] h λr h1=>r=iU 1/\h1=h:=by
  refine Zf (Qc fnL[45] rfl rfl) (QR (Qu (d:=98) y_c) (Z3 (L:=[y]) (λi ρ hs=>hs=h/\∃x,ρ=[sR p,sR cp,some (iU (i:Int)),x]) (Qa rfl) (λi ρ hs z=>z.1▸Qw hp) ⟨rfl,none,rfl⟩ (λi x hx ρ hs z'=>?_) λρ2 h2 z=>?_))
  ·obtain⟨rfl,x0,rfl⟩:=z'
   cases i with
   |succ i=>simp at hx
   |zero=>
    cases(show some y=some x from hx);exact⟨_,_,_,rfl,Qs (JL (d:=95) rfl (Qbg (Qkf rfl z) y_c)),rfl,_,rfl⟩
  ·obtain⟨rfl,x0,rfl⟩:=z;exact Qz (Za (Qa rfl) ⟨rfl,rfl⟩)
 obtain⟨_,_,e,rfl,rfl⟩:=this;exact e
def Qh9(kb:Kp hb h)(z:Pl hb m h q c)(hc:h[cp]?=some (.lst (ch.map iU)))(l5:c.length=5)(sm:∀x∈c,Qg x=true):Pc (tbG xx s) (n+2) 45 [.ref q,.ref cp] h λr w=>r=iU (wor c ch):=by
 obtain⟨_,tm,o,p,y,g,e1,e2,so,ep,z1⟩:=z
 obtain⟨_,h2,e3,k3,rfl⟩:=JB (xx:=xx) (s:=s) (n:=n) so (by lia) (by lia) hc sm
 have e4:=Qnt (xx:=xx) (s:=s) (n:=n) (cp:=cp) (k3 _ _ (kb _ _ ep)) (z1.kp (kb.trans k3));refine Zf (Qc fnL[45] rfl rfl) (QR (Qu (d:=98) y_c) (Z3 (L:=[.ref tm]) (λi ρ hs=>Kp h hs/\(i=0->hs=h)/\∃x,ρ=[sR q,sR cp,some (iU (if i=0 then 0 else wor c ch)),x]) (Qa rfl) (λi ρ hs z=>Qw (z.1 _ _ e1)) ⟨Kp.refl _,λw=>rfl,none,rfl⟩ (λi x hx ρ hs z'=>?_) λρ2 h2 z=>?_))
 ·obtain⟨kp,h0,x0,rfl⟩:=z'
  cases i with
  |succ i=>simp at hx
  |zero=>
   cases(show some (U.ref tm)=some x from hx);cases h0 rfl
   refine⟨_,_,_,rfl,Qs (JL (d:=95) (x:=0) rfl (JP (Qi4 rfl e2) (Zm (Qj (e_2 (Qk (Qa rfl) (Qo (j:=1) e2 rfl)) (Qa rfl)) e3) (Qj (e_2 (Qk (Qa rfl) (Qo (j:=2) (k3 _ _ e2) rfl)) (Qa rfl)) e4) (J1 (by decide))))),k3,(λz=>absurd z (Nat.succ_ne_zero _)),sR tm,?_⟩
   simp
 ·obtain⟨kp,_,x0,rfl⟩:=z;exact Qz (Za (Qa rfl) ⟨kp,rfl⟩)
def Qnq(hp:h[p]?=some (.lst [y]))(z:One h y g):Pc (tbG xx s) (n+1) 43 [.ref p,.ref cp] h λr h1=>∃q v,r=.ref q/\h1[q]?=some (.lst [v]):=by
 obtain⟨i1,v,rfl,ey,sv⟩:=id z;refine Zf (Qc fnL[43] rfl rfl) (QR (Qu (d:=98) rfl) (Z3 (L:=[.ref i1]) (λi ρ hs=>Kp h hs/\∃x,ρ=[sR p,sR cp,sR h.length,x]/\hs[h.length]?=some (.lst (if i=0 then []else [v]))) (Qa rfl) (λi ρ hs z=>Qw (z.1 _ _ hp)) ⟨kp1,none,rfl,Qi⟩ (λi x hx ρ hs z'=>?_) λρ2 h2 z=>?_))
 ·obtain⟨kp,x0,rfl,el⟩:=z'
  cases i with
  |succ i=>simp at hx
  |zero=>
   cases(show some (U.ref i1)=some x from hx)
   exact⟨_,_,_,rfl,Qs (Ym (d:=95) (k:=true) (h1:=hs) (Qkf rfl (z.kp kp)) (by rw[if_pos rfl];exact Qs (QcK (d:=92) (Qa rfl) el (Qk (Qa rfl) (Qo (j:=1) (kp _ _ ey) rfl)) el (by simp)))),Kp.put kp (Xe _),_,rfl,QC el⟩
 ·obtain⟨kp,x0,rfl,el⟩:=z;exact Qz (Za (Qa rfl) ⟨kp,_,v,rfl,el⟩)
def Qnp{W:Int}(hp:h[p]?=some (.lst [y]))(z:One h y g)(lW:1<=W)(lW2:W<=900000):Pc (tbG xx s) (n+2) 44 [.ref p,iU W,.ref cp] h λr h1=>∃q xs,r=.ref q/\h1[q]?=some (.lst xs)/\xs.length=W.toNat:=by
 obtain⟨_,h1,e1,k1,q1,v,rfl,eq1⟩:=Qnq (xx:=xx) (s:=s) (n:=n) (cp:=cp) hp z
 refine Zf (Qc fnL[44] rfl rfl) (QR (Qu (d:=98) (JP (h1:=h) ((Qlq (Qa rfl) y_c).trans (by rw[Xy (by lia)])) (Qj (e_2 (Qa rfl) (Qa rfl)) e1))) (Qz (d:=97) (Za (Qbg (h1:=h1) ?_ (Zm (u:=.ref q1) (w:=iU W) (Qa rfl) (Qa rfl) (r:=some (.ref h1.length,h1++[.lst (List.replicate W.toNat [v]).flatten])) ?_)) ⟨k1.trans kp1,_,_,rfl,Qi,by rw[Zg];simp⟩)))
 ·rw[QiK,Qa rfl,Qx];simp only[JI,Z9,eq1];rfl
 ·show Qiu q1 (iU W) h1=_;simp only[Qiu,eq1]
  rw[if_pos ⟨by lia,by lia,by simp;lia⟩]
def Qpx(kb:Kp hb h)(z:Pl hb m h q c)(hc:h[cp]?=some (.lst (ch.map iU)))(l5:c.length=5)(sm:∀x∈c,Qg x=true)(lW:1<=wor c ch)(lW2:wor c ch<=900000):Pc (tbG xx s) (n+3) 43 [.ref q,.ref cp] h λr h1=>∃p xs,r=.ref p/\h1[p]?=some (.lst xs)/\xs.length=(wor c ch).toNat:=by
 obtain⟨_,tm,o,p,y,g,e1,e2,so,ep,z1⟩:=z;have ka:Kp h (h++[O.lst []]):=kp1
 obtain⟨_,h2,e3,k3,rfl⟩:=JB (xx:=xx) (s:=s) (n:=n+1) (so.kp ka) (by lia) (by lia) (ka _ _ hc) sm
 have k13:=ka.trans k3;obtain⟨_,h4,e4,k4,p4,xs,rfl,ep4,l4⟩:=Qnp (xx:=xx) (s:=s) (n:=n) (cp:=cp) (k13 _ _ (kb _ _ ep)) (z1.kp (kb.trans k13)) lW lW2;have k34:=k3.trans k4;refine Zf (Qc fnL[43] rfl rfl) (QR (Qu (d:=98) rfl) (Z3 (L:=[.ref tm]) (λi ρ hs=>Kp h hs/\(i=0->hs=h++[.lst []])/\∃x,ρ=[sR q,sR cp,sR h.length,x]/\hs[h.length]?=some (.lst (if i=0 then []else xs))) (Qa rfl) (λi ρ hs z=>Qw (z.1 _ _ e1)) ⟨kp1,λw=>rfl,none,rfl,Qi⟩ (λi x hx ρ hs z'=>?_) λρ2 h2 z=>?_))
 ·obtain⟨kp,h0,x0,rfl,el⟩:=z'
  cases i with
  |succ i=>simp at hx
  |zero=>
   cases(show some (U.ref tm)=some x from hx);cases h0 rfl
   exact⟨_,_,_,rfl,Qs (Ym (d:=95) (k:=false) (h1:=h++[.lst []]) (Qi4 rfl (ka _ _ e2)) (by rw[if_neg Xh];exact Qs (QcJ (d:=91) rfl el (Qj (e_3 (Qk (Qa rfl) (Qo (j:=2) (ka _ _ e2) rfl)) (Qj (e_2 (Qk (Qa rfl) (Qo (j:=1) (ka _ _ e2) rfl)) (Qa rfl)) e3) (Qa rfl)) e4) (k34 _ _ el) ep4 (by simp;lia)))),Kp.put (kp.trans k34) (Xe _),(λz=>absurd z (Nat.succ_ne_zero _)),sR tm,rfl,QC (k34 _ _ el)⟩
 ·obtain⟨kp,_,x0,rfl,el⟩:=z;exact Qz (Za (Qa rfl) ⟨kp,_,xs,rfl,el,l4⟩)
end
theorem QbH{ch:List Int}:∀{k:Nat} {ds:List D} {b:Nat},OkD ch k ds->((wd ch k b ds).length:Int)=nd ch k ds
 |0,_,_,_=>rfl
 |k+1,ds,b,ok=>by
  show((wdA ch (wd ch k) (nrI k) b ds).length:Int)=(ds.map (ndI ch (nd ch k))).sum
  induction ds generalizing b with
  |nil=>rfl
  |cons d ds ih=>
   rw[wdA,Xv,X7,V3,Tj,ih _ λx hx=>ok x (Xk _ hx)]
   congr 1
   have od:=ok d Xo
   cases d with
   |row g=>rfl
   |blk c l=>
    obtain⟨o1,o2,o3,o4,o5⟩:=od;simp only[wdI,ndI,Zg,Vs];rw[QbH o5]
    congr 1
    lia
theorem QcM{ch:List Int}:∀{k:Nat} {ds:List D} {b:Nat} {m:Int},m∈wd ch k b ds->∃j:Nat,m=j/\b<=j/\j<b+(wr k ds).length
 |0,_,_,_,h=>nomatch h
 |k+1,ds,b,m,h=>by
  have h:m∈wdA ch (wd ch k) (nrI k) b ds:=h;rw[QcL]
  induction ds generalizing b with
  |nil=>cases h
  |cons d ds ih=>
   rw[wdA]at h;rw[X7,V3]
   rcases Uj.mp h with h|h
   ·cases d with
    |row g=>
     cases X5.mp h
     exact⟨b,rfl,Xe _,by show b<b+(1+_);lia⟩
    |blk c l=>
     simp only[wdI]at h;obtain⟨x,hx,hm⟩:=List.mem_flatten.mp h;rw[List.eq_of_mem_replicate hx]at hm;obtain⟨j,e,l1,l2⟩:=QcM hm
     exact⟨j,e,l1,by show j<b+((wr k l).length+_);lia⟩
   ·obtain⟨j,e,l1,l2⟩:=ih _ h h
    exact⟨j,e,by lia,by lia⟩
def Qlf{l:List D}:wk 3 0 (TH o l)=WN o l:=by
 show wkI (wk 2) 0 (.blk o l)++(wkI (wk 2) (0+nrI 2 (.blk o l)) (.row 0)++[])=_;rw[W4,Wv];rfl
section
variable {w:Nat}{l:List D}
theorem Pl.kp(kk:Kp h h1)(z:Pl hb m h q c):Pl hb m h1 q c:=by obtain⟨a,tm,o,p,y,g,e1,e2,so,r⟩:=z;exact⟨a,tm,o,p,y,g,kk _ _ e1,kk _ _ e2,so.kp kk,r⟩
theorem Pl.set{l:Nat}{x:O}(z:Pl hb m h q c)(lt:l<m)(tk:TK h (h.set l x)):Pl hb m (h.set l x) q c:=by obtain⟨a,tm,o,p,y,g,e1,e2,so,r⟩:=z;exact⟨a,tm,o,p,y,g,QK (by lia) e1,tk _ _ e2,so.tk tk,r⟩
def Pl.le(lt:m'<=m)(z:Pl hb m h q c):Pl hb m' h q c:=by obtain⟨a,r⟩:=z;exact⟨X2 lt a,r⟩
noncomputable def rS1:Iv.S:=.cal (.set 2 (.call 27 [(.var 0)])) 27 [(.var 0)]
def QiP{f:Nat}(z:Pt h pp t rd c o l)(hw:wm 3 (TH o l)<=300):(WN o l).length<=300:=by
 have:=Qa9 (b:=0) z.rp;rw[Qlf]at this;lia
def r_1(z:Pt h pp t rd c o l)(hw:wm 3 (TH o l)<=300):∃h1 st us,ex (tbG xx s) (Qd (tbG xx s) (n+11)) 99 rS1 [sR pp,sR cp,none,none,none,none,none] h=some (.next,[sR pp,sR cp,sR st,none,none,none,none],h1)/\Kp h h1/\h1[st]?=some (.lst us)/\Paired (Sp c h1) us (WN o l):=by
 have l1:=QiP (f:=0) z hw;unfold WN at l1;rw[Xv]at l1
 obtain⟨_,h1,e1,k1,st,us,rfl,es,sp⟩:=QfL (xx:=xx) (s:=s) (n:=n) z hw (by lia)
 exact⟨h1,st,us,QgK (Zy (Qj (d:=96) (e_1 (Qa rfl)) e1)),k1,es,sp⟩
def r_2(z:Pt h pp t rd c o l)(hc:h[cp]?=some (.lst (ch.map iU)))(sw:SmW ch 3 (TH o l)):∃h2,evT (tbG xx s) (Qd (tbG xx s) (n+11)) 97 (.cmp .Gt (.call 46 [(.fld (.var 0) 8),(.var 1)]) (.c (.int 300 0))) (sR pp::sR cp::ρ) h=some (decide (300<nd ch 3 (TH o l)),h2)/\Kp h h2:=by
 obtain⟨cu,ep,sc⟩:=z.ob;obtain⟨_,h2,e2,k2,rfl⟩:=Qom (xx:=xx) (s:=s) (n:=n+7) z.rp hc sw;exact⟨h2,Qf8 (Qj (e_2 (QX rfl ep rfl) (Qa rfl)) e2) y_c,k2⟩
noncomputable def rS6:List Iv.S:=[(.expr (.bm .append (.var 4) [(.ix (.var 6) (.c (.int 0 0)))])),(.expr (.bm .append (.var 5) [(.call 49 [(.ix (.var 3) (.ix (.var 6) (.c (.int 0 0)))),(.ix (.var 6) (.c (.int 3 0)))])]))]
noncomputable def rA(r:List Iv.S):List Iv.S:=(.set 3 (.call 28 [(.fld (.var 0) 8)]))::(.set 4 (.lst []))::(.set 5 (.lst []))::(.loop (.name 6) (.seq (.call 47 [(.fld (.var 0) 8),(.var 2),(.var 1)])) rS6)::r
def Go(T:Tbl)(cf:Cf)(d:Nat)(ss:List Iv.S)(ρ:Rho)(h:Hs)(d':Nat)(r:List Iv.S)(ρ':Rho)(h':Hs):Prop:=exs T cf d ss ρ h=exs T cf d' r ρ' h'/\exsX T cf d ss ρ h=exsX T cf d' r ρ' h'
def Go.of{st:Iv.S}(e:ex T cf d st ρ h=some (.next,ρ1,h1)):Go T cf (d+1) (st::r) ρ h d r ρ1 h1:=⟨QW e,QcH e⟩
theorem Go.trans{d1 d2:Nat}{a b e:List Iv.S}{ρ2:Rho}(x:Go T cf d a ρ h d1 b ρ1 h1)(y:Go T cf d1 b ρ1 h1 d2 e ρ2 h2):Go T cf d a ρ h d2 e ρ2 h2:=⟨x.1.trans y.1,x.2.trans y.2⟩
def Qnd(I:Nat->Rho->Hs->Prop)(v:ev T cf d e ρ h=some (u,h1))(hl:∀i ρ hs,I i ρ hs->QV T u hs=some L)(h0:I 0 ρ h1)
  (st:∀i x,L[i]?=some x->∀ρ hs,I i ρ hs->∃ρ' ρ2 h2,tgt tg (.one x) ρ hs=some ρ'/\exs T cf d body ρ' hs=some (.next,ρ2,h2)/\I (i+1) ρ2 h2):∃ρ2 h2,ex T cf (d+1) (.loop tg (.seq e) body) ρ h=some (.next,ρ2,h2)/\I L.length ρ2 h2:=by
 have s:=hl _ _ _ h0
 obtain⟨ρ2,h2,a,b⟩:=QhL (T:=T) (w:=.seqL u) (t:=tg) (body:=exs T cf d body) I (n:=L.length) (λi hi ρ hs z=>by
  obtain⟨ρ',ρ2,h2,a,b,c⟩:=st i _ (Xj hi) ρ hs z
  exact⟨_,ρ',ρ2,h2,by simp only[itm,hl _ _ _ z,Option.map,Xj hi],a,b,c⟩) (λρ hs z=>by simp only[itm,hl _ _ _ z,Option.map,Wl (Xe _)]) L.length 0 _ ρ h1 (Wv _).symm (show L.length<Q6 T (.seqL u) h1 by simp only[Q6,s,W8];lia) h0
 exact⟨ρ2,h2,QfY (w:=.seqL u) (by simp only[Zn,v,Qx,wkS,s];rfl) a,b⟩
def r_3(kb:Kp hb h)(z:Pt hb pp t rd c o l)(hc:hb[cp]?=some (.lst (ch.map iU)))(hs:h[st]?=some (.lst us))(sp:Paired (Sp c h) us (WN o l))(lu:us.length<=300)(ok:OkD ch 3 (TH o l))(hn:nd ch 3 (TH o l)<=300):
  ∃h1 rp np wp vs ws x,Go (tbG xx s) (Qd (tbG xx s) (n+11)) 98 (rA r) [sR pp,sR cp,sR st,none,none,none,none] h 94 r [sR pp,sR cp,sR st,sR rp,sR np,sR wp,x] h1/\Kp h h1/\h1[rp]?=some (.lst vs)/\Paired (Row hb) vs (wr 3 (TH o l))/\h1[np]?=some (.lst ((wd ch 3 0 (TH o l)).map iU))/\h1[wp]?=some (.lst ws)/\Paired (λu (_:Int)=>∃q,u=.ref q/\Pl hb 0 h1 q c) ws (wd ch 3 0 (TH o l)):=by
 have lN:((wd ch 3 0 (TH o l)).length:Int)=nd ch 3 (TH o l):=QbH ok
 have lr:(wr 3 (TH o l)).length<=900000:=by rw[QgL];have:=z.ln;simp;lia
 obtain⟨cu,ep,sc⟩:=z.ob;obtain⟨_,h3,e3,k3,rp,vs,rfl,l3,er,pv⟩:=Qno (xx:=xx) (s:=s) (n:=n+8) kb z.rp lr;have ka:Kp h3 (h3++[O.lst []]):=kp1;have kab:Kp h3 (h3++[O.lst []]++[O.lst []]):=kp1.trans kp1;have k5:=k3.trans kab;have kb5:=kb.trans k5;obtain⟨h5,eh5⟩:∃h5,h5=h3++[O.lst []]++[O.lst []]:=⟨_,rfl⟩
 have ln5:h5.length=h3.length+2:=by rw[eh5];simp
 have n5:h5[h3.length]?=some (.lst []):=by rw[eh5];exact Qt Qi
 have w5:h5[h3.length+1]?=some (.lst []):=by rw[eh5,show h3.length+1=(h3++[O.lst []]).length by simp];exact Qi
 rw[<-eh5]at k5 kb5 kab
 obtain⟨_,h6,e6,k6,p6,vs6,rfl,l6,ep6,s6⟩:=Qok (xx:=xx) (s:=s) (n:=n+3) (k:=3) (b:=0) ok (z.kp kb5).rp (kb5 _ _ hc) (k5 _ _ hs) (Qlf▸Sps.tk k5.tk sp) (by lia) (by lia)
 obtain⟨N,eN⟩:∃N,N=wd ch 3 0 (TH o l):=⟨_,rfl⟩;rw[<-eN]at s6 lN ⊢;have k36:=kab.trans k6;have lrp:=YY er;have l36:=k6.len
 obtain⟨ρ2,h7,e7,kw,k7,x7,ws,rfl,en7,ew7,pl7⟩:=Qnd (T:=tbG xx s) (cf:=Qd (tbG xx s) (n+11)) (d:=93) (ρ:=[sR pp,sR cp,sR st,sR rp,sR h3.length,some (.ref (h3.length+1)),none]) (h:=h5) (e:=.call 47 [(.fld (.var 0) 8),(.var 2),(.var 1)]) (tg:=.name 6) (body:=rS6) (L:=vs6) (λi ρ hs=>Kw h3.length (h3.length+1) h6 hs/\Kp h3 hs/\∃x ws,ρ=[sR pp,sR cp,sR st,sR rp,sR h3.length,some (.ref (h3.length+1)),x]/\hs[h3.length]?=some (.lst ((N.take i).map iU))/\hs[h3.length+1]?=some (.lst ws)/\Paired (λu (_:Int)=>∃q,u=.ref q/\Pl hb (h3.length+2) hs q c) ws (N.take i))
  (Qj (d:=92) (e_3 (QX rfl (kb5 _ _ ep) rfl) (Qa rfl) (Qa rfl)) e6) (λi ρ hs z=>Qw (z.1 _ _ (by lia) (by lia) ep6)) ⟨Kw.of (Kp.refl _),k36,none,[],rfl,k6 _ _ n5,k6 _ _ w5,.nil⟩ (λi x hx ρ hs z'=>by
   obtain⟨kw,k3h,x0,ws,rfl,en,ew,pl⟩:=z';obtain⟨m,hm,j,x1,y1,oo,rfl,ej,so⟩:=Zb s6 hx
   have nj1:j≠h3.length:=QeB ej (k6 _ _ n5) (λz=>by cases z)
   have nj2:j≠h3.length+1:=QeB ej (k6 _ _ w5) (λz=>by cases z)
   have ej':=kw _ _ nj1 nj2 ej
   have t6:TK h6 hs:=λp us e=>kw _ _ (QeB e (k6 _ _ n5) (λz=>by cases z)) (QeB e (k6 _ _ w5) (λz=>by cases z)) e
   have mm:m∈wd ch 3 0 (TH o l):=eN▸X0 hm;obtain⟨mj,rfl,_,lmj⟩:=QcM mm
   have lmv:mj<vs.length:=by rw[Qq pv];lia
   obtain⟨g,hg,zg⟩:=Zb pv (Xj lmv);have hlN:=(Xf.mp hm).1
   obtain⟨hs1,q1⟩:∃hs1,hs1=hs.set h3.length (.lst ((N.take i).map iU++[iU (mj:Int)])):=⟨_,rfl⟩
   have t1:TK hs hs1:=q1▸TK.set en (λy z=>by cases z)
   have en1:hs1[h3.length]?=some (.lst ((N.take i).map iU++[iU (mj:Int)])):=q1▸QC en
   have ew1:hs1[h3.length+1]?=some (.lst ws):=q1▸QK (by lia) ew
   have k31:Kp h3 hs1:=q1▸Kp.put k3h (Xe _);have kb1:Kp hb hs1:=(kb.trans k3).trans k31
   have pl1:Paired (λu (_:Int)=>∃q,u=.ref q/\Pl hb (h3.length+2) hs1 q c) ws (N.take i):=QD (λy y w=>by obtain⟨q,a,b⟩:=w;exact⟨q,a,q1▸b.set (by lia) (q1▸t1)⟩) pl
   obtain⟨_,hs2,e2,k2,q2,rfl,z2⟩:=Qib (xx:=xx) (s:=s) (n:=n+10) kb1 zg ((so.tk t6).tk t1)
   have ll1:h3.length+2<=hs1.length:=by
    rw[q1,List.length_set];have:=YY ew;lia
   have tk2:TK hs2 (hs2.set (h3.length+1) (.lst (ws++[.ref q2]))):=TK.set (k2 _ _ ew1) (λy z=>by cases z)
   have lws:=Qq pl
   refine⟨_,_,hs2.set (h3.length+1) (.lst (ws++[.ref q2])),rfl,(QW (d:=92) (h1:=hs1) ?_).trans (Qs (d:=90) (QcK (d:=89) (Qa rfl) ew1 (Qj (e_2 (QeA (Qa rfl) (Qk (Qa rfl) (Qo (j:=0) (t1 _ _ ej') rfl)) (JS (j:=mj) (k31 _ _ er) (Xj lmv))) (Qk (Qa rfl) (Qo (j:=3) (t1 _ _ ej') rfl))) e2) (k2 _ _ ew1) (by rw[lws,Vn];lia))),?_,Kp.put (k31.trans k2) (by lia),sR j,_,rfl,?_,QC (k2 _ _ ew1),?_⟩
   ·rw[q1]
    exact QcK (d:=90) (Qa rfl) en (Qk (Qa rfl) (Qo (j:=0) ej' rfl)) en (by rw[X6,Vn];lia)
   ·refine Kw.ps (Kw.trans ?_ (Kw.of k2));rw[q1];exact Kw.pw kw
   ·rw[Wm,hm,V5]
    exact QK (by lia) (k2 _ _ en1)
   ·rw[Wm,hm]
    exact Yc ⟨q2,rfl,(z2.le ll1).set (by lia) tk2⟩ (QD (λy y v=>by obtain⟨q,a,b⟩:=v;exact⟨q,a,(b.kp k2).set (by lia) tk2⟩) pl1))
 have lv6:=Qq s6;rw[lv6,Wf (Xe _)]at en7 pl7;refine⟨h7,rp,h3.length,h3.length+1,vs,ws,x7,?_,k3.trans k7,k7 _ _ er,pv,en7,ew7,QD (λy y f=>by obtain⟨q,a,b⟩:=f;exact⟨q,a,b.le (Wq _)⟩) pl7⟩;refine(Go.of (Zy (Qj (d:=95) (e_1 (QX rfl (kb _ _ ep) rfl)) e3))).trans ((Go.of (Zy (d:=95) (h1:=h3++[.lst []]) rfl)).trans ((Go.of (Zy (d:=94) (u:=.ref (h3.length+1)) (h1:=h5) ?_)).trans (Go.of e7)))
 rw[eh5,show h3.length+1=(h3++[O.lst []]).length by simp]
 rfl
end
section
variable {rp np wp:Nat}{ws:List U}{l:List D}{x:Option U}
theorem Qja{S:Int}:∀{ws:List U},(ws.map λz=>S).sum=(ws.length:Int)*S
 |[]=>by simp
 |_::ws=>by
  rw[X7,V3,Qja (ws:=ws),Ve,Tj,Int.add_mul];simp;lia
noncomputable def rT:E:=.cmp .Gt (.bi .sum [(.comp (.seq (.var 5)) false none (.call 45 [(.var 7),(.var 1)]))]) (.c (.int 3000 0))
def r_4(kb:Kp hb h)(hc:hb[cp]?=some (.lst (ch.map iU)))(l5:c.length=5)(sm:∀x∈c,Qg x=true)(ew:h[wp]?=some (.lst ws))(pl:Paired (λu (_:Int)=>∃q,u=.ref q/\Pl hb 0 h q c) ws N)(lN:N.length<=300):
  ∃h2,evT (tbG xx s) (Qd (tbG xx s) (n+11)) 92 rT [sR pp,sR cp,sR st,sR rp,sR np,sR wp,x] h=some (decide (3000<(N.length:Int)*wor c ch),h2)/\Kp h h2:=by
 have lw:=Qq pl
 obtain⟨vs',h3,e3,kp,pp'⟩:=JC (T:=tbG xx s) (cf:=Qd (tbG xx s) (n+11)) (d:=88) (ρ:=[sR pp,sR cp,sR st,sR rp,sR np,sR wp,x]) (e:=.var 5) (el:=.call 45 [(.var 7),(.var 1)]) (L:=ws) (λw r w=>r=iU (wor c ch)) (λw w w w k z=>z) (Qa rfl) (.inl (Qw ew)) (by lia) (λy hy hs kp=>by
  obtain⟨i,hi,ei⟩:=List.mem_iff_getElem.mp hy
  obtain⟨m,hm,q,rfl,zq⟩:=Zb pl (show ws[i]?=some y by rw[Xj hi,ei])
  obtain⟨_,h4,e4,k4,rfl⟩:=Qh9 (xx:=xx) (s:=s) (n:=n+9) (kb.trans kp) (zq.kp kp) (kp _ _ (kb _ _ hc)) l5 sm
  exact⟨_,h4,Qj (e_2 (Qa rfl) (Qa rfl)) e4,k4,rfl⟩)
 have pe:=Qbv (g:=λw=>iU (wor c ch)) pp'
 refine⟨h3++[.lst vs'],(Qf8 (d:=90) (Qay e3 (Qgz (l:=ws.map λw=>wor c ch) (by rw[Qi,pe,List.map_map];rfl))) y_c).trans ?_,kp.trans kp1⟩
 rw[Qja,lw]
def r_5(kb:Kp hb h)(hc:hb[cp]?=some (.lst (ch.map iU)))(l5:c.length=5)(sm:∀x∈c,Qg x=true)(er:h[rp]?=some (.lst vs)){gs:List Int}(pv:Paired (Row hb) vs gs)(en:h[np]?=some (.lst (N.map iU)))(ew:h[wp]?=some (.lst ws))(pl:Paired (λu (_:Int)=>∃q,u=.ref q/\Pl hb 0 h q c) ws N)(lN:N.length<=300)(lm:∀m∈N,∃j:Nat,m=j/\j<gs.length)(lW:1<=wor c ch)(lW2:wor c ch<=900000):
  ∃h2 us,ev (tbG xx s) (Qd (tbG xx s) (n+11)) 91 (.comp (.zip (.var 4) (.var 5)) true none (.tup [(.var 7),(.call 43 [(.var 8),(.var 1)]),(.ix (.ix (.var 3) (.var 7)) (.c (.int 2 0)))])) [sR pp,sR cp,sR st,sR rp,sR np,sR wp,x] h=some (.ref h2.length,h2++[.lst us])/\Kp h h2/\us.length=N.length/\∀(j:Nat) m,N[j]?=some m->∃i x xs,us[j]?=sR i/\h2[i]?=some (.tup [iU m,.ref x,.bl false])/\h2[x]?=some (.lst xs)/\xs.length=(wor c ch).toNat:=by
 have lw:=Qq pl
 obtain⟨us,h3,e3,kp,pu⟩:=Qh4 (T:=tbG xx s) (cf:=Qd (tbG xx s) (n+11)) (d:=90) (ρ:=[sR pp,sR cp,sR st,sR rp,sR np,sR wp,x]) (a:=.var 4) (b:=.var 5) (el:=.tup [(.var 7),(.call 43 [(.var 8),(.var 1)]),(.ix (.ix (.var 3) (.var 7)) (.c (.int 2 0)))]) (xs:=N.map iU) (ys:=ws) (λp r h=>∃i x xs,r=.ref i/\h[i]?=some (.tup [p.1,.ref x,.bl false])/\h[x]?=some (.lst xs)/\xs.length=(wor c ch).toNat) (λz z z z k w=>by obtain⟨i,x,xs,a,b,c,d⟩:=w;exact⟨i,x,xs,a,k _ _ b,k _ _ c,d⟩) (Qa rfl) (Qa rfl) (.inl (Qw en)) (.inl (Qw ew)) (by rw[X6];lia) (λy hy hs kp=>by
  obtain⟨m1,m2⟩:=QfT hy;obtain⟨y1,y2⟩:=y;obtain⟨m,hm,rfl⟩:=List.mem_map.mp m1;obtain⟨i,hi,ei⟩:=List.mem_iff_getElem.mp m2
  obtain⟨_,_,q,rfl,zq⟩:=Zb pl (show ws[i]?=some y2 by rw[Xj hi,ei])
  obtain⟨j,rfl,lj⟩:=lm m hm
  have ljv:j<vs.length:=by rw[Qq pv];exact lj
  obtain⟨g,_,ri,a,b,p',y',erow,er2,_⟩:=Zb pv (Xj ljv);obtain⟨_,h4,e4,k4,p4,xs,rfl,ep4,l4⟩:=Qpx (xx:=xx) (s:=s) (n:=n+8) (kb.trans kp) (zq.kp kp) (kp _ _ (kb _ _ hc)) l5 sm lW lW2;have kq:=(kb.trans kp).trans k4
  exact⟨_,_,Qbe (Qa rfl) (Qj (e_2 (Qa rfl) (Qa rfl)) e4) (Qk (QeA (Qa rfl) (Qa rfl) (JS (j:=j) (k4 _ _ (kp _ _ er)) ((Xj ljv).trans (congrArg some erow)))) (Qo (j:=2) (kq _ _ er2) rfl)),k4.trans kp1,_,_,xs,rfl,Qi,Qt ep4,l4⟩)
 have lu:us.length=N.length:=by rw[Qq pu,Up,X6,lw,Nat.min_self]
 refine⟨h3,us,e3,kp,lu,λj m hj=>?_⟩;have lj:=(Xf.mp hj).1
 obtain⟨r,hr,i,x,xs,rfl,a,b,c⟩:=Qhj pu (i:=j) (b:=(iU m,ws[j]'(by lia))) (List.getElem?_zip_eq_some.mpr ⟨by rw[Wt,hj];rfl,Xj (by lia)⟩)
 exact⟨i,x,xs,hr,a,b,c⟩
noncomputable def Qnz:List Iv.S:=rS1::(.ite (.cmp .Gt (.call 46 [(.fld (.var 0) 8),(.var 1)]) (.c (.int 300 0))) [(.rse 8 [])] [])::rA [(.ite rT [(.rse 8 [])] []),(.ret (.comp (.zip (.var 4) (.var 5)) true none (.tup [(.var 7),(.call 43 [(.var 8),(.var 1)]),(.ix (.ix (.var 3) (.var 7)) (.c (.int 2 0)))])))]
structure Hy(h:Hs)(pp t cp:Nat)(rd:Bool)(c o ch:List Int)(l:List D):Prop where
 z:Pt h pp t rd c o l
 hc:h[cp]?=some (.lst (ch.map iU))
 sm:∀x∈c,Qg x=true
 sw:SmW ch 3 (TH o l)
 ok:nd ch 3 (TH o l)<=300->OkD ch 3 (TH o l)
 le:wm 3 (TH o l)<=nd ch 3 (TH o l)
 W1:1<=wor c ch
theorem Hy.kp(q:Kp h h1)(z:Hy h pp t cp rd c o ch l):Hy h1 pp t cp rd c o ch l:=⟨z.z.kp q,q _ _ z.hc,z.sm,z.sw,z.ok,z.le,z.W1⟩
def Qjx(y:Hy h pp t cp rd c o ch l)(hn:nd ch 3 (TH o l)<=300):∃h4 st rp np wp vs ws x,Go (tbG xx s) (Qd (tbG xx s) (n+11)) 100 Qnz [sR pp,sR cp,none,none,none,none,none] h 94 [(.ite rT [(.rse 8 [])] []),(.ret (.comp (.zip (.var 4) (.var 5)) true none (.tup [(.var 7),(.call 43 [(.var 8),(.var 1)]),(.ix (.ix (.var 3) (.var 7)) (.c (.int 2 0)))])))] [sR pp,sR cp,sR st,sR rp,sR np,sR wp,x] h4/\Kp h h4/\h4[rp]?=some (.lst vs)/\Paired (Row h) vs (wr 3 (TH o l))/\h4[np]?=some (.lst ((wd ch 3 0 (TH o l)).map iU))/\h4[wp]?=some (.lst ws)/\Paired (λu (_:Int)=>∃q,u=.ref q/\Pl h 0 h4 q c) ws (wd ch 3 0 (TH o l)):=by
 have hw:=Int.le_trans y.le hn;obtain⟨h1,st,us,e1,k1,es,sp⟩:=r_1 (xx:=xx) (s:=s) (n:=n) (cp:=cp) y.z hw;obtain⟨h2,e2,k2⟩:=r_2 (xx:=xx) (s:=s) (n:=n) (ρ:=[sR st,none,none,none,none]) (y.z.kp k1) (k1 _ _ y.hc) y.sw
 rw[Xy (by lia)]at e2
 have k12:=k1.trans k2
 obtain⟨h4,rp,np,wp,vs,ws,x,g,k4,er,pv,en,ew,pl⟩:=r_3 (xx:=xx) (s:=s) (n:=n) (r:=[(.ite rT [(.rse 8 [])] []),(.ret (.comp (.zip (.var 4) (.var 5)) true none (.tup [(.var 7),(.call 43 [(.var 8),(.var 1)]),(.ix (.ix (.var 3) (.var 7)) (.c (.int 2 0)))])))]) k12 y.z y.hc (k2 _ _ es) (Sps.tk k2.tk sp) (by rw[Qq sp];exact QiP (f:=0) y.z hw) (y.ok hn) hn
 exact⟨h4,st,rp,np,wp,vs,ws,x,(Go.of e1).trans ((Go.of (QeF e2 rfl)).trans g),k12.trans k4,er,pv,en,ew,pl⟩
def Qk0(y:Hy h pp t cp rd c o ch l)(hn:nd ch 3 (TH o l)<=300)(hs:nd ch 3 (TH o l)*wor c ch<=3000):Cc (tbG xx s) (n+12) 42 [.ref pp,.ref cp] h λr h1=>Kp h h1/\∃q us,r=.ref q/\h1[q]?=some (.lst us)/\(us.length:Int)=nd ch 3 (TH o l)/\∀(j:Nat) m,(wd ch 3 0 (TH o l))[j]?=some m->∃i x xs,us[j]?=sR i/\h1[i]?=some (.tup [iU m,.ref x,.bl false])/\h1[x]?=some (.lst xs)/\(xs.length:Int)=wor c ch:=by
 have ln:=QbH (b:=0) (y.ok hn);have lc:=y.z.lc;obtain⟨h4,st,rp,np,wp,vs,ws,x,g,k4,er,pv,en,ew,pl⟩:=Qjx (xx:=xx) (s:=s) (n:=n) y hn
 obtain⟨h5,e5,k5⟩:=r_4 (xx:=xx) (s:=s) (n:=n) (pp:=pp) (st:=st) (rp:=rp) (np:=np) (x:=x) k4 y.hc lc y.sm ew pl (by lia)
 rw[ln,Xy (by lia)]at e5
 have W1:=y.W1
 have nd1:1<=nd ch 3 (TH o l):=by
  have:(wd ch 3 0 (TH o l)).length≥1:=by
   show(wdI ch (wd ch 2) 0 (.blk o l)++(wdI ch (wd ch 2) (0+nrI 2 (.blk o l)) (.row 0)++[])).length≥1;rw[Xv,Xv];show _+(1+_)≥1;lia
  lia
 have W2:wor c ch<=900000:=by
  have:1*wor c ch<=nd ch 3 (TH o l)*wor c ch:=V6 nd1 (by lia)
  lia
 obtain⟨h6,us,e6,k6,lu,f6⟩:=r_5 (xx:=xx) (s:=s) (n:=n) (pp:=pp) (st:=st) (x:=x) (k4.trans k5) y.hc lc y.sm (k5 _ _ er) pv (k5 _ _ en) (k5 _ _ ew) (QD (λw w v=>by obtain⟨q,a,b⟩:=v;exact⟨q,a,b.kp k5⟩) pl) (by lia) (λm hm=>by
  obtain⟨j,e,_,l⟩:=QcM hm
  exact⟨j,e,by lia⟩) y.W1 W2
 refine Zf (Qc fnL[42] rfl rfl) (QR (g.1.trans (Qab (d:=91) e5 rfl)) (Qz (d:=91) (Za e6 ⟨(((k4.trans k5).trans k6).trans kp1),_,us,rfl,Qi,by lia,λj m hj=>?_⟩)))
 obtain⟨i,x',xs,a,b,c',d'⟩:=f6 j m hj
 exact⟨i,x',xs,a,Qt b,Qt c',by lia⟩
end
section
variable {l:List D}{zz yy:Nat->List U->Hs->Option (Er×Hs)}
def Qdz{t:E}(e:evT (tbG xx s) cf (d+3) t ρ h=some (true,h1)):exs (tbG xx s) cf (d+5) (.ite t [.rse 8 []] []::r) ρ h=none:=by
 rw[Zd,Qar,e,Qx];rfl
def QfX{st:Iv.S}(e:ex T cf d st ρ h=none):exs T cf (d+1) (st::r) ρ h=none:=by rw[Zd,e]
def Qkh(ea:evs (ev T cf d) ρ es h=some (us,h1))(e:cf f us h1=none):ex T cf (d+3) (.cal (.set i (.call f es)) f es) ρ h=none:=by
 refine QgK ?_;rw[QgD,QcI,ea,Qx,e];rfl
def Qa7(hxx:xx=Q4 (tbG zz s) 14)(y:Hy h pp t cp rd c o ch l)(bad:300<nd ch 3 (TH o l)\/3000<nd ch 3 (TH o l)*wor c ch):∃h1,Q4 (tbG xx s) (n+13) 42 [.ref pp,.ref cp] h=some ((8,.non),h1)/\Kp h h1/\Qd (tbG xx s) (n+13) 42 [.ref pp,.ref cp] h=none:=by
 rw[Qc fnL[42] rfl rfl,Qas fnL[42] rfl rfl];show ∃h1,exsX (tbG xx s) (Qd (tbG xx s) (n+12)) 100 Qnz [sR pp,sR cp,none,none,none,none,none] h=_/\_/\fin (exs (tbG xx s) (Qd (tbG xx s) (n+12)) 100 Qnz [sR pp,sR cp,none,none,none,none,none] h)=none;by_cases hw:300<wm 3 (TH o l)
 ·obtain⟨h1,e1,_,k1⟩:=Qa6 (xx:=zz) (s:=s) (n:=3) y.z hw;obtain⟨_,_,e2,_⟩:=Qa6 (xx:=xx) (s:=s) (n:=n+1) y.z hw;have e3:ex (tbG xx s) (Qd (tbG xx s) (n+12)) 99 rS1 [sR pp,sR cp,none,none,none,none,none] h=none:=Qkh (d:=96) (e_1 (Qa rfl)) e2;refine⟨h1,?_,k1,congrArg fin (QfX e3)⟩;refine(QcG e3).trans ?_;show(if true=true then(tbG xx s).xf 27 [.ref pp] h else none)=_;rw[if_pos rfl];show xx 27 [.ref pp] h=_;rw[hxx];exact e1
 ·by_cases hn:300<nd ch 3 (TH o l)
  ·obtain⟨h1,st,us,e1,k1,es,sp⟩:=r_1 (xx:=xx) (s:=s) (n:=n+1) (cp:=cp) y.z (by lia)
   obtain⟨h2,e2,k2⟩:=r_2 (xx:=xx) (s:=s) (n:=n+1) (ρ:=[sR st,none,none,none,none]) (y.z.kp k1) (k1 _ _ y.hc) y.sw;rw[X9 hn]at e2;exact⟨h2,(QcH e1).trans (Qaq (d:=94) e2),k1.trans k2,congrArg fin ((QW e1).trans (Qdz (d:=94) e2))⟩
  ·have hs:3000<nd ch 3 (TH o l)*wor c ch:=bad.elim (λz=>absurd z hn) id
   have ln:=QbH (b:=0) (y.ok (by lia))
   obtain⟨h4,st,rp,np,wp,vs,ws,x,g,k4,er,pv,en,ew,pl⟩:=Qjx (xx:=xx) (s:=s) (n:=n+1) y (by lia)
   obtain⟨h5,e5,k5⟩:=r_4 (xx:=xx) (s:=s) (n:=n+1) (pp:=pp) (st:=st) (rp:=rp) (np:=np) (x:=x) k4 y.hc y.z.lc y.sm ew pl (by lia)
   rw[ln,X9 hs]at e5;exact⟨h5,g.2.trans (Qaq (d:=89) e5),k4.trans k5,congrArg fin (g.1.trans (Qdz (d:=89) e5))⟩
def QfZ(hxx:xx=Q4 (tbG zz s) 14)(hzz:zz=Q4 (tbG yy s) 14)(y:Hy h pp t cp rd c o ch l)(bad:300<nd ch 3 (TH o l)\/3000<nd ch 3 (TH o l)*wor c ch):∃h1,Q4 (tbG xx s) (n+14) 50 [.ref pp,.ref cp] h=some ((8,.non),h1)/\Kp h h1/\Qd (tbG xx s) (n+14) 50 [.ref pp,.ref cp] h=none:=by
 obtain⟨h1,e1,k1,_⟩:=Qa7 (xx:=zz) (n:=1) hzz y bad;obtain⟨_,_,_,e2⟩:=Qa7 (xx:=xx) (n:=n) hxx y bad;have e3:ex (tbG xx s) (Qd (tbG xx s) (n+13)) 99 (.cal (.set 2 (.call 42 [(.var 0),(.var 1)])) 42 [(.var 0),(.var 1)]) [sR pp,sR cp,none,none,none,none,none] h=none:=Qkh (d:=96) (e_2 (Qa rfl) (Qa rfl)) e2;rw[Qc fnL[50] rfl rfl,Qas fnL[50] rfl rfl];refine⟨h1,?_,k1,congrArg fin (QfX e3)⟩;refine(QcG e3).trans ?_;show(if true=true then(tbG xx s).xf 42 [.ref pp,.ref cp] h else none)=_;rw[if_pos rfl];show xx 42 [.ref pp,.ref cp] h=_;rw[hxx];exact e1
end
section
variable {l:List D}
def QfE(hu:(∃x,u=.str x)\/(∃b,u=.bl b)\/∃x,u=iU x):Qd (tbG xx s) (n+1) 52 [u] h=some (u,h):=by
 rw[Qc fnL[52] rfl rfl]
 rcases hu with⟨x,rfl⟩|⟨b,rfl⟩|⟨x,rfl⟩<;>rfl
def Qni(z:St h v g):Qd (tbG xx s) (n+1) 52 [v] h=some (v,h):=by
 rw[Qc fnL[52] rfl rfl]
 obtain⟨q,rfl,⟨e,_⟩|⟨e,_⟩⟩:=z
 ·have i1:Zx (tbG xx s) .list (.ref q) h=some false:=by simp only[Zx,Zt,e];rfl
  have i2:Zx (tbG xx s) .tuple (.ref q) h=some false:=by simp only[Zx,Zt,e];rfl
  exact(congrArg fin ((Qab (d:=97) (c:=false) (JJ rfl (by rw[YT,Qa rfl,Qx,i1];rfl)) rfl).trans (Qab (d:=96) (c:=false) (JJ rfl (by rw[YT,Qa rfl,Qx,i2];rfl)) rfl))).trans (Qat (Qa rfl))
 ·have i1:Zx (tbG xx s) .list (.ref q) h=some false:=by simp only[Zx,Zt,e];rfl
  have i2:Zx (tbG xx s) .tuple (.ref q) h=some false:=by simp only[Zx,Zt,e];rfl
  exact(congrArg fin ((Qab (d:=97) (c:=false) (JJ rfl (by rw[YT,Qa rfl,Qx,i1];rfl)) rfl).trans (Qab (d:=96) (c:=false) (JJ rfl (by rw[YT,Qa rfl,Qx,i2];rfl)) rfl))).trans (Qat (Qa rfl))
def Qgq(F:U->U->Hs->Prop)(mono:∀a u h h',Kp h h'->F a u h->F a u h')(e:h[i]?=some (.lst us))(lu:us.length<=1000)(st:∀x∈us,∀hs,Kp h hs->Pc (tbG xx s) n 52 [x] hs λr h1=>F x r h1):Pc (tbG xx s) (n+1) 52 [.ref i] h λr h1=>∃j ws,r=.ref j/\h1[j]?=some (.lst ws)/\Paired (λw x=>F x w h1) ws us:=by
 have i1:Zx (tbG xx s) .list (.ref i) h=some true:=by simp only[Zx,Zt,e];rfl
 obtain⟨vs,h3,e3,kp,pp⟩:=JC (T:=tbG xx s) (cf:=Qd (tbG xx s) n) (d:=95) (ρ:=[sR i]) (e:=.var 0) (el:=.call 52 [(.var 1)]) F mono (Qa rfl) (.inl (Qw e)) (by lia) (λx hx hs kp=>by
  obtain⟨r,h4,e4,k4,q4⟩:=st x hx hs kp
  exact⟨r,h4,Qj (e_1 (Qa rfl)) e4,k4,q4⟩)
 exact Zf (Qc fnL[52] rfl rfl) (Qbq (d:=98) (c:=true) (JJ rfl (by rw[YT,Qa rfl,Qx,i1];rfl)) (Qz (Za e3 ⟨kp.trans kp1,_,vs,rfl,Qi,QD (λz z=>mono _ _ _ _ kp1) pp⟩)))
def QbV(F:U->U->Hs->Prop)(mono:∀a u h h',Kp h h'->F a u h->F a u h')(e:h[i]?=some (.tup us))(lu:us.length<=1000)(st:∀x∈us,∀hs,Kp h hs->Pc (tbG xx s) n 52 [x] hs λr h1=>F x r h1):Pc (tbG xx s) (n+1) 52 [.ref i] h λr h1=>∃j ws,r=.ref j/\h1[j]?=some (.tup ws)/\Paired (λw x=>F x w h1) ws us:=by
 have i1:Zx (tbG xx s) .list (.ref i) h=some false:=by simp only[Zx,Zt,e];rfl
 have i2:Zx (tbG xx s) .tuple (.ref i) h=some true:=by simp only[Zx,Zt,e];rfl
 obtain⟨vs,h3,e3,kp,pp⟩:=JC (T:=tbG xx s) (cf:=Qd (tbG xx s) n) (d:=93) (ρ:=[sR i]) (e:=.var 0) (el:=.call 52 [(.var 1)]) F mono (Qa rfl) (.inr (ZU e)) (by lia) (λx hx hs kp=>by
  obtain⟨r,h4,e4,k4,q4⟩:=st x hx hs kp
  exact⟨r,h4,Qj (e_1 (Qa rfl)) e4,k4,q4⟩)
 exact Zf (Qc fnL[52] rfl rfl) (QR (Qab (d:=97) (c:=false) (JJ rfl (by rw[YT,Qa rfl,Qx,i1];rfl)) rfl) (Qbq (d:=97) (c:=true) (JJ rfl (by rw[YT,Qa rfl,Qx,i2];rfl)) (Qz (Za (JO e3) ⟨YB kp,_,vs,rfl,Qi,QD (λz z=>mono _ _ _ _ (kp1.trans kp1)) pp⟩))))
def Qc3{us ws:List U}(p:Paired (λw x=>w=x) ws us):ws=us:=by
 have:=Qbv (g:=id) p;rw[this,List.map_id]
def QkM(z:Sr h u c)(lc:c.length<=1000):Pc (tbG xx s) (n+2) 52 [u] h λr h1=>Sr h1 r c:=by
 obtain⟨i,rfl,e⟩:=z
 obtain⟨_,h1,e1,k1,j,ws,rfl,ej,pw⟩:=QbV (xx:=xx) (s:=s) (n:=n+1) (λx r w=>r=x) (λw w w w w z=>z) e (by rw[X6];exact lc) (λx hx hs kp=>by
  obtain⟨y,_,rfl⟩:=List.mem_map.mp hx
  exact⟨_,hs,QfE (.inr (.inr ⟨_,rfl⟩)),Kp.refl _,rfl⟩)
 exact⟨_,h1,e1,k1,j,rfl,by rw[ej,Qc3 pw]⟩
def QkO(z:One h y g):Pc (tbG xx s) (n+2) 52 [y] h λr h1=>One h1 r g:=by
 obtain⟨i,v,rfl,e,sv⟩:=z
 obtain⟨_,h1,e1,k1,j,ws,rfl,ej,pw⟩:=QbV (xx:=xx) (s:=s) (n:=n+1) (λx r w=>r=x) (λw w w w w z=>z) e (by show 2<=1000;decide) (λx hx hs kp=>by
  rcases Xm.mp hx with rfl|hx
  ·exact⟨_,hs,QfE (.inl ⟨_,rfl⟩),Kp.refl _,rfl⟩
  ·cases X5.mp hx
   exact⟨_,hs,Qni (sv.kp kp),Kp.refl _,rfl⟩)
 exact⟨_,h1,e1,k1,j,v,rfl,by rw[ej,Qc3 pw],sv.kp k1⟩
def QfF(e:h[p]?=some (.lst [y]))(z:One h y g):Pc (tbG xx s) (n+3) 52 [.ref p] h λr h1=>∃q y',r=.ref q/\h1[q]?=some (.lst [y'])/\One h1 y' g:=by
 obtain⟨_,h1,e1,k1,j,ws,rfl,ej,pw⟩:=Qgq (xx:=xx) (s:=s) (n:=n+2) (λw r h=>One h r g) (λw w w w k z=>z.kp k) e (by show 1<=1000;decide) (λx hx hs kp=>by
  cases X5.mp hx
  exact QkO (z.kp kp))
 cases pw with
 |cons a b=>
  cases b;exact⟨_,h1,e1,k1,j,_,rfl,ej,a⟩
def QkP(e:h[p]?=some (.lst [])):Pc (tbG xx s) (n+1) 52 [.ref p] h λr h1=>∃q,r=.ref q/\h1[q]?=some (.lst []):=by
 obtain⟨_,h1,e1,k1,j,ws,rfl,ej,pw⟩:=Qgq (xx:=xx) (s:=s) (n:=n) (λy y y=>True) (λy y y y k z=>z) e (by show 0<=1000;decide) (λx hx=>nomatch hx)
 cases pw;exact⟨_,h1,e1,k1,j,rfl,ej⟩
def QkN(z:Row h u g):Pc (tbG xx s) (n+4) 52 [u] h λr h1=>Row h1 r g:=by
 obtain⟨i,a,b,p,y,rfl,e,ea,eb,ep,zy⟩:=z
 obtain⟨_,h1,e1,k1,j,ws,rfl,ej,pw⟩:=QbV (xx:=xx) (s:=s) (n:=n+3) (λx r h'=>(x=.ref a\/x=.ref b->∃q,r=.ref q/\h'[q]?=some (.lst []))/\(x=.ref p->∃q y',r=.ref q/\h'[q]?=some (.lst [y'])/\One h' y' g)/\((∀q,x≠.ref q)->r=x)) (λw w w w k v=>by obtain⟨a,b,c⟩:=v;exact⟨λz=>by obtain⟨q,e,f⟩:=a z;exact⟨q,e,k _ _ f⟩,λz=>by obtain⟨q,y',e,f,m⟩:=b z;exact⟨q,y',e,k _ _ f,m.kp k⟩,c⟩) e (by show 5<=1000;decide) (λx hx hs kp=>by
  have nap:U.ref a≠.ref p:=λz=>by cases z;rw[ea]at ep;cases ep
  have nbp:U.ref b≠.ref p:=λz=>by cases z;rw[eb]at ep;cases ep
  have sc:∀x:U,(∀q,x≠.ref q)->((∃y,x=.str y)\/(∃b,x=.bl b)\/∃y,x=iU y)->Pc (tbG xx s) (n+3) 52 [x] hs λr h'=>(x=.ref a\/x=.ref b->∃q,r=.ref q/\h'[q]?=some (.lst []))/\(x=.ref p->∃q y',r=.ref q/\h'[q]?=some (.lst [y'])/\One h' y' g)/\((∀q,x≠.ref q)->r=x):=λx nx hx=>⟨x,hs,QfE hx,Kp.refl _,λz=>(z.elim (nx _) (nx _)).elim,λz=>(nx _ z).elim,λw=>rfl⟩
  have nl:∀q,hs[q]?=some (.lst [])->U.ref q≠.ref p->Pc (tbG xx s) (n+3) 52 [.ref q] hs λr h'=>((U.ref q)=.ref a\/(U.ref q)=.ref b->∃q,r=.ref q/\h'[q]?=some (.lst []))/\((U.ref q)=.ref p->∃q y',r=.ref q/\h'[q]?=some (.lst [y'])/\One h' y' g)/\((∀q',(U.ref q)≠.ref q')->r=(U.ref q)):=λq eq nq=>by
   obtain⟨r,h2,e2,k2,j,rfl,ej⟩:=QkP (xx:=xx) (s:=s) (n:=n+2) eq;exact⟨_,h2,e2,k2,λw=>⟨j,rfl,ej⟩,λz=>(nq z).elim,λz=>(z _ rfl).elim⟩
  rcases Xm.mp hx with rfl|hx
  ·exact sc _ (λq z=>by cases z) (.inl ⟨_,rfl⟩)
  rcases Xm.mp hx with rfl|hx
  ·exact nl a (kp _ _ ea) nap
  rcases Xm.mp hx with rfl|hx
  ·exact sc _ (λq z=>by cases z) (.inr (.inl ⟨_,rfl⟩))
  rcases Xm.mp hx with rfl|hx
  ·obtain⟨r,h2,e2,k2,j,y',rfl,ej,zj⟩:=QfF (xx:=xx) (s:=s) (n:=n) (kp _ _ ep) (zy.kp kp);exact⟨_,h2,e2,k2,λz=>z.elim (λz=>(nap z.symm).elim) (λz=>(nbp z.symm).elim),λw=>⟨j,y',rfl,ej,zj⟩,λz=>(z _ rfl).elim⟩
  ·cases X5.mp hx
   exact nl b (kp _ _ eb) nbp)
 cases pw with
 |cons w1 pw=>cases pw with
 |cons w2 pw=>cases pw with
 |cons w3 pw=>cases pw with
 |cons w4 pw=>cases pw with
 |cons w5 pw=>
 cases pw
 cases w1.2.2 (λq z=>by cases z)
 cases w3.2.2 (λq z=>by cases z)
 obtain⟨q2,rfl,f2⟩:=w2.1 (.inl rfl);obtain⟨q4,y4,rfl,f4,m4⟩:=w4.2.1 rfl;obtain⟨q5,rfl,f5⟩:=w5.1 (.inr rfl);exact⟨_,h1,e1,k1,j,q2,q5,q4,y4,rfl,ej,f2,f5,f4,m4⟩
def QjN{P:α->β->Prop}{l:List α}{r:List β}(h:Paired P l r):(l.zip r).map (·.1)=l/\(∀x∈l.zip r,P x.1 x.2)/\∀{ws:List U} {Q:U->β->Prop},Paired (λw (p:α×β)=>Q w p.2) ws (l.zip r)->Paired Q ws r:=by
 induction h with
 |nil=>exact⟨rfl,λx hx=>(nomatch hx),λ{ws Q} q=>by cases q;exact .nil⟩
 |cons a _ ih=>
  refine⟨by rw[Us,X7,ih.1],λx hx=>?_,λ{ws Q} q=>?_⟩
  ·rcases Xm.mp hx with rfl|hx
   ·exact a
   ·exact ih.2.1 x hx
  ·cases q with
   |cons b q=>exact .cons b (ih.2.2 q)
def QkZ{L:List (U×β)}(F:U×β->U->Hs->Prop)(mono:∀a u h h',Kp h h'->F a u h->F a u h')(v:ev T cf d e ρ h=some (u,h1))(s:QV T u h1=some (L.map (·.1)))(ll:L.length<=900000)
  (st:∀x∈L,∀hs,Kp h1 hs->∃u h2,ev T cf d el (ρ++[some x.1]) hs=some (u,h2)/\Kp hs h2/\F x u h2):∃us h2,ev T cf (d+1) (.comp (.seq e) false none el) ρ h=some (.ref h2.length,h2++[.lst us])/\Kp h1 h2/\Paired (λu a=>F a u h2) us L:=by
 obtain⟨us,h2,a,k,p⟩:=QfG (T:=T) (ρ:=ρ) (h1:=h1) (f:=ev T cf d) (ft:=evT T cf d) (w:=.seqL u) (bb:=false) (el:=el) (im:=λx:U×β=>Im.one x.1) (r:=λx=>ρ++[some x.1]) F mono (λi hs k=>by simp only[itm,QdC k s,Option.map,Wt];cases L[i]?<;>rfl) (λx hs=>by simp only[tgN,Qfb,tgt,W9,V7,QnP]) st L.length 0 _ [] h1 (Wv _).symm (show L.length<Q6 T (.seqL u) h1 by simp only[Q6,s,W8,X6];lia) ll (Kp.refl _) .nil
 exact⟨us,h2,Qf3 (by simp only[Zn,v,Qx,wkS,s];rfl) a,k,p⟩
theorem QbW:∀{k:Nat} {h:Hs} {u:U} {ds:List D} {n:Nat},RpL k h u ds->Pc (tbG xx s) (n+2*k+3) 52 [u] h λr h1=>RpL k h1 r ds
 |k+1,h,_,ds,n,⟨p,us,rfl,hp,lu,pr⟩=>by
  obtain⟨z1,z2,z3⟩:=QjN pr
  have i1:Zx (tbG xx s) .list (.ref p) h=some true:=by simp only[Zx,Zt,hp];rfl
  have ll:(us.zip ds).length<=us.length:=by rw[Up];lia
  obtain⟨ws,h3,e3,kp,pw⟩:=QkZ (T:=tbG xx s) (cf:=Qd (tbG xx s) (n+2*k+4)) (d:=95) (ρ:=[sR p]) (e:=.var 0) (el:=.call 52 [(.var 1)]) (L:=us.zip ds) (λx r h'=>RpI (RpL k) h' r x.2) (λw w w w q z=>z.kp q) (Qa rfl) (by rw[z1];exact Qw hp) (by lia) (λx hx hs kp=>by
   have zd:=(z2 x hx).kp kp;obtain⟨x,d⟩:=x
   cases d with
   |row g=>
    obtain⟨r,h4,e4,k4,q4⟩:=QkN (xx:=xx) (s:=s) (n:=n+2*k) zd;exact⟨r,h4,Qj (e_1 (Qa rfl)) e4,k4,q4⟩
   |blk c l=>
    obtain⟨i,xc,v,ex,a2,a3,a4,a5,a6,a7⟩:=zd;have ex:x=.ref i:=ex;subst ex
    have ncv:xc≠v:=λz=>by
     obtain⟨j,rfl,ej⟩:=a3
     cases k with
     |zero=>exact a6
     |succ k=>
      obtain⟨p',us',ep,eq,_⟩:=a6;rw[<-z]at ep;cases ep;rw[ej]at eq;cases eq
    obtain⟨_,h4,e4,k4,j,ws,rfl,ej,pw⟩:=QbV (xx:=xx) (s:=s) (n:=n+2*k+3) (λx r h'=>(x=JV->r=JV)/\(x=xc->Sr h' r c)/\(x=v->RpL k h' r l)) (λw w w w q t=>by obtain⟨a,b,c⟩:=t;exact⟨a,λz=>(b z).kp q,λz=>RpL.kp q (c z)⟩) a2 (by show 3<=1000;decide) (λy hy hs kp=>by
     have n1:xc≠JV:=λz=>by obtain⟨j,e,_⟩:=a3;rw[e]at z;cases z
     have n2:v≠JV:=λz=>by
      cases k with
      |zero=>exact a6
      |succ k=>obtain⟨p',us',ep,_⟩:=a6;rw[ep]at z;cases z
     rcases Xm.mp hy with rfl|hy
     ·exact⟨_,hs,QfE (.inl ⟨_,rfl⟩),Kp.refl _,λw=>rfl,λz=>(n1 z.symm).elim,λz=>(n2 z.symm).elim⟩
     rcases Xm.mp hy with rfl|hy
     ·obtain⟨r,h5,e5,k5,q5⟩:=QkM (xx:=xx) (s:=s) (n:=n+2*k+1) (a3.kp kp) (by lia)
      exact⟨r,h5,e5,k5,λz=>(n1 z).elim,λw=>q5,λz=>(ncv z).elim⟩
     ·cases X5.mp hy;obtain⟨r,h5,e5,k5,q5⟩:=QbW (n:=n) (RpL.kp kp a6)
      exact⟨r,h5,e5,k5,λz=>(n2 z).elim,λz=>(ncv z.symm).elim,λw=>q5⟩)
    cases pw with
    |cons w1 pw=>cases pw with
    |cons w2 pw=>cases pw with
    |cons w3 pw=>
    cases pw;cases w1.1 rfl
    exact⟨_,h4,Qj (e_1 (Qa rfl)) e4,k4,j,_,_,rfl,ej,w2.2.1 rfl,a4,a5,w3.2.2 rfl,a7⟩)
  exact Zf (Qc fnL[52] rfl rfl) (Qbq (d:=98) (c:=true) (JJ rfl (by rw[YT,Qa rfl,Qx,i1];rfl)) (Qz (Za e3 ⟨kp.trans kp1,_,ws,rfl,Qi,by rw[Qq pw];lia,z3 (QD (λw w z=>z.kp kp1) pw)⟩)))
end
def Kn(h h':Hs):Prop:=∀(p:Nat) o,(∀fs,o≠.ins 4 fs)->h[p]?=some o->h'[p]?=some o
section
variable {l:List D}{wy:U}
def Sr.kn(q:Kn h h1)(z:Sr h u c):Sr h1 u c:=by obtain⟨i,a,b⟩:=z;exact⟨i,a,q _ _ (λy z=>by cases z) b⟩
def St.kn(q:Kn h h1)(z:St h v g):St h1 v g:=by obtain⟨i,a,b⟩:=z;exact⟨i,a,b.imp (λz=>⟨q _ _ (λy z=>by cases z) z.1,z.2⟩) λz=>⟨q _ _ (λy z=>by cases z) z.1,z.2⟩⟩
theorem One.kn(q:Kn h h1)(z:One h v g):One h1 v g:=by obtain⟨i,a,b,c,d⟩:=z;exact⟨i,a,b,q _ _ (λy z=>by cases z) c,d.kn q⟩
theorem Row.kn(q:Kn h h1)(z:Row h v g):Row h1 v g:=by obtain⟨i,a,b,p,y,c,d,e,f,m,o⟩:=z;exact⟨i,a,b,p,y,c,q _ _ (λx z=>by cases z) d,q _ _ (λx z=>by cases z) e,q _ _ (λx z=>by cases z) f,q _ _ (λx z=>by cases z) m,o.kn q⟩
theorem RpL.kn:∀{k:Nat} {h h1:Hs} {u:U} {ds:List D},Kn h h1->RpL k h u ds->RpL k h1 u ds
 |k+1,h,h1,u,ds,q,⟨p,us,a,b,l,c⟩=>⟨p,us,a,q _ _ (λy z=>by cases z) b,l,QD (λx d z=>by
  cases d with
  |row g=>exact Row.kn q z
  |blk c' l'=>
   obtain⟨i,x',v,a1,a2,a3,a4,a5,a6,a7⟩:=z
   exact⟨i,x',v,a1,q _ _ (λy z=>by cases z) a2,a3.kn q,a4,a5,RpL.kn q a6,a7⟩) c⟩
def Qia{t0:Nat}{ds:List D}(z:RpL 3 h (.ref t0) ds):∃h1 t,Qd (tbG xx s) (n+10) 51 [.ref h.length,wy,cu,.ref t0] (h++[.ins 4 []])=some (.non,h1)/\Kp h h1/\h1[h.length]?=some (.ins 4 [(1,wy),(7,cu),(8,.ref t)])/\RpL 3 h1 (.ref t) ds:=by
 obtain⟨H1,q1⟩:∃H1,H1=(h++[O.ins 4 []]).set h.length (.ins 4 [(1,wy)]):=⟨_,rfl⟩;have a1:H1[h.length]?=some (.ins 4 [(1,wy)]):=q1▸QC Qi;have k1:Kp h H1:=q1▸Kp.put kp1 (Xe _);obtain⟨H2,q2⟩:∃H2,H2=H1.set h.length (.ins 4 [(1,wy),(7,cu)]):=⟨_,rfl⟩;have a2:H2[h.length]?=some (.ins 4 [(1,wy),(7,cu)]):=q2▸QC a1;have k2:Kp h H2:=q2▸Kp.put k1 (Xe _);obtain⟨_,H3,e3,k3,t,us,rfl,et,lu,pr⟩:=QbW (xx:=xx) (s:=s) (n:=n) (RpL.kp k2 z);have a3:=k3 _ _ a2;have kn:Kn H3 (H3.set h.length (.ins 4 [(1,wy),(7,cu),(8,.ref t)])):=λp o no e=>QK (QeB e a3 (no _)) e;refine⟨H3.set h.length (.ins 4 [(1,wy),(7,cu),(8,.ref t)]),t,?_,Kp.put (k2.trans k3) (Xe _),QC a3,RpL.kn kn ⟨t,us,rfl,et,lu,pr⟩⟩;rw[Qc fnL[51] rfl rfl]
 have e1:=ZF (T:=tbG xx s) (cf:=Qd (tbG xx s) (n+9)) (d:=98) (o:=.var 0) (e:=.var 1) (f:=1) (ρ:=[sR h.length,some wy,some cu,sR t0]) (h:=h++[O.ins 4 []]) (Qa rfl) (Qa rfl) Qi (by decide)
 have e2:=ZF (T:=tbG xx s) (cf:=Qd (tbG xx s) (n+9)) (d:=97) (o:=.var 0) (e:=.var 2) (f:=7) (ρ:=[sR h.length,some wy,some cu,sR t0]) (Qa rfl) (Qa rfl) a1 (by show 1<500;decide)
 have e4:=ZF (T:=tbG xx s) (cf:=Qd (tbG xx s) (n+9)) (d:=96) (o:=.var 0) (e:=.call 52 [(.var 3)]) (f:=8) (ρ:=[sR h.length,some wy,some cu,sR t0]) (Qj (e_1 (Qa rfl)) e3) (Qa rfl) a3 (by show 2<500;decide)
 have z:=(QW (r:=_) e1).trans ((QW (r:=_) (show ex _ _ 98 (.fld (.var 0) 7 (.var 2)) _ ((h++[O.ins 4 []]).set h.length (.ins 4 (YX 1 wy [])))=_ from by rw[show((h++[O.ins 4 []]).set h.length (.ins 4 (YX 1 wy [])))=H1 from q1.symm];exact e2)).trans (Qs (show ex _ _ (96+1) (.fld (.var 0) 8 (.call 52 [(.var 3)])) _ (H1.set h.length (.ins 4 (YX 7 cu [(1,wy)])))=_ from by rw[show(H1.set h.length (.ins 4 (YX 7 cu [(1,wy)])))=H2 from q2.symm];exact e4)))
 exact congrArg fin z
noncomputable def cl(ns:List Int)(k:Nat):Int:=ns.getD k 0
def Qgy:Qd (tbG xx (ns.map iU)) (n+1) 53 [.scr,iU (m:Int)] h=some (iU (cl ns m),h):=by
 rw[Qc fnL[53] rfl rfl]
 have v1:∀d,ev (tbG xx (ns.map iU)) (Qd (tbG xx (ns.map iU)) n) (d+2) (.bi .len [(.var 0)]) [some .scr,some (iU (m:Int))] h=some (.int ((ns.map iU).length:Int) 0,h):=λd=>Qay (Qa rfl) (by unfold biU;rfl)
 have t1:evT (tbG xx (ns.map iU)) (Qd (tbG xx (ns.map iU)) n) 98 (.cmp .Lt (.var 1) (.bi .len [(.var 0)])) [some .scr,some (iU (m:Int))] h=some (decide ((m:Int) < ((ns.map iU).length:Int)),h):=QI (Qa rfl) (v1 94) rfl;by_cases hm:m<ns.length
 ·rw[X9 (by rw[X6];lia)]at t1
  refine QiO (d:=96) (c:=true) t1 rfl (QeA (Qa rfl) (Qa rfl) ?_)
  have:(ns.map iU)[m]?=some (iU (cl ns m)):=by
   rw[Wt,Xj hm];simp[cl,hm]
  show atU (ns.map iU) (m:Int)=_;exact QlJ this
 ·rw[Xy (by rw[X6];lia)]at t1
  refine(congrArg fin (Qab (d:=97) t1 rfl)).trans ((Qat y_c).trans ?_)
  have:cl ns m=0:=by unfold cl;rw[List.getD_eq_getElem?_getD,Wl (by lia)];rfl
  rw[this]
noncomputable def Qls(x m:Int):List Int:=[1+x % m,x / m % 2,x / m / 2 % 2,x / m / 4 % 2,0]
def Qek{m:Int}(hm:(decide ((0:Int) < m)&&decide (m<1606938044258990275541962092341162602522202993782792835301376))=true):Pc (tbG xx s) (n+1) 57 [iU x,iU m] h λr h1=>Sr h1 r (Qls x m):=by
 have m0:0<m:=Wn (Wj.mp hm).1;have q:∀d,ev (tbG xx s) (Qd (tbG xx s) n) (d+2) (.op .FloorDiv (.var 0) (.var 1)) [some (iU x),some (iU m)] h=some (iU (x / m),h):=λd=>Zm (Qa rfl) (Qa rfl) (Qfh hm)
 have v:ev (tbG xx s) (Qd (tbG xx s) n) 98 (.tup [(.op .Add (.c (.int 1 0)) (.op .Mod (.var 0) (.var 1))),(.op .Mod (.op .FloorDiv (.var 0) (.var 1)) (.c (.int 2 0))),(.op .Mod (.op .FloorDiv (.op .FloorDiv (.var 0) (.var 1)) (.c (.int 2 0))) (.c (.int 2 0))),(.op .Mod (.op .FloorDiv (.op .FloorDiv (.var 0) (.var 1)) (.c (.int 4 0))) (.c (.int 2 0))),(.c (.int 0 0))]) [some (iU x),some (iU m)] h=some (.ref h.length,h++[.tup ((Qls x m).map iU)]):=by
  rw[Qb2,e_5 (Zm y_c (Zm (Qa rfl) (Qa rfl) (QaP m0)) Yv) (YU (q 94) (by decide)) (YU (Qax (q 93) (by decide)) (by decide)) (YU (Qax (q 93) (by decide)) (by decide)) y_c,Qx]
  rfl
 exact Zf (Qc fnL[57] rfl rfl) (Qz (Za v ⟨kp1,_,rfl,Qi⟩))
def JE{p:Nat}(z:Sr h u c)(lc:c.length=5)(hp:h[p]?=some (.lst (ch.map iU)))(l4:ch.length=4)(sm:∀x∈c,Qg x=true):Qd (tbG xx s) (n+1) 54 [u,.ref p] h=some (iU (wor c ch),h):=by
 match c,lc,ch,l4 with
 |[c0,c1,c2,c3,c4],_,[x0,x1,x2,x3],_=>
 have zs:Sm h u [c0,c1,c2,c3,c4]:=.inr z
 have:Cc (tbG xx s) (n+1) 54 [u,.ref p] h λr h1=>r=iU (wor [c0,c1,c2,c3,c4] [x0,x1,x2,x3])/\h1=h:=by
  refine Zf (Qc fnL[54] rfl rfl) (QR (Qu (d:=98) (Qk (Qa rfl) (zs.ix (j:=0) rfl))) (Qhc (d:=97) (L:=4) (λi ρ hs=>hs=h/\∃x,ρ=[some u,sR p,some (iU (c0+((List.zipWith (·*·) [c1,c2,c3,c4] [x0,x1,x2,x3]).take i).sum)),x]) y_c (by decide) ⟨rfl,none,by simp only[List.take_zero,List.sum_nil,Int.add_zero];rfl⟩ (λi hi ρ hs z'=>?_) λρ2 h2 z=>?_))
  ·obtain⟨rfl,x,rfl⟩:=z'
   have q:∃a b,[c0,c1,c2,c3,c4][i+1]?=some a/\[x0,x1,x2,x3][i]?=some b/\a∈[c0,c1,c2,c3,c4]/\((List.zipWith (·*·) [c1,c2,c3,c4] [x0,x1,x2,x3]).take (i+1)).sum=((List.zipWith (·*·) [c1,c2,c3,c4] [x0,x1,x2,x3]).take i).sum+a*b:=by
    match i,hi with
    |0,_=>exact⟨c1,x0,rfl,rfl,by simp,by simp⟩
    |1,_=>exact⟨c2,x1,rfl,rfl,by simp,by simp⟩
    |2,_=>exact⟨c3,x2,rfl,rfl,by simp,by simp;lia⟩
    |3,_=>exact⟨c4,x3,rfl,rfl,by simp,by simp;lia⟩
   obtain⟨a,b,ha,hb,ma,es⟩:=q
   refine⟨_,_,_,rfl,Qs (Zy (Zm (d:=94) (Qa rfl) (Zm (QeA (Qa rfl) (Zm (Qa rfl) y_c Yv) (by rw[show((i:Int)+1)=((i+1:Nat):Int) by push_cast;rfl];exact zs.ix ha)) (QeA (Qa rfl) (Qa rfl) (JS (j:=i) hp (by rw[Wt,hb];rfl))) (QbD (sm a ma))) Yv)),rfl,some (iU (i:Int)),?_⟩
   rw[es,<-Int.add_assoc];rfl
  ·obtain⟨rfl,x,rfl⟩:=z;exact Qz (Za (Qa rfl) ⟨rfl,rfl⟩)
 obtain⟨_,_,e,rfl,rfl⟩:=this;exact e
def Qol{e:Nat}(he:h[e]?=some (.err 8 .non)):Qd (tbG xx s) (n+1) 55 [.ref e] h=some (.bl true,h):=by
 rw[Qc fnL[55] rfl rfl]
 have is:∀(t:Ty) (b:Bool),Zx (tbG xx s) t (.ref e) h=some b->∀d,ev (tbG xx s) (Qd (tbG xx s) n) (d+2) (.isi (.var 0) t) [sR e] h=some (.bl b,h):=λt b hb d=>by rw[YT,Qa rfl,Qx,hb];rfl
 have i8:Zx (tbG xx s) (.cls 8) (.ref e) h=some true:=by simp only[Zx,Zt,he];rfl
 have iv:Zx (tbG xx s) .vale (.ref e) h=some true:=by simp only[Zx,Zt,he];rfl
 have i9:Zx (tbG xx s) (.cls 9) (.ref e) h=some false:=by simp only[Zx,Zt,he];rfl
 have i6:Zx (tbG xx s) (.cls 6) (.ref e) h=some false:=by simp only[Zx,Zt,he];rfl
 have i7:Zx (tbG xx s) (.cls 7) (.ref e) h=some false:=by simp only[Zx,Zt,he];rfl
 have nt:∀(t:Ty),Zx (tbG xx s) t (.ref e) h=some false->∀d,ev (tbG xx s) (Qd (tbG xx s) n) (d+3) (.not (.isi (.var 0) t)) [sR e] h=some (.bl true,h):=λt ht d=>by rw[QlQ,is t false ht d,Qx];rfl
 refine(congrArg fin (Qab (d:=97) (c:=false) (Qiq (c:=false) (h1:=h) (Qb6 (c:=true) (JJ rfl (is _ _ i8 93))) (by rw[if_neg Xh];exact Qb6 (c:=true) (JJ rfl (is _ _ iv 93)))) rfl)).trans (Qat (d:=97) ?_)
 rw[QgG,nt _ i9 93,Qx];show ev _ _ 96 _ _ _=_;rw[QgG,nt _ i6 92,Qx];exact nt _ i7 92
end
section
variable {l:List D}{x2 x1 x0:Nat->List U->Hs->Option (Er×Hs)}
def QfW{a b:U}{x:Option U}(hf:(match fnL[f]? with|some F=>decide ([a,b].length=F.np)|none=>false)=true)(en:cf f [a,b] h=none)(ex':xx f [a,b] h=some ((8,.non),h2)):ex (tbG xx s) cf (d+4) (.tryS (some 3) f [(.var 0),(.var 1)] 5 [(.set 2 (.var 3))]) [some a,some b,x,none] h=some (.next,[some a,some b,sR h2.length,none],h2++[.err 8 .non]):=by
 rw[ex,e_2 (Qa rfl) (Qa rfl),Qx];simp only[en]
 show(match xx f [a,b] h with|some (c',h2)=>_|none=>none)=_
 rw[ex'];exact(if_pos ⟨rfl,rfl,hf⟩).trans rfl
def Qnv(hx:xx=Q4 (tbG x2 s) 14)(hx2:x2=Q4 (tbG x1 s) 14)(hx1:x1=Q4 (tbG x0 s) 14)(y:Hy h pp t cp rd c o ch l)(bad:300<nd ch 3 (TH o l)\/3000<nd ch 3 (TH o l)*wor c ch):Cc (tbG xx s) (n+15) 56 [.ref pp,.ref cp] h λr z=>r=.bl true:=by
 obtain⟨h1,e1,k1,_⟩:=Qa7 (xx:=x2) (n:=1) hx2 y bad;obtain⟨_,_,_,n1⟩:=Qa7 (xx:=xx) (n:=n+1) hx y bad;have k1':Kp h (h1++[O.err 8 .non]):=k1.trans kp1;obtain⟨h2,e2,k2,_⟩:=QfZ (xx:=x2) (n:=0) hx2 hx1 (y.kp k1') bad;obtain⟨_,_,_,n2⟩:=QfZ (xx:=xx) (n:=n) hx hx2 (y.kp k1') bad
 refine Zf (Qc fnL[56] rfl rfl) (QR (Qu (d:=98) y_c) (Qcc (d:=98) (QfW (d:=94) rfl n1 (by rw[hx];exact e1)) (QR (Qab (d:=95) (c:=false) (Qb6 (c:=true) (JJ rfl (Qj (e_1 (Qa rfl)) (Qol Qi)))) rfl) (QR (Qu (d:=95) y_c) (Qcc (d:=95) (QfW (d:=91) rfl n2 (by rw[hx];exact e2)) (Qz (d:=93) (Za (Qj (e_1 (Qa rfl)) (Qol Qi)) rfl)))))))
end
def Gs(c:List Int):Prop:=c.length=5/\1<=hd c/\hd c<=1000/\∀x∈c.drop 1,x=0\/x=1
def Gc(ch:List Int):Prop:=ch.length=4/\∀x∈ch,0<=x/\x<1000000000000000000
def Lm(ch:List Int)(l:List D)(m:Int):Prop:=(l=[.row 1]/\m=1)\/∃wi,Gs wi/\l=[.row 1,.blk wi [.row 1,.row 1]]/\m=1+2*wor wi ch
section
variable {l:List D}{m:Int}
def QkE(z:Gs c):∃a b d e f,c=[a,b,d,e,f]/\1<=a/\a<=1000/\(b=0\/b=1)/\(d=0\/d=1)/\(e=0\/e=1)/\(f=0\/f=1):=by
 obtain⟨l,z1,z2,z3⟩:=z
 match c,l with
 |[a,b,d,e,f],_=>exact⟨a,b,d,e,f,rfl,z1,z2,z3 b (by simp),z3 d (by simp),z3 e (by simp),z3 f (by simp)⟩
def Qcp(z:Gs c):∀x∈c,Qg x=true:=by
 obtain⟨a,b,d,e,f,rfl,h1,h2,h3,h4,h5,h6⟩:=QkE z;intro x hx;simp only[Xm,Vg,U6]at hx;simp only[Qg,Xg,Xq]
 rcases hx with rfl|rfl|rfl|rfl|rfl<;>lia
def Qm5(z:Gs c):∀x∈c,0<=x:=by
 obtain⟨a,b,d,e,f,rfl,h1,h2,h3,h4,h5,h6⟩:=QkE z;intro x hx;simp only[Xm,Vg,U6]at hx
 rcases hx with rfl|rfl|rfl|rfl|rfl<;>lia
def Qfk{b:Int}(h:b=0\/b=1)(hx:0<=x/\x<1000000000000000000):0<=b*x/\b*x<1000000000000000000:=by
 rcases h with rfl|rfl
 ·rw[Int.zero_mul];lia
 ·rw[Int.one_mul];exact hx
def ZZ(z:Gs c)(y:Gc ch):hd c<=wor c ch/\1<=wor c ch/\wor c ch<5000000000000000000/\(szd c=false->wor c ch=hd c):=by
 obtain⟨a,b,d,e,f,rfl,h1,h2,h3,h4,h5,h6⟩:=QkE z;obtain⟨l4,y⟩:=y
 match ch,l4 with
 |[x0,x1,x2,x3],_=>
  have m0:=Qfk h3 (y x0 (by simp))
  have m1:=Qfk h4 (y x1 (by simp))
  have m2:=Qfk h5 (y x2 (by simp))
  have m3:=Qfk h6 (y x3 (by simp))
  have e1:wor [a,b,d,e,f] [x0,x1,x2,x3]=a+(b*x0+(d*x1+(e*x2+(f*x3+0)))):=rfl;have e2:hd [a,b,d,e,f]=a:=rfl
  refine⟨by lia,by lia,by lia,λhz=>?_⟩
  have hz:((!decide (b=0))||((!decide (d=0))||((!decide (e=0))||((!decide (f=0))||false))))=false:=hz
  simp only[Bool.or_eq_false_iff,Bool.not_eq_false',Xq]at hz;obtain⟨rfl,rfl,rfl,rfl,_⟩:=hz;rw[e1,e2];simp
def Qa8(z:Gs c)(y:Gc ch):Qg (wor c ch)=true:=by
 have:=ZZ z y;simp only[Qg,Xg,Xq];lia
def QdE(z:Lm ch l m):nd ch 2 l=m:=by
 rcases z with⟨rfl,rfl⟩|⟨wi,_,rfl,rfl⟩
 ·rfl
 ·show 1+(wor wi ch*(1+(1+0))+0)=_;lia
def Qfj:nd ch 3 (TH o l)=wor o ch*nd ch 2 l+1:=by
 show wor o ch*nd ch 2 l+(1+0)=_;lia
def QlX:wm 3 (TH o l)=wm 2 l*(if szd o=true then 1 else hd o)+1:=by
 show wm 2 l*(if szd o=true then 1 else hd o)+(1+0)=_;lia
def Qgl(z:Gs c)(y:Gc ch):1<=(if szd c=true then(1:Int)else hd c)/\(if szd c=true then(1:Int)else hd c)<=wor c ch:=by
 have w:=ZZ z y;have z2:=z.2.1;split<;>lia
def Qfn(z:Lm ch l m)(y:Gc ch):1<=wm 2 l/\wm 2 l<=m:=by
 rcases z with⟨rfl,rfl⟩|⟨wi,g,rfl,rfl⟩
 ·exact⟨by decide,by decide⟩
 ·have w:=Qgl g y;have e:wm 2 [.row 1,.blk wi [.row 1,.row 1]]=1+(2*(if szd wi=true then 1 else hd wi)+0):=rfl;rw[e];lia
def QmH(z:Lm ch l m):(∀g∈wr 2 l,g=1)/\(wr 2 l).length<=1000:=by
 rcases z with⟨rfl,rfl⟩|⟨wi,g,rfl,rfl⟩
 ·have e:wr 2 [.row 1]=[1]:=rfl;rw[e];simp
 ·have e:wr 2 [.row 1,.blk wi [.row 1,.row 1]]=[1,1,1]:=rfl;rw[e];simp
def QmI(z:Lm ch l m)(y:Gc ch)(g:Gs o):SmW ch 3 (TH o l):=λd hd=>by
 rcases Xm.mp hd with rfl|hd
 ·refine⟨Qa8 g y,λd hd=>?_⟩
  rcases z with⟨rfl,rfl⟩|⟨wi,gw,rfl,rfl⟩
  ·cases X5.mp hd;trivial
  ·rcases Xm.mp hd with rfl|hd
   ·trivial
   ·cases X5.mp hd;refine⟨Qa8 gw y,λd hd=>?_⟩
    rcases Xm.mp hd with rfl|hd
    ·trivial
    ·cases X5.mp hd;trivial
 ·cases X5.mp hd;trivial
def QhJ{a b:Int}(ha:1<=a)(hb:1<=b):a<=a*b/\b<=a*b:=by
 have h1:a*1<=a*b:=Int.mul_le_mul_of_nonneg_left hb (by lia)
 have h2:1*b<=a*b:=V6 ha (by lia)
 lia
def QmJ(z:Lm ch l m)(y:Gc ch)(g:Gs o)(hn:nd ch 3 (TH o l)<=300):OkD ch 3 (TH o l):=by
 have w:=ZZ g y;have lw:=Qfn z y;have ln:=QdE z
 have le:=QhJ w.2.1 (show 1<=nd ch 2 l by lia)
 rw[Qfj]at hn;intro d hd
 rcases Xm.mp hd with rfl|hd
 ·refine⟨Int.lt_of_lt_of_le (by decide) lw.1,w.2.1,by lia,w.2.2.2,λd hd=>?_⟩
  rcases z with⟨rfl,rfl⟩|⟨wi,gw,rfl,rfl⟩
  ·cases X5.mp hd;trivial
  ·have ww:=ZZ gw y
   rcases Xm.mp hd with rfl|hd
   ·trivial
   ·cases X5.mp hd
    refine⟨by decide,ww.2.1,by lia,ww.2.2.2,λd hd=>?_⟩
    rcases Xm.mp hd with rfl|hd
    ·trivial
    ·cases X5.mp hd;trivial
 ·cases X5.mp hd;trivial
def QmK(z:Lm ch l m)(y:Gc ch)(g:Gs o):wm 3 (TH o l)<=nd ch 3 (TH o l):=by
 have lw:=Qfn z y;have ln:=QdE z;have f:=Qgl g y;rw[QlX,Qfj,ln]
 have h1:wm 2 l*(if szd o=true then 1 else hd o)<=m*(if szd o=true then 1 else hd o):=V6 lw.2 (by lia)
 have h2:m*(if szd o=true then 1 else hd o)<=m*wor o ch:=Int.mul_le_mul_of_nonneg_left f.2 (by lia)
 rw[Int.mul_comm (wor o ch)];lia
theorem QaE{α:Type}{B:List α}:∀{n j:Nat},j<n*B.length->(List.replicate n B).flatten[j]?=B[j % B.length]?
 |0,j,h=>by lia
 |n+1,j,h=>by
  rw[Wh,Wu];by_cases l:j<B.length
  ·rw[Xs l,Nat.mod_eq_of_lt l]
  ·rw[X3 (by lia),QaE (by rw[Tc]at h;lia)]
   congr 1
   rw[Nat.mod_eq_sub_mod (show B.length<=j by lia)]
noncomputable def due(m:Nat)(j:Nat):Int:=if j % m=0 then 0 else 1+(((j % m:Nat):Int) - 1) % 2
def Qeu(z:Lm ch l m)(y:Gc ch)(hi:(i:Int) < m):(wd ch 2 0 l)[i]?=some (if i=0 then 0 else 1+((i:Int) - 1) % 2)/\((wd ch 2 0 l).length:Int)=m:=by
 rcases z with⟨rfl,rfl⟩|⟨wi,gw,rfl,rfl⟩
 ·have e:i=0:=by lia
  subst e;exact⟨rfl,rfl⟩
 ·have ww:=ZZ gw y;have e:wd ch 2 0 [.row 1,.blk wi [.row 1,.row 1]]=0::((List.replicate (wor wi ch).toNat [(1:Int),2]).flatten++[]):=rfl;rw[e,W4]
  refine⟨?_,by rw[Ve,Zg];simp;lia⟩
  cases i with
  |zero=>rfl
  |succ i=>
   rw[List.getElem?_cons_succ,QaE (by simp;lia),if_neg (by lia)]
   have:i % 2=0\/i % 2=1:=by lia
   rcases this with h|h
   ·rw[show i % [(1:Int),2].length=0 from h];show some 1=_
    congr 1
    lia
   ·rw[show i % [(1:Int),2].length=1 from h];show some 2=_
    congr 1
    lia
def QlY(z:Lm ch l m)(y:Gc ch)(g:Gs o){j:Nat}(hj:(j:Int) < nd ch 3 (TH o l)):(wd ch 3 0 (TH o l))[j]?=some (if(j:Int)+1<nd ch 3 (TH o l)then due m.toNat j else((wr 2 l).length:Int)):=by
 have ln:=QdE z;have lw:=Qfn z y;have w:=ZZ g y;have e:wd ch 3 0 (TH o l)=(List.replicate (wor o ch).toNat (wd ch 2 0 l)).flatten++([((0+(wr 2 l).length:Nat):Int)]++[]):=rfl
 have m1:1<=m:=by lia
 have b0:=Qeu z y (i:=0) (by lia)
 have lB:(wd ch 2 0 l).length=m.toNat:=by lia
 have lf:(List.replicate (wor o ch).toNat (wd ch 2 0 l)).flatten.length=(wor o ch).toNat*m.toNat:=by rw[Zg,lB]
 have lt:(((wor o ch).toNat*m.toNat:Nat):Int)=wor o ch*m:=by
  rw[Vs,Tn (by lia),Tn (by lia)]
 rw[Qfj,ln]at hj ⊢;rw[e];by_cases h:(j:Int)+1<wor o ch*m+1
 ·rw[if_pos h,Xs (by lia),QaE (by rw[lB];lia),lB]
  have hm:j % m.toNat<m.toNat:=Nat.mod_lt _ (by lia)
  rw[(Qeu z y (i:=j % m.toNat) (by lia)).1]
  rfl
 ·rw[if_neg h,X3 (by lia),lf]
  have:j-(wor o ch).toNat*m.toNat=0:=by lia
  rw[this,Wv];rfl
end
noncomputable def lS1:Iv.S:=.set 1 (.op .Add (.comp (.rng (.c (.int 3 0))) false none (.op .Mod (.call 53 [(.var 0),(.var 19)]) (.c (.int 41 0)))) (.lst [(.c (.int 0 0))]))
noncomputable def lS2:Iv.S:=.ite (.cmp .Eq (.op .Mod (.call 53 [(.var 0),(.c (.int 3 0))]) (.c (.int 8 0))) (.c (.int 1 0))) [(.put (.var 1) (.op .Mod (.op .FloorDiv (.call 53 [(.var 0),(.c (.int 3 0))]) (.c (.int 8 0))) (.c (.int 3 0))) (.op .Mod (.call 53 [(.var 0),(.c (.int 4 0))]) (.op .Pow (.c (.int 10 0)) (.c (.int 18 0)))))] []
section
def Qbd{b c f:E}{u y x:U}{h5:Hs}(x1:ev T cf d a ρ h=some (u,h1))(x2:ev T cf d b ρ h1=some (w,h2))(x3:ev T cf d c ρ h2=some (z,h3))(x4:ev T cf d e ρ h3=some (y,h4))(x5:ev T cf d f ρ h4=some (x,h5)):ev T cf (d+1) (.tup [a,b,c,e,f]) ρ h=some (.ref h5.length,h5++[.tup [u,w,z,y,x]]):=by rw[Qb2,e_5 x1 x2 x3 x4 x5,Qx]
def ZA(h0:ρ[0]?=some (some .scr)):ev (tbG xx (ns.map iU)) (Qd (tbG xx (ns.map iU)) (n+1)) (d+2) (.call 53 [(.var 0),(.c (.int (m:Int) 0))]) ρ h=some (iU (cl ns m),h):=Qj (e_2 (Qa h0) y_c) Qgy
def QmQ(k:∀h cp ch,h[cp]?=some (.lst (ch.map iU))->Gc ch->Xx (tbG xx (ns.map iU)) (Qd (tbG xx (ns.map iU)) (n+1)) 98 r [some .scr,sR cp,none,none,none,none,none,none,none,none,none,none,none,none,none,none,none,none,none] h Q):
  Xx (tbG xx (ns.map iU)) (Qd (tbG xx (ns.map iU)) (n+1)) 100 (lS1::lS2::r) [some .scr,none,none,none,none,none,none,none,none,none,none,none,none,none,none,none,none,none,none] [] Q:=by
 obtain⟨us,h3,e3,kp,pu⟩:=Qic (T:=tbG xx (ns.map iU)) (cf:=Qd (tbG xx (ns.map iU)) (n+1)) (d:=96) (ρ:=[some .scr,none,none,none,none,none,none,none,none,none,none,none,none,none,none,none,none,none,none]) (h:=[]) (src:=.rng (.c (.int 3 0))) (w:=.rng 0 3) (el:=.op .Mod (.call 53 [(.var 0),(.var 19)]) (.c (.int 41 0))) (L:=[iU (0:Nat),iU (1:Nat),iU (2:Nat)]) (λx r y=>∃m:Nat,x=iU (m:Int)/\r=iU (cl ns m % 41)) (λy y y y y z=>z) (Qf2 (n:=3) y_c (by decide)) (by show 3<4;decide) (by show 3<=900000;decide) (λi hs y=>by
  match i with
  |0=>rfl
  |1=>rfl
  |2=>rfl
  |i+3=>simp[itm]) (λx hx hs y=>by
  have:∃m:Nat,x=iU (m:Int):=by
   simp only[Xm,Vg,U6]at hx
   rcases hx with rfl|rfl|rfl<;>exact⟨_,rfl⟩
  obtain⟨m,rfl⟩:=this
  exact⟨_,hs,YU (Qj (e_2 (Qa rfl) (Qa rfl)) Qgy) (by decide),Kp.refl _,m,rfl,rfl⟩)
 have eu:us=[cl ns 0 % 41,cl ns 1 % 41,cl ns 2 % 41].map iU:=by
  cases pu with
  |cons a pu=>cases pu with
  |cons b pu=>cases pu with
  |cons c pu=>
  cases pu;obtain⟨m0,e0,rfl⟩:=a;obtain⟨m1,e1,rfl⟩:=b;obtain⟨m2,e2,rfl⟩:=c;simp only[iU,U.int.injEq,and_true,Int.natCast_inj]at e0 e1 e2;rw[<-e0,<-e1,<-e2];rfl
 have v1:=Yn (d:=97) (T:=tbG xx (ns.map iU)) (cf:=Qd (tbG xx (ns.map iU)) (n+1)) e3 (ZT (y_c (u:=.int 0 0))) (Qt Qi) Qi (by rw[eu];show 4<=1000000;decide)
 obtain⟨cp,ecp⟩:∃cp,cp=(h3++[O.lst us]++[O.lst [U.int 0 0]]).length:=⟨_,rfl⟩;obtain⟨h4,eh4⟩:∃h4,h4=h3++[O.lst us]++[O.lst [U.int 0 0]]++[.lst (us++[.int 0 0])]:=⟨_,rfl⟩
 have hc:h4[cp]?=some (.lst (([cl ns 0 % 41,cl ns 1 % 41,cl ns 2 % 41,0]:List Int).map iU)):=by
  rw[eh4,ecp,Qi,eu];rfl
 rw[<-ecp,<-eh4]at v1
 have b41:∀x:Int,0<=x % 41/\x % 41<1000000000000000000:=λx=>by lia
 have g0:Gc [cl ns 0 % 41,cl ns 1 % 41,cl ns 2 % 41,0]:=⟨rfl,λx hx=>by
  simp only[Xm,Vg,U6]at hx
  rcases hx with rfl|rfl|rfl|rfl
  ·exact b41 _
  ·exact b41 _
  ·exact b41 _
  ·lia⟩
 refine QR (Qu (d:=98) v1) (Qbq (d:=97) (Qlq (YU (ZA (m:=3) rfl) (by decide)) y_c) ?_)
 by_cases h8:cl ns 3 % 8=1
 ·rw[X9 h8,if_pos rfl]
  have b3:0<=cl ns 3 / 8 % 3/\cl ns 3 / 8 % 3<3:=by lia
  have ep:Qiv (.ref cp) (iU (cl ns 3 / 8 % 3)) (iU (cl ns 4 % 1000000000000000000)) h4=some (h4.set cp (.lst (([cl ns 0 % 41,cl ns 1 % 41,cl ns 2 % 41,0].set (cl ns 3 / 8 % 3).toNat (cl ns 4 % 1000000000000000000)).map iU))):=by
   simp only[Qiv,hc]
   rw[show ixU (([cl ns 0 % 41,cl ns 1 % 41,cl ns 2 % 41,0]:List Int).map iU).length (cl ns 3 / 8 % 3)=some (cl ns 3 / 8 % 3).toNat by
    unfold ixU
    rw[if_pos b3.1,if_pos (by show cl ns 3 / 8 % 3<((4:Nat):Int);lia)]]
   rw[List.map_set];rfl
  refine Qmo (d:=95) (Zm (ZA (m:=4) rfl) (Zm y_c y_c rfl) (QaP (by decide))) (Qa rfl) (YU (Qax (ZA (m:=3) rfl) (by decide)) (by decide)) ep (ZC (k _ _ _ (QC hc) ⟨by simp,λx hx=>?_⟩))
  rcases List.mem_or_eq_of_mem_set hx with hx|rfl
  ·exact g0.2 x hx
  ·lia
 ·rw[Xy h8,if_neg Xh];exact ZC (k _ _ _ hc g0)
def QbR{m:Int}(h0:0<m)(h1:m<=1000):Gs (Qls x m):=by
 have:=Int.emod_nonneg x (show m≠0 by lia)
 have:=Int.emod_lt_of_pos x h0
 refine⟨rfl,by show 1<=1+x % m;lia,by show 1+x % m<=1000;lia,λy hy=>?_⟩
 simp only[Qls,List.drop_succ_cons,List.drop_zero,Xm,Vg,U6]at hy
 rcases hy with rfl|rfl|rfl|rfl<;>lia
def QhV(h0:1<=x)(h1:x<=1000):Gs (i5 x):=⟨rfl,h0,h1,λy hy=>by
 simp only[i5,List.drop_succ_cons,List.drop_zero,Xm,Vg,U6]at hy
 lia⟩
noncomputable def lS3:Iv.S:=.set 2 (.call 57 [(.call 53 [(.var 0),(.c (.int 5 0))]),(.c (.int 12 0))])
noncomputable def lS4:Iv.S:=.set 3 (.call 57 [(.call 53 [(.var 0),(.c (.int 6 0))]),(.c (.int 60 0))])
noncomputable def lS5:Iv.S:=.ite (.cmp .Eq (.op .Mod (.op .FloorDiv (.call 53 [(.var 0),(.c (.int 3 0))]) (.c (.int 24 0))) (.c (.int 3 0))) (.c (.int 1 0))) [(.set 3 (.tup [(.op .Add (.c (.int 1 0)) (.op .Mod (.call 53 [(.var 0),(.c (.int 6 0))]) (.c (.int 298 0)))),(.c (.int 0 0)),(.c (.int 0 0)),(.c (.int 0 0)),(.c (.int 0 0))]))] []
def QmP(k:∀h1 cu ou c o,Kp h h1->Sr h1 cu c->Sr h1 ou o->Gs c->Gs o->Xx (tbG xx (ns.map iU)) (Qd (tbG xx (ns.map iU)) (n+1)) 95 r [some .scr,sR cp,some cu,some ou,none,none,none,none,none,none,none,none,none,none,none,none,none,none,none] h1 Q):
  Xx (tbG xx (ns.map iU)) (Qd (tbG xx (ns.map iU)) (n+1)) 98 (lS3::lS4::lS5::r) [some .scr,sR cp,none,none,none,none,none,none,none,none,none,none,none,none,none,none,none,none,none] h Q:=by
 obtain⟨cu,h1,e1,k1,s1⟩:=Qek (xx:=xx) (s:=ns.map iU) (n:=n) (h:=h) (x:=cl ns 5) (m:=12) (by decide)
 obtain⟨ou,h2,e2,k2,s2⟩:=Qek (xx:=xx) (s:=ns.map iU) (n:=n) (h:=h1) (x:=cl ns 6) (m:=60) (by decide)
 refine QR (Qu (d:=96) (Qj (e_2 (ZA (m:=5) rfl) y_c) e1)) (QR (Qu (d:=95) (Qj (e_2 (ZA (m:=6) rfl) y_c) e2)) (Qbq (d:=94) (Qlq (YU (Qax (ZA (m:=3) rfl) (by decide)) (by decide)) y_c) ?_))
 by_cases h8:cl ns 3 / 24 % 3=1
 ·rw[X9 h8,if_pos rfl]
  refine QR (Qu (d:=92) (u:=.ref h2.length) (h1:=h2++[.tup ((i5 (1+cl ns 6 % 298)).map iU)]) ?_) (ZC (k _ _ _ _ _ ((k1.trans k2).trans kp1) (s1.kp (k2.trans kp1)) ⟨_,rfl,Qi⟩ (QbR (by decide) (by decide)) (QhV (by lia) (by lia))))
  exact Qbd (Zm y_c (YU (ZA (m:=6) rfl) (by decide)) Yv) y_c y_c y_c y_c
 ·rw[Xy h8,if_neg Xh]
  exact ZC (k _ _ _ _ _ (k1.trans k2) (s1.kp k2) s2 (QbR (by decide) (by decide)) (QbR (by decide) (by decide)))
end
section
variable {l:List D}
noncomputable def Qjt(e:E):E:=.tup [(.c (.str [114,111,119])),(.lst []),(.c (.bl false)),(.lst [(.tup [(.c (.str [111,110,101])),e])]),(.lst [])]
def QgN:ev (tbG xx s) (Qd (tbG xx s) (n+1)) (d+2) (.make 1 [(.c (.int 1 0))]) ρ h=some (.ref h.length,h++[.ins 1 [(0,iU 1)]]):=by
 refine y_make.trans ?_;rw[e_1 y_c,Qx]
 have e:Qd (tbG xx s) (n+1) 2 [.ref h.length,iU 1] (h++[O.ins 1 []])=some (.non,h++[.ins 1 [(0,iU 1)]]):=by
  rw[Qc fnL[2] rfl rfl]
  refine(congrArg fin (Qs (ZF (d:=98) (Qa rfl) (Qa rfl) Qi (by decide)))).trans ?_
  show some (U.non,(h++[O.ins 1 []]).set h.length (.ins 1 [(0,iU 1)]))=_;rw[W5 _ _ (Xe _),Ub];rfl
 show(match Qd (tbG xx s) (n+1) 2 [.ref h.length,iU 1] (h++[O.ins 1 []])with|some (.non,h2')=>some (U.ref h.length,h2')|_=>none)=_
 rw[e]
def QiW{ob:O}(ve:∀h,ev T cf (d+1) e ρ h=some (.ref h.length,h++[ob]))(hg:(ob=.ins 1 [(0,iU 1)]/\g=1)\/(ob=.ins 2 []/\g=0)):∃q h1,ev T cf (d+4) (Qjt e) ρ h=some (.ref q,h1)/\Kp h h1/\Row h1 (.ref q) g:=by
 have kt:Kp h (h++[O.lst []]++[ob]++[O.tup [.str [111,110,101],.ref (h++[O.lst []]).length]]++[O.lst [.ref (h++[O.lst []]++[ob]).length]]++[O.lst []]):=(((kp1.trans kp1).trans kp1).trans kp1).trans kp1;refine⟨_,_,Qbd (h1:=h) y_c (h2:=h++[.lst []]) rfl y_c (ZT (Qbf y_c (ve _))) rfl,kt.trans kp1,_,_,_,_,_,rfl,Qi,Qt (Qt (Qt (Qt (Qt Qi)))),Qt Qi,Qt (Qt Qi),_,_,rfl,Qt (Qt (Qt Qi)),_,rfl,?_⟩
 rcases hg with⟨rfl,rfl⟩|⟨rfl,rfl⟩
 ·exact .inl ⟨Qt (Qt (Qt (Qt Qi))),rfl⟩
 ·exact .inr ⟨Qt (Qt (Qt (Qt Qi))),rfl⟩
noncomputable def lS9:Iv.S:=.ite (.cmp .Eq (.op .Mod (.call 53 [(.var 0),(.c (.int 7 0))]) (.c (.int 2 0))) (.c (.int 1 0))) [(.set 7 (.call 57 [(.op .FloorDiv (.call 53 [(.var 0),(.c (.int 7 0))]) (.c (.int 2 0))),(.c (.int 3 0))])),(.ite (.cmp .Gt (.ix (.var 3) (.c (.int 0 0))) (.c (.int 60 0))) [(.set 7 (.tup [(.c (.int 1 0)),(.c (.int 0 0)),(.c (.int 0 0)),(.c (.int 0 0)),(.c (.int 0 0))])),(.set 3 (.tup [(.op .FloorDiv (.ix (.var 3) (.c (.int 0 0))) (.c (.int 3 0))),(.c (.int 0 0)),(.c (.int 0 0)),(.c (.int 0 0)),(.c (.int 0 0))]))] []),(.set 5 (.lst [(.var 4),(.tup [(.c (.str [98,108,111,99,107])),(.var 7),(.lst [(.var 4),(.var 4)])])])),(.set 6 (.op .Add (.c (.int 1 0)) (.op .Mult (.c (.int 2 0)) (.call 54 [(.var 7),(.var 1)]))))] []
def Gs.rp{wi:List Int}{xw:U}{p2 i:Nat}(g:Gs wi)(sw:Sr h xw wi)(z:Row h u4 1)(ei:h[i]?=some (.tup [JV,xw,.ref p2]))(e2:h[p2]?=some (.lst [u4,u4])):RpI (RpL 1) h (.ref i) (.blk wi [.row 1,.row 1]):=⟨i,xw,.ref p2,rfl,ei,sw,g.1,Qcp g,⟨p2,[u4,u4],rfl,e2,by show 2<=1000;decide,.cons z (.cons z .nil)⟩,g.2.1,g.2.2.1⟩
def QmO(hc:h[cp]?=some (.lst (ch.map iU)))(gc:Gc ch)(so:Sr h ou o)(go:Gs o)
  (k:∀h1 u4 p5 ou' o' l m x7,Kp h h1->RpL 2 h1 (.ref p5) l->Lm ch l m->Sr h1 ou' o'->Gs o'->Xx (tbG xx (ns.map iU)) (Qd (tbG xx (ns.map iU)) (n+1)) 91 r [some .scr,sR cp,some cu,some ou',some u4,sR p5,some (iU m),x7,none,none,none,none,none,none,none,none,none,none,none] h1 Q):
  Xx (tbG xx (ns.map iU)) (Qd (tbG xx (ns.map iU)) (n+1)) 95 ((.set 4 (Qjt (.make 1 [(.c (.int 1 0))])))::(.set 5 (.lst [(.var 4)]))::(.set 6 (.c (.int 1 0)))::lS9::r) [some .scr,sR cp,some cu,some ou,none,none,none,none,none,none,none,none,none,none,none,none,none,none,none] h Q:=by
 obtain⟨q4,h1,e1,k1,z4⟩:=QiW (T:=tbG xx (ns.map iU)) (cf:=Qd (tbG xx (ns.map iU)) (n+1)) (d:=89) (ρ:=[some .scr,sR cp,some cu,some ou,none,none,none,none,none,none,none,none,none,none,none,none,none,none,none]) (h:=h) (e:=.make 1 [(.c (.int 1 0))]) (λh=>QgN) (.inl ⟨rfl,rfl⟩);have k2:Kp h1 (h1++[O.lst [.ref q4]]):=kp1;have k12:=k1.trans k2
 refine QR (Qu (d:=93) e1) (QR (Qu (d:=92) (ZT (Qa rfl))) (QR (Qu (d:=91) y_c) (Qbq (d:=90) (Qlq (YU (ZA (m:=7) rfl) (by decide)) y_c) ?_)))
 by_cases h8:cl ns 7 % 2=1
 ·rw[X9 h8,if_pos rfl]
  obtain⟨xw,h3,e3,k3,s3⟩:=Qek (xx:=xx) (s:=ns.map iU) (n:=n) (h:=h1++[O.lst [.ref q4]]) (x:=cl ns 7 / 2) (m:=3) (by decide)
  have k13:=k12.trans k3;have kz:=k2.trans k3
  refine QR (Qu (d:=88) (Qj (e_2 (Qax (ZA (m:=7) rfl) (by decide)) y_c) e3)) (Qbq (d:=87) (Qf8 (Qk (Qa rfl) (Sm.ix (.inr (so.kp k13)) (j:=0) (x:=hd o) ?_)) y_c) ?_)
  ·obtain⟨a,b,d,e,f,rfl,_⟩:=QkE go;rfl
  have fin:∀{hq:Hs} {xw' ou':U} {wi o':List Int},Kp h1 hq->Sr hq xw' wi->Gs wi->Sr hq ou' o'->Gs o'->Xx (tbG xx (ns.map iU)) (Qd (tbG xx (ns.map iU)) (n+1)) 88 [(.set 5 (.lst [(.var 4),(.tup [(.c (.str [98,108,111,99,107])),(.var 7),(.lst [(.var 4),(.var 4)])])])),(.set 6 (.op .Add (.c (.int 1 0)) (.op .Mult (.c (.int 2 0)) (.call 54 [(.var 7),(.var 1)]))))] [some .scr,sR cp,some cu,some ou',sR q4,sR h1.length,some (iU 1),some xw',none,none,none,none,none,none,none,none,none,none,none] hq (Nq (tbG xx (ns.map iU)) (Qd (tbG xx (ns.map iU)) (n+1)) 91 r Q):=λ{hq xw' ou' wi o'} kq sw gw so' go'=>by
   have kk:Kp hq (hq++[O.lst [.ref q4,.ref q4]]++[O.tup [JV,xw',.ref hq.length]]++[O.lst [.ref q4,.ref (hq++[O.lst [U.ref q4,U.ref q4]]).length]]):=(kp1.trans kp1).trans kp1;have zq:=(z4.kp kq).kp kk
   refine QR (Qu (d:=86) (Y0 (Qa rfl) (Qbe (u:=JV) y_c (Qa rfl) (Y0 (Qa rfl) (Qa rfl))))) (QR (Qu (d:=85) (Zm y_c (Zm y_c (Qj (e_2 (Qa rfl) (Qa rfl)) (JE (sw.kp kk) gw.1 ((k1.trans kq).trans kk _ _ hc) gc.1 (Qcp gw))) (QbD (by decide))) Yv)) (ZC (k _ _ _ _ _ [.row 1,.blk wi [.row 1,.row 1]] _ _ ((k1.trans kq).trans kk) ⟨_,_,rfl,Qi,by show 2<=1000;decide,.cons zq (.cons (gw.rp (sw.kp kk) zq (Qt Qi) (Qt (Qt Qi))) .nil)⟩ (.inr ⟨wi,gw,rfl,rfl⟩) (so'.kp kk) go')))
  by_cases h60:60<hd o
  ·rw[X9 h60,if_pos rfl];have go2:=go.2.2.1
   refine QR (Qu (d:=85) (Qbd y_c y_c y_c y_c y_c)) (QR (Qu (d:=84) (Qbd (Qax (Qk (Qa rfl) (Sm.ix (.inr ((so.kp k13).kp kp1)) (j:=0) (x:=hd o) ?_)) (by decide)) y_c y_c y_c y_c)) (ZC (fin (wi:=i5 1) (o':=i5 (hd o / 3)) ((kz.trans kp1).trans kp1) ⟨_,rfl,Qt Qi⟩ (QhV (by decide) (by decide)) ⟨_,rfl,Qi⟩ (QhV (by lia) (by lia)))))
   obtain⟨a,b,d,e,f,rfl,_⟩:=QkE go;rfl
  ·rw[Xy h60,if_neg Xh]
   exact ZC (fin kz s3 (QbR (by decide) (by decide)) (so.kp k13) go)
 ·rw[Xy h8,if_neg Xh]
  exact ZC (k _ _ _ _ _ [.row 1] 1 none k12 ⟨_,_,rfl,Qi,by show 1<=1000;decide,.cons (z4.kp k2) .nil⟩ (.inl ⟨rfl,rfl⟩) (so.kp k12) go)
end
section
variable {l:List D}{m:Int}
noncomputable def Qn9:Iv.S:=.set 11 (.ix (.lst [(.c (.str [102,108,97,116])),(.c (.str [114,111,117,110,100]))]) (.op .Mod (.op .FloorDiv (.call 53 [(.var 0),(.c (.int 7 0))]) (.c (.int 2 0))) (.c (.int 2 0))))
noncomputable def Qn8:Iv.S:=.set 12 (.make 4 [(.var 11),(.var 2),(.lst [(.tup [(.c (.str [98,108,111,99,107])),(.var 3),(.var 5)]),(.var 10)])])
def QlZ{d:Nat}(hT:T.cls=Qoj):ev T cf (d+1) (.make 2 []) ρ h=some (.ref h.length,h++[.ins 2 []]):=by
 refine y_make.trans ?_;show Jr T cf 2 [] h=_;unfold Jr;rw[hT];rfl
def QmN(hc:h[cp]?=some (.lst (ch.map iU)))(gc:Gc ch)(sc:Sr h cu c)(gs:Gs c)(so:Sr h ou o)(go:Gs o)(rl:RpL 2 h (.ref p5) l)(zl:Lm ch l m)
  (k:∀h1 pp t rd x10 x11,Kp h h1->Hy h1 pp t cp rd c o ch l->Xx (tbG xx (ns.map iU)) (Qd (tbG xx (ns.map iU)) (n+10)) 86 r [some .scr,sR cp,some cu,some ou,some u4,sR p5,some (iU m),x7,some (iU (nd ch 3 (TH o l))),some (iU (wor c ch)),x10,x11,sR pp,none,none,none,none,none,none] h1 Q):
  Xx (tbG xx (ns.map iU)) (Qd (tbG xx (ns.map iU)) (n+10)) 91 ((.set 8 (.op .Add (.op .Mult (.var 6) (.call 54 [(.var 3),(.var 1)])) (.c (.int 1 0))))::(.set 9 (.call 54 [(.var 2),(.var 1)]))::(.set 10 (Qjt (.make 2 [])))::Qn9::Qn8::r) [some .scr,sR cp,some cu,some ou,some u4,sR p5,some (iU m),x7,none,none,none,none,none,none,none,none,none,none,none] h Q:=by
 have eR:m*wor o ch+1=nd ch 3 (TH o l):=by rw[Qfj,QdE zl,Int.mul_comm]
 have v8:ev (tbG xx (ns.map iU)) (Qd (tbG xx (ns.map iU)) (n+10)) 89 (.op .Add (.op .Mult (.var 6) (.call 54 [(.var 3),(.var 1)])) (.c (.int 1 0))) [some .scr,sR cp,some cu,some ou,some u4,sR p5,some (iU m),x7,none,none,none,none,none,none,none,none,none,none,none] h=some (iU (nd ch 3 (TH o l)),h):=Zm (Zm (Qa rfl) (Qj (e_2 (Qa rfl) (Qa rfl)) (JE so go.1 hc gc.1 (Qcp go))) (J1 (Qa8 go gc))) y_c (by rw[<-eR];exact Yv)
 obtain⟨q10,h1,e1,k1,z10⟩:=QiW (T:=tbG xx (ns.map iU)) (cf:=Qd (tbG xx (ns.map iU)) (n+10)) (d:=83) (ρ:=[some .scr,sR cp,some cu,some ou,some u4,sR p5,some (iU m),x7,some (iU (nd ch 3 (TH o l))),some (iU (wor c ch)),none,none,none,none,none,none,none,none,none]) (h:=h) (e:=.make 2 []) (λh=>QlZ rfl) (.inr ⟨rfl,rfl⟩);have k2:Kp h1 (h1++[O.lst [QA false,QA true]]):=kp1;obtain⟨rd,erd⟩:∃rd:Bool,rd=decide (cl ns 7 / 2 % 2=1):=⟨_,rfl⟩
 have v11:ev (tbG xx (ns.map iU)) (Qd (tbG xx (ns.map iU)) (n+10)) 86 (.ix (.lst [(.c (.str [102,108,97,116])),(.c (.str [114,111,117,110,100]))]) (.op .Mod (.op .FloorDiv (.call 53 [(.var 0),(.c (.int 7 0))]) (.c (.int 2 0))) (.c (.int 2 0)))) [some .scr,sR cp,some cu,some ou,some u4,sR p5,some (iU m),x7,some (iU (nd ch 3 (TH o l))),some (iU (wor c ch)),sR q10,none,none,none,none,none,none,none,none] h1=some (QA rd,h1++[O.lst [QA false,QA true]]):=by
  refine QeA (Y0 (u:=QA false) (w:=QA true) y_c y_c) (YU (Qax (ZA (m:=7) rfl) (by decide)) (by decide)) ?_
  have b:cl ns 7 / 2 % 2=0\/cl ns 7 / 2 % 2=1:=by lia
  rcases b with b|b
  ·rw[erd,b];exact JS (j:=0) Qi rfl
  ·rw[erd,b];exact JS (j:=1) Qi rfl
 have kk:Kp (h1++[O.lst [QA false,QA true]]) (h1++[O.lst [QA false,QA true]]++[O.tup [JV,ou,.ref p5]]++[O.lst [.ref (h1++[O.lst [QA false,QA true]]).length,.ref q10]]):=kp1.trans kp1;have k13:=(k1.trans k2).trans kk;obtain⟨h3,eh3⟩:∃h3,h3=h1++[O.lst [QA false,QA true]]++[O.tup [JV,ou,.ref p5]]++[O.lst [.ref (h1++[O.lst [QA false,QA true]]).length,.ref q10]]:=⟨_,rfl⟩
 have rp:RpL 3 h3 (.ref (h1++[O.lst [QA false,QA true]]++[O.tup [JV,ou,.ref p5]]).length) (TH o l):=by
  rw[eh3]
  exact⟨_,_,rfl,Qi,by show 2<=1000;decide,.cons ⟨_,ou,.ref p5,rfl,Qt Qi,so.kp k13,go.1,Qcp go,RpL.kp k13 rl,go.2.1,go.2.2.1⟩ (.cons (z10.kp (k2.trans kk)) .nil)⟩
 rw[<-eh3]at k13;obtain⟨h4,t,e4,k4,ep,rt⟩:=Qia (xx:=xx) (s:=ns.map iU) (n:=n) (wy:=QA rd) (cu:=cu) rp
 have v12:ev (tbG xx (ns.map iU)) (Qd (tbG xx (ns.map iU)) (n+10)) 85 (.make 4 [(.var 11),(.var 2),(.lst [(.tup [(.c (.str [98,108,111,99,107])),(.var 3),(.var 5)]),(.var 10)])]) [some .scr,sR cp,some cu,some ou,some u4,sR p5,some (iU m),x7,some (iU (nd ch 3 (TH o l))),some (iU (wor c ch)),sR q10,some (QA rd),none,none,none,none,none,none,none] (h1++[O.lst [QA false,QA true]])=some (.ref h3.length,h4):=by
  refine(y_make (d:=84)).trans ?_
  have e3:evs (ev (tbG xx (ns.map iU)) (Qd (tbG xx (ns.map iU)) (n+10)) 84) [some .scr,sR cp,some cu,some ou,some u4,sR p5,some (iU m),x7,some (iU (nd ch 3 (TH o l))),some (iU (wor c ch)),sR q10,some (QA rd),none,none,none,none,none,none,none] [(.var 11),(.var 2),(.lst [(.tup [(.c (.str [98,108,111,99,107])),(.var 3),(.var 5)]),(.var 10)])] (h1++[O.lst [QA false,QA true]])=some ([QA rd,cu,.ref (h1++[O.lst [QA false,QA true]]++[O.tup [JV,ou,.ref p5]]).length],h3):=by
   rw[eh3];exact e_3 (Qa rfl) (Qa rfl) (Y0 (d:=83) (Qbe (u:=JV) y_c (Qa rfl) (Qa rfl)) (Qa rfl))
  rw[e3,Qx]
  show(match Qd (tbG xx (ns.map iU)) (n+10) 51 [.ref h3.length,QA rd,cu,.ref (h1++[O.lst [QA false,QA true]]++[O.tup [JV,ou,.ref p5]]).length] (h3++[O.ins 4 []])with|some (.non,h2')=>some (U.ref h3.length,h2')|_=>none)=_
  rw[e4]
 have kf:=k13.trans k4;have lw:=QmH zl;refine QR (Qu (d:=89) v8) (QR (Qu (d:=88) (Qj (e_2 (Qa rfl) (Qa rfl)) (JE sc gs.1 hc gc.1 (Qcp gs)))) (QR (Qu (d:=87) e1) (QR (Qu (d:=86) v11) (QR (Qu (d:=85) v12) (k h4 h3.length t rd _ _ kf ⟨⟨⟨cu,ep,sc.kp kf⟩,?_,gs.1,Qm5 gs,lw.1,lw.2⟩,kf _ _ hc,Qcp gs,QmI zl gc go,QmJ zl gc go,QmK zl gc go,(ZZ gs gc).2.1⟩)))));obtain⟨p',us,eq,eu,lu,pr⟩:=rt;cases eq
 cases pr with
 |cons a pr=>cases pr with
 |cons b pr=>
 cases pr;exact⟨_,_,eu,a,b⟩
end
section
variable {fp j:Nat}{m R S:Int}{x10 x11:Option U}{us5:List U}
def QiG{is:List Nat}:ex T cf (d+1) (.unpN is e) ρ h=bd (ev T cf d e ρ h) λu h1=>(Qlp u h1).bind λus=>(Qir is us ρ).map λρ'=>(.next,ρ',h1):=rfl
noncomputable def lB3:Iv.S:=.ite (.cmp .Lt (.op .Add (.var 14) (.c (.int 1 0))) (.var 8)) [(.set 18 (.c (.int 0 0))),(.ite (.cmp .Gt (.op .Mod (.var 14) (.var 6)) (.c (.int 0 0))) [(.set 18 (.op .Add (.c (.int 1 0)) (.op .Mod (.op .Sub (.op .Mod (.var 14) (.var 6)) (.c (.int 1 0))) (.c (.int 2 0)))))] [])] []
noncomputable def lB4:Iv.S:=.ite (.or (.cmp .NotEq (.var 15) (.var 18)) (.or (.cmp .NotEq (.bi .len [(.var 16)]) (.var 9)) (.cmp .IsNot (.var 17) (.c (.bl false))))) [(.ret (.c (.bl false)))] []
noncomputable def lB:List Iv.S:=[(.unpN [15,16,17] (.ix (.var 13) (.var 14))),(.set 18 (.op .Add (.bi .len [(.var 5)]) (.bi .int [(.cmp .Gt (.bi .len [(.var 5)]) (.c (.int 1 0)))]))),lB3,lB4]
noncomputable def Rw(cp:Nat)(cu ou u4:U)(p5:Nat)(m:Int)(x7:Option U)(R S:Int)(x10 x11:Option U)(pp:Nat)(x13 x14 x15 x16 x17 x18:Option U):Rho:=[some .scr,sR cp,some cu,some ou,some u4,sR p5,some (iU m),x7,some (iU R),some (iU S),x10,x11,sR pp,x13,x14,x15,x16,x17,x18]
def b_3{x15 x16 x17:Option U}{D0:Int}(m1:1<=m):∃x14':Option U,ex T cf (d+12) lB3 (Rw cp cu ou u4 p5 m x7 R S x10 x11 pp (sR fp) (some (iU (j:Int))) x15 x16 x17 (some (iU D0))) h=some (.next,Rw cp cu ou u4 p5 m x7 R S x10 x11 pp (sR fp) (some (iU (j:Int))) x15 x16 x17 (some (iU (if(j:Int)+1<R then due m.toNat j else D0))),h):=by
 refine⟨none,?_⟩
 have em:(j:Int) % m=((j % m.toNat:Nat):Int):=by
  rw[Int.natCast_emod,Tn (by lia)]
 refine Ym (d:=d+11) (QI (Zm (Qa rfl) y_c Yv) (Qa rfl) rfl) ?_;by_cases h1:(j:Int)+1<R
 ·rw[X9 h1,if_pos rfl,if_pos h1]
  refine(QW (Zy y_c)).trans (Qs (d:=d+8) (Ym (d:=d+8) (Qf8 (Zm (Qa rfl) (Qa rfl) (QaP (by lia))) y_c) ?_))
  by_cases h2:0<(j:Int) % m
  ·rw[X9 h2,if_pos rfl]
   refine(Qs (Zy (Zm y_c (Zm (Zm (Zm (Qa rfl) (Qa rfl) (QaP (by lia))) y_c QmD) y_c (QaP (by decide))) Yv))).trans ?_
   have e:1+((j:Int) % m-1) % 2=due m.toNat j:=by
    unfold due
    rw[if_neg (by lia),em]
   rw[e];rfl
  ·rw[Xy h2,if_neg Xh]
   have e:(0:Int)=due m.toNat j:=by
    unfold due
    rw[if_pos (by lia)]
   rw[<-e];rfl
 ·rw[Xy h1,if_neg Xh,if_neg h1];rfl
def Qny{x15 x16 x17 x18:Option U}{ii x:Nat}{D:Int}(m1:1<=m)(hf:h[fp]?=some (.lst us))(hu:us[j]?=sR ii)(hi:h[ii]?=some (.tup [iU D,.ref x,.bl false]))(hx:h[x]?=some (.lst xs))(lx:(xs.length:Int)=S)(h5:h[p5]?=some (.lst us5))(hD:D=if(j:Int)+1<R then due m.toNat j else((us5.length:Int)+(if 1<(us5.length:Int)then 1 else 0))):
  exs T cf (d+16) lB (Rw cp cu ou u4 p5 m x7 R S x10 x11 pp (sR fp) (some (iU (j:Int))) x15 x16 x17 x18) h=some (.next,Rw cp cu ou u4 p5 m x7 R S x10 x11 pp (sR fp) (some (iU (j:Int))) (some (iU D)) (sR x) (some (.bl false)) (some (iU D)),h):=by
 have e1:ex T cf (d+15) (.unpN [15,16,17] (.ix (.var 13) (.var 14))) (Rw cp cu ou u4 p5 m x7 R S x10 x11 pp (sR fp) (some (iU (j:Int))) x15 x16 x17 x18) h=some (.next,Rw cp cu ou u4 p5 m x7 R S x10 x11 pp (sR fp) (some (iU (j:Int))) (some (iU D)) (sR x) (some (.bl false)) x18,h):=by
  rw[QiG,QeA (Qa rfl) (Qa rfl) (JS (j:=j) hf hu),Qx];simp only[Qlp,hi];rfl
 have e2:ev T cf (d+13) (.op .Add (.bi .len [(.var 5)]) (.bi .int [(.cmp .Gt (.bi .len [(.var 5)]) (.c (.int 1 0)))])) (Rw cp cu ou u4 p5 m x7 R S x10 x11 pp (sR fp) (some (iU (j:Int))) (some (iU D)) (sR x) (some (.bl false)) x18) h=some (iU ((us5.length:Int)+(if 1<(us5.length:Int)then 1 else 0)),h):=by
  refine Zm (Qay (Qa rfl) (Qcl h5)) (Qay (u:=.bl (decide (1<(us5.length:Int)))) (QcQ (Qay (Qa rfl) (Qcl h5)) y_c rfl) (x:=some (iU (if 1<(us5.length:Int)then 1 else 0),h)) ?_) Yv;show some (U.int (if decide (1<(us5.length:Int))=true then 1 else 0) 0,h)=_;by_cases z:1<(us5.length:Int)<;>simp[z]
 obtain⟨_,e3⟩:=b_3 (T:=T) (cf:=cf) (d:=d+1) (h:=h) (cp:=cp) (cu:=cu) (ou:=ou) (u4:=u4) (p5:=p5) (x7:=x7) (R:=R) (S:=S) (x10:=x10) (x11:=x11) (pp:=pp) (fp:=fp) (j:=j) (x15:=some (iU D)) (x16:=sR x) (x17:=some (.bl false)) (D0:=(us5.length:Int)+(if 1<(us5.length:Int)then 1 else 0)) m1;rw[<-hD]at e3;refine(QW e1).trans ((QW (Zy e2)).trans ((QW e3).trans (Qs (QeF (c:=false) (Qiq (c:=false) (h1:=h) (QI (u:=iU D) (w:=iU D) (Qa rfl) (Qa rfl) ?_) ?_) rfl))))
 ·show some (!decide (D=D))=_;rw[X9 rfl];rfl
 ·rw[if_neg Xh];refine Qiq (c:=false) (h1:=h) (QI (Qay (Qa rfl) (Qcl hx)) (Qa rfl) ?_) ?_
  ·show some (!decide ((xs.length:Int)=S))=_;rw[X9 lx];rfl
  ·rw[if_neg Xh];exact QI (u:=.bl false) (Qa rfl) y_c rfl
end
section
variable {fp j:Nat}{l:List D}{m:Int}{x10 x11:Option U}{x2 x1 x0:Nat->List U->Hs->Option (Er×Hs)}
noncomputable def Qn7:Iv.S:=.ite (.or (.cmp .Gt (.var 8) (.c (.int 300 0))) (.cmp .Gt (.op .Mult (.var 8) (.var 9)) (.c (.int 3000 0)))) [(.ret (.call 56 [(.var 12),(.var 1)]))] []
noncomputable def Qn6:Iv.S:=.cal (.set 13 (.call 42 [(.var 12),(.var 1)])) 42 [(.var 12),(.var 1)]
noncomputable def Qn5:Iv.S:=.ite (.or (.not (.isi (.var 13) .list)) (.cmp .NotEq (.bi .len [(.var 13)]) (.var 8))) [(.ret (.c (.bl false)))] []
def QmM(hx:xx=Q4 (tbG x2 (ns.map iU)) 14)(hx2:x2=Q4 (tbG x1 (ns.map iU)) 14)(hx1:x1=Q4 (tbG x0 (ns.map iU)) 14)(y:Hy h pp t cp rd c o ch l)(rl:RpL 2 h (.ref p5) l)(zl:Lm ch l m)(gc:Gc ch)(go:Gs o)(gs:Gs c):
  Xx (tbG xx (ns.map iU)) (Qd (tbG xx (ns.map iU)) (n+15)) 86 (Qn7::Qn6::Qn5::(.loop (.name 14) (.rng (.var 8)) lB)::[(.ret (.c (.bl true)))]) (Rw cp cu ou u4 p5 m x7 (nd ch 3 (TH o l)) (wor c ch) x10 x11 pp none none none none none none) h (Fq λu v=>u=.bl true):=by
 obtain⟨R,eR⟩:∃R,R=nd ch 3 (TH o l):=⟨_,rfl⟩;obtain⟨S,eS⟩:∃S,S=wor c ch:=⟨_,rfl⟩;have smS:Qg S=true:=eS▸Qa8 gs gc;rw[<-eR,<-eS];have t2:∀d,evT (tbG xx (ns.map iU)) (Qd (tbG xx (ns.map iU)) (n+15)) (d+4) (.cmp .Gt (.op .Mult (.var 8) (.var 9)) (.c (.int 3000 0))) (Rw cp cu ou u4 p5 m x7 R S x10 x11 pp none none none none none none) h=some (decide (3000<R*S),h):=λd=>Qf8 (Zm (Qa rfl) (Qa rfl) (J1 smS)) y_c
 have t1:evT (tbG xx (ns.map iU)) (Qd (tbG xx (ns.map iU)) (n+15)) 84 (.or (.cmp .Gt (.var 8) (.c (.int 300 0))) (.cmp .Gt (.op .Mult (.var 8) (.var 9)) (.c (.int 3000 0)))) (Rw cp cu ou u4 p5 m x7 R S x10 x11 pp none none none none none none) h=some (decide (300<R)||decide (3000<R*S),h):=by
  refine Qiq (c:=decide (300<R)) (h1:=h) (Qf8 (Qa rfl) y_c) ?_;by_cases z:300<R
  ·rw[X9 z,if_pos rfl];rfl
  ·rw[Xy z,if_neg Xh];exact t2 79
 refine Qbq (d:=84) t1 ?_;by_cases bad:300<R\/3000<R*S
 ·have e:(decide (300<R)||decide (3000<R*S))=true:=by simpa using bad
  rw[e,if_pos rfl]
  exact Qz (d:=82) (Qjw (e_2 (Qa rfl) (Qa rfl)) ((Qnv (n:=n) hx hx2 hx1 y (by rw[<-eR,<-eS];exact bad)).mono λu h1 z=>z))
 ·have e:(decide (300<R)||decide (3000<R*S))=false:=by simpa using bad
  rw[e,if_neg Xh]
  have b1:R<=300:=by lia
  have b2:R*S<=3000:=by lia
  obtain⟨_,h1,e1,k1,fp,us,rfl,ef,lu,fu⟩:=Qk0 (xx:=xx) (s:=ns.map iU) (n:=n+3) y (by lia) (by rw[<-eR,<-eS];exact b2)
  rw[<-eR]at lu;have lw:=Qfn zl gc;have ln:=QdE zl;have wo:=ZZ go gc;obtain⟨p',us5,eq5,e5,l5,pr5⟩:=RpL.kp k1 rl;cases eq5
  have len5:(((us5.length:Int)+(if 1<(us5.length:Int)then 1 else 0)):Int)=((wr 2 l).length:Int):=by
   rw[Qq pr5]
   rcases zl with⟨rfl,rfl⟩|⟨wi,g,rfl,rfl⟩<;>rfl
  have i1:Zx (tbG xx (ns.map iU)) .list (.ref fp) h1=some true:=by simp only[Zx,Zt,ef];rfl
  refine ZC (Qcc (d:=84) (QgK (Zy (Qj (d:=81) (e_2 (Qa rfl) (Qa rfl)) e1))) (QR (Qab (d:=81) (c:=false) (h1:=h1) (Qiq (c:=false) (h1:=h1) (Qb6 (c:=true) (JJ rfl (by rw[YT,Qa rfl,Qx,i1];rfl))) ?_) rfl) ?_))
  ·rw[if_neg Xh];refine QI (w:=iU R) (Qay (Qa rfl) (Qcl ef)) (Qa rfl) ?_;show some (!decide ((us.length:Int)=R))=_;rw[X9 lu];rfl
  ·refine Qhc (d:=81) (L:=us.length) (λi ρ hs=>hs=h1/\∃x14 x15 x16 x17 x18,ρ=Rw cp cu ou u4 p5 m x7 R S x10 x11 pp (sR fp) x14 x15 x16 x17 x18) ((Qa rfl).trans (by rw[<-lu])) (by lia) ⟨rfl,_,_,_,_,_,rfl⟩ (λi hi ρ hs z=>?_) λρ2 h2 z=>?_
   ·obtain⟨rfl,x14,x15,x16,x17,x18,rfl⟩:=z
    have hd:=QlY zl gc go (o:=o) (j:=i) (by lia)
    obtain⟨ii,x,xs,g1,g2,g3,g4⟩:=fu i _ hd
    exact⟨_,_,_,rfl,Qny (d:=65) (R:=R) (S:=S) (by lia) ef g1 g2 g3 (by rw[g4,eS]) e5 (by rw[len5,eR]),rfl,_,_,_,_,_,rfl⟩
   ·obtain⟨rfl,_,_,_,_,_,rfl⟩:=z;exact Qz (d:=80) (Za y_c rfl)
def QmL(hx:xx=Q4 (tbG x2 (ns.map iU)) 14)(hx2:x2=Q4 (tbG x1 (ns.map iU)) 14)(hx1:x1=Q4 (tbG x0 (ns.map iU)) 14):Cc (tbG xx (ns.map iU)) (n+16) 58 [.scr] [] λu z=>u=.bl true:=by
 refine Zf (Qc fnL[58] rfl rfl) ?_;show Xx (tbG xx (ns.map iU)) (Qd (tbG xx (ns.map iU)) (n+15)) 100 (lS1::lS2::lS3::lS4::lS5::(.set 4 (Qjt (.make 1 [(.c (.int 1 0))])))::(.set 5 (.lst [(.var 4)]))::(.set 6 (.c (.int 1 0)))::lS9::(.set 8 (.op .Add (.op .Mult (.var 6) (.call 54 [(.var 3),(.var 1)])) (.c (.int 1 0))))::(.set 9 (.call 54 [(.var 2),(.var 1)]))::(.set 10 (Qjt (.make 2 [])))::Qn9::Qn8::Qn7::Qn6::Qn5::(.loop (.name 14) (.rng (.var 8)) lB)::[(.ret (.c (.bl true)))]) [some .scr,none,none,none,none,none,none,none,none,none,none,none,none,none,none,none,none,none,none] [] _;refine QmQ (n:=n+14) λh cp ch hc gc=>QmP (n:=n+14) λh1 cu ou c o k1 sc so gs go=>QmO (n:=n+14) (k1 _ _ hc) gc so go λh2 u4 p5 ou' o' l m x7 k2 rl zl so' go'=>QmN (n:=n+5) (k2 _ _ (k1 _ _ hc)) gc (sc.kp k2) gs so' go' rl zl λh3 pp t rd x10 x11 k3 y=>?_;exact QmM (n:=n) hx hx2 hx1 y (RpL.kp k3 rl) zl gc go' gs
theorem Qgd:∀ns:List Int,Paired (λ(u:U) (i:Int)=>∃r m,u=.int r m/\∃q:Int,i=r+m*q) (ns.map λi=>U.int i 0) ns
 |[]=>.nil
 |i::ns=>.cons ⟨i,0,rfl,0,by simp⟩ (Qgd ns)
def comp(ns:List Int)(hl:ns.length<=63):∃s hs',Paired (λ(u:U) (i:Int)=>∃r m,u=.int r m/\∃q:Int,i=r+m*q) s ns/\Qd (tb (s)) 16 58 [.scr] []=some (.bl true,hs'):=by
 obtain⟨u,h,e,rfl⟩:=QmL (xx:=Q4 (Qi5 (ns.map iU)) 14) (ns:=ns) (n:=0) (x2:=Q4 (Qi6 (ns.map iU)) 14) (x1:=Q4 (tbX (ns.map iU)) 14) (x0:=λz z z=>none) rfl rfl rfl;exact⟨_,h,Qgd ns,e⟩
end
noncomputable def hfL:List Addr:=[112,119,140,147,154,161,201,208,215,249,254,261,266,271,276,281,288,293,300,305,310,316,323,330,337,349,356,370,377,384,389,396,403,410,417,424,429,434,441,446,453,460,465,472,479,486,493,500,507,514,607,638,650,657,664,671,678,685,690]
noncomputable def hcL:List Addr:=[122,185,239,359,641,31,52,64,76,95]
noncomputable def hkL:List Addr:=[98,242]
noncomputable def adr(a:Addr):Adr:=⟨λi=>hfL.getD i 0,λi=>hcL.getD i 0,λi=>hkL.getD i 0,a⟩
def JG(s:List U)(x:Nat->List U->Hs->Option (Er×Hs)):YR {tbX s with xf:=x} glo QlH:=Qep (by repeat (first|exact .nil|refine .cons (by kernel_rfl) ?_))
def Qk8(s:List U):YR (tb s) glo QlH:=JG s _
section
variable (w:World)(s:List U)(a:Addr)
def QkL{Kf:W.Frag}{fd0:FuncData}(hd:fd0.defaults=.ref 311)(ho:Kf.lookup 311=some (tu #[((.int 0 558))] 0)):∀n,Binds Kf (fnT fnL[21] fd0) ["lies","asked","many"] (List.drop n [((.int 0 558))])
 |0=>Qb0 (m:=2) rfl λs v X=>W.binds_K X hd ho rfl rfl rfl
 |n+1=>by
  rw[List.drop_eq_nil_of_le (by simp)]
  exact Qb0 (m:=3) rfl λs v X=>W.binds_K X hd ho rfl rfl rfl
def Qpf:AllI (FnA (K w.params) (adr a)) 0 (tbX s).fns:=by((iterate 21 refine .cons ⟨by kernel_rfl,by kernel_rfl,.inl λv=>by kernel_rfl⟩ ?_);refine .cons ⟨by kernel_rfl,by kernel_rfl,.inr (Qla (fd':=fnT fnL[21] (QaV (K w.params) ((adr a).f 21))) (by kernel_rfl) (QkL (by kernel_rfl) (by kernel_rfl) 1))⟩ ?_;repeat (first|exact .nil|refine .cons ⟨by kernel_rfl,by kernel_rfl,.inl λv=>by kernel_rfl⟩ ?_))
def Qpq:AllI (λz (p:Nat×Df)=>∃fd x q st,FunD (K w.params) x q st ((adr a).f p.1) fd/\QiB (adr a) (K w.params) fd p.2/\∀F,(tbX s).fns[p.1]?=some F->F.ps=p.2.ps/\F.np=p.2.np) 0 (tbX s).dfl:=(.cons ⟨_,_,_,_,(QaU (F:=fnL[21]) (by kernel_rfl) (by kernel_rfl)).1,⟨[((.int 0 558))],[.int 0],(.cons ⟨_,rfl,Cg.refl _ _⟩ .nil),(.cons ⟨_,rfl⟩ .nil),λn=>(Qla (fd':=fnT fnL[21] (QaV (K w.params) ((adr a).f 21))) (by kernel_rfl) (QkL (by kernel_rfl) (by kernel_rfl) n))⟩,λF e=>by cases e;exact⟨rfl,rfl⟩⟩ .nil)
def Qoi:Qiz (λk c=>coB (K w.params) (adr a) ((adr a).k k) c) 0 (tbX s).cons=true:=by kernel_rfl
def Qpb:AllI (λk z=>QnJ (K w.params) w ((adr a).k k)) 0 (tbX s).cons:=by repeat (first|exact .nil|refine .cons (by kernel_rfl) ?_)
def Qoy:Ql3 (K w.params) (tbX s) (adr a) glo QlH=true:=by kernel_rfl
end
def all_at{l:W.OpenLaw}(w:World){mg:Str->Option Value}{fa:Addr}{h:Heap}(X:(K w.params).In h)(G:h.Ns mainGlobals mg)(hfa:mg "law"=some (.ref fa)):
  ∃fd:FuncData,(∀(s:Shared) (v:Value),BindsTo s fd ⟨[v],[]⟩ [("_law_script",v)])/\∀base:Heap,(K w.params).In base->base.Ns mainGlobals mg->FnOk l.prog w (K w.params) mg base CX0 (0+2+2*14+2+2*14+2+2*14+2*16) fa fd ["_law_script"] (QeQ (K w.params)):= by
 have tp:∀(s:List U) (a:Addr),Top (tbX s) (adr a) (K w.params) mg glo QlH:=λs a=>Qi3 X G (Qpf w s a) (Qoi w s a) (Qoy w s a) (Qpq w s a) (.cons (Qnc (by kernel_rfl) (by kernel_rfl) λz=>rfl) .nil)
 have tab:∀(s:List U) (a:Addr),JH l.prog w (tbX s) (adr a) (K w.params):=λs a=>Qi7 (Qoi w s a) (Qpb w s a)
 cases hfa.symm.trans ((tp [] 0).gfn "law" 58 (by kernel_rfl))
 have hX0:∀(base:Heap) (s:List U) (a:Addr),XOk l.prog w (K w.params) mg base (tbX s) (adr a) 0:=λbase s a=>Qo5 (tp s a) rfl;have hX1:∀(base:Heap) (s:List U) (a:Addr),XOk l.prog w (K w.params) mg base (Qi6 s) (adr a) (0+2+2*14):=λbase s a=>QlW (T:=tbX s) (T':=Qi6 s) (m:=14) rfl rfl rfl rfl rfl rfl rfl (tp s a) (tab s a) (JG s _) (hX0 base s a);have hX2:∀(base:Heap) (s:List U) (a:Addr),XOk l.prog w (K w.params) mg base (Qi5 s) (adr a) (0+2+2*14+2+2*14):=λbase s a=>QlW (T:=Qi6 s) (T':=Qi5 s) (m:=14) rfl rfl rfl rfl rfl rfl rfl (QgQ (tp s a)) (tab s a) (JG s _) (hX1 base s a);have hX:∀(base:Heap) (s:List U) (a:Addr),XOk l.prog w (K w.params) mg base (tb s) (adr a) (0+2+2*14+2+2*14+2+2*14):=λbase s a=>QlW (T:=Qi5 s) (T':=tb s) (m:=14) rfl rfl rfl rfl rfl rfl rfl (QgQ (tp s a)) (tab s a) (JG s _) (hX2 base s a)
 exact⟨QaV (K w.params) ((adr 0).f 58),λs v=>.of_eq (by kernel_rfl),λbase z z=>Qkp (tb:=tb) (adr:=adr) (L:=58) (F:=⟨"law","law",top 75,["_law_script"],["_law_script","_law_choice","_law_cast","_law_often_here","_law_plain_row","_law_inner","_law_many","_law_within","_law_rows","_law_size","_law_last","_law_way","_law_pattern","_law_found","_law_k","_law_number","_law_stitches","_law_turn","_law_due"],1,19,true,b58⟩) (λz=>rfl) (λz=>rfl) rfl rfl (λz=>rfl) (λz=>rfl) (λs a=>QgQ (tp s a)) (λs a=>tab s a) Qk8 (hX base) (QaU (F:=⟨"law","law",top 75,["_law_script"],["_law_script","_law_choice","_law_cast","_law_often_here","_law_plain_row","_law_inner","_law_many","_law_within","_law_rows","_law_size","_law_last","_law_way","_law_pattern","_law_found","_law_k","_law_number","_law_stitches","_law_turn","_law_due"],1,19,true,b58⟩) (by kernel_rfl) (by kernel_rfl)).1 comp⟩
def walk{l:W.OpenLaw}{q:Program}{loose:List Str}{XP:(Str->Option Value)->Heap->Prop}{YP:World->Heap->Prop}{d:DefRec}{K:Params->W.Frag}(hn:l.most=some 63)(hdf:d.params.defaults=[])
  (hY:∀(w:World) (h:Heap),YP w h->(K w.params).In h)
  (F:∀(w:World) (mg:Str->Option Value) (fa:Addr) (h:Heap),(K w.params).In h->h.Ns mainGlobals mg->mg d.name=some (.ref fa) ->
   ∃fd:FuncData,(∀(s:Shared) (u:Value),BindsTo s fd ⟨[u],[]⟩ [("_law_script",u)])/\∀base:Heap,(K w.params).In base->base.Ns mainGlobals mg->FnOk l.prog w (K w.params) mg base CX0 (0+2+2*14+2+2*14+2+2*14+2*16) fa fd ["_law_script"] (QeQ (K w.params))):
  W.WalkO q loose XP YP l.row.toRowW d [] (λf vs=>PySem.call f vs):=
 L2.walk_of (n:=63) (k:=(0+2+2*14+2+2*14+2+2*14+2*16)) (x:="_law_script") (CX:=λy=>CX0) (sp:=λw=>QeQ (K w.params)) hn (by decide) hdf ⟨rfl,by decide,by decide⟩ hY F (λy y a ns hl hO hS=>⟨a,ns,rfl,hS,hO,hl,λy=>rfl⟩) λy y y y y z=>z
end K26
open PySem PySem.W PyProof.Rows
set_option maxRecDepth 100000 in
set_option maxHeartbeats 0 in
theorem PySem.Challenge.cw_stitchroom_k26_too_many_rows_holds : PySem.Challenge.rw_stitchroom_k26_too_many_rows.Holds := by
 w_on;refine W.holds_law (by kernel_rfl) λsaid=>?_
 refine holds_open (q:=K26.hq) (loose:=K26.hlo) (Xt:=K26.hXt) (XP:=XL K26.hq []) (Yf:=K26.hYf) (Ya:=K26.hYa) (YP:=Hook.says (kHook K26.K K26.KA K26.hKA)) (N:=10126) K26.hleft (Hook.of (kHook K26.K K26.KA K26.hKA)) (Hook.keeps (kHook K26.K K26.KA K26.hKA)) (λs e=>xl_of s (Bool.and_eq_true_iff.mp e).1) XL.keeps (by rfl) (by rfl) (by rfl) (λs e=>recFacts_of (Bool.and_eq_true_iff.mp e).2) (by rfl) (by first|assumption|decide +kernel) (by decide +kernel) ⟨rfl,rfl,rfl,rfl,rfl,by decide +kernel⟩ ?hw ?hc
 (case hw=>w_witness2)
 refine K26.walk (l:=PySem.Challenge.rw_stitchroom_k26_too_many_rows) rfl rfl (λw h Yyy=>W.kIn_of Yyy) ?F
 case F=>
  intro w mg fa h KX G hmg;exact K26.all_at w KX G hmg
