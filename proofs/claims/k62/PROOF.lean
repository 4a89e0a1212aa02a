import PyProof.Rows.All
import Wide.All
import OpenK.AllK
import Wide.FinOn
import PyProof.EqAt
import PyProof.EqKinds
import PyProof.TupleCall
import KE.KTryMore
import PyProof.ExcArgsOwn
import PyProof.ExcBaseAll.ValueError
import PyProof.ExcAttrAll.ValueError
import PyProof.InstStoreFacts
import PySem.Challenge.RW_stitchroom_k62_one_row_of_hooks
set_option Elab.async false
set_option linter.all false
set_option maxRecDepth 100000
set_option maxHeartbeats 4000000
set_option bootstrap.genMatcherCode false
set_option compiler.extract_closed false
set_option genSizeOf false
def Xa:=@PySem.wpAny_bind
def Xb:=@PySem.Heap.get?_push_of_some
def Xc:=@Option.bind_eq_some_iff
def Xd:=@Option.map_eq_some_iff
def Xe:=@List.getElem?_eq_some_iff
def Xf:=@PySem.wpAny_pure
def Xg:=@PySem.Heap.lt_size
def Xh:=@Bool.false_ne_true
def Xj:=@List.getElem?_eq_getElem
def Xk:=@Bool.and_eq_true
def Xl:=@List.length_map
def Xm:=@Nat.le_refl
def Xn:=@Nat.ne_of_lt
def Xo:=@PySem.Heap.get?_push_size
def Xp:=@List.mem_cons_of_mem
def Xq:=@decide_eq_false
def Xr:=@List.mem_of_getElem?
def Xs:=@Nat.lt_of_lt_of_le
def Xu:=@List.getElem?_append_left
def Xv:=@List.getElem?_append_right
def Xw:=@List.mem_cons_self
def Xy:=@decide_eq_true_eq
def Xz:=@List.size_toArray
def X0:=@List.map_cons
def X1:=@List.map_append
def X2:=@PySem.wpAny_mono
def X3:=@Option.some.inj
def X4:=@decide_eq_true
def X5:=@List.mem_cons
def X6:=@Nat.le_trans
def X7:=@List.length_cons
def X8:=@List.getElem?_set_ne
def X9:=@Ne.symm
def Wa:=@if_true
def Wd:=@List.append_nil
def We:=@List.mem_append_right
def Wf:=@PyProof.Rows.callWith_type1
def Wg:=@PySem.wpAny_Call_Name_kw
def Wh:=@List.getElem?_set_self
def Wi:=@List.getElem?_eq_none_iff
def Wj:=@PySem.Paired.length
def Wl:=@List.all_eq_true
def Wm:=@beq_eq_false_iff_ne
def Wn:=@beq_iff_eq
def Wo:=@of_decide_eq_true
def Wp:=@List.append_assoc
def Wq:=@List.length_append
def Wr:=@Bool.false_eq_true
def Ws:=@List.mem_singleton
def Wt:=@List.map_congr_left
def Wu:=@PySem.wpAny_holding
def Wv:=@PySem.Heap.get?_update_self
def Ww:=@List.getElem?_eq_none
def Wx:=@List.find?_cons
def Wy:=@List.set_cons_zero
def Wz:=@Nat.lt_succ_self
def W2:=@List.take_length
def W3:=@List.lookup_cons
def W4:=@List.filter_cons
def W5:=@Nat.lt_irrefl
def W6:=@PySem.sizeLine_eq
def W7:=@PySem.Heap.get?_update_other
def W8:=@PySem.wpAny_field
def W9:=@Option.ite_none_right_eq_some
def Va:=@PySem.Heap.size_push
def Vb:=@PySem.wpAny_seqItems
def Vc:=@List.getElem?_of_mem
def Vd:=@Bool.and_eq_true_iff
def Ve:=@PySem.wpAny_callSpecial?_slot
def Vf:=@PySem.wpAny_pyIter_list
def Vg:=@List.getElem?_map
def Vh:=@if_false
def Vi:=@Option.some.injEq
def Vj:=@List.length_nil
def Vk:=@Nat.zero_add
def Vl:=@PySem.F.excBase_ValueError
def Vm:=@PySem.wpAny_call_entry
def Vn:=@List.contains_iff_mem
def Vo:=@List.set_append_right
def Vq:=@List.filterMap_append
def Vr:=@List.set_cons_succ
def Vs:=@Nat.le_succ
def Vt:=@List.nodup_cons
def Vu:=@PySem.wpAny_typeNameOfWhole_keyiter
def Vv:=@Nat.add_sub_cancel_left
def Vw:=@List.length_take
def Vx:=@Option.getD_some
def Vy:=@Nat.zero_le
def Vz:=@List.mem_filterMap
def V0:=@PySem.wpAny_setField_rec
def V1:=@Nat.sub_self
def V2:=@List.filter_append
def V3:=@List.mem_map
def V4:=@List.mem_append
def V5:=@PySem.wpAny_passesOwn
def V6:=@Bool.eq_iff_iff
def V7:=@List.lookup_cons_self
def V8:=@List.length_filter_le
def V9:=@List.any_cons
def Ua:=@PySem.F.slot_tuple_iterator_next
def Ub:=@PySem.wpAny_truthy_bool
def Uc:=@Bool.not_eq_true'
def Ud:=@PySem.F.slot_dict_keyiterator_next
def Ue:=@Int.toNat_natCast
def Uf:=@PySem.wpAny_newObj_type
def Ug:=@PySem.W.kia_one
def Uh:=@PySem.wpAny_typeNameOf_keyiter
def Ui:=@Nat.le_add_right
def Uj:=@PySem.mem_of_lookup
def Uk:=@List.all_cons
def Ul:=@PySem.wpAny_pyIter_tuple
def Um:=@PySem.Calls.spliced_cons
def Uo:=@PySem.tupleKind_room_in1
def Up:=@PySem.Obj.data_mapFields
def Uq:=@Bool.or_eq_true
def Ur:=@Option.map_eq_none_iff
def Us:=@PySem.Calls.spliced_nil
def Ut:=@PySem.wpAny_loadPart_at
def Uu:=@List.nodup_append
def Uv:=@PySem.codeAny_mono
def Uw:=@List.map_nil
def Ux:=@PySem.Heap.get?_none_of_le
def Uy:=@List.getElem_inj
def Uz:=@PySem.wpAny_call
def U0:=@PySem.codeAny_call_builtin
def U1:=@PySem.Calls.Name_function_global
def U2:=@List.getD_eq_getElem?_getD
def U3:=@List.nodup_iff_pairwise_ne
def U4:=@List.filterMap_cons
def U5:=@PySem.Heap.get?_update_ne
def U6:=@PySem.Heap.SameBut.update
def U7:=@List.mem_filter
def U8:=@PySem.wpAny_execs_nil
def U9:=@PySem.wpAny_ite_split
def Ta:=@Nat.ne_of_gt
def Tb:=@Option.isSome_iff_exists
def Tc:=@PySem.F.slot_list_getattribute
def Td:=@PySem.F.args_dict_keyiterator_next_1
def Te:=@PySem.wpAny_setField
def Tf:=@PySem.F.entry_dict_keyiterator_next
def Th:=@List.getElem?_replicate
def Ti:=@PySem.F.plainAttrs_dict
def Tj:=@List.getElem?_cons_zero
def Tk:=@List.reverse_cons
def Tl:=@List.take_add_one
def Tn:=@List.ext_getElem?
def To:=@PySem.Calls.callWith_builtin
def Tp:=@PySem.wpAny_standAt
def Tq:=@PySem.wpAny_attempt
def Ts:=@Nat.le_of_not_lt
def Tt:=@PySem.wpAny_isInstance
def Tu:=@List.cons_append
def Tv:=@Array.getElem?_toList
def Tw:=@PySem.F.slot_dict_get
def Tx:=@PySem.Obj.isFreed_of_fields
def Tz:=@PySem.builtinLookup_eq_fast
def T0:=@PySem.codeAny_builtin
def T1:=@PySem.wpAny_specialOf
def T3:=@Int.natCast_mul
def T4:=@PySem.F.slot_zip_next
def T5:=@List.map_map
def T6:=@Array.length_toList
def T7:=@Int.mul_assoc
def Znn{α:Type}{P:Prop}{x:α}(h:(none:Option α)=some x):P:=nomatch h
namespace L2
open PySem PySem.Spec PyProof.Rows
section
abbrev Key:=Sum Int Str
noncomputable def JB:Key->Value->Bool
 |.inl k,v=>Value.isInt k v
 |.inr x,v=>Value.isStrOf x v
noncomputable def Qoz(w:World):Key->Int
 |.inl k=>hashInt k
 |.inr x=>hashStr w x
def Qt:∀{k:Key} {v:Value},JB k v=true->(∃i t,k=Sum.inl i/\v=Value.int i t)\/(∃x t,k=Sum.inr x/\v=Value.str x t)
 |.inl i,v,h=>by
  obtain⟨t,e⟩:=Value.isInt_shape (k:=i) (v:=v) h;exact .inl ⟨i,t,rfl,e⟩
 |.inr x,v,h=>by
  obtain⟨t,e⟩:=Value.isStrOf_shape (x:=x) (v:=v) h;exact .inr ⟨x,t,rfl,e⟩
def Qap(i:Int)(t:Tok):JB (.inl i) (.int i t)=true:=by simp[JB,Value.isInt]
def Qao(x:Str)(t:Tok):JB (.inr x) (.str x t)=true:=by simp[JB,Value.isStrOf]
def QkI(a b:Int):decide ((Sum.inl a:Key)=Sum.inl b)=(a==b):=by
 by_cases e:a=b
 ·subst e;simp
 ·have h:¬(Sum.inl a:Key)=Sum.inl b:=λq=>e (Sum.inl.inj q);rw[Xq h];exact(Wm.mpr e).symm
def QkF(a b:Str):decide ((Sum.inr a:Key)=Sum.inr b)=decide (a=b):=by
 by_cases e:a=b
 ·subst e;simp
 ·have h:¬(Sum.inr a:Key)=Sum.inr b:=λq=>e (Sum.inr.inj q);rw[Xq h,Xq e]
def QkH(a:Int)(b:Str):decide ((Sum.inl a:Key)=Sum.inr b)=false:=Xq (λq=>nomatch q)
def QkG(a:Str)(b:Int):decide ((Sum.inr a:Key)=Sum.inl b)=false:=Xq (λq=>nomatch q)
noncomputable def Qq(prog:Program)(w:World):PySem.KeyKind prog w Key where
 is:=JB
 hash:=Qoz w
 inj:=λv a b ha hb=>by
  rcases Qt ha with⟨i,t,rfl,rfl⟩|⟨x,t,rfl,rfl⟩
  ·rcases Qt hb with⟨j,u,rfl,e⟩|⟨y,u,rfl,e⟩
   ·injection e with e1 _;rw[e1]
   ·exact nomatch e
  ·rcases Qt hb with⟨j,u,rfl,e⟩|⟨y,u,rfl,e⟩
   ·exact nomatch e
   ·injection e with e1 _;rw[e1]
 byValue:=λk v h=>by
  rcases Qt h with⟨i,t,rfl,rfl⟩|⟨x,t,rfl,rfl⟩<;>rfl
 pyHash:=λhv h=>by
  rcases Qt hv with⟨i,t,rfl,rfl⟩|⟨x,t,rfl,rfl⟩
  ·exact wpAny_pyHash_int h
  ·exact wpAny_pyHash_str h
 eqBool:=λhu hv h=>by
  rcases Qt hu with⟨i,t,rfl,rfl⟩|⟨x,t,rfl,rfl⟩
  ·rcases Qt hv with⟨j,u,rfl,rfl⟩|⟨y,u,rfl,rfl⟩
   ·rw[QkI]at h;exact wpAny_eqBool_int h
   ·rw[QkH]at h;exact SeqAt.EqAt.int_str i t y u _ _ _ _ h
  ·rcases Qt hv with⟨j,u,rfl,rfl⟩|⟨y,u,rfl,rfl⟩
   ·rw[QkG]at h;exact SeqAt.EqAt.str_int x t j u _ _ _ _ h
   ·rw[QkF]at h;exact wpAny_eqBool_str h
 «strs»:=λk x t v h=>by
  rcases Qt h with⟨i,u,rfl,e⟩|⟨y,u,rfl,e⟩
  ·exact nomatch e
  ·injection e with e1 _;subst e1;cases v<;>rfl
def Qa8(prog:Program)(w:World)(i:Int)(t:Tok):(Qq prog w).is (.inl i) (.int i t)=true:=Qap i t
def Qa7(prog:Program)(w:World)(x:Str)(t:Tok):(Qq prog w).is (.inr x) (.str x t)=true:=Qao x t
end
section
variable {a:Addr}{h h':Heap}{us:List Value}{P:Program}{α β:Type}{w:World}
inductive V where
 |non|bl (b:Bool)|int (i:Int)|str (x:Str)|byt (b:Array UInt8)|flt (b:UInt64)|ref (a:Addr)|ty (n:String)
 deriving DecidableEq
def RelV:V->Value->Prop
 |.non,u=>u=Value.none
 |.bl b,u=>u=Value.bool b
 |.int i,u=>∃t,u=Value.int i t
 |.str x,u=>∃t,u=Value.str x t
 |.byt b,u=>∃t,u=Value.bytes b t
 |.flt b,u=>∃t,u=Value.float b t
 |.ref a,u=>u=Value.ref a
 |.ty n,u=>u=Value.type n
abbrev Vals:List V->List Value->Prop:=Paired RelV
theorem Vals.length{xs:List V}(r:Vals xs us):xs.length=us.length:=Wj r
def QbE{P:α->β->Prop}{l l':List α}{r r':List β}(h:Paired P l r)(h':Paired P l' r'):Paired P (l++l') (r++r'):=by
 induction h with
 |nil=>exact h'
 |cons a _ ih=>exact .cons a ih
def Qdk{P:α->β->Prop}{l:List α}{r:List β}(h:Paired P l r)(n:Nat):Paired P (l.take n) (r.take n):=by
 induction h generalizing n with
 |nil=>rw[List.take_nil,List.take_nil];exact .nil
 |cons a _ ih=>
  cases n with
  |zero=>exact .nil
  |succ n=>exact .cons a (ih n)
def Qdl{P:α->β->Prop}{l:List α}{r:List β}(h:Paired P l r)(n:Nat):Paired P (l.drop n) (r.drop n):=by
 induction h generalizing n with
 |nil=>rw[List.drop_nil,List.drop_nil];exact .nil
 |cons a t ih=>
  cases n with
  |zero=>exact .cons a t
  |succ n=>exact ih n
def Qab{P:α->β->Prop}{l:List α}{r:List β}{i:Nat}{a:α}(h:Paired P l r)(e:l[i]?=some a):∃b,r[i]?=some b/\P a b:=by
 induction h generalizing i with
 |nil=>cases e
 |cons x _ ih=>
  cases i with
  |zero=>cases(show some _=some _ from e);exact⟨_,rfl,x⟩
  |succ i=>exact ih e
def Qgk{P:α->β->Prop}{l:List α}{r:List β}(h:Paired P l r):Paired P l.reverse r.reverse:=by
 induction h with
 |nil=>exact .nil
 |cons a _ ih=>rw[Tk,Tk];exact QbE ih (.cons a .nil)
def Vals.get{xs:List V}{i:Nat}{x:V}(h:Vals xs us)(e:xs[i]?=some x):∃u,us[i]?=some u/\RelV x u:=Qab h e
def Vals.append{xs ys:List V}{ws:List Value}(h:Vals xs us)(h':Vals ys ws):Vals (xs++ys) (us++ws):=QbE h h'
theorem Vals.take{xs:List V}(n:Nat)(h:Vals xs us):Vals (xs.take n) (us.take n):=Qdk h n
theorem Vals.drop{xs:List V}(n:Nat)(h:Vals xs us):Vals (xs.drop n) (us.drop n):=Qdl h n
def RelO:Option V->Option Value->Prop
 |some v,some u=>RelV v u
 |none,none=>True
 |_,_=>False
def KV{κ:Type}:List (κ×V)->List (κ×Value)->Prop:=Paired λ(p:κ×V) (q:κ×Value)=>p.1=q.1/\RelV p.2 q.2
noncomputable def kV:Key->V
 |.inl i=>.int i
 |.inr x=>.str x
inductive HO where
 /-- a list -/
 |lst (xs:List V)
 /-- a tuple (never changes) -/
 |tup (xs:List V)
 /-- a dict whose keys are ints and texts;one whose keys are tuples of ints and texts (the empty one is both) -/
 |dK (kvs:List (Key×V))|dT (kvs:List (List Key×V))
 /-- a set of ints: its members,its size -/
 |set (S:Int->Bool) (n:Nat)
 /-- an instance of the class at C,its dict at dx,its attributes -/
 |ins (C dx:Addr) (fs:List (Str×V))
 /-- the dict of the instance at x -/
 |own (x:Addr)
 /-- the dict of an exception -/
 |xd (fs:List (Str×V))
 /-- a bound method,f of x -/
 |met (f x:Addr)
 /-- a range object lo,lo+1,.. below hi -/
 |rng (lo hi:Int)
 /-- a thing that is known to the object (the script;a dict while a loop walks it): read,never written while it is so -/
 |frz (o:Obj) (u:HO)
 /-- a code object's table -/
 |tbl (ps:Array Value)
 /-- any other thing,by what is true of its one object (a def of one's own: SetO a S n:=HO.ext λh=>..) -/
 |ext (φ:Heap->Prop)
abbrev Hp:=Addr->Option HO
noncomputable def upd(H:Hp)(a:Addr)(o:HO):Hp:=λb=>if b=a then some o else H b
def Qf{H:Hp}{o:HO}:upd H a o a=some o:=by unfold upd;rw[if_pos rfl]
def Qb{H:Hp}{b:Addr}{o:HO}(h:b≠a):upd H a o b=H b:=by unfold upd;rw[if_neg h]
def QmU{H:Hp}{b:Addr}{o u:HO}(h:H a=some o)(h':H b=some u)(d:o≠u):a≠b:=by
 intro e;subst e;rw[h]at h';exact d (X3 h')
def Q0{H:Hp}{b:Addr}{o:HO}(h:H a=some o)(h':H b=none):a≠b:=by
 intro e;subst e;rw[h]at h';cases h'
section
variable (P:Program)(w:World)
def ObjOk(H:Hp)(h:Heap)(a:Addr):HO->Prop
 |.lst xs=>xs.length<=sizeLine/\∃(its:List Value) (n:Nat),Vals xs its/\h.get? a=some {cls:=.type "list",data:=.seq its.toArray n}
 |.tup xs=>xs.length<=sizeLine/\∃its:List Value,Vals xs its/\IsTup h a its.toArray
 |.dK kvs=>kvs.length<=sizeLine/\(a==sysModules)=false/\∃vs,KV kvs vs/\h.DictOf (Qq P w) a vs
 |.dT kvs=>kvs.length<=sizeLine/\(a==sysModules)=false/\∃xs:List (List Key×Addr×Value),
   Paired (λ(p:List Key×V) (q:List Key×Addr×Value)=>p.1=q.1/\H q.2.1=some (.tup (p.1.map kV))/\RelV p.2 q.2.2) kvs xs /\
   ∃o es ep,h.get? a=some o/\o.ExactDict/\o.data=.dict es ep/\es.toList=xs.map (entryOfKey (tupleKind (Qq P w)))/\(xs.map (·.1)).Nodup
 |.set S n=>h.SetOf (intKind P w) a S n
 |.ins C dx fs=>H dx=some (.own a)/\fs.length<=1000/\dx≠a/\h.get? a=some (W.instObj C dx) /\
   ∃mA,h.Ns1 dx mA/\(∀f,RelO (fs.lookup f) (mA f))/\PySem.Within mA (fs.map (·.1))
 |.own _=>∃o,h.get? a=some o
 |.xd fs=>∃mA,h.Ns1 a mA/\∀f,RelO (fs.lookup f) (mA f)
 |.rng lo hi=>∃t u v,h.get? a=some {cls:=.type "range",data:=.fields #[.int lo t,.int hi u,.int 1 v]}
 |.frz o u=>h.get? a=some o/\ObjOk H h a u
 |.tbl ps=>h.get? a=some {cls:=.none,data:=.fields ps}
 |.met f x=>h.get? a=some (W.methodObj (.ref f) (.ref x))
 |.ext φ=>φ h/\(∃o,h.get? a=some o)/\∀h1 h2:Heap,φ h1->(∀o,h1.get? a=some o->h2.get? a=some o)->φ h2
def HOk(H:Hp)(h:Heap):Prop:=∀a o,H a=some o->ObjOk P w H h a o
end
section
variable {H H':Hp}{o:HO}
theorem ObjOk.lt(x:ObjOk P w H h a o):a<h.objs.size:=by
 cases o with
 |lst xs=>obtain⟨_,_,_,_,e⟩:=x;exact Xg e
 |tup xs=>obtain⟨_,_,_,p⟩:=x;exact p.lt
 |dK kvs=>obtain⟨_,_,_,_,o,_,_,e,_⟩:=x;exact Xg e
 |dT kvs=>obtain⟨_,_,_,_,o,_,_,e,_⟩:=x;exact Xg e
 |set S n=>obtain⟨o,_,_,_,e,_⟩:=x;exact Xg e
 |ins C dx fs=>obtain⟨_,_,_,e,_⟩:=x;exact Xg e
 |own y=>obtain⟨_,e⟩:=x;exact Xg e
 |xd fs=>obtain⟨_,⟨_,_,_,e,_⟩,_⟩:=x;exact Xg e
 |rng lo hi=>obtain⟨_,_,_,e⟩:=x;exact Xg e
 |frz ob u=>obtain⟨e,_⟩:=x;exact Xg e
 |tbl ps=>exact Xg (show h.get? a=some _ from x)
 |met f y=>exact Xg (show h.get? a=some _ from x)
 |ext φ=>obtain⟨_,⟨_,e⟩,_⟩:=x;exact Xg e
def Paired.mapP{F G:α->β->Prop}{l₁:List α}{l₂:List β}(h:Paired F l₁ l₂)(f:∀a b,F a b->G a b):Paired G l₁ l₂:=PySem.Paired.mono f h
def ObjOk.stay(x:ObjOk P w H h a o)(k:∀b u,(b=a\/H b=some (.own a))->h.get? b=some u->h'.get? b=some u)
  (ho:∀b,H b=some (.own a)->H' b=some (.own a)) (ht:∀b xs,H b=some (.tup xs)->H' b=some (.tup xs)):ObjOk P w H' h' a o:=by
 induction o with
 |lst xs=>obtain⟨z,its,n,r,e⟩:=x;exact⟨z,its,n,r,k _ _ (.inl rfl) e⟩
 |tup xs=>obtain⟨z,its,r,ob,e,c⟩:=x;exact⟨z,its,r,ob,k _ _ (.inl rfl) e,c⟩
 |dK kvs=>obtain⟨z,y,vs,r,ob,es,ep,e,c⟩:=x;exact⟨z,y,vs,r,ob,es,ep,k _ _ (.inl rfl) e,c⟩
 |dT kvs=>
  obtain⟨z,y,xs,r,ob,es,ep,e,c⟩:=x;exact⟨z,y,xs,Paired.mapP r λp q z=>⟨z.1,ht _ _ z.2.1,z.2.2⟩,ob,es,ep,k _ _ (.inl rfl) e,c⟩
 |set S n=>obtain⟨ob,es,ep,t,e,c⟩:=x;exact⟨ob,es,ep,t,k _ _ (.inl rfl) e,c⟩
 |ins C dx fs=>
  obtain⟨d,z,ne,e,mA,⟨od,es,ep,e2,c⟩,r⟩:=x;exact⟨ho _ d,z,ne,k _ _ (.inl rfl) e,mA,⟨od,es,ep,k _ _ (.inr d) e2,c⟩,r⟩
 |own y=>obtain⟨ob,e⟩:=x;exact⟨ob,k _ _ (.inl rfl) e⟩
 |xd fs=>obtain⟨mA,⟨od,es,ep,e,c⟩,r⟩:=x;exact⟨mA,⟨od,es,ep,k _ _ (.inl rfl) e,c⟩,r⟩
 |rng lo hi=>obtain⟨t,u,v,e⟩:=x;exact⟨t,u,v,k _ _ (.inl rfl) e⟩
 |frz ob u ih=>obtain⟨e,q⟩:=x;exact⟨k _ _ (.inl rfl) e,ih q⟩
 |tbl ps=>
  have e:h.get? a=some {cls:=.none,data:=.fields ps}:=x;show h'.get? a=some {cls:=.none,data:=.fields ps};exact k a _ (.inl rfl) e
 |met f y=>
  have e:h.get? a=some (W.methodObj (.ref f) (.ref y)):=x;show h'.get? a=some (W.methodObj (.ref f) (.ref y));exact k a _ (.inl rfl) e
 |ext φ=>obtain⟨p,⟨o,e⟩,st⟩:=x;exact⟨st _ _ p λo q=>k _ _ (.inl rfl) q,⟨o,k _ _ (.inl rfl) e⟩,st⟩
theorem HOk.lt(x:HOk P w H h)(e:H a=some o):a<h.objs.size:=(x a o e).lt
def HOk.fresh(x:HOk P w H h)(e:h.objs.size<=a):H a=none:=by
 cases q:H a with
 |none=>rfl
 |some u=>exact absurd (Xs (x.lt q) e) (W5 _)
def HOk.kept(x:HOk P w H h)(k:∀b u,h.get? b=some u->h'.get? b=some u):HOk P w H h':=λa o e=>
 (x a o e).stay (λb u z q=>k b u q) (λz q=>q) λz z q=>q
def HOk.laid(x:HOk P w H h)(k:∀b u,h.get? b=some u->h'.get? b=some u)(hp:h.objs.size<=a)(new:ObjOk P w (upd H a o) h' a o):HOk P w (upd H a o) h':=λb u e=>by
 have hn:=x.fresh hp;by_cases hb:b=a
 ·subst hb;rw[Qf]at e;cases e;exact new
 ·rw[Qb hb]at e
  exact(x b u e).stay (λc v z q=>k c v q) (λc q=>by rw[Qb (Q0 q hn)];exact q) λc xs q=>by rw[Qb (Q0 q hn)];exact q
end
def Rd(H:Hp)(a:Addr)(u:HO):Prop:=H a=some u\/∃o,H a=some (.frz o u)
def Rd.ok{H:Hp}{u:HO}(r:Rd H a u)(x:HOk P w H h):ObjOk P w H h a u:=by
 rcases r with r|⟨o,r⟩
 ·exact x a u r
 ·obtain⟨_,q⟩:=x a _ r;exact q
def Mut:Option HO->Prop
 |some (.lst _)=>True
 |some (.dK _)=>True
 |some (.dT _)=>True
 |some (.set _ _)=>True
 |some (.ins _ _ _)=>True
 |some (.ext _)=>True
 |_=>False
section
variable {H:Hp}{x e:Addr}{o':HO}
def HOk.write(ok:HOk P w H h)(mu:Mut (H x))(he:e=x\/H e=some (.own x))(k:∀b u,b≠e->h.get? b=some u->h'.get? b=some u)(heo:∃u,h'.get? e=some u)
  (new:ObjOk P w (upd H x o') h' x o'):HOk P w (upd H x o') h':=λb u q=>by
 have nown:∀c y,H c=some (.own y)->c≠x:=λc y r z=>by subst z;rw[r]at mu;exact mu
 have ntup:∀c xs,H c=some (.tup xs)->c≠x:=λc xs r z=>by subst z;rw[r]at mu;exact mu
 by_cases hb:b=x
 ·subst hb;rw[Qf]at q;cases q;exact new
 ·rw[Qb hb]at q;by_cases hbe:b=e
  ·have q':H b=some (.own x):=by
    rcases he with z|z
    ·exact absurd (hbe.trans z) hb
    ·rw[hbe];exact z
   rw[q]at q';cases q';obtain⟨v,hv⟩:=heo
   exact⟨v,by rw[hbe];exact hv⟩
  ·refine(ok b u q).stay (λc v hc r=>k c v ?_ r) (λc r=>by rw[Qb (nown c b r)];exact r) λc xs r=>by rw[Qb (ntup c xs r)];exact r
   rcases hc with rfl|hc
   ·exact hbe
   ·rintro rfl
    rcases he with z|z
    ·exact nown c b hc z
    ·rw[hc]at z;cases z;exact hb rfl
end
structure Un(fs ex:List Addr)(H H':Hp)(h h':Heap):Prop where
 keep:∀b o,h.get? b=some o->H b=none->b∉fs->b∉ex->h'.get? b=some o
 slot:∀b o,h.get? b=some o->H b=none->b∈fs->b∉ex->∃sl,h'.get? b=some {o with slots:=sl}
 free:∀b o,h.get? b=some o->H b=none->b∉ex->H' b=none
 there:∀b o,h.get? b=some o->b∉ex->∃o',h'.get? b=some o'
 tups:∀b xs,H b=some (.tup xs)->H' b=some (.tup xs)
 frzs:∀b o u,H b=some (.frz o u)->H' b=some (.frz o u)
 tbls:∀b ps,H b=some (.tbl ps)->∃more,H' b=some (.tbl (ps++more))
section
variable {fs ex:List Addr}{H H1:Hp}{h1:Heap}{x e:Addr}{o:HO}
def Un.any(u:Un fs ex H H1 h h1){b:Addr}{ob:Obj}(q:h.get? b=some ob)(n:H b=none)(hx:b∉ex):∃sl,h1.get? b=some {ob with slots:=sl}:=by
 by_cases hb:b∈fs
 ·exact u.slot b ob q n hb hx
 ·exact⟨ob.slots,u.keep b ob q n hb hx⟩
def Un.kept(k:∀b u,h.get? b=some u->h'.get? b=some u):Un fs ex H H h h' :=
 ⟨λb ob q z z z=>k b ob q,λb ob q z z z=>⟨ob.slots,k b ob q⟩,λz z z n z=>n,λb ob q z=>⟨ob,k b ob q⟩,λz z q=>q,λz z z q=>q,λz ps q=>⟨#[],by rw[q];simp⟩⟩
def Un.refl:Un fs ex H H h h:=Un.kept λz z q=>q
def Un.laid(k:∀b u,h.get? b=some u->h'.get? b=some u)(hp:h.objs.size<=a)(hn:H a=none):Un fs ex H (upd H a o) h h' where
 keep:=λb u q z z z=>k b u q
 slot:=λb u q z z z=>⟨u.slots,k b u q⟩
 free:=λb u q n z=>by rw[Qb (Xn (Xs (Xg q) hp))];exact n
 there:=λb u q z=>⟨u,k b u q⟩
 tups:=λb xs q=>by rw[Qb (Q0 q hn)];exact q
 frzs:=λb u xs q=>by rw[Qb (Q0 q hn)];exact q
 tbls:=λb ps q=>⟨#[],by rw[Qb (Q0 q hn),q];simp⟩
def Un.write(mu:Mut (H x))(he:e=x\/H e=some (.own x))(k:∀b u,b≠e->h.get? b=some u->h'.get? b=some u)(heo:∃u,h'.get? e=some u):Un fs ex H (upd H x o) h h':=by
 have hx:∀b,H b=none->b≠x:=λb n z=>by subst z;rw[n]at mu;exact mu
 have hb:∀b,H b=none->b≠e:=λb n z=>by
  subst z
  rcases he with r|r
  ·exact hx b n r
  ·rw[n]at r;cases r
 have hm:∀b u,H b=some u->¬Mut (some u)->b≠x:=λb u q nm z=>by subst z;rw[q]at mu;exact nm mu
 refine⟨λb u q n y y=>k b u (hb b n) q,λb u q n y y=>⟨u.slots,k b u (hb b n) q⟩,λb u q n y=>by rw[Qb (hx b n)];exact n,λb u q y=>?_,
  λb xs q=>by rw[Qb (hm b _ q λz=>z)];exact q,λb u xs q=>by rw[Qb (hm b _ q λz=>z)];exact q,λb ps q=>⟨#[],by rw[Qb (hm b _ q λz=>z),q];simp⟩⟩
 by_cases hbe:b=e
 ·subst hbe;exact heo
 ·exact⟨u,k b u hbe q⟩
end
noncomputable def trk(h:Heap)(H:Hp):List Addr:=(List.range h.objs.size).filter λa=>(H a).isSome
noncomputable def QfG(h:Heap)(H:Hp):Heap:=W.hideAll h (trk h H)
def Qd3(h:Heap)(H:Hp):(QfG h H).objs.size=h.objs.size:=W.hideAll_size _ _
def QfF{H:Hp}{b:Addr}{o:Obj}(e:h.get? b=some o)(n:H b=none):(QfG h H).get? b=some o :=
 W.hideAll_get _ e λhm=>by
  have q:(H b).isSome=true:=(U7.mp hm).2;rw[n]at q;simp at q
def QhS{H:Hp}{b:Addr}{o:Obj}(e:(QfG h H).get? b=some o):h.get? b=some o/\H b=none:=by
 have e':h.get? b=some o:=W.of_hideAll (trk h H) e;refine⟨e',?_⟩
 cases q:H b with
 |none=>rfl
 |some x=>
  have hm:b∈trk h H:=U7.mpr ⟨List.mem_range.mpr (Xg e'),by simp[q]⟩
  have z:(QfG h H).get? b=none:=W.hideAll_none (trk h H) hm;rw[z]at e;cases e
end
section
variable {A:Around}{ch:List Addr}{M:Model}{i t':Nat}{x:Str}
structure Mod(K:W.Frag)(mg:Str->Option Value)(base:Heap):Prop where
 kin:K.In base
 glob:base.Ns mainGlobals mg
 blt:∃mb,base.Ns builtinsNs mb/\∀x:Str,x≠"__name__"->mb x=bootBuiltins x
 nolimit:base.NoLimit
structure Cx where
 prog:Program
 w:World
 K:W.Frag
 mg:Str->Option Value
 base:Heap
 A:Around
 N:List Str
 s₀:Shared
 H₀:Hp
 env:Env
 outer:List Env
 stack:List Env
 ex:List Addr
 fn:Str->Bool
 calm:Bool
 pn:List (Addr×Obj)
 xe:Value->Shared->Prop
noncomputable def frs(l:List Env):List Addr:=l.filterMap (·.frame)
noncomputable abbrev Cx.fs(X:Cx):List Addr:=frs X.outer
def Vis(sc:Scope)(x:Str):Prop:=sc.names.lookup x=some .local\/sc.names.lookup x=some .cell\/sc.names.lookup x=some .free
def Loc(sc:Scope)(x:Str):Prop:=sc.names.lookup x=some .local\/sc.names.lookup x=some .cell
noncomputable def Qp5(env:Env)(h:Heap)(m:Str->Option Value)(x:Str)(u:Value):Prop :=
 (env.kindOf x=some .local/\m x=some u)\/((env.kindOf x=some .cell\/env.kindOf x=some .free)/\∃c,env.cells.lookup x=some c/\h.IsCell c (some u))
structure Cx.Ok(X:Cx):Prop where
 mod:Mod X.K X.mg X.base
 kind:X.env.scope.kind=.function
 glob:X.env.globals=mainGlobals
 blt:X.env.builtins=builtinsNs
 above:X.s₀.heap.objs.size<=X.env.locals
 inj:∀x y c,X.env.cells.lookup x=some c->X.env.cells.lookup y=some c->x=y
 has:∀x,(X.env.kindOf x=some .cell\/X.env.kindOf x=some .free)->∃c,X.env.cells.lookup x=some c
 cab:∀x c,X.fn x=true->X.env.cells.lookup x=some c->X.s₀.heap.objs.size<=c
 hd:X.calm=true->X.A.handled=none
 frames:X.A.frames=some X.stack
 stk:X.stack=X.outer\/(X.stack=X.env::X.outer/\X.env.frame=some X.env.locals)
 exf:∀b∈X.ex,b≠X.env.locals/\∀x c,X.env.cells.lookup x=some c->c≠b
 bs:∀b o,X.base.get? b=some o->X.s₀.heap.get? b=some o/\X.H₀ b=none
 bsz:X.base.objs.size<=X.s₀.heap.objs.size
 noex:∀b o,X.base.get? b=some o->b∉X.ex
 exfs:∀b∈X.ex,b∉X.fs
 funs:X.s₀.heap.FunFrames X.base X.outer
 frf:∀b∈X.fs,X.H₀ b=none
structure Inv(X:Cx)(pins:List (Addr×Obj))(Y:List (Option V))(H:Hp)(s:Shared):Prop where
 ok:X.Ok
 os:s.os=X.s₀.os
 bare:AllBare s.gens
 base:Un X.fs X.ex X.H₀ H X.s₀.heap s.heap
 loc:∃m,s.heap.Ns X.env.locals m/\∀(i:Nat) (x:Str) (v:V),X.N[i]?=some x->Y[i]?=some (some v)->Vis X.env.scope x->∃u,RelV v u/\Qp5 X.env s.heap m x u
 cell:∀x c,X.env.cells.lookup x=some c->∃v,s.heap.IsCell c v
 free:H X.env.locals=none
 freeC:∀x c,X.env.cells.lookup x=some c->H c=none
 pin:∀p∈X.pn++pins,s.heap.get? p.1=some p.2/\H p.1=none/\p.1≠X.env.locals/\p.1∉X.fs/\∀v,p.2.data≠.cell v
 hok:HOk X.prog X.w H s.heap
 len:Y.length=X.N.length
section
variable {X:Cx}{pins:List (Addr×Obj)}{Y:List (Option V)}{H H':Hp}{s:Shared}{h':Heap}
def Cx.Ok.nofr(ok:X.Ok){b:Addr}{o:Obj}(e:X.base.get? b=some o):b∉X.fs:=λhb=>by
 have:=(ok.funs.mem hb).1;rw[e]at this;cases this
theorem Inv.bs(I:Inv X pins Y H s):∀b o,X.base.get? b=some o->s.heap.get? b=some o/\H b=none:=λb o e=>
 ⟨I.base.keep b o (I.ok.bs b o e).1 (I.ok.bs b o e).2 (I.ok.nofr e) (I.ok.noex b o e),I.base.free b o (I.ok.bs b o e).1 (I.ok.bs b o e).2 (I.ok.noex b o e)⟩
def Inv.bk(I:Inv X pins Y H s):∀b o,X.base.get? b=some o->s.heap.get? b=some o:=λb o e=>(I.bs b o e).1
theorem Inv.mod(I:Inv X pins Y H s):Mod X.K X.mg X.base:=I.ok.mod
def Inv.kIn(I:Inv X pins Y H s):X.K.In s.heap:=I.ok.mod.kin.keeps I.bk
theorem Inv.lt(I:Inv X pins Y H s):X.env.locals<s.heap.objs.size:=by obtain⟨_,hn,_⟩:=I.loc;exact hn.lt
def Inv.sz(I:Inv X pins Y H s):X.s₀.heap.objs.size<=s.heap.objs.size:=X6 I.ok.above (Nat.le_of_lt I.lt)
def Inv.nofs(I:Inv X pins Y H s){a:Addr}(h:s.heap.objs.size<=a):a∉X.fs:=λhb=>by
 obtain⟨_,o,ho,_⟩:=I.ok.funs.mem hb;exact absurd (Xs (Xg ho) (X6 I.sz h)) (W5 _)
def Inv.cne(I:Inv X pins Y H s):∀x c,X.env.cells.lookup x=some c->c≠X.env.locals:=λx c e z=>by
 obtain⟨v,o,ho,hd⟩:=I.cell x c e;obtain⟨m,⟨o',es,ep,ho',hd',_⟩,_⟩:=I.loc;rw[z,ho']at ho;cases ho;rw[hd']at hd;cases hd
theorem Inv.funs(I:Inv X pins Y H s):s.heap.FunFrames X.base X.outer:=by
 have all:∀(l:List Env),(∀b∈frs l,b∈X.fs)->X.s₀.heap.FunFrames X.base l->s.heap.FunFrames X.base l:=by
  intro l
  induction l with
  |nil=>intro _ _;trivial
  |cons env r ih=>
   intro hs hl;obtain⟨hk,⟨L,o,hf,hn,ho,hd⟩,hr⟩:=hl
   have hL:L∈X.fs:=hs L (by unfold frs;rw[U4,hf];exact Xw)
   obtain⟨sl,e⟩:=I.base.slot L o ho (I.ok.frf L hL) hL λz=>I.ok.exfs L z hL
   exact⟨hk,⟨L,_,hf,hn,e,hd⟩,ih (λb hb=>hs b (by unfold frs;rw[U4,hf];exact Xp _ hb)) hr⟩
 exact all X.outer (λy hb=>hb) I.ok.funs
theorem Inv.stack(I:Inv X pins Y H s):s.heap.FunFrames X.base X.stack:=by
 rcases I.ok.stk with e|⟨e,hf⟩
 ·rw[e];exact I.funs
 ·rw[e];obtain⟨m,hn,_⟩:=I.loc
  refine .cons (by rw[I.ok.kind];decide) hf hn ?_ I.funs
  exact Ux (X6 I.ok.bsz I.ok.above)
def Inv.stkSub(I:Inv X pins Y H s):∀b∈frs X.stack,b∈X.env.locals::X.fs:=λb hb=>by
 rcases I.ok.stk with e|⟨e,hf⟩
 ·rw[e]at hb;exact Xp _ hb
 ·rw[e]at hb;unfold frs at hb;rw[U4,hf]at hb;exact hb
def Inv.stkFree(I:Inv X pins Y H s):∀b∈frs X.stack,H b=none:=λb hb=>by
 rcases X5.mp (I.stkSub b hb)with e|hb
 ·rw[e];exact I.free
 ·obtain⟨_,o,ho,_⟩:=I.ok.funs.mem hb;exact I.base.free b o ho (I.ok.frf b hb) λz=>I.ok.exfs b z hb
def Inv.step{g':Array GenState}{d':Drawn}(I:Inv X pins Y H s)
  (hch:∀b∈ch,(b∈X.ex\/X.s₀.heap.objs.size<=b)/\b≠X.env.locals/\(∀x c,X.env.cells.lookup x=some c->c≠b)/\∀p∈X.pn++pins,p.1≠b)
  (keep:∀b o,b≠X.env.locals->b∉X.fs->b∉ch->s.heap.get? b=some o->H b=none->h'.get? b=some o)
  (slot:∀b o,b≠X.env.locals->b∈X.fs->b∉ch->s.heap.get? b=some o->H b=none->∃sl,h'.get? b=some {o with slots:=sl}) (free:∀b o,b∉ch->s.heap.get? b=some o->H b=none->H' b=none)
  (there:∀b o,b∉ch->s.heap.get? b=some o->∃o',h'.get? b=some o')
  (tups:∀b xs,H b=some (.tup xs)->H' b=some (.tup xs)) (frzs:∀b o u,H b=some (.frz o u)->H' b=some (.frz o u)) (tbls:∀b ps,H b=some (.tbl ps)->∃more,H' b=some (.tbl (ps++more)))
  (ns:∀m,s.heap.Ns X.env.locals m->h'.Ns X.env.locals m) (hok:HOk X.prog X.w H' h') (hg:AllBare g'):
  Inv X pins Y H' {s with heap:=h',gens:=g',drawn:=d',toks:=t'}:=by
 have neL:∀b o,X.s₀.heap.get? b=some o->b≠X.env.locals:=λb o e=>Xn (Xs (Xg e) I.ok.above)
 have neC:∀b o,X.s₀.heap.get? b=some o->b∉X.ex->b∉ch:=λb o e hx hb=>by
  rcases (hch b hb).1 with z|z
  ·exact hx z
  ·exact absurd (Xs (Xg e) z) (W5 _)
 have cellK:∀x c,X.env.cells.lookup x=some c->∀v,s.heap.IsCell c v->h'.IsCell c v:=λx c e v y=>by
  obtain⟨o,ho,hd⟩:=y
  have nch:c∉ch:=λz=>(hch c z).2.2.1 x c e rfl;by_cases hc:c∈X.fs
  ·obtain⟨sl,q⟩:=slot c o (I.cne x c e) hc nch ho (I.freeC x c e);exact⟨_,q,hd⟩
  ·exact⟨o,keep c o (I.cne x c e) hc nch ho (I.freeC x c e),hd⟩
 refine⟨I.ok,I.os,hg,⟨λb o e n hb hx=>?_,λb o e n hb hx=>?_,λb o e n hx=>?_,λb o e hx=>?_,λb xs e=>tups b xs (I.base.tups b xs e),λb o xs e=>frzs b o xs (I.base.frzs b o xs e),λb ps e=>?_⟩,?_,λx c e=>?_,?_,λx c e=>?_,λp hp=>?_,hok,I.len⟩
 ·exact keep b o (neL b o e) hb (neC b o e hx) (I.base.keep b o e n hb hx) (I.base.free b o e n hx)
 ·obtain⟨sl,e1⟩:=I.base.slot b o e n hb hx;obtain⟨sl',e2⟩:=slot b _ (neL b o e) hb (neC b o e hx) e1 (I.base.free b o e n hx);exact⟨sl',e2⟩
 ·obtain⟨o',e1⟩:=I.base.there b o e hx;exact free b o' (neC b o e hx) e1 (I.base.free b o e n hx)
 ·obtain⟨o',e1⟩:=I.base.there b o e hx;exact there b o' (neC b o e hx) e1
 ·obtain⟨m1,e1⟩:=I.base.tbls b ps e;obtain⟨m2,e2⟩:=tbls b _ e1
  exact⟨m1++m2,by rw[e2,Array.append_assoc]⟩
 ·obtain⟨m,hn,hl⟩:=I.loc;refine⟨m,ns m hn,λi x v e1 e2 e3=>?_⟩;obtain⟨u,r,l⟩:=hl i x v e1 e2 e3;refine⟨u,r,?_⟩
  rcases l with l|⟨k,c,e,z⟩
  ·exact .inl l
  ·exact .inr ⟨k,c,e,cellK x c e _ z⟩
 ·obtain⟨v,z⟩:=I.cell x c e;exact⟨v,cellK x c e v z⟩
 ·obtain⟨m,⟨o,_,_,ho,_⟩,_⟩:=I.loc;exact free _ o (λz=>(hch _ z).2.1 rfl) ho I.free
 ·obtain⟨v,o,ho,hd⟩:=I.cell x c e;exact free c o (λz=>(hch c z).2.2.1 x c e rfl) ho (I.freeC x c e)
 ·obtain⟨e,n,ne,nf,d⟩:=I.pin p hp;have nch:p.1∉ch:=λz=>(hch p.1 z).2.2.2 p hp rfl;exact⟨keep p.1 p.2 ne nf nch e n,free p.1 p.2 nch e n,ne,nf,d⟩
def Inv.un(I:Inv X pins Y H s)(u:Un X.fs [] H H' s.heap h')(hok:HOk X.prog X.w H' h'):Inv X pins Y H' {s with heap:=h',toks:=t'}:=by
 obtain⟨m,⟨o,es,ep,ho,r⟩,_⟩:=id I.loc
 obtain⟨sl,hL⟩:=u.any ho I.free (by simp)
 exact I.step (g':=s.gens) (d':=s.drawn) (ch:=[]) (λy z=>nomatch z) (λb o y hb y e n=>u.keep b o e n hb (by simp)) (λb o y hb y e n=>u.slot b o e n hb (by simp)) (λb o y e n=>u.free b o e n (by simp)) (λb o y e=>u.there b o e (by simp)) u.tups u.frzs u.tbls (λm' hm=>by
  obtain⟨o',es',ep',ho',r'⟩:=hm;rw[ho]at ho';cases ho'
  exact⟨_,es',ep',hL,r'⟩) hok I.bare
def Inv.call{g':Array GenState}{d':Drawn}(I:Inv X pins Y H s)(u:Un (frs X.stack) ch H H' s.heap h')(hok:HOk X.prog X.w H' h')(hg:AllBare g')
  (hch:∀b∈ch,(b∈X.ex\/X.s₀.heap.objs.size<=b)/\b≠X.env.locals/\(∀x c,X.env.cells.lookup x=some c->c≠b)/\∀p∈X.pn++pins,p.1≠b):
  Inv X pins Y H' {s with heap:=h',gens:=g',drawn:=d',toks:=t'}:=by
 obtain⟨m,⟨o,es,ep,ho,r⟩,_⟩:=id I.loc;obtain⟨sl,hL⟩:=u.any ho I.free λz=>(hch _ z).2.1 rfl
 exact I.step (ch:=ch) hch (λb o hL hb hc e n=>u.keep b o e n (λz=>(X5.mp (I.stkSub b z)).elim hL hb) hc) (λb o y y hc e n=>u.any e n hc) (λb o hc e n=>u.free b o e n hc) (λb o hc e=>u.there b o e hc) u.tups u.frzs u.tbls (λm' hm=>by
  obtain⟨o',es',ep',ho',r'⟩:=hm;rw[ho]at ho';cases ho'
  exact⟨_,es',ep',hL,r'⟩) hok hg
def Inv.turned{it:Addr}(I:Inv X pins Y H s)(k:∀b o,b≠it->s.heap.get? b=some o->h'.get? b=some o)(hn:H it=none)(hL:it≠X.env.locals)
  (h1:it∈X.ex\/X.s₀.heap.objs.size<=it) (h2:∀x c,X.env.cells.lookup x=some c->c≠it) (h3:∀p∈X.pn++pins,p.1≠it):Inv X pins Y H {s with heap:=h',toks:=t'}:=by
 have nit:∀b u,H b=some u->b≠it:=λb u e z=>by rw[z,hn]at e;cases e
 refine I.step (g':=s.gens) (d':=s.drawn) (ch:=[it]) (λb hb=>?_) (λb o y y hc e y=>k b o (λz=>hc (by simp[z])) e) (λb o y y hc e y=>⟨o.slots,k b o (λz=>hc (by simp[z])) e⟩) (λy y y y n=>n)
  (λb o hc e=>⟨o,k b o (λz=>hc (by simp[z])) e⟩) (λy y e=>e) (λy y y e=>e) (λb ps e=>⟨#[],by rw[e];simp⟩) (λm hm=>?_) (λb u e=>?_) I.bare
 ·have e:b=it:=by simpa using hb
  subst e;exact⟨h1,hL,h2,h3⟩
 ·obtain⟨o,es,ep,ho,r⟩:=hm;exact⟨o,es,ep,k _ o (X9 hL) ho,r⟩
 ·refine(I.hok b u e).stay (λc v hc q=>k c v ?_ q) (λy q=>q) λy y q=>q
  rcases hc with z|z
  ·rw[z];exact nit b u e
  ·exact nit c _ z
def Inv.tok(I:Inv X pins Y H s)(t:Nat):Inv X pins Y H {s with toks:=t}:=I.un (h':=s.heap) (t':=t) Un.refl I.hok
theorem Inv.kept(I:Inv X pins Y H s)(k:∀b u,s.heap.get? b=some u->h'.get? b=some u):Inv X pins Y H {s with heap:=h',toks:=t'}:=I.un (Un.kept k) (I.hok.kept k)
theorem Inv.laid{a:Addr}{o:HO}(I:Inv X pins Y H s)(k:∀b u,s.heap.get? b=some u->h'.get? b=some u)(hp:s.heap.objs.size<=a)(new:ObjOk X.prog X.w (upd H a o) h' a o):
  Inv X pins Y (upd H a o) {s with heap:=h',toks:=t'}:=I.un (Un.laid k hp (I.hok.fresh hp)) (I.hok.laid k hp new)
theorem Inv.write{x e:Addr}{o:HO}(I:Inv X pins Y H s)(mu:Mut (H x))(he:e=x\/H e=some (.own x))(k:∀b u,b≠e->s.heap.get? b=some u->h'.get? b=some u)(heo:∃u,h'.get? e=some u)
  (new:ObjOk X.prog X.w (upd H x o) h' x o):Inv X pins Y (upd H x o) {s with heap:=h',toks:=t'}:=I.un (Un.write mu he k heo) (I.hok.write mu he k heo new)
def Inv.pins_of{pins':List (Addr×Obj)}(I:Inv X pins Y H s)(h:∀p∈pins',s.heap.get? p.1=some p.2/\H p.1=none/\p.1≠X.env.locals/\p.1∉X.fs/\∀v,p.2.data≠.cell v):Inv X pins' Y H s :=
 ⟨I.ok,I.os,I.bare,I.base,I.loc,I.cell,I.free,I.freeC,λp hp=>(V4.mp hp).elim (λz=>I.pin p (List.mem_append_left _ z)) (h p),I.hok,I.len⟩
def Jy{N:List Str}(hN:N.Nodup){j:Nat}(a:N[i]?=some x)(b:N[j]?=some x):i=j:=by
 obtain⟨h1,e1⟩:=Xe.mp a;obtain⟨h2,e2⟩:=Xe.mp b;exact(Uy hN).mp (e1.trans e2.symm)
def Qc1{E:Value->Shared->Prop}{v:V}{u:Value}{Q:Unit->Shared->Prop}(I:Inv X pins Y H s)(hN:X.N.Nodup)(hi:X.N[i]?=some x)(hx:Loc X.env.scope x)(r:RelV v u)
  (h:∀s',Inv X pins (Y.set i (some v)) H s'->(∃a,Heap.SameBut a s.heap s'.heap/\(a=X.env.locals\/X.env.cells.lookup x=some a))->Q () s') (hf:X.fn x=true\/X.env.scope.names.lookup x=some .local:=by first|exact .inl rfl|exact .inr rfl|assumption):wpAny M A (storeName X.env x u) Q E s:=by
 obtain⟨m,hn,hl⟩:=id I.loc
 have hcls:(X.env.scope.kind==.class||(X.env.scope.kind==.module&&X.env.locals != X.env.globals))=false:=by rw[I.ok.kind];rfl
 have hiY:i < Y.length:=by rw[I.len];exact(Xe.mp hi).1
 have cne:=I.cne
 have tracked:∀{a:Addr} {h':Heap},(∃o,s.heap.get? a=some o/\H a=none)->Heap.SameBut a s.heap h'->HOk X.prog X.w H h':=λ{a h'} ha hs b ob e=>by
  obtain⟨_,_,hfree⟩:=ha;refine(I.hok b ob e).stay (λc w' hc q=>(hs.2 c ?_).trans q) (λt q=>q) λt t q=>q;rintro rfl
  rcases hc with rfl|hc
  ·rw[hfree]at e;cases e
  ·rw[hfree]at hc;cases hc
 rcases hx with hk|hk
 ·refine wpAny_storeName_local hk hn (λh' hn' hs=>?_) hcls;obtain⟨oL,_,_,hoL,_⟩:=id hn
  refine h _ ⟨I.ok,I.os,I.bare,⟨λb o e n hb hx=>?_,λb o e n hb hx=>?_,I.base.free,λb o e hx=>?_,I.base.tups,I.base.frzs,I.base.tbls⟩,⟨_,hn',λj y v' e1 e2 e3=>?_⟩,λy c e=>?_,I.free,I.freeC,λp hp=>?_,tracked ⟨oL,hoL,I.free⟩ hs,by simpa using I.len⟩ ⟨_,hs,.inl rfl⟩
  ·exact(hs.2 b (Xn (Xs (Xg e) I.ok.above))).trans (I.base.keep b o e n hb hx)
  ·obtain⟨sl,e1⟩:=I.base.slot b o e n hb hx;exact⟨sl,(hs.2 b (Xn (Xs (Xg e) I.ok.above))).trans e1⟩
  ·obtain⟨o',e1⟩:=I.base.there b o e hx;exact⟨o',(hs.2 b (Xn (Xs (Xg e) I.ok.above))).trans e1⟩
  ·by_cases hj:j=i
   ·subst hj;rw[hi]at e1;cases e1;rw[Wh hiY]at e2;cases e2
    exact⟨u,r,.inl ⟨hk,by simp⟩⟩
   ·rw[X8 (X9 hj)]at e2;obtain⟨u',r',q⟩:=hl j y v' e1 e2 e3;refine⟨u',r',?_⟩
    rcases q with⟨k,e⟩|⟨k,c,e,z⟩
    ·refine .inl ⟨k,?_⟩;have:y≠x:=λe=>hj (Jy hN e1 (e▸hi));simp[this,e]
    ·exact .inr ⟨k,c,e,z.sameBut hs (cne y c e)⟩
  ·obtain⟨w',z⟩:=I.cell y c e;exact⟨w',z.sameBut hs (cne y c e)⟩
  ·obtain⟨e,n,ne,nf,d⟩:=I.pin p hp;exact⟨(hs.2 p.1 ne).trans e,n,ne,nf,d⟩
 ·have hfn:X.fn x=true:=by
   rcases hf with z|z
   ·exact z
   ·rw[z]at hk;cases hk
  obtain⟨c,hc⟩:=I.ok.has x (.inl hk);obtain⟨w',z⟩:=I.cell x c hc;refine wpAny_storeName_cell I.ok.kind hk hc z (λh' hc' hs=>?_);obtain⟨oc,hoc,hocd⟩:=id z
  refine h {s with heap:=h'} ⟨I.ok,I.os,I.bare,⟨λb o e n hb hx=>?_,λb o e n hb hx=>?_,I.base.free,λb o e hx=>?_,I.base.tups,I.base.frzs,I.base.tbls⟩,⟨m,hn.sameBut hs (X9 (cne x c hc)),λj y v' e1 e2 e3=>?_⟩,λy c' e=>?_,I.free,I.freeC,λp hp=>?_,tracked ⟨oc,hoc,I.freeC x c hc⟩ hs,by simpa using I.len⟩ ⟨c,hs,.inr hc⟩
  ·exact(hs.2 b (Xn (Xs (Xg e) (I.ok.cab x c hfn hc)))).trans (I.base.keep b o e n hb hx)
  ·obtain⟨sl,e1⟩:=I.base.slot b o e n hb hx;exact⟨sl,(hs.2 b (Xn (Xs (Xg e) (I.ok.cab x c hfn hc)))).trans e1⟩
  ·obtain⟨o',e1⟩:=I.base.there b o e hx;exact⟨o',(hs.2 b (Xn (Xs (Xg e) (I.ok.cab x c hfn hc)))).trans e1⟩
  ·by_cases hj:j=i
   ·subst hj;rw[hi]at e1;cases e1;rw[Wh hiY]at e2;cases e2;exact⟨u,r,.inr ⟨.inl hk,c,hc,hc'⟩⟩
   ·rw[X8 (X9 hj)]at e2;obtain⟨u',r',q⟩:=hl j y v' e1 e2 e3;refine⟨u',r',?_⟩
    rcases q with q|⟨k,c',e,z'⟩
    ·exact .inl q
    ·refine .inr ⟨k,c',e,z'.sameBut hs ?_⟩;rintro rfl;exact hj (Jy hN e1 (I.ok.inj _ _ _ e hc▸hi))
  ·by_cases hcc:c'=c
   ·subst hcc;exact⟨_,hc'⟩
   ·obtain⟨w2,z2⟩:=I.cell y c' e;exact⟨w2,z2.sameBut hs hcc⟩
  ·obtain⟨e,n,ne,nf,d⟩:=I.pin p hp;refine⟨(hs.2 p.1 ?_).trans e,n,ne,nf,d⟩;intro q;rw[q,hoc]at e;have q':oc=p.2:=X3 e
   exact d w' (by rw[<-q'];exact hocd)
def Jl{E:Value->Shared->Prop}{v:V}{u:Value}{Q:Unit->Shared->Prop}(I:Inv X pins Y H s)(hN:X.N.Nodup)(hi:X.N[i]?=some x)(hx:Loc X.env.scope x)(r:RelV v u)
  (h:∀s',Inv X pins (Y.set i (some v)) H s'->Q () s') (hf:X.fn x=true\/X.env.scope.names.lookup x=some .local:=by first|exact .inl rfl|exact .inr rfl|assumption):wpAny M A (storeName X.env x u) Q E s :=
 Qc1 I hN hi hx r (λs' I' z=>h s' I') hf
def Inv.call'{s':Shared}(I:Inv X pins Y H s)(ho:s'.os=s.os)(u:Un (frs X.stack) ch H H' s.heap s'.heap)(hok:HOk X.prog X.w H' s'.heap)(hg:AllBare s'.gens)
  (hch:∀b∈ch,(b∈X.ex\/X.s₀.heap.objs.size<=b)/\b≠X.env.locals/\(∀x c,X.env.cells.lookup x=some c->c≠b)/\∀p∈X.pn++pins,p.1≠b):Inv X pins Y H' s':=by
 obtain⟨h',g',d',t',o'⟩:=s';have e:o'=s.os:=ho;subst e;exact I.call (g':=g') (t':=t') (d':=d') u hok hg hch
end
abbrev XK:=Value->Option Addr->Hp->Prop
abbrev St:=List (Option V)
abbrev VK:=V->Hp->Prop
abbrev TE:=St->Hp->VK->Prop
abbrev TT:=St->Hp->(Bool->Hp->Prop)->Prop
abbrev TA:=St->Hp->(List V->Hp->Prop)->Prop
structure Ends where
 nx:St->Hp->Prop
 rt:VK
 bk:St->Hp->Prop:=λ_ _=>False
 ct:St->Hp->Prop:=λ_ _=>False
abbrev TS:=Ends->St->Hp->Prop
def EP(X:Cx)(pins:List (Addr×Obj))(Y:St)(Q:VK)(u:Value)(s':Shared):Prop:=∃v H',Inv X pins Y H' s'/\RelV v u/\Q v H'
def TP(X:Cx)(pins:List (Addr×Obj))(Y:St)(Q:Bool->Hp->Prop)(b:Bool)(s':Shared):Prop:=∃H',Inv X pins Y H' s'/\Q b H'
def AP(X:Cx)(pins:List (Addr×Obj))(Y:St)(Q:List V->Hp->Prop)(us:List Value)(s':Shared):Prop:=∃vs H',Inv X pins Y H' s'/\Vals vs us/\Q vs H'
noncomputable def SP(X:Cx)(pins:List (Addr×Obj))(D:Ends)(f:Flow)(s':Shared):Prop :=
 match f with
 |.next=>∃Y' H',Inv X pins Y' H' s'/\D.nx Y' H'
 |.brk=>∃Y' H',Inv X pins Y' H' s'/\D.bk Y' H'
 |.cont=>∃Y' H',Inv X pins Y' H' s'/\D.ct Y' H'
 |.ret u=>∃v Y' H',Inv X pins Y' H' s'/\RelV v u/\D.rt v H'
noncomputable def PE(X:Cx)(e:Expr)(t:TE):Prop :=
 ∀(pins:List (Addr×Obj)) (s:Shared) (Y:St) (H:Hp) (Q:VK),Inv X pins Y H s->t Y H Q->wpAny (model X.prog X.w) X.A (eval e X.env) (EP X pins Y Q) X.xe s
noncomputable def PT(X:Cx)(e:Expr)(t:TT):Prop :=
 ∀(pins:List (Addr×Obj)) (s:Shared) (Y:St) (H:Hp) (Q:Bool->Hp->Prop),Inv X pins Y H s->t Y H Q->wpAny (model X.prog X.w) X.A (isTrue e X.env (eval e X.env)) (TP X pins Y Q) X.xe s
noncomputable def PW(X:Cx)(e:Expr)(t:TT):Prop :=
 ∀(whole:Sem Value) (pins:List (Addr×Obj)) (s:Shared) (Y:St) (H:Hp) (Q:Bool->Hp->Prop),Inv X pins Y H s->t Y H Q->wpAny (model X.prog X.w) X.A (isTrue e X.env whole) (TP X pins Y Q) X.xe s
def PW.pt{X:Cx}{e:Expr}{t:TT}(h:PW X e t):PT X e t:=h _
noncomputable def PA(X:Cx)(es:List Expr)(t:TA):Prop :=
 ∀(pos:Pos) (pins:List (Addr×Obj)) (s:Shared) (Y:St) (H:Hp) (Q:List V->Hp->Prop),Inv X pins Y H s->t Y H Q->wpAny (model X.prog X.w) X.A (spliced (backTo pos (starEach es X.env))) (AP X pins Y Q) X.xe s
noncomputable def PS(X:Cx)(st:Stmt)(t:TS):Prop :=
 ∀(pins:List (Addr×Obj)) (s:Shared) (Y:St) (H:Hp) (D:Ends),Inv X pins Y H s->t D Y H->wpAny (model X.prog X.w) X.A (exec st X.env) (SP X pins D) X.xe s
noncomputable def PSs(X:Cx)(st:List Stmt)(t:TS):Prop :=
 ∀(pins:List (Addr×Obj)) (s:Shared) (Y:St) (H:Hp) (D:Ends),Inv X pins Y H s->t D Y H->wpAny (model X.prog X.w) X.A (execs st X.env) (SP X pins D) X.xe s
def thn{α:Type}{t:Sem α}{Q Q':α->Shared->Prop}{E:Value->Shared->Prop}{s:Shared}(h:wpAny M A t Q E s)(hQ:∀a s,Q a s->Q' a s):wpAny M A t Q' E s:=X2 h hQ λz z x=>x
end
section
variable {pos:Pos}{x:Str}{u:Value}
section
variable {X:Cx}
def Ql7(i:Nat):TE:=λY H Q=>∃v,Y[i]?=some (some v)/\Q v H
def tC(v:V):TE:=λz H Q=>Q v H
def Qdu{i:Nat}(hN:X.N[i]?=some x)(hv:Vis X.env.scope x)(hd:(x==("__debug__":Str))=false:=by decide)(hcd:(x==("__classdict__":Str))=false:=by decide):PE X (.Name x pos) (Ql7 i):=by
 intro pins s Y H Q I h;obtain⟨v,e,h⟩:=h;obtain⟨m,hn,hl⟩:=I.loc;obtain⟨u,r,l⟩:=hl i x v hN e hv;have fin:EP X pins Y Q u s:=⟨v,H,I,r,h⟩
 rcases l with⟨hk,hm⟩|⟨hk,c,hc,hcell⟩
 ·exact wpAny_Name (wpAny_loadName_local I.ok.kind hk hn hm fin) hd
 ·rcases hk with hk|hk
  ·exact wpAny_Name (wpAny_loadName_cell I.ok.kind hk hc hcell fin) hd
  ·exact wpAny_Name (wpAny_loadName_free I.ok.kind hk hc hcell fin hcd) hd
def Qke{i j pos}:PE X (.Constant (.int i) j pos) (tC (.int i)):=λz z z H z I h=>wpAny_Constant_int ⟨.int i,H,I.tok _,⟨_,rfl⟩,h⟩
def QmG{b j pos}:PE X (.Constant (.bool b) j pos) (tC (.bl b)):=λz z z H z I h=>Constant_bool ⟨.bl b,H,I,rfl,h⟩
def Qkc{j pos}:PE X (.Constant .none j pos) (tC .non):=λz z z H z I h=>Constant_none ⟨.non,H,I,rfl,h⟩
def Qgm{x j pos}:PE X (.Constant (.str x) j pos) (tC (.str x)):=λz z z H z I h=>Calls.Constant_str ⟨.str x,H,I.tok _,⟨_,rfl⟩,h⟩
def Gl(X:Cx)(x:Str):Prop:=X.env.kindOf x=some .globalImplicit
def Zc{E:Value->Shared->Prop}{pins:List (Addr×Obj)}{s:Shared}{Y:St}{H:Hp}{Q:Value->Shared->Prop}(I:Inv X pins Y H s)(hg:Gl X x)(hm:X.mg x=some u)(h:Q u s)
  (hd:(x==("__debug__":Str))=false:=by decide):wpAny (model X.prog X.w) X.A (eval (.Name x pos) X.env) Q E s :=
 U1 I.ok.kind hg (Calls.loadGlobal_global (by rw[I.ok.glob];exact I.mod.glob.keeps I.bk) hm h) hd
def Zl{E:Value->Shared->Prop}{pins:List (Addr×Obj)}{s:Shared}{Y:St}{H:Hp}{Q:Value->Shared->Prop}(I:Inv X pins Y H s)(hg:Gl X x)(hm:X.mg x=none)(hv:bootBuiltins x=some u)(h:Q u s)
  (hn:x≠"__name__":=by decide) (hd:(x==("__debug__":Str))=false:=by decide):wpAny (model X.prog X.w) X.A (eval (.Name x pos) X.env) Q E s:=by
 obtain⟨mb,h1,h2⟩:=I.mod.blt
 exact U1 I.ok.kind hg (Calls.loadGlobal_builtin (by rw[I.ok.glob];exact I.mod.glob.keeps I.bk) hm (by rw[I.ok.blt];exact h1.keeps I.bk) ((h2 x hn).trans hv) h) hd
def Qa1{v:V}(hg:Gl X x)(hm:X.mg x=some u)(r:RelV v u)(hd:(x==("__debug__":Str))=false:=by decide):PE X (.Name x pos) (tC v):=
 λz z z H z I h=>Zc I hg hm ⟨v,H,I,r,h⟩ hd
def QhI{v:V}(hg:Gl X x)(hm:X.mg x=none)(hv:bootBuiltins x=some u)(r:RelV v u)(hn:x≠"__name__":=by decide)(hd:(x==("__debug__":Str))=false:=by decide):PE X (.Name x pos) (tC v):=
 λz z z H z I h=>Zl I hg hm hv ⟨v,H,I,r,h⟩ hn hd
variable {a b:Expr}{ta tb:TE}
variable {tA tB':TT}{rest:List Expr}
def Qpc(t u:TT):TT:=λY H Q=>t Y H λc H1=>if c=true then u Y H1 Q else Q false H1
def tOr(t u:TT):TT:=λY H Q=>t Y H λc H1=>if c=true then Q true H1 else u Y H1 Q
def Qo5(t:TT):TT:=λY H Q=>t Y H λc H1=>Q (!c) H1
def Qhj(ha:PT X a tA):PW X (.BoolOp .And [a] pos) tA:=by
 intro wh pins s Y H Q I h;refine isTrue_and (thn (ha pins s Y H Q I h) λc s1 e=>?_)
 cases c with
 |true=>exact isTrue_and_nil e
 |false=>exact e
def QjV(ha:PT X a tA):PW X (.BoolOp .Or [a] pos) tA:=by
 intro wh pins s Y H Q I h;refine isTrue_or (thn (ha pins s Y H Q I h) λc s1 e=>?_)
 cases c with
 |false=>exact isTrue_or_nil e
 |true=>exact e
def QjW(ha:PT X a tA)(hb:PW X (.BoolOp .And (b::rest) pos) tB'):PW X (.BoolOp .And (a::b::rest) pos) (Qpc tA tB'):=by
 intro wh pins s Y H Q I h;refine isTrue_and (thn (ha pins s Y H _ I h) λc s1 z=>?_);obtain⟨H1,I1,q1⟩:=z
 cases c with
 |true=>exact hb wh pins s1 Y H1 Q I1 q1
 |false=>exact⟨H1,I1,q1⟩
def QmA(ha:PT X a tA)(hb:PW X (.BoolOp .Or (b::rest) pos) tB'):PW X (.BoolOp .Or (a::b::rest) pos) (tOr tA tB'):=by
 intro wh pins s Y H Q I h;refine isTrue_or (thn (ha pins s Y H _ I h) λc s1 z=>?_);obtain⟨H1,I1,q1⟩:=z
 cases c with
 |true=>exact⟨H1,I1,q1⟩
 |false=>exact hb wh pins s1 Y H1 Q I1 q1
def QjY(ha:PT X a tA):PT X (.UnaryOp .Not a pos) (Qo5 tA):=by
 intro pins s Y H Q I h;exact isTrue_not (ha pins s Y H (λc H1=>Q (!c) H1) I h)
def Qmf(ta tb:TE):TE:=λY H Q=>ta Y H λx H1=>∃c,x=.bl c/\if c=true then tb Y H1 Q else Q (.bl false) H1
def Qo4(ta tb:TE):TE:=λY H Q=>ta Y H λx H1=>∃c,x=.bl c/\if c=true then Q (.bl true) H1 else tb Y H1 Q
def Qgn{op}{t:TE}(h:PE X a t):PE X (.BoolOp op [a] pos) t:=λpins s Y H Q I hw=>BoolOp_one (h pins s Y H Q I hw)
def Qki(ha:PE X a ta)(hb:PE X (.BoolOp .And (b::rest) pos) tb):PE X (.BoolOp .And (a::b::rest) pos) (Qmf ta tb):=by
 intro pins s Y H Q I h;refine BoolOp_and (thn (ha pins s Y H _ I h) λv s1 z=>?_);obtain⟨x,H1,I1,r1,q1⟩:=z;obtain⟨c,rfl,q1⟩:=q1;cases r1;refine Ub ?_
 cases c with
 |true=>exact hb pins s1 Y H1 Q I1 q1
 |false=>exact⟨.bl false,H1,I1,rfl,q1⟩
def QmC(ha:PE X a ta)(hb:PE X (.BoolOp .Or (b::rest) pos) tb):PE X (.BoolOp .Or (a::b::rest) pos) (Qo4 ta tb):=by
 intro pins s Y H Q I h;refine BoolOp_or (thn (ha pins s Y H _ I h) λv s1 z=>?_);obtain⟨x,H1,I1,r1,q1⟩:=z;obtain⟨c,rfl,q1⟩:=q1;cases r1;refine Ub ?_
 cases c with
 |false=>exact hb pins s1 Y H1 Q I1 q1
 |true=>exact⟨.bl true,H1,I1,rfl,q1⟩
def tIf(t:TT)(ta tb:TE):TE:=λY H Q=>t Y H λc H1=>if c=true then ta Y H1 Q else tb Y H1 Q
def Qfe{c:Expr}(hc:PT X c tA)(ha:PE X a ta)(hb:PE X b tb):PE X (.IfExp c a b pos) (tIf tA ta tb):=by
 intro pins s Y H Q I h;refine wpAny_IfExp (thn (hc pins s Y H _ I h) λd s1 z=>?_);obtain⟨H1,I1,q1⟩:=z
 cases d with
 |true=>exact ha pins s1 Y H1 Q I1 q1
 |false=>exact hb pins s1 Y H1 Q I1 q1
end
end
section
variable {X:Cx}{e tg:Expr}{H:Hp}{pins:List (Addr×Obj)}{pos:Pos}{P:Program}{s:Shared}{Y:St}{te:TE}{u:Value}{w:World}
noncomputable def SqL(K:W.Frag)(H:Hp)(a:Addr)(xs:List V):Prop :=
 Rd H a (.lst xs) \/
  ∃(o:Obj) (its:Array Value) (n:Nat),K.lookup a=some o/\o.cls=.type "list"/\o.dict=none/\o.data=.seq its n/\its.size<=sizeLine/\Vals xs its.toList
noncomputable def SqT(K:W.Frag)(H:Hp)(a:Addr)(xs:List V):Prop :=
 Rd H a (.tup xs) \/
  ∃(o:Obj) (its:Array Value) (n:Nat),K.lookup a=some o/\o.cls=.type "tuple"/\o.data=.seq its n/\its.size<=sizeLine/\Vals xs its.toList
noncomputable def Qp2:Value->Option V
 |.none=>some .non
 |.bool b=>some (.bl b)
 |.int i _=>some (.int i)
 |.str x _=>some (.str x)
 |.bytes b _=>some (.byt b)
 |.float b _=>some (.flt b)
 |.ref a=>some (.ref a)
 |.type n=>some (.ty n)
 |_=>none
def RelV.abs{x:V}(r:RelV x u):Qp2 u=some x:=by
 cases x with
 |non=>cases r;rfl
 |bl _=>cases r;rfl
 |int _=>obtain⟨t,rfl⟩:=r;rfl
 |str _=>obtain⟨t,rfl⟩:=r;rfl
 |byt _=>obtain⟨t,rfl⟩:=r;rfl
 |flt _=>obtain⟨t,rfl⟩:=r;rfl
 |ref _=>cases r;rfl
 |ty _=>cases r;rfl
def RelV.inj{x y:V}(r:RelV x u)(q:RelV y u):x=y:=X3 (r.abs.symm.trans q.abs)
theorem Vals.inj{xs ys:List V}{us:List Value}(h:Vals xs us)(h':Vals ys us):xs=ys:=by
 induction h generalizing ys with
 |nil=>cases h';rfl
 |cons r _ ih=>
  cases h' with
  |cons r' t'=>rw[r.inj r',ih t']
section
variable {a:Addr}{xs ys:List V}
def SqL.of{K:W.Frag}(h:H a=some (.lst xs)):SqL K H a xs:=.inl (.inl h)
def SqT.of{K:W.Frag}(h:H a=some (.tup xs)):SqT K H a xs:=.inl (.inl h)
def Inv.list(I:Inv X pins Y H s)(h:SqL X.K H a xs):∃its:List Value,Vals xs its/\PlainL s.heap a its.toArray/\xs.length<=sizeLine:=by
 rcases h with h|⟨o,its,n,hk,hc,hd,hs,hz,r⟩
 ·obtain⟨z,its,n,r,e⟩:=h.ok I.hok;exact⟨its,r,⟨_,n,e,rfl,rfl,rfl⟩,z⟩
 ·refine⟨its.toList,r,⟨o,n,I.kIn a o hk,hc,hd,by simpa using hs⟩,?_⟩
  have e:=r.length;simp only[T6]at e;omega
def Inv.tuple(I:Inv X pins Y H s)(h:SqT X.K H a xs):∃its:List Value,Vals xs its/\IsTup s.heap a its.toArray/\xs.length<=sizeLine:=by
 rcases h with h|⟨o,its,n,hk,hc,hs,hz,r⟩
 ·obtain⟨z,its,r,p⟩:=h.ok I.hok;exact⟨its,r,p,z⟩
 ·refine⟨its.toList,r,⟨o,I.kIn a o hk,hc,n,by simpa using hs⟩,?_⟩
  have e:=r.length;simp only[T6]at e;omega
def Inv.list_inj(I:Inv X pins Y H s)(h:SqL X.K H a xs)(h':SqL X.K H a ys):xs=ys:=by
 obtain⟨its,r,⟨o,n,e,_,_,d⟩,_⟩:=I.list h;obtain⟨its',r',⟨o',n',e',_,_,d'⟩,_⟩:=I.list h';rw[e]at e';cases e';rw[d]at d';injection d' with d1 _
 have:its=its':=by simpa using congrArg Array.toList d1
 subst this;exact r.inj r'
def Inv.tuple_inj(I:Inv X pins Y H s)(h:SqT X.K H a xs)(h':SqT X.K H a ys):xs=ys:=by
 obtain⟨its,r,⟨o,e,_,n,d⟩,_⟩:=I.tuple h;obtain⟨its',r',⟨o',e',_,n',d'⟩,_⟩:=I.tuple h';rw[e]at e';cases e';rw[d]at d';injection d' with d1 _
 have:its=its':=by simpa using congrArg Array.toList d1
 subst this;exact r.inj r'
end
noncomputable abbrev Cx.wish(X:Cx)(E:Value->Shared->Prop):Cx:={X with xe:=E}
noncomputable abbrev Cx.nox(X:Cx):Cx:=X.wish λz z=>False
theorem Cx.Ok.wish(ok:X.Ok)(E:Value->Shared->Prop):(X.wish E).Ok :=
 ⟨ok.mod,ok.kind,ok.glob,ok.blt,ok.above,ok.inj,ok.has,ok.cab,ok.hd,ok.frames,ok.stk,ok.exf,ok.bs,ok.bsz,ok.noex,ok.exfs,ok.funs,ok.frf⟩
def Cx.Ok.unwish{E:Value->Shared->Prop}(ok:(X.wish E).Ok):X.Ok :=
 ⟨ok.mod,ok.kind,ok.glob,ok.blt,ok.above,ok.inj,ok.has,ok.cab,ok.hd,ok.frames,ok.stk,ok.exf,ok.bs,ok.bsz,ok.noex,ok.exfs,ok.funs,ok.frf⟩
section
variable {E:Value->Shared->Prop}
theorem Inv.wish(I:Inv X pins Y H s)(E:Value->Shared->Prop):Inv (X.wish E) pins Y H s:=⟨I.ok.wish E,I.os,I.bare,I.base,I.loc,I.cell,I.free,I.freeC,I.pin,I.hok,I.len⟩
theorem Inv.unwish(I:Inv (X.wish E) pins Y H s):Inv X pins Y H s:=⟨I.ok.unwish,I.os,I.bare,I.base,I.loc,I.cell,I.free,I.freeC,I.pin,I.hok,I.len⟩
theorem SP.unwish{D:Ends}{f:Flow}{s':Shared}(h:SP (X.wish E) pins D f s'):SP X pins D f s':=by
 cases f with
 |next=>obtain⟨Y',H',I,q⟩:=h;exact⟨Y',H',I.unwish,q⟩
 |brk=>obtain⟨Y',H',I,q⟩:=h;exact⟨Y',H',I.unwish,q⟩
 |cont=>obtain⟨Y',H',I,q⟩:=h;exact⟨Y',H',I.unwish,q⟩
 |ret u=>obtain⟨v,Y',H',I,r,q⟩:=h;exact⟨v,Y',H',I.unwish,r,q⟩
theorem PT.nox{t:TT}(h:PT X.nox e t):PT X e t:=λpins s Y H Q I hw=>
 X2 (h pins s Y H Q (I.wish _) hw) (λy y x=>by obtain⟨H',I',q⟩:=x;exact⟨H',I'.unwish,q⟩) λy y z=>False.elim z
theorem PSs.nox{st:List Stmt}{t:TS}(h:PSs X.nox st t):PSs X st t:=λpins s Y H D I hw=>
 X2 (h pins s Y H D (I.wish _) hw) (λy y q=>q.unwish) λy y z=>False.elim z
end
section
variable {st:Stmt}{rest:List Stmt}{t u:TS}
def QgV:TS:=λD Y H=>D.nx Y H
def Qo1(t u:TS):TS:=λD Y H=>t {D with nx:=u D} Y H
def Qde:PSs X [] QgV:=λz z Y H z I h=>U8 ⟨Y,H,I,h⟩
def ZA(h1:PS X st t)(h2:PSs X rest u):PSs X (st::rest) (Qo1 t u):=by
 intro pins s Y H D I h;refine wpAny_execs_cons (thn (h1 pins s Y H {D with nx:=u D} I h) λf s1 q=>?_)
 cases f with
 |next=>
  obtain⟨Y',H',I',q⟩:=q;exact h2 pins s1 Y' H' D I' q
 |ret v=>exact q
 |brk=>exact q
 |cont=>exact q
def Qdd(h1:PS X st t):PSs X [st] t:=by
 intro pins s Y H D I h;refine wpAny_execs_cons (thn (h1 pins s Y H D I h) λf s1 q=>?_)
 cases f with
 |next=>exact U8 q
 |ret v=>exact q
 |brk=>exact q
 |cont=>exact q
def Qjr:TS:=λD Y H=>D.bk Y H
def Qme:TS:=λD Y H=>D.ct Y H
def Qho:PS X (.Pass pos) QgV:=λz z Y H z I h=>wpAny_Pass ⟨Y,H,I,h⟩
def Qfb:PS X (.Break pos) Qjr:=λz z Y H z I h=>wpAny_Break ⟨Y,H,I,h⟩
def QaY:PS X (.Continue pos) Qme:=λz z Y H z I h=>wpAny_Continue ⟨Y,H,I,h⟩
def Inv.quiet(I:Inv X pins Y H s):interactive X.env=false:=by simp[interactive,I.ok.kind]
def Qj2{x j pos pos'}:PS X (.Expr (.Constant (.str x) j pos) pos') QgV:=λz s Y H z I h=>wpAny_Expr (Calls.Constant_str (show SP X _ _ .next {s with toks:=s.toks+1}from⟨Y,H,I.tok _,h⟩)) I.quiet
def Qmd(te:TE):TS:=λD Y H=>te Y H λz H1=>D.nx Y H1
def QaX(he:PE X e te)(hs:swapsWith e none pos.line X.env=pure false:=by rfl):PS X (.Expr e pos) (Qmd te):=by
 intro pins s Y H D I h;exact wpAny_Expr_any (thn (he pins s Y H _ I h) λv s1 z=>by obtain⟨x,H1,I1,r1,q1⟩:=z;exact⟨Y,H1,I1,q1⟩) I.quiet hs
def Qo3(te:TE):TS:=λD Y H=>te Y H D.rt
def QjZ(he:PE X e te):PS X (.Return (some e) pos) (Qo3 te):=by
 intro pins s Y H D I h;exact wpAny_Return_some (thn (he pins s Y H _ I h) λv s1 z=>by obtain⟨x,H1,I1,r1,q1⟩:=z;exact⟨x,Y,H1,I1,r1,q1⟩)
def Ql9:TS:=λD z H=>D.rt .non H
def Qhn:PS X (.Return none pos) Ql9:=λz z Y H z I h=>wpAny_Return_none ⟨.non,Y,H,I,rfl,h⟩
def Qo7(c:TT)(t u:TS):TS:=λD Y H=>c Y H λb H1=>if b=true then t D Y H1 else u D Y H1
def Qj0{c:Expr}{a b:List Stmt}{tc:TT}(hc:PT X c tc)(ha:PSs X a t)(hb:PSs X b u):PS X (.If c a b pos) (Qo7 tc t u):=by
 intro pins s Y H D I h;refine wpAny_If (thn (hc pins s Y H _ I h) λd s1 z=>?_);obtain⟨H1,I1,q1⟩:=z
 cases d with
 |true=>exact ha pins s1 Y H1 D I1 q1
 |false=>exact hb pins s1 Y H1 D I1 q1
end
abbrev TG:=V->St->Hp->(St->Hp->Prop)->Prop
abbrev TGs:=List V->St->Hp->(St->Hp->Prop)->Prop
noncomputable def PG(X:Cx)(target:Expr)(t:TG):Prop :=
 ∀(pins:List (Addr×Obj)) (s:Shared) (Y:St) (H:Hp) (v:V) (u:Value) (Q:St->Hp->Prop),Inv X pins Y H s->RelV v u->t v Y H Q ->
  wpAny (model X.prog X.w) X.A (assign target X.env u) (λz s'=>∃Y' H',Inv X pins Y' H' s'/\Q Y' H') X.xe s
noncomputable def PGs(X:Cx)(ts:List Expr)(t:TGs):Prop :=
 ∀(pins:List (Addr×Obj)) (s:Shared) (Y:St) (H:Hp) (vs:List V) (us:List Value) (Q:St->Hp->Prop),Inv X pins Y H s->Vals vs us->t vs Y H Q ->
  wpAny (model X.prog X.w) X.A (assignInOrder ((assignEach ts X.env).map (·.2)) us) (λz s'=>∃Y' H',Inv X pins Y' H' s'/\Q Y' H') X.xe s
abbrev QnX:=V->V->V->Hp->(Hp->Prop)->Prop
noncomputable def QoM(X:Cx)(t:QnX):Prop :=
 ∀(pins:List (Addr×Obj)) (s:Shared) (Y:St) (H:Hp) (o i v:V) (ov iv u:Value) (Q:Hp->Prop),Inv X pins Y H s->RelV o ov->RelV i iv->RelV v u->t o i v H Q ->
  wpAny (model X.prog X.w) X.A (setItem ov iv u) (λz s'=>∃H',Inv X pins Y H' s'/\Q H') X.xe s
abbrev TIp:=V->V->Hp->VK->Prop
section

def Qaw(i:Nat):TG:=λv Y H Q=>Q (Y.set i (some v)) H
def Jw{i:Nat}{x:Str}(hN:X.N.Nodup)(hi:X.N[i]?=some x)(hx:Loc X.env.scope x)(hf:X.fn x=true\/X.env.scope.names.lookup x=some .local:=by first|exact .inl rfl|exact .inr rfl|assumption):PG X (.Name x pos) (Qaw i):=by
 intro pins s Y H v u Q I r h;exact wpAny_assign_Name (Jl I hN hi hx r (λs' I'=>⟨_,H,I',h⟩) hf)
def Qnm:TGs:=λvs Y H Q=>vs=[]/\Q Y H
def QfL(t:TG)(u:TGs):TGs:=λvs Y H Q=>∃v r,vs=v::r/\t v Y H λY' H'=>u r Y' H' Q
def Qa0:PGs X [] Qnm:=by
 intro pins s Y H vs us Q I r h;obtain⟨e,h⟩:=h;subst e;cases r;exact assignInOrder_nil ⟨Y,H,I,h⟩
def ZB{es:List Expr}{t:TG}{u:TGs}(h1:PG X e t)(h2:PGs X es u)
  (hs:(assignEach (e::es) X.env).map (·.2)=assign e X.env::(assignEach es X.env).map (·.2):=by rfl):PGs X (e::es) (QfL t u):=by
 intro pins s Y H vs us Q I r h;obtain⟨v,vr,e1,h⟩:=h;subst e1
 cases r with
 |cons r rr=>
  rw[hs];refine assignInOrder_cons (thn (h1 pins s Y H _ _ _ I r h) λz s1 y=>?_);obtain⟨σ1,H1,I1,q1⟩:=y;exact h2 pins s1 σ1 H1 _ _ Q I1 rr q1
def QoD(K:W.Frag)(n:Nat)(t:TGs):TG:=λv Y H Q=>∃a xs,v=.ref a/\SqT K H a xs/\xs.length=n/\t xs Y H Q
def Qdt{es:List Expr}{k:Nat}{t:TGs}{n:Nat}(hc:X.calm=true)(h:PGs X es t)
  (hn:(assignEach es X.env).length=n:=by rfl) (hst:(assignEach es X.env).findIdx? (·.1)=none:=by rfl):PG X (.Tuple es k pos) (QoD X.K n t):=by
 intro pins s Y H v u Q I r hw;obtain⟨a,xs,e1,hq,hl,hw⟩:=hw;subst e1;cases r;obtain⟨its,rv,ht,hz⟩:=I.tuple hq
 refine assign_Tuple_tuple (I.ok.hd hc) ht (by simp[hn,<-hl,rv.length]) hst λh' hx=>?_
 have I1:Inv X pins Y H {s with heap:=h'}:=I.kept (t':=s.toks) λb o e=>hx b o (Xn (Xg e)) e
 exact h pins _ Y H xs _ Q I1 (by simpa using rv) hw
def Qpz(to ti:TE)(t:QnX):TG:=λv Y H Q=>to Y H λo H1=>ti Y H1 λi H2=>t o i v H2 λH3=>Q Y H3
def Qka{o i:Expr}{to ti:TE}{t:QnX}(ho:PE X o to)(hi:PE X i ti)(hs:QoM X t)
  (ha:∀v,assign (.Subscript o i pos) X.env v=(do
   let ov <-holding [v] (eval o X.env);let iv <-holding [v,ov] (eval i X.env)
   standAt pos
   holding [v,ov,iv] (setItem ov iv v)
   release [v,ov,iv] []):=by intro _;rfl):PG X (.Subscript o i pos) (Qpz to ti t):=by
 intro pins s Y H v u Q I r h;rw[ha];refine Xa (Wu (thn (ho pins s Y H _ I h) λov s1 z=>?_));obtain⟨x,H1,I1,r1,q1⟩:=z;refine Xa (Wu (thn (hi pins s1 Y H1 _ I1 q1) λiv s2 w=>?_));obtain⟨y,H2,I2,r2,q2⟩:=w;refine Xa (Tp (Xa (Wu (thn (hs pins s2 Y H2 x y v ov iv u _ I2 r1 r2 r q2) λq s3 p=>?_))));obtain⟨H3,I3,q3⟩:=p;exact wpAny_release ⟨Y,H3,I3,q3⟩
def Qn7(te:TE)(g:TG):TS:=λD Y H=>te Y H λx H1=>g x Y H1 D.nx
def Qgi{g:TG}(he:PE X e te)(hg:PG X tg g)(hs:swapsWithSole [tg] e pos.line X.env=pure false:=by rfl)(hw:swappedStores [tg] e X.env=pure none:=by rfl)
  (h1:(assignEach [tg] X.env).map (·.2)=[assign tg X.env]:=by rfl):PS X (.Assign [tg] e pos) (Qn7 te g):=by
 intro pins s Y H D I h;refine wpAny_Assign_stores (thn (he pins s Y H _ I h) λv s1 z=>?_) hs hw;obtain⟨x,H1,I1,r1,q1⟩:=z;rw[h1];exact thn (hg pins s1 Y H1 x v _ I1 r1 q1) λy s2 q=>q
def Qdf{i:Nat}{x:Str}{pos':Pos}(hN:X.N.Nodup)(hi:X.N[i]?=some x)(hx:Loc X.env.scope x)(he:PE X e te)(hs:swapsWith e (some (.Name x pos')) pos.line X.env=pure false:=by rfl)(hf:X.fn x=true\/X.env.scope.names.lookup x=some .local:=by first|exact .inl rfl|exact .inr rfl|assumption):
  PS X (.Assign [.Name x pos'] e pos) (Qn7 te (Qaw i)):=by
 intro pins s Y H D I h;refine wpAny_Assign_Name (thn (he pins s Y H _ I h) λv s1 z=>?_) hs;obtain⟨y,H1,I1,r1,q1⟩:=z;exact Jl I1 hN hi hx r1 (λs2 I2=>⟨_,H1,I2,q1⟩) hf
end
section

def Qf8(c:TT)(tb:TS):TS:=λD Y H=>∃W:Nat->St->Hp->Prop,(∃m,W m Y H)/\∀m Y H,W m Y H ->
 c Y H λb H1=>if b=true then ∃N:St->Hp->Prop,(∀Y' H',N Y' H'->∃m',m'<m/\W m' Y' H')/\tb {D with nx:=N,ct:=N,bk:=D.nx} Y H1 else D.nx Y H1
def Qfa{c:Expr}{body:List Stmt}{tc:TT}{tb:TS}(hp:PassesOwn (model X.prog X.w) X.A X.env X.xe)(hc:PT X c tc)(hb:PSs X body tb):PS X (.While c body [] pos) (Qf8 tc tb):=by
 intro pins s Y H D I h;obtain⟨W,⟨m0,w0⟩,turn⟩:=h;refine wpAny_While (codeAny_whileLoop (λn s'=>∃Y' H',Inv X pins Y' H' s'/\W n Y' H') ?_ m0 ⟨Y,H,I,w0⟩);rintro n s1 ⟨σ1,H1,I1,w1⟩;refine V5 hp (thn (hc pins s1 σ1 H1 _ I1 (turn n σ1 H1 w1)) λb s2 z=>?_);obtain⟨H2,I2,q2⟩:=z
 cases b with
 |true=>
  obtain⟨N,hN,q2⟩:=q2;rw[if_pos rfl];refine V5 hp (thn (hb pins s2 σ1 H2 _ I2 q2) λf s3 q3=>?_)
  cases f with
  |next=>
   obtain⟨σ3,H3,I3,n3⟩:=q3;obtain⟨m',hm,w3⟩:=hN σ3 H3 n3;exact⟨m',hm,σ3,H3,I3,w3⟩
  |cont=>
   obtain⟨σ3,H3,I3,n3⟩:=q3;obtain⟨m',hm,w3⟩:=hN σ3 H3 n3;exact⟨m',hm,σ3,H3,I3,w3⟩
  |brk=>exact q3
  |ret v=>exact q3
 |false=>
  rw[if_neg Xh];exact U8 ⟨σ1,H2,I2,q2⟩
end
structure It where
 go:Nat->Hp->Prop
 yld:Nat->Hp->V->Hp->Prop
 stop:Nat->Hp->Prop
noncomputable def Qbo(X:Cx)(pins:List (Addr×Obj))(H:Hp)(b:Addr):Prop :=
 H b=none/\b≠X.env.locals/\b∉X.fs/\(b∈X.ex\/X.s₀.heap.objs.size<=b)/\(∀x c,X.env.cells.lookup x=some c->c≠b)/\∀p∈X.pn++pins,p.1≠b
def Inv.fpOk{H':Hp}{b:Addr}(I:Inv X pins Y H s)(hb:s.heap.objs.size<=b)(hn:H' b=none):Qbo X pins H' b:=by
 refine⟨hn,Ta (Xs I.lt hb),I.nofs hb,.inr (X6 I.sz hb),λx c e z=>?_,λp hp z=>?_⟩
 ·obtain⟨v,q⟩:=I.cell x c e
  exact absurd (Xs q.lt (by rw[z];exact hb)) (W5 _)
 ·exact absurd (Xs (Xg (I.pin p hp).1) (by rw[z];exact hb)) (W5 _)
structure Turn(P:Program)(w:World)(K:W.Frag)(tg:Expr)(J:It)(fp:List Addr)(it:Addr)(tn:Nat->Heap->Prop):Prop where
 mem:it∈fp
 obj:∀i h,tn i h->∀b∈fp,∃o,h.get? b=some o/\∀v,o.data≠.cell v
 keep:∀i h h',tn i h->(∀b∈fp,∀o,h.get? b=some o->h'.get? b=some o)->tn i h'
 item:∀(X:Cx),X.prog=P->X.w=w->X.K=K->X.calm=true->∀(i:Nat) (pins:List (Addr×Obj)) (s:Shared) (Y:St) (H:Hp) (E:Value->Shared->Prop),Inv X pins Y H s->(∀b∈fp,Qbo X pins H b)->tn i s.heap->J.go i H ->
  wpAny (model P w) X.A (pyNext (.ref it)) (λr s1=>∃u,r=some u /\
   wpAny (model P w) X.A (letOwnedTupleGo tg (.ref it) u) (λ_ s2=>∃x H',Inv X pins Y H' s2/\RelV x u/\J.yld i H x H'/\tn (i+1) s2.heap/\∀b∈fp,H' b=none) E s1) E s
 done:∀(X:Cx),X.prog=P->X.w=w->X.K=K->X.calm=true->∀(i:Nat) (pins:List (Addr×Obj)) (s:Shared) (Y:St) (H:Hp) (E:Value->Shared->Prop),Inv X pins Y H s->(∀b∈fp,Qbo X pins H b)->tn i s.heap->J.stop i H ->
  wpAny (model P w) X.A (pyNext (.ref it)) (λr s1=>r=none/\Inv X pins Y H s1) E s
 self:∀(A:Around) (i:Nat) (s:Shared) (Q:Value->Shared->Prop) (E:Value->Shared->Prop),tn i s.heap->Q (.ref it) s->wpAny (model P w) A (pyIter (.ref it)) Q E s
abbrev TI:=St->Hp->(It->Hp->Prop)->Prop
noncomputable def PIE(X:Cx)(pins:List (Addr×Obj))(Y:St)(tg:Expr)(R:It->Hp->Prop)(itv:Value)(s2:Shared):Prop :=
 ∃(it:Addr) (fp:List Addr) (tn:Nat->Heap->Prop) (J:It) (H':Hp),itv=.ref it/\Inv X pins Y H' s2/\Turn X.prog X.w X.K tg J fp it tn/\tn 0 s2.heap/\(∀b∈fp,Qbo X pins H' b)/\R J H'
noncomputable def PI(X:Cx)(tg iter:Expr)(wi:TI):Prop :=
 ∀(pins:List (Addr×Obj)) (s:Shared) (Y:St) (H:Hp) (R:It->Hp->Prop),Inv X pins Y H s->wi Y H R ->
  wpAny (model X.prog X.w) X.A (eval iter X.env) (λv s1=>wpAny (model X.prog X.w) X.A (pyIter v) (PIE X pins Y tg R) X.xe s1) X.xe s
def QfI{M:Model}{A:Around}{E:Value->Shared->Prop}{it:Addr}{o:Obj}{n:String}{vs:Array Value}{Q:Unit->Shared->Prop}(ho:s.heap.get? it=some o)(hc:o.cls=.type n)(hd:o.data=.fields vs)
  (hn:["enumerate","zip","dict_itemiterator","dict_reverseitemiterator","odict_iterator","itertools.zip_longest","itertools.pairwise"].contains n=false) (hQ:Q () s):wpAny M A (letOwnedTupleGo tg (.ref it) u) Q E s:=by
 unfold letOwnedTupleGo
 cases tg<;>first
  |exact Xf hQ
  | (cases u<;>first
    |exact Xf hQ
    | (refine Xa (wpAny_load ho ?_)
       rw[hc,hd];show wpAny M A (if(["enumerate","zip","dict_itemiterator","dict_reverseitemiterator","odict_iterator","itertools.zip_longest","itertools.pairwise"].contains n&&vs[0]?==some (rawInt _))=true then _ else _) Q E s
       rw[if_neg (by intro h;rw[hn,Bool.false_and]at h;cases h)]
       exact Xf hQ))
noncomputable def Itl(K:W.Frag)(a:Addr):It :=
 ⟨λi H=>∃xs x,SqL K H a xs/\xs[i]?=some x,λi H x H'=>H'=H/\∀xs,SqL K H a xs->xs[i]?=some x,λi H=>∃xs,SqL K H a xs/\xs.length<=i⟩
noncomputable def Itt(K:W.Frag)(a:Addr):It :=
 ⟨λi H=>∃xs x,SqT K H a xs/\xs[i]?=some x,λi H x H'=>H'=H/\∀xs,SqT K H a xs->xs[i]?=some x,λi H=>∃xs,SqT K H a xs/\xs.length<=i⟩
noncomputable def Itr(lo:Int)(n:Nat):It:=⟨λi z=>i<n,λi H x H'=>H'=H/\x=.int (lo+i),λi z=>n<=i⟩
def QcV{K:W.Frag}(a it:Addr):Turn P w K tg (Itl K a) [it] it (λi h=>h.IsListIter it a i) where
 mem:=by simp
 obj:=λi h st b hb=>by
  have e:b=it:=by simpa using hb
  subst e;obtain⟨o,e,c,d⟩:=st
  exact⟨o,e,λv z=>by rw[d]at z;cases z⟩
 keep:=λi h h' st k=>st.at λo e=>k it (by simp) o e
 item:=by
  intro X hP hw hK hc i pins s Y H E I hf st hg;subst hP hw hK;obtain⟨xs,x,hq,hx⟩:=hg;obtain⟨its,rv,p,hz⟩:=I.list hq;obtain⟨u,hu,ru⟩:=rv.get hx
  obtain⟨f0,f1,f2,f3,f4,f5⟩:=hf it (by simp)
  refine wpAny_pyNext_list_item st p.isList (x:=u) (by simpa using hu) λh' st' sb=>?_
  have I1:Inv X pins Y H {s with heap:=h'}:=I.turned (t':=s.toks) (λb o hb e=>(sb.2 b hb).trans e) f0 f1 f3 f4 f5;obtain⟨o,e,c,d⟩:=id st'
  exact⟨u,rfl,QfI (s:={s with heap:=h'}) e c d (by decide) ⟨x,H,I1,ru,⟨rfl,λys hy=>by rw[I.list_inj hy hq];exact hx⟩,st',λb hb=>(hf b hb).1⟩⟩
 done:=by
  intro X hP hw hK hc i pins s Y H E I hf st hg;subst hP hw hK;obtain⟨xs,hq,hx⟩:=hg;obtain⟨its,rv,p,hz⟩:=I.list hq
  obtain⟨f0,f1,f2,f3,f4,f5⟩:=hf it (by simp)
  have hl:=rv.length
  exact wpAny_pyNext_list_end (I.ok.hd hc) st p.isList (by simp;omega) λh' eb=>⟨rfl,I.turned (t':=s.toks) (λb o hb e=>eb b o hb e) f0 f1 f3 f4 f5⟩
 self:=λy y y y y st h=>wpAny_pyIter_listiter st h
def Qb3{K:W.Frag}(a it:Addr):Turn P w K tg (Itt K a) [it] it (λi h=>h.IsTupleIter it a i) where
 mem:=by simp
 obj:=λi h st b hb=>by
  have e:b=it:=by simpa using hb
  subst e;obtain⟨o,e,c,d⟩:=st
  exact⟨o,e,λv z=>by rw[d]at z;cases z⟩
 keep:=λi h h' st k=>st.at λo e=>k it (by simp) o e
 item:=by
  intro X hP hw hK hc i pins s Y H E I hf st hg;subst hP hw hK;obtain⟨xs,x,hq,hx⟩:=hg;obtain⟨its,rv,p,hz⟩:=I.tuple hq;obtain⟨u,hu,ru⟩:=rv.get hx
  obtain⟨f0,f1,f2,f3,f4,f5⟩:=hf it (by simp)
  refine wpAny_pyNext_tuple_item st (show s.heap.IsTuple a its.toArray from p) (x:=u) (by simpa using hu) λh' st' sb=>?_
  have I1:Inv X pins Y H {s with heap:=h'}:=I.turned (t':=s.toks) (λb o hb e=>(sb.2 b hb).trans e) f0 f1 f3 f4 f5;obtain⟨o,e,c,d⟩:=id st'
  exact⟨u,rfl,QfI (s:={s with heap:=h'}) e c d (by decide) ⟨x,H,I1,ru,⟨rfl,λys hy=>by rw[I.tuple_inj hy hq];exact hx⟩,st',λb hb=>(hf b hb).1⟩⟩
 done:=by
  intro X hP hw hK hc i pins s Y H E I hf st hg;subst hP hw hK;obtain⟨xs,hq,hx⟩:=hg;obtain⟨its,rv,p,hz⟩:=I.tuple hq
  obtain⟨f0,f1,f2,f3,f4,f5⟩:=hf it (by simp)
  have hl:=rv.length
  exact wpAny_pyNext_tuple_end (I.ok.hd hc) st (show s.heap.IsTuple a its.toArray from p) (by simp;omega) λh' eb=>⟨rfl,I.turned (t':=s.toks) (λb o hb e=>eb b o hb e) f0 f1 f3 f4 f5⟩
 self:=λy y y y y st h=>wpAny_pyIter_tupleiter st h
def Qb4{K:PySem.W.Frag}(it:Addr)(lo:Int)(n:Nat):Turn P w K tg (Itr lo n) [it] it (λi h=>IsRangeIter h it (lo+(i:Nat)*1) ((n:Int) - (i:Nat)) 1) where
 mem:=by simp
 obj:=λi h st b hb=>by
  have e:b=it:=by simpa using hb
  subst e
  exact⟨_,st,λv z=>by
   have z':Data.fields _=Data.cell v:=z
   cases z'⟩
 keep:=λi h h' st k=>k it (by simp) _ st
 item:=by
  intro X hP hw hK hc i pins s Y H E I hf st hg;subst hP hw hK
  obtain⟨f0,f1,f2,f3,f4,f5⟩:=hf it (by simp)
  have W:=Walks.range (prog:=X.prog) (w:=X.w) (I.ok.hd hc) it lo 1 n;refine W.item i s _ _ hg st λv h' tk hv st' kk=>?_;obtain⟨t,rfl⟩:=hv
  have I1:Inv X pins Y H {s with heap:=h',toks:=tk}:=I.turned (λb o hb e=>kk b o (by simpa using hb) e) f0 f1 f3 f4 f5
  refine⟨_,rfl,QfI (s:={s with heap:=h',toks:=tk}) (n:="range_iterator") st' rfl rfl (by decide) ⟨.int (lo+i),H,I1,⟨t,?_⟩,⟨rfl,rfl⟩,st',λb hb=>(hf b hb).1⟩⟩
  rw[Int.mul_one]
 done:=by
  intro X hP hw hK hc i pins s Y H E I hf st hg;subst hP hw hK
  obtain⟨f0,f1,f2,f3,f4,f5⟩:=hf it (by simp)
  exact wpAny_pyNext_range_end (I.ok.hd hc) st (by have:n<=i:=hg;omega) λh' eb=>⟨rfl,I.turned (t':=s.toks) (λb o hb e=>eb b o hb e) f0 f1 f3 f4 f5⟩
 self:=λy y y y y st h=>wpAny_pyIter_rangeiter st h
end
section
variable {H:Hp}{pins:List (Addr×Obj)}{fp:List Addr}{pos:Pos}{s:Shared}{Y:St}
section
variable {X:Cx}{tg:Expr}
def Qnc(K:W.Frag)(tl:TE):TI:=λY H R=>tl Y H λx H1=>∃a,x=.ref a/\(∃xs,SqL K H1 a xs)/\R (Itl K a) H1
def Qpw(K:W.Frag)(tl:TE):TI:=λY H R=>tl Y H λx H1=>∃a,x=.ref a/\(∃xs,SqT K H1 a xs)/\R (Itt K a) H1
def Qhx{l:Expr}{tl:TE}(hl:PE X l tl):PI X tg l (Qnc X.K tl):=by
 intro pins s Y H R I h;refine thn (hl pins s Y H _ I h) λv s1 z=>?_;obtain⟨x,H1,I1,r1,q1⟩:=z;obtain⟨a,e,⟨xs,hq⟩,q⟩:=q1;subst e;cases r1;obtain⟨its,rv,p,hz⟩:=I1.list hq;refine Vf p.isList ?_;refine⟨s1.heap.objs.size,[s1.heap.objs.size],_,_,H1,rfl,I1.kept (t':=s1.toks) λb o e=>Xb _ e,QcV a _,⟨_,Xo _ rfl,rfl,rfl⟩,λb hb=>?_,q⟩
 have e:b=s1.heap.objs.size:=by simpa using hb
 subst e;exact I1.fpOk (Xm _) (I1.hok.fresh (Xm _))
def Qj6{l:Expr}{tl:TE}(hl:PE X l tl):PI X tg l (Qpw X.K tl):=by
 intro pins s Y H R I h;refine thn (hl pins s Y H _ I h) λv s1 z=>?_;obtain⟨x,H1,I1,r1,q1⟩:=z;obtain⟨a,e,⟨xs,hq⟩,q⟩:=q1;subst e;cases r1;obtain⟨its,rv,p,hz⟩:=I1.tuple hq;refine Ul (show s1.heap.IsTuple a its.toArray from p) ?_;refine⟨s1.heap.objs.size,[s1.heap.objs.size],_,_,H1,rfl,I1.kept (t':=s1.toks) λb o e=>Xb _ e,Qb3 a _,⟨_,Xo _ rfl,rfl,rfl⟩,λb hb=>?_,q⟩
 have e:b=s1.heap.objs.size:=by simpa using hb
 subst e;exact I1.fpOk (Xm _) (I1.hok.fresh (Xm _))
def Qby{R:It->Hp->Prop}{E:Value->Shared->Prop}{lo hi:Int}{t u v:Tok}{tk:Nat}(I:Inv X pins Y H s)(h1:-(2 ^ 62)<=lo)(h2:lo<2 ^ 62)(h3:-(2 ^ 62)<=hi)(h4:hi<2 ^ 62)
  (q:R (Itr lo (hi-lo).toNat) H):wpAny (model X.prog X.w) X.A (pyIter (.ref s.heap.objs.size)) (PIE X pins Y tg R) E {s with heap:=s.heap.push {cls:=.type "range",data:=.fields #[.int lo t,.int hi u,.int 1 v]},toks:=tk}:=by
 refine wpAny_pyIter_range (IsRange.new ..) (small_one h1 h2 h3 h4) ?_;have I1:Inv X pins Y H {s with heap:=s.heap.push {cls:=.type "range",data:=.fields #[.int lo t,.int hi u,.int 1 v]},toks:=tk}:=I.kept λb o e=>Xb _ e
 refine⟨(s.heap.push {cls:=.type "range",data:=.fields #[.int lo t,.int hi u,.int 1 v]}).objs.size,[(s.heap.push {cls:=.type "range",data:=.fields #[.int lo t,.int hi u,.int 1 v]}).objs.size],_,_,H,rfl,
  I1.kept (t':=tk) λb o e=>Xb _ e,Qb4 _ lo (hi-lo).toNat,?_,λb hb=>?_,q⟩
 ·have e1:lo+((0:Nat):Int)*1=lo:=by simp
  have e2:(((hi-lo).toNat:Nat):Int) - ((0:Nat):Int)=Builtin.Range.rangeSize lo hi 1:=by rw[rangeSize_one];split<;>omega
  show IsRangeIter _ _ (lo+((0:Nat):Int)*1) ((((hi-lo).toNat:Nat):Int) - ((0:Nat):Int)) 1;rw[e1,e2];exact Xo _ rfl
 ·have e:b=(s.heap.push {cls:=.type "range",data:=.fields #[.int lo t,.int hi u,.int 1 v]}).objs.size:=by simpa using hb
  subst e;exact I1.fpOk (Xm _) (I1.hok.fresh (Xm _))
def Qnb(ta:TA):TI:=λY H R=>ta Y H λvs H1=>∃j:Int,vs=[.int j]/\-(2 ^ 62)<=j/\j<2 ^ 62/\R (Itr 0 j.toNat) H1
def Qna(ta:TA):TI:=λY H R=>ta Y H λvs H1=>∃i j:Int,vs=[.int i,.int j]/\(-(2 ^ 62)<=i/\i<2 ^ 62/\-(2 ^ 62)<=j/\j<2 ^ 62)/\R (Itr i (j-i).toNat) H1
def Qdr{a:Expr}{ta:TA}{p:Pos}(hg:Gl X "range")(hm:X.mg "range"=none)(ha:PA X [a] ta)(hs:starEach [a] X.env=[(false,eval a X.env)]:=by rfl):PI X tg (.Call (.Name "range" p) [a] [] pos) (Qnb ta):=by
 intro pins s Y H R I h;refine Call_ (Zl I hg hm boot_range (Wf (thn (ha pos pins s Y H _ I h) λus s1 z=>?_) hs rfl));obtain⟨vs,H1,I1,r1,q1⟩:=z;obtain⟨j,e,q1,q2,q⟩:=q1;subst e
 cases r1 with
 |cons r rr=>
  cases rr;obtain⟨t,rfl⟩:=r
  exact call_range_1 (Qby I1 (by omega) (by omega) q1 q2 (by simpa using q))
def Qdq{a b:Expr}{ta:TA}{p:Pos}(hg:Gl X "range")(hm:X.mg "range"=none)(ha:PA X [a,b] ta)(hs:starEach [a,b] X.env=[(false,eval a X.env),(false,eval b X.env)]:=by rfl)(hs2:starEach [b] X.env=[(false,eval b X.env)]:=by rfl):
  PI X tg (.Call (.Name "range" p) [a,b] [] pos) (Qna ta):=by
 intro pins s Y H R I h
 refine Call_ (Zl I hg hm boot_range (Wf (thn (ha pos pins s Y H _ I h) λus s1 z=>?_) (by rw[hs,hs2]) (by rw[hs2];rfl)));obtain⟨vs,H1,I1,r1,q1⟩:=z
 obtain⟨i,j,e,⟨q1,q2,q3,q4⟩,q⟩:=q1;subst e
 cases r1 with
 |cons r rr=>
  cases rr with
  |cons r' rr=>
   cases rr;obtain⟨t,rfl⟩:=r;obtain⟨t',rfl⟩:=r';exact call_range_2 (Qby I1 q1 q2 q3 q4 q)
def Qo8(wi:TI)(g:TG)(tb:TS):TS:=λD Y H=>wi Y H λJ H1=>∃W:Nat->Nat->St->Hp->Prop,(∃m,W 0 m Y H1)/\∀i m Y H,W i m Y H ->
 (J.stop i H/\D.nx Y H)\/(J.go i H/\∃N:St->Hp->Prop,(∀Y' H',N Y' H'->∃m',m'<m/\W (i+1) m' Y' H')/\∀x H',J.yld i H x H'->g x Y H' λσ2 H2=>tb {D with nx:=N,ct:=N,bk:=D.nx} σ2 H2)
noncomputable def Yk(fp:List Addr)(h:Heap):List (Addr×Obj):=fp.filterMap λb=>(h.get? b).map λo=>(b,o)
def Za{h:Heap}{b:Addr}{o:Obj}(hb:b∈fp)(e:h.get? b=some o):(b,o)∈Yk fp h:=Vz.mpr ⟨b,hb,by rw[e];rfl⟩
def QdE{h:Heap}{p:Addr×Obj}(hp:p∈Yk fp h):p.1∈fp/\h.get? p.1=some p.2:=by
 obtain⟨b,hb,e⟩:=Vz.mp hp
 cases q:h.get? b with
 |none=>rw[q]at e;cases e
 |some o=>
  rw[q]at e;have e':(b,o)=p:=X3 e;subst e';exact⟨hb,q⟩
def Inv.pinned(I:Inv X pins Y H s)(hf:∀b∈fp,Qbo X pins H b)(ho:∀b∈fp,∃o,s.heap.get? b=some o/\∀v,o.data≠.cell v):Inv X (pins++Yk fp s.heap) Y H s :=
 I.pins_of λp hp=>(V4.mp hp).elim (λz=>I.pin p (We _ z)) λz=>by
  obtain⟨hb,e⟩:=QdE z;obtain⟨f0,f1,f2,_⟩:=hf p.1 hb;obtain⟨o,e',d⟩:=ho p.1 hb;rw[e]at e';cases e';exact⟨e,f0,f1,f2,d⟩
def Inv.unpinned{pl:List (Addr×Obj)}(I:Inv X (pins++pl) Y H s):Inv X pins Y H s:=I.pins_of λp hp=>I.pin p (We _ (List.mem_append_left _ hp))
def Qgh{iter:Expr}{body:List Stmt}{wi:TI}{g:TG}{tb:TS}(hp:PassesOwn (model X.prog X.w) X.A X.env X.xe)(hc:X.calm=true)(hi:PI X tg iter wi)(hg:PG X tg g)(hb:PSs X body tb)
  (hs:∀x,foldedSetIterable iter X.env x=pure x:=by intro _;rfl):PS X (.For tg iter body [] pos) (Qo8 wi g tb):=by
 intro pins s Y H D I h;refine wpAny_For (thn (hi pins s Y H _ I h) λv s1 h1=>thn h1 λitv s2 h2=>?_) hs;obtain⟨it,fp,tn,J,H2,e,I2,T,st2,f2,W,⟨m0,w0⟩,turn⟩:=h2;subst e
 have stat:∀{H':Hp},(∀b∈fp,H' b=none)->∀b∈fp,Qbo X pins H' b:=λhn b hb=>⟨hn b hb,(f2 b hb).2⟩;refine codeAny_forLoop_any (λn s'=>∃i Y' H',Inv X pins Y' H' s'/\tn i s'.heap/\(∀b∈fp,H' b=none)/\W i n Y' H') ?_ m0 ⟨0,Y,H2,I2,st2,λb hb=>(f2 b hb).1,w0⟩;rintro n s3 ⟨i,σ3,H3,I3,st3,fr3,w3⟩
 rcases turn i n σ3 H3 w3 with⟨stop,qn⟩|⟨go,N,hN,step⟩
 ·refine V5 hp (thn (T.done X rfl rfl rfl hc i pins s3 σ3 H3 X.xe I3 (stat fr3) st3 stop) λr s4 z=>?_);obtain⟨hr,I4⟩:=z;subst hr;exact U8 ⟨σ3,H3,I4,qn⟩
 ·refine V5 hp (thn (T.item X rfl rfl rfl hc i pins s3 σ3 H3 X.xe I3 (stat fr3) st3 go) λr s4 y=>?_);obtain⟨u,hr,h4⟩:=y;subst hr;refine V5 hp (thn h4 λt s5 q=>?_);obtain⟨x,H5,I5,r5,y5,st5,fr5⟩:=q;have I5':=I5.pinned (stat fr5) (T.obj _ _ st5);refine V5 hp (thn (hg _ s5 σ3 H5 x u _ I5' r5 (step x H5 y5)) λt s6 p=>?_);obtain⟨σ6,H6,I6,q6⟩:=p;refine V5 hp (thn (hb _ s6 σ6 H6 _ I6 q6) λf s7 q7=>?_)
  have again:∀{σ7:St} {H7:Hp},Inv X (pins++Yk fp s5.heap) σ7 H7 s7->N σ7 H7->∃m,m<n/\∃i Y' H',Inv X pins Y' H' s7/\tn i s7.heap/\(∀b∈fp,H' b=none)/\W i m Y' H':=λ{σ7 H7} I7 n7=>by
   obtain⟨m',hm,w7⟩:=hN σ7 H7 n7;refine⟨m',hm,i+1,σ7,H7,I7.unpinned,T.keep _ _ _ st5 λb hb o e=>(I7.pin (b,o) (We _ (We _ (Za hb e)))).1,λb hb=>?_,w7⟩;obtain⟨o,e,d⟩:=T.obj _ _ st5 b hb;exact(I7.pin (b,o) (We _ (We _ (Za hb e)))).2.1
  cases f with
  |next=>obtain⟨σ7,H7,I7,n7⟩:=q7;exact again I7 n7
  |cont=>obtain⟨σ7,H7,I7,n7⟩:=q7;exact again I7 n7
  |brk=>obtain⟨σ7,H7,I7,q7⟩:=q7;exact⟨σ7,H7,I7.unpinned,q7⟩
  |ret v=>obtain⟨x7,σ7,H7,I7,r7,q7⟩:=q7;exact⟨x7,σ7,H7,I7.unpinned,r7,q7⟩
end
end
section
variable {f:Value->Value->Sem Value}
abbrev R2:=V->V->Hp->VK->Prop
noncomputable def OpR(X:Cx)(f:Value->Value->Sem Value)(r:R2):Prop :=
 ∀(pins:List (Addr×Obj)) (s:Shared) (Y:St) (H:Hp) (x y:V) (v u:Value) (Q:VK),Inv X pins Y H s->RelV x v->RelV y u->r x y H Q ->
  wpAny (model X.prog X.w) X.A (f v u) (EP X pins Y Q) X.xe s
noncomputable def UnR(X:Cx)(f:Value->Sem Value)(r:V->Hp->VK->Prop):Prop :=
 ∀(pins:List (Addr×Obj)) (s:Shared) (Y:St) (H:Hp) (x:V) (v:Value) (Q:VK),Inv X pins Y H s->RelV x v->r x H Q ->
  wpAny (model X.prog X.w) X.A (f v) (EP X pins Y Q) X.xe s
noncomputable def CallR(X:Cx)(f:Value)(r:List V->Hp->VK->Prop):Prop :=
 ∀(pins:List (Addr×Obj)) (s:Shared) (Y:St) (H:Hp) (xs:List V) (us:List Value) (Q:VK),Inv X pins Y H s->Vals xs us->r xs H Q ->
  wpAny (model X.prog X.w) X.A (call f us) (EP X pins Y Q) X.xe s
noncomputable def Qp3(X:Cx)(r:V->Hp->(Bool->Hp->Prop)->Prop):Prop :=
 ∀(pins:List (Addr×Obj)) (s:Shared) (Y:St) (H:Hp) (x:V) (v:Value) (Q:Bool->Hp->Prop),Inv X pins Y H s->RelV x v->r x H Q ->
  wpAny (model X.prog X.w) X.A (truthy v) (TP X pins Y Q) X.xe s
def tOp(r:R2)(ta tb:TE):TE:=λY H Q=>ta Y H λx H1=>tb Y H1 λy H2=>r x y H2 Q
def tUn(r:V->Hp->VK->Prop)(ta:TE):TE:=λY H Q=>ta Y H λx H1=>r x H1 Q
def rI(C:Int->Int->Prop)(g:Int->Int->V):R2:=λx y H Q=>∃i j,x=.int i/\y=.int j/\C i j/\Q (g i j) H
def rI0(g:Int->Int->V):R2:=λx y H Q=>∃i j,x=.int i/\y=.int j/\Q (g i j) H
def rU(g:Int->V):V->Hp->VK->Prop:=λx H Q=>∃i,x=.int i/\Q (g i) H
section
variable {X:Cx}{a b:Expr}{ta tb:TE}{pos:Pos}
def QnR(ha:PE X a ta)(hb:PE X b tb){pins:List (Addr×Obj)}{s:Shared}{Y:St}{H:Hp}{R:V->V->Hp->Prop}(I:Inv X pins Y H s)
  (h:ta Y H λx H1=>tb Y H1 λy H2=>R x y H2) {Q:Value->Shared->Prop}
  (hf:∀v u s2 x y H2,Inv X pins Y H2 s2->RelV x v->RelV y u->R x y H2->wpAny (model X.prog X.w) X.A (f v u) Q X.xe s2):
  wpAny (model X.prog X.w) X.A (eval a X.env) (λv s₁=>wpAny (model X.prog X.w) X.A (eval b X.env) (λu s₂=>wpAny (model X.prog X.w) X.A (f v u) Q X.xe s₂) X.xe s₁) X.xe s:=by
 refine thn (ha pins s Y H _ I h) λv s1 z=>?_;obtain⟨x,H1,I1,r1,q1⟩:=z;refine thn (hb pins s1 Y H1 _ I1 q1) λu s2 t=>?_;obtain⟨y,H2,I2,r2,q2⟩:=t;exact hf v u s2 x y H2 I2 r1 r2 q2
def QmD{op:Operator}{r:R2}(ho:OpR X (binaryOp op) r)(ha:PE X a ta)(hb:PE X b tb):PE X (.BinOp a op b pos) (tOp r ta tb):=by
 intro pins s Y H Q I h;exact wpAny_BinOp (QnR ha hb I h λv u s2 x y H2 I2 rx ry q=>ho pins s2 Y H2 x y v u Q I2 rx ry q)
def QmB{op:UnaryOp}{r:V->Hp->VK->Prop}(ho:UnR X (unaryOp op) r)(ha:PE X a ta):PE X (.UnaryOp op a pos) (tUn r ta):=by
 intro pins s Y H Q I h;exact UnaryOp_ (thn (ha pins s Y H _ I h) λv s1 z=>by obtain⟨x,H1,I1,r1,q1⟩:=z;exact ho pins s1 Y H1 x v Q I1 r1 q1)
def opI{C:Int->Int->Prop}{g:Int->Int->Int}
  (rule:∀(i j:Int) (t u:Tok) (s:Shared) (Q:Value->Shared->Prop) (E:Value->Shared->Prop),C i j->Q (.int (g i j) s.toks) {s with toks:=s.toks+1}->wpAny (model X.prog X.w) X.A (f (.int i t) (.int j u)) Q E s):
  OpR X f (rI C λi j=>.int (g i j)):=by
 intro pins s Y H x y v u Q I rx ry h;obtain⟨i,j,rfl,rfl,hc,q⟩:=h;obtain⟨t,rfl⟩:=rx;obtain⟨t',rfl⟩:=ry;exact rule i j t t' s _ _ hc ⟨.int (g i j),H,I.tok _,⟨_,rfl⟩,q⟩
def Qox{g:Int->Int->Int}
  (rule:∀(i j:Int) (t u:Tok) (s:Shared) (Q:Value->Shared->Prop) (E:Value->Shared->Prop),Q (.int (g i j) s.toks) {s with toks:=s.toks+1}->wpAny (model X.prog X.w) X.A (f (.int i t) (.int j u)) Q E s):
  OpR X f (rI0 λi j=>.int (g i j)):=by
 intro pins s Y H x y v u Q I rx ry h;obtain⟨i,j,rfl,rfl,q⟩:=h;obtain⟨t,rfl⟩:=rx;obtain⟨t',rfl⟩:=ry;exact rule i j t t' s _ _ ⟨.int (g i j),H,I.tok _,⟨_,rfl⟩,q⟩
def QlL{g:Int->Int->Bool}
  (rule:∀(i j:Int) (t u:Tok) (s:Shared) (Q:Value->Shared->Prop) (E:Value->Shared->Prop),Q (.bool (g i j)) s->wpAny (model X.prog X.w) X.A (f (.int i t) (.int j u)) Q E s):
  OpR X f (rI0 λi j=>.bl (g i j)):=by
 intro pins s Y H x y v u Q I rx ry h;obtain⟨i,j,rfl,rfl,q⟩:=h;obtain⟨t,rfl⟩:=rx;obtain⟨t',rfl⟩:=ry;exact rule i j t t' s _ _ ⟨.bl (g i j),H,I,rfl,q⟩
def CMul(i j:Int):Prop:=(-(2 ^ 64) < i/\i<2 ^ 64)\/(-(2 ^ 64) < j/\j<2 ^ 64)
def CMul.ok{i j:Int}(h:CMul i j):IntMulOk i j:=by
 rcases h with⟨h1,h2⟩|⟨h1,h2⟩
 ·exact .of_left (intBits_le_64 h1 h2)
 ·exact .of_right (intBits_le_64 h1 h2)
def Qku:OpR X (binaryOp .Add) (rI0 λi j=>.int (i+j)):=Qox λz z z z z z z q=>add_int q
def Qkk:OpR X (binaryOp .Sub) (rI0 λi j=>.int (i-j)):=Qox λz z z z z z z q=>sub_int q
def Qko:OpR X (binaryOp .Mod) (rI (λz j=>0<j) λi j=>.int (i % j)):=opI λi j z z z z z hc q=>by
 have h1:(0:Int) < j:=hc
 exact mod_int' (by omega) (by rw[Int.fmod_eq_emod_of_nonneg i (by omega)];exact q)
def unI{f:Value->Sem Value}{g:Int->Int}
  (rule:∀(i:Int) (t:Tok) (s:Shared) (Q:Value->Shared->Prop) (E:Value->Shared->Prop),Q (.int (g i) s.toks) {s with toks:=s.toks+1}->wpAny (model X.prog X.w) X.A (f (.int i t)) Q E s):
  UnR X f (rU λi=>.int (g i)):=by
 intro pins s Y H x v Q I rx h;obtain⟨i,rfl,q⟩:=h;obtain⟨t,rfl⟩:=rx;exact rule i t s _ _ ⟨.int (g i),H,I.tok _,⟨_,rfl⟩,q⟩
def Qjf:UnR X (unaryOp .USub) (rU λi=>.int (-i)):=unI λz z z z z q=>neg_int q
end
noncomputable def Qml:V->V->Bool
 |.non,.non=>true|.non,.int _=>true|.int _,.non=>true|.non,.bl _=>true|.bl _,.non=>true|.non,.str _=>true|.str _,.non=>true
 |.int _,.int _=>true|.bl _,.bl _=>true|.str _,.str _=>true|.byt _,.byt _=>true
 |.int _,.str _=>true|.str _,.int _=>true|.bl _,.str _=>true|.str _,.bl _=>true
 |_,_=>false
def rEq:R2:=λx y H Q=>Qml x y=true/\Q (.bl (decide (x=y))) H
def rNe:R2:=λx y H Q=>Qml x y=true/\Q (.bl (!decide (x=y))) H
def Qeb{i j:Int}:decide (V.int i=V.int j)=(i==j):=by
 rw[V6];simp
def QgD{i j:Bool}:decide (V.bl i=V.bl j)=(i==j):=by
 rw[V6];simp
def Qea{i j:Str}:decide (V.str i=V.str j)=(i==j):=by
 rw[V6];simp
def Qec{i j:Array UInt8}:decide (V.byt i=V.byt j)=(i.toList==j.toList):=by
 rw[V6];cases i;cases j;simp
section
variable {X:Cx}{a b c:Expr}{ta tb:TE}{pos:Pos}
def Qr{pins:List (Addr×Obj)}{Y:St}{H:Hp}{s:Shared}{Q:VK}{k k':Bool}(I:Inv X pins Y H s)(q:Q (.bl k) H)(e:k=k'):EP X pins Y Q (.bool k') s:=by
 subst e;exact⟨.bl k,H,I,rfl,q⟩
def QmN:OpR X (compareOp .Eq) rEq:=by
 intro pins s Y H x y v u Q I rx ry h;obtain⟨hs,q⟩:=h
 cases x with
 |non=>
  cases rx
  cases y with
  |non=>cases ry;exact PySem.EqNone.eq_none_none (Qr I q (by simp))
  |bl j=>cases ry;exact PySem.EqNone.eq_none_bool (Qr I q (by simp))
  |int j=>obtain⟨t',rfl⟩:=ry;exact PySem.EqNone.eq_none_int (Qr I q (by simp))
  |str j=>obtain⟨t',rfl⟩:=ry;exact PySem.EqNone.eq_none_str (Qr I q (by simp))
  |_=>exact absurd (show false=true from hs) Xh
 |bl i=>
  cases rx
  cases y with
  |non=>cases ry;exact PySem.EqNone.eq_bool_none (Qr I q (by simp))
  |bl j=>cases ry;exact eq_bool (Qr I q QgD)
  |str j=>obtain⟨t',rfl⟩:=ry;exact PySem.EqMixed.eq_bool_str (Qr I q (by simp))
  |_=>exact absurd (show false=true from hs) Xh
 |int i=>
  obtain⟨t,rfl⟩:=rx
  cases y with
  |non=>cases ry;exact PySem.EqNone.eq_int_none (Qr I q (by simp))
  |int j=>obtain⟨t',rfl⟩:=ry;exact eq_int (Qr I q Qeb)
  |str j=>obtain⟨t',rfl⟩:=ry;exact PySem.EqMixed.eq_int_str (Qr I q (by simp))
  |_=>exact absurd (show false=true from hs) Xh
 |str i=>
  obtain⟨t,rfl⟩:=rx
  cases y with
  |non=>cases ry;exact PySem.EqNone.eq_str_none (Qr I q (by simp))
  |bl j=>cases ry;exact PySem.EqMixed.eq_str_bool (Qr I q (by simp))
  |int j=>obtain⟨t',rfl⟩:=ry;exact PySem.EqMixed.eq_str_int (Qr I q (by simp))
  |str j=>obtain⟨t',rfl⟩:=ry;exact eq_str (Qr I q Qea)
  |_=>exact absurd (show false=true from hs) Xh
 |byt i=>
  obtain⟨t,rfl⟩:=rx
  cases y with
  |byt j=>obtain⟨t',rfl⟩:=ry;exact W.eq_bytes (Qr I q Qec)
  |_=>exact absurd (show false=true from hs) Xh
 |_=>cases y<;>exact absurd (show false=true from hs) Xh
def QmI:OpR X (compareOp .NotEq) rNe:=by
 intro pins s Y H x y v u Q I rx ry h;obtain⟨hs,q⟩:=h
 cases x with
 |non=>
  cases rx
  cases y with
  |non=>cases ry;exact PySem.EqNone.ne_none_none (Qr I q (by simp))
  |bl j=>cases ry;exact PySem.EqNone.ne_none_bool (Qr I q (by simp))
  |int j=>obtain⟨t',rfl⟩:=ry;exact PySem.EqNone.ne_none_int (Qr I q (by simp))
  |str j=>obtain⟨t',rfl⟩:=ry;exact PySem.EqNone.ne_none_str (Qr I q (by simp))
  |_=>exact absurd (show false=true from hs) Xh
 |bl i=>
  cases rx
  cases y with
  |non=>cases ry;exact PySem.EqNone.ne_bool_none (Qr I q (by simp))
  |bl j=>cases ry;exact ne_bool (Qr I q (congrArg not QgD))
  |str j=>obtain⟨t',rfl⟩:=ry;exact PySem.EqMixed.ne_bool_str (Qr I q (by simp))
  |_=>exact absurd (show false=true from hs) Xh
 |int i=>
  obtain⟨t,rfl⟩:=rx
  cases y with
  |non=>cases ry;exact PySem.EqNone.ne_int_none (Qr I q (by simp))
  |int j=>obtain⟨t',rfl⟩:=ry;exact ne_int (Qr I q (congrArg not Qeb))
  |str j=>obtain⟨t',rfl⟩:=ry;exact PySem.EqMixed.ne_int_str (Qr I q (by simp))
  |_=>exact absurd (show false=true from hs) Xh
 |str i=>
  obtain⟨t,rfl⟩:=rx
  cases y with
  |non=>cases ry;exact PySem.EqNone.ne_str_none (Qr I q (by simp))
  |bl j=>cases ry;exact PySem.EqMixed.ne_str_bool (Qr I q (by simp))
  |int j=>obtain⟨t',rfl⟩:=ry;exact PySem.EqMixed.ne_str_int (Qr I q (by simp))
  |str j=>obtain⟨t',rfl⟩:=ry;exact ne_str (Qr I q (congrArg not Qea))
  |_=>exact absurd (show false=true from hs) Xh
 |byt i=>
  obtain⟨t,rfl⟩:=rx
  cases y with
  |byt j=>obtain⟨t',rfl⟩:=ry;exact W.ne_bytes (Qr I q (congrArg not Qec))
  |_=>exact absurd (show false=true from hs) Xh
 |_=>cases y<;>exact absurd (show false=true from hs) Xh
def QmJ:OpR X (compareOp .Lt) (rI0 λi j=>.bl (decide (i<j))):=QlL λz z z z z z z q=>lt_int q
def QmK:OpR X (compareOp .LtE) (rI0 λi j=>.bl (decide (i<=j))):=QlL λz z z z z z z q=>le_int q
def QmL:OpR X (compareOp .Gt) (rI0 λi j=>.bl (decide (j<i))):=QlL λz z z z z z z q=>gt_int q
def QmM:OpR X (compareOp .GtE) (rI0 λi j=>.bl (decide (j<=i))):=QlL λz z z z z z z q=>ge_int q
def Qkp:OpR X (compareOp .Is) (λx y H Q=>y=.non/\Q (.bl (decide (x=.non))) H):=by
 intro pins s Y H x y v u Q I rx ry h;obtain⟨rfl,q⟩:=h;cases ry;refine is_none_gen (Qr I q ?_)
 cases x<;>first
  | (cases rx;rfl)
  | (obtain⟨t,rfl⟩:=rx;rfl)
def QhL:OpR X (compareOp .IsNot) (λx y H Q=>y=.non/\Q (.bl (!decide (x=.non))) H):=by
 intro pins s Y H x y v u Q I rx ry h;obtain⟨rfl,q⟩:=h;cases ry;refine isnot_none_gen (Qr I q ?_)
 cases x<;>first
  | (cases rx;rfl)
  | (obtain⟨t,rfl⟩:=rx;rfl)
def OpR.or{r r':R2}(h:OpR X f r)(h':OpR X f r'):OpR X f (λx y H Q=>r x y H Q\/r' x y H Q):=by
 intro pins s Y H x y v u Q I rx ry q
 rcases q with q|q
 ·exact h pins s Y H x y v u Q I rx ry q
 ·exact h' pins s Y H x y v u Q I rx ry q
def QhG{op:CmpOp}{r:R2}(ho:OpR X (compareOp op) r)(ha:PE X a ta)(hb:PE X b tb)(hm:behindInMarks op b=false):PE X (.Compare a [op] [b] pos) (tOp r ta tb):=by
 intro pins s Y H Q I h;exact wpAny_Compare1 (QnR ha hb I h λv u s2 x y H2 I2 rx ry q=>ho pins s2 Y H2 x y v u Q I2 rx ry q) hm
def Ql8(t:TE):TT:=λY H Q=>t Y H λx H'=>∃k,x=.bl k/\Q k H'
def Qhl{op:CmpOp}{r:R2}(ho:OpR X (compareOp op) r)(ha:PE X a ta)(hb:PE X b tb)(hm:behindInMarks op b=false):PT X (.Compare a [op] [b] pos) (Ql8 (tOp r ta tb)):=by
 intro pins s Y H Q I h
 refine wpAny_isTrue_Compare1 (thn (ha pins s Y H _ I h) λv s1 ⟨x,H1,I1,r1,q1⟩=>thn (hb pins s1 Y H1 _ I1 q1) λu s2 ⟨y,H2,I2,r2,q2⟩=>
  thn (ho pins s2 Y H2 x y v u _ I2 r1 r2 q2) λc s3 ⟨z,H3,I3,r3,k,e,q3⟩=>?_) hm
 subst e;cases r3;exact Ub ⟨H3,I3,q3⟩
noncomputable def Qly(K:W.Frag)(x:V)(H:Hp)(k:Bool):Prop :=
 match x with
 |.non=>k=false
 |.bl b=>k=b
 |.int i=>k=(i != 0)
 |.str y=>y.length<=sizeLine/\k=((y.length:Int) != 0)
 |.byt y=>y.size<=sizeLine/\k=((y.size:Int) != 0)
 |.ref p=>(∃xs,SqL K H p xs/\k=!xs.isEmpty)\/(∃xs,SqT K H p xs/\k=!xs.isEmpty)\/∃kvs,H p=some (.dK kvs)/\k=!kvs.isEmpty
 |_=>False
def Qcm{κ:Type}{kvs:List (κ×V)}{vs:List (κ×Value)}(r:KV kvs vs):(!vs.isEmpty)=!kvs.isEmpty:=by
 cases r<;>rfl
def Y6{xs:List V}{its:List Value}(r:Vals xs its):(!its.toArray.isEmpty)=!xs.isEmpty:=by
 cases r<;>simp
def Y3:(sizeLine:Nat) < 2 ^ 63:=by rw[W6];decide
def Qf6:Qp3 X (λx H Q=>∃k,Qly X.K x H k/\Q k H):=by
 intro pins s Y H x v Q I rx h;obtain⟨k,e,q⟩:=h;have hl:=Y3;have hs:sizeLine=16777216:=W6
 cases x with
 |non=>
  cases rx;have e':k=false:=e;subst e';exact truthy_none ⟨H,I,q⟩
 |bl b=>
  cases rx;have e':k=b:=e;subst e';exact Ub ⟨H,I,q⟩
 |int i=>
  obtain⟨t,rfl⟩:=rx;have e':k=(i != 0):=e;subst e';exact PySem.P.truthy_int ⟨H,I,q⟩
 |str y=>
  obtain⟨t,rfl⟩:=rx;obtain⟨hy,e'⟩:y.length<=sizeLine/\k=((y.length:Int) != 0):=e;subst e'
  exact PySem.P.truthy_str (by omega) ⟨H,I.tok _,q⟩
 |byt y=>
  obtain⟨t,rfl⟩:=rx;obtain⟨hy,e'⟩:y.size<=sizeLine/\k=((y.size:Int) != 0):=e;subst e'
  exact W.truthy_bytes (by omega) ⟨H,I.tok _,q⟩
 |ref p=>
  cases rx;have e':(∃xs,SqL X.K H p xs/\k=!xs.isEmpty)\/(∃xs,SqT X.K H p xs/\k=!xs.isEmpty)\/∃kvs,H p=some (.dK kvs)/\k=!kvs.isEmpty:=e
  rcases e' with⟨xs,hx,e'⟩|⟨xs,hx,e'⟩|⟨kvs,hx,e'⟩
  ·subst e';obtain⟨its,r,pl,hz⟩:=I.list hx;have hlen:=r.length
   exact wpAny_truthy_list pl.isList (by simp only[Xz];omega) ⟨H,I.tok _,by rw[Y6 r];exact q⟩
  ·subst e';obtain⟨its,r,pl,hz⟩:=I.tuple hx;have hlen:=r.length
   exact truthy_tuple pl (by simp only[Xz];omega) ⟨H,I.tok _,by rw[Y6 r];exact q⟩
  ·subst e';obtain⟨hz,hS,vs,r,m⟩:kvs.length<=sizeLine/\(p==sysModules)=false/\∃vs,KV kvs vs/\s.heap.DictOf (Qq X.prog X.w) p vs:=I.hok p _ hx;have hlen:kvs.length=vs.length:=Wj r
   exact wpAny_truthy_dict hS m (by omega) ⟨H,I.tok _,by rw[Qcm r];exact q⟩
 |_=>exact(show False from e).elim
def Qe9(ha:PE X a ta)(he:∀whole,isTrue a X.env whole=(do let v <-whole;standAt a.pos;holding [v] (truthy v))):
  PT X a (λY H Q=>ta Y H λx H'=>∃k,Qly X.K x H' k/\Q k H'):=by
 intro pins s Y H Q I h;exact isTrue_plain (thn (ha pins s Y H _ I h) λv s1 z=>by obtain⟨x,H1,I1,r1,q1⟩:=z;exact Qf6 pins s1 Y H1 x v Q I1 r1 q1) (he _)
def Jg{x:V}{us:List Value}(r:Vals [x] us):∃u,us=[u]/\RelV x u:=by
 cases r with
 |cons r1 r2=>cases r2;exact⟨_,rfl,r1⟩
def Qb2{x y:V}{us:List Value}(r:Vals [x,y] us):∃u w',us=[u,w']/\RelV x u/\RelV y w':=by
 cases r with
 |cons r1 r2=>
  cases r2 with
  |cons r3 r4=>cases r4;exact⟨_,_,rfl,r1,r3⟩
end
end
section
variable {C dx:Addr}{A:Around}{X:Cx}{h:Heap}{H:Hp}{s:Shared}{f:Str}{mA:Str->Option Value}{v:V}{u:Value}{Q:Value->Shared->Prop}{w:World}
structure ObjM(h:Heap)(x dx C:Addr)(mA:Str->Option Value):Prop where
 obj:h.get? x=some (W.instObj C dx)
 ns:h.Ns1 dx mA
 ne:dx≠x
def Qal(n:h.Ns1 dx mA):∃od,h.get? dx=some od/\∀name,W.lookIn name od=some (mA name):=by
 obtain⟨o,es,ep,ho,hd,hk,_,hm⟩:=n;refine⟨o,ho,λname=>?_⟩;have e:=hm name;unfold nsFind findBy at e;rw[<-Array.find?_toList]at e;unfold W.lookIn;rw[hd];dsimp only;split
 ·rename_i y q;rw[q]at e;exact congrArg some e
 ·rename_i q;rw[q]at e
  have a:es.toList.any (·.refKey)=false:=by
   rw[List.any_eq_false];intro y hy;obtain⟨z,t,hkey⟩:=hk y (Array.mem_toList_iff.mp hy);simp[DictEntry.refKey,hkey]
  have a':¬es.toList.any (·.refKey)=true:=by rw[a];exact Xh
  rw[if_neg a'];exact congrArg some e
def ObjM.look{x:Addr}(I:ObjM h x dx C mA):∃od,W.InstAt h x (W.instObj C dx) C (some od)/\∀name,W.lookIn name od=some (mA name):=
 let ⟨od,ho,hl⟩:=Qal I.ns
 ⟨od,⟨I.obj,rfl,rfl,ho⟩,hl⟩
section
variable {prog:Program}{E:Value->Shared->Prop}{K:W.Frag}{x f:Addr}{name:Str}{v:Value}
def Qic{expr:Bool}(X:K.In s.heap)(I:ObjM s.heap x dx C mA)(hg:W.plainGet K C name=true)(hh:W.hasDictIn K C=true)
  (ha:W.findIn K (.ref C) name=some none) (hv:mA name=some v) (hv':W.handedIn v=true) (h:Q v {s with toks:=s.toks+1}):
  wpAny (model prog w) A (getAttr (.ref x) name expr) Q E s:=by
 obtain⟨od,J,hl⟩:=I.look
 exact W.get_value X J (W.plainGet_of hg).1 (W.findObj_own hh ha rfl (by rw[hl,hv])) hv' h
def QfJ{pl:Sem Bool}{Q:Value×List Value->Shared->Prop}(X:K.In s.heap)(I:ObjM s.heap x dx C mA)(hg:W.plainGet K C name=true)
  (hf:W.findIn K (.ref C) name=some (some (.ref f))) (ht:W.isFn K (.ref f)=true) (hv:mA name=none) (h:Q (.ref f,[.ref x]) s):
  wpAny (model prog w) A (getMethod (.ref x) name pl) Q E s:=by
 obtain⟨od,J,hl⟩:=I.look
 exact W.method_fn X J (W.plainGet_of hg).1 (W.plainGet_of hg).2 hf (Wn.mp ht) (by show(W.lookIn name od).map (·.isSome)=some false;rw[hl,hv];rfl) h
def Qg4{ns:List Str}{Q:Unit->Shared->Prop}(X:K.In s.heap)(I:ObjM s.heap x dx C mA)
  (hs:W.findIn K (.ref C) "__setattr__"=some (some (.builtin "object.__setattr__"))) (hp:W.plainOver K C=true) (ht:W.takerIn K C name=some none) (hh:W.hasDictIn K C=true)
  (hw:PySem.Within mA ns) (hsz:ns.length<=sizeLine)
  (h:∀h',ObjM h' x dx C (λy=>if y=name then some v else mA y)->Heap.SameBut dx s.heap h'->Q () {s with heap:=h',toks:=s.toks+2}):
  wpAny (model prog w) A (setAttr (.ref x) name v) Q E s:=by
 obtain⟨od,J,hl⟩:=I.look;refine W.set_plain X J hs (W.osa_open (s:={s with toks:=s.toks+1}) (r:=none) X J hp ht λb=>?_);obtain⟨cd,hc,hd'⟩:=W.any_some hh;have hx:s.heap.get? x=some ⟨.ref C,some dx,.plain,#[]⟩:=I.obj;refine Xa (Xf (Xa (Xa (wpAny_loadPart hx (Xa (W.Looks.here (s:={s with toks:=s.toks+1}) (W.looks_clsIn X hc) ?_))))));rw[hd'];refine Xf (a:=some dx) (Xa (Xf (Xa ?_)));refine wpAny_nsSet1 (s:={s with toks:=s.toks+1}) I.ns λh' hn2 hs2=>?_;obtain⟨oD,esD,epD,hoD,hdD,hcD⟩:=hn2.count (PySem.Within.cons name v hw)
 refine Xa (wpAny_lookBehind hoD (by rw[hdD];exact pastItsLine_dict (X6 hcD (by rw[X7];omega))) ?_)
 exact Xf (h _ ⟨(hs2.2 _ (X9 I.ne)).trans I.obj,hn2,I.ne⟩ hs2)
def Qfo{R:Result->Shared->Prop}{vs:List Value}{kw:List (Str×Value)}(X:K.In s.heap)(hm:W.makesIn K C=true)
  (hi:W.findIn K (.ref C) "__init__"=some (some (.ref f))) (hf:W.typeIn K (.ref f)=some (.type "function"))
  (h:codeAny (model prog w) (A.under (.builtin "type.__call__" ⟨.ref C::vs,kw⟩)) (.call (.ref f) ⟨.ref (s.heap.objs.size+1)::vs,kw⟩) (W.InitBack (s.heap.objs.size+1) R)
   {s with heap:=(s.heap.push W.emptyDict).push (W.instObj C s.heap.objs.size)}):
  codeAny (model prog w) A (.call (.ref C) ⟨vs,kw⟩) R s:=by
 obtain⟨hh,g,d,t,os⟩:=s;exact W.make_core (W.makes_of X hm) (W.looks_findIn X hi) (λself=>W.bind_fn X self hf) (.inl rfl) h
def QdP{R:Result->Shared->Prop}(X:K.In s.heap)(hm:W.makesIn K C=true)
  (hi:W.findIn K (.ref C) "__init__"=some (some (.builtin "object.__init__")))
  (hb:∀self,W.Looks (model prog w) s.heap (bindSpecial (.builtin "object.__init__") self) (.builtin "object.__init__",[self]))
  (h:codeAny (model prog w) (A.under (.builtin "type.__call__" ⟨[.ref C],[]⟩)) (.call (.builtin "object.__init__") ⟨[.ref (s.heap.objs.size+1)],[]⟩) (W.InitBack (s.heap.objs.size+1) R)
   {s with heap:=(s.heap.push W.emptyDict).push (W.instObj C s.heap.objs.size)}):
  codeAny (model prog w) A (.call (.ref C) ⟨[],[]⟩) R s:=by
 obtain⟨hh,g,d,t,os⟩:=s;exact W.make_core (W.makes_of X hm) (W.looks_findIn X hi) hb (.inr ⟨rfl,rfl⟩) h
end
noncomputable def Ju(f:Str)(v:V):List (Str×V)->List (Str×V)
 |[]=>[(f,v)]
 | (g,x)::r=>if g=f then(g,v)::r else(g,x)::Ju f v r
theorem Yn(f g:Str)(v:V):∀fs:List (Str×V),(Ju f v fs).lookup g=if g=f then some v else fs.lookup g
 |[]=>by
  show List.lookup g [(f,v)]=_;by_cases h:g=f
  ·have hb:(g==f)=true:=Wn.mpr h;simp only[List.lookup,hb,if_pos h]
  ·have hb:(g==f)=false:=Wm.mpr h;simp only[List.lookup,hb,if_neg h]
 | (k,x)::r=>by
  have ih:=Yn f g v r;rw[show Ju f v ((k,x)::r)=(if k=f then(k,v)::r else(k,x)::Ju f v r)from rfl];by_cases hk:k=f
  ·rw[if_pos hk];by_cases h:g=k
   ·have hb:(g==k)=true:=Wn.mpr h;simp only[List.lookup,hb,if_pos (h.trans hk)]
   ·have hb:(g==k)=false:=Wm.mpr h;simp only[List.lookup,hb,if_neg (λe:g=f=>h (e.trans hk.symm))]
  ·rw[if_neg hk];by_cases h:g=k
   ·have hb:(g==k)=true:=Wn.mpr h;simp only[List.lookup,hb,if_neg (λe:g=f=>hk (h.symm.trans e))]
   ·have hb:(g==k)=false:=Wm.mpr h;simp only[List.lookup,hb];exact ih
theorem Yp(f:Str)(v:V):∀fs:List (Str×V),f∈(Ju f v fs).map (·.1)/\∀g,g∈fs.map (·.1)->g∈(Ju f v fs).map (·.1)
 |[]=>⟨by simp[Ju],λg h=>by simp at h⟩
 | (k,x)::r=>by
  obtain⟨i1,i2⟩:=Yp f v r;rw[show Ju f v ((k,x)::r)=(if k=f then(k,v)::r else(k,x)::Ju f v r)from rfl];by_cases hk:k=f
  ·rw[if_pos hk];subst hk
   exact⟨by simp,λg h=>by simpa using h⟩
  ·rw[if_neg hk];refine⟨?_,λg h=>?_⟩
   ·rw[X0];exact Xp _ i1
   ·rw[X0]at h ⊢
    rcases X5.mp h with e|e
    ·exact X5.mpr (.inl e)
    ·exact Xp _ (i2 g e)
theorem Yo(f:Str)(v:V):∀fs:List (Str×V),(Ju f v fs).length<=fs.length+1
 |[]=>by simp[Ju]
 | (k,x)::r=>by
  have ih:=Yo f v r;rw[show Ju f v ((k,x)::r)=(if k=f then(k,v)::r else(k,x)::Ju f v r)from rfl];by_cases hk:k=f
  ·rw[if_pos hk,X7,X7];omega
  ·rw[if_neg hk,X7,X7];omega
def RelO.some_of{o:Option Value}(r:RelO (some v) o):∃u,o=some u/\RelV v u:=by
 cases o with
 |none=>exact(show False from r).elim
 |some u=>exact⟨u,rfl,r⟩
def RelO.none_of{o:Option Value}(r:RelO none o):o=none:=by
 cases o with
 |none=>rfl
 |some u=>exact(show False from r).elim
def Qav(r:RelV v u):W.handedIn u=true:=by
 cases v with
 |non=>cases(show u=Value.none from r);rfl
 |bl b=>cases(show u=Value.bool b from r);rfl
 |int i=>obtain⟨t,e⟩:=(show ∃t,u=Value.int i t from r);cases e;rfl
 |str x=>obtain⟨t,e⟩:=(show ∃t,u=Value.str x t from r);cases e;rfl
 |byt b=>obtain⟨t,e⟩:=(show ∃t,u=Value.bytes b t from r);cases e;rfl
 |flt b=>obtain⟨t,e⟩:=(show ∃t,u=Value.float b t from r);cases e;rfl
 |ref a=>cases(show u=Value.ref a from r);rfl
 |ty n=>cases(show u=Value.type n from r);rfl
section
variable {P:Program}{a:Addr}{fs:List (Str×V)}
def JD(hok:HOk P w H h)(e:H a=some (.ins C dx fs)):∃mA,ObjM h a dx C mA/\(∀f,RelO (fs.lookup f) (mA f))/\PySem.Within mA (fs.map (·.1))/\fs.length<=1000/\H dx=some (.own a):=by
 obtain⟨d,z,ne,ob,mA,n,r,q⟩:=(show ObjOk P w H h a (.ins C dx fs)from hok a _ e);exact⟨mA,⟨ob,n,ne⟩,r,q,z,d⟩
end
structure Cls(K:W.Frag)(C:Addr):Prop where
 pg:W.plainGet K C Str.empty=true
 hd:W.hasDictIn K C=true
 po:W.plainOver K C=true
 sa:W.findIn K (.ref C) "__setattr__"=some (some (.builtin "object.__setattr__"))
def Cls.get{K:W.Frag}(c:Cls K C)(f:Str):W.plainGet K C f=true:=c.pg
def NoAttr(K:W.Frag)(C:Addr)(f:Str):Prop:=W.findIn K (.ref C) f=some none
def NoAttr.taker{K:W.Frag}(n:NoAttr K C f):W.takerIn K C f=some none:=by
 unfold W.takerIn;rw[show W.findIn K (.ref C) f=some none from n];rfl
structure Meth(K:W.Frag)(C:Addr)(m:Str)(f:Addr):Prop where
 at_:W.findIn K (.ref C) m=some (some (.ref f))
 fn:W.isFn K (.ref f)=true
 kp:W.keepIn K (.ref f)=true
section
variable {pins:List (Addr×Obj)}{Y:St}{a:Addr}{fs:List (Str×V)}{E:Value->Shared->Prop}
def Qco{b:Bool}(I:Inv X pins Y H s)(e:H a=some (.ins C dx fs))(c:Cls X.K C)(n:NoAttr X.K C f)(l:fs.lookup f=some v)
  (h:∀u s',Inv X pins Y H s'->RelV v u->Q u s'):wpAny (model X.prog X.w) A (getAttr (.ref a) f b) Q E s:=by
 obtain⟨mA,O,r,_,_,_⟩:=JD I.hok e
 obtain⟨u,hu,ru⟩:=RelO.some_of (v:=v) (o:=mA f) (by rw[<-l];exact r f)
 exact Qic I.kIn O (c.get f) c.hd n hu (Qav ru) (h u _ (I.tok _) ru)
def Qcn{m:Str}{g:Addr}{pl:Sem Bool}{Q:Value×List Value->Shared->Prop}(I:Inv X pins Y H s)(e:H a=some (.ins C dx fs))(c:Cls X.K C)(k:Meth X.K C m g)(l:fs.lookup m=none)
  (h:Q (.ref g,[.ref a]) s):wpAny (model X.prog X.w) A (getMethod (.ref a) m pl) Q E s:=by
 obtain⟨mA,O,r,_,_,_⟩:=JD I.hok e
 have hn:mA m=none:=RelO.none_of (by rw[<-l];exact r m)
 exact QfJ I.kIn O (c.get m) k.at_ k.fn hn h
def Qb8{y:V}{Q:Unit->Shared->Prop}(I:Inv X pins Y H s)(e:H a=some (.ins C dx fs))(c:Cls X.K C)(n:NoAttr X.K C f)(hl:fs.length<1000)(ry:RelV y u)
  (h:∀s',Inv X pins Y (upd H a (.ins C dx (Ju f y fs))) s'->Q () s'):wpAny (model X.prog X.w) A (setAttr (.ref a) f u) Q E s:=by
 obtain⟨mA,O,r,wi,_,ho⟩:=JD I.hok e
 have hz:(fs.map (·.1)).length<=sizeLine:=by rw[Xl,W6];omega
 refine Qg4 I.kIn O c.sa c.po n.taker c.hd wi hz λh' O' sb=>h _ ?_;have hd:∃o,h'.get? dx=some o:=let ⟨o,_,_,e',_⟩:=O'.ns;⟨o,e'⟩
 refine I.write (x:=a) (e:=dx) (by rw[e];exact True.intro) (.inr ho) (λb q hb z=>(sb.2 b hb).trans z) hd ?_
 refine⟨by rw[Qb O.ne];exact ho,?_,O.ne,O'.obj,_,O'.ns,λg=>?_,λg hg=>?_⟩
 ·have:=Yo f y fs;omega
 ·show RelO ((Ju f y fs).lookup g) (if g=f then some u else mA g);rw[Yn];by_cases q:g=f
  ·rw[if_pos q,if_pos q];exact ry
  ·rw[if_neg q,if_neg q];exact r g
 ·by_cases q:g=f
  ·rw[q];exact(Yp f y fs).1
  ·refine(Yp f y fs).2 g (wi g λz=>hg ?_);show(if g=f then some u else mA g)=none;rw[if_neg q];exact z
def Inv.made(I:Inv X pins Y H s):Inv X pins Y (upd (upd H s.heap.objs.size (.own (s.heap.objs.size+1))) (s.heap.objs.size+1) (.ins C s.heap.objs.size []))
  {s with heap:=(s.heap.push W.emptyDict).push (W.instObj C s.heap.objs.size)}:=by
 have e1:(s.heap.push W.emptyDict).get? s.heap.objs.size=some W.emptyDict:=Xo s.heap rfl
 have e2:((s.heap.push W.emptyDict).push (W.instObj C s.heap.objs.size)).get? (s.heap.objs.size+1)=some (W.instObj C s.heap.objs.size):=by
  have:=Xo (s.heap.push W.emptyDict) (o:=W.instObj C s.heap.objs.size) rfl;rwa [Va]at this
 have e3:(s.heap.push W.emptyDict).Ns s.heap.objs.size (λz=>none):=⟨W.emptyDict,#[],_,e1,rfl,(λe he=>absurd he (by simp)),λz=>rfl⟩
 have I1:=I.laid (a:=s.heap.objs.size) (o:=.own (s.heap.objs.size+1)) (h':=s.heap.push W.emptyDict) (t':=s.toks) (λb u q=>Xb _ q) (Xm _) ⟨_,e1⟩;refine I1.laid (a:=s.heap.objs.size+1) (o:=.ins C s.heap.objs.size []) (t':=s.toks) (λb u q=>Xb _ q) (Nat.le_of_eq (Va _ _)) ?_;have ne:s.heap.objs.size≠s.heap.objs.size+1:=Xn (Wz _)
 refine⟨by rw[Qb ne,Qf],Vy _,ne,e2,λz=>none,(Heap.Ns1.of_empty e3).at λo q=>Xb _ q,λz=>True.intro,λy hy=>absurd rfl hy⟩
def Qex{prog:Program}{env:Env}{e:Expr}{f:Str}{pos:Pos}{s:Shared}(hb:attributeBase e f env (eval e env)=eval e env)
  (h:wpAny (model prog w) A (eval e env) (λo s₁=>wpAny (model prog w) A (getAttr o f true) Q E s₁) E s):wpAny (model prog w) A (eval (.Attribute e f pos) env) Q E s :=
 Attribute_any_ h (by rw[arm_eval_Attribute,hb])
end
def Qpa(K:W.Frag)(ta:TE)(f:Str):TE:=λY H Q=>ta Y H λx H1=>∃a C dx fs v,x=.ref a/\H1 a=some (.ins C dx fs)/\Cls K C/\NoAttr K C f/\fs.lookup f=some v/\Q v H1
def Qpj(K:W.Frag)(ta tv:TE)(f:Str):TS:=λD Y H=>tv Y H λy H1=>ta Y H1 λx H2=>∃a C dx fs,x=.ref a/\H2 a=some (.ins C dx fs)/\Cls K C/\NoAttr K C f/\fs.length<1000 /\
 D.nx Y (upd H2 a (.ins C dx (Ju f y fs)))
section
variable {o e value:Expr}{pos pos':Pos}{ta tv:TE}
def Qkg(he:PE X e ta)(hb:attributeBase e f X.env (eval e X.env)=eval e X.env):PE X (.Attribute e f pos) (Qpa X.K ta f):=by
 intro pins s Y H Q I h;refine Qex hb (thn (he pins s Y H _ I h) λu s1 z=>?_);obtain⟨x,H1,I1,rx,a,C,dx,fs,v,ex,ea,c,n,l,q⟩:=z;subst ex;obtain rfl:u=Value.ref a:=rx;exact Qco I1 ea c n l λu' s2 I2 ru=>⟨v,H1,I2,ru,q⟩
def Qj1(ha:PE X o ta)(hv:PE X value tv)(hs:swapsWith value (some (.Attribute o f pos')) pos.line X.env=pure false):PS X (.Assign [.Attribute o f pos'] value pos) (Qpj X.K ta tv f):=by
 intro pins s Y H D I h;refine plainObj_wpAny_Assign_Attribute (thn (hv pins s Y H _ I h) λu s1 ⟨y,H1,I1,ry,q⟩=>thn (ha pins s1 Y H1 _ I1 q) λov s2 z=>?_) hs;obtain⟨x,H2,I2,rx,a,C,dx,fs,ex,ea,c,n,l,q2⟩:=z;subst ex;obtain rfl:ov=Value.ref a:=rx;exact Qb8 I2 ea c n l ry λs3 I3=>⟨Y,_,I3,q2⟩
end
section
variable {pins:List (Addr×Obj)}{Y:St}{E:Value->Shared->Prop}{c:Value}{b:Bool}
inductive TyOf(K:W.Frag)(H:Hp):V->Value->Prop where
 |non:TyOf K H .non (.type "NoneType")
 |bl (x:Bool):TyOf K H (.bl x) (.type "bool")
 |int (i:Int):TyOf K H (.int i) (.type "int")
 |str (x:Str):TyOf K H (.str x) (.type "str")
 |flt (x:UInt64):TyOf K H (.flt x) (.type "float")
 |lst {a:Addr} {xs:List V} (e:H a=some (.lst xs)):TyOf K H (.ref a) (.type "list")
 |frz {a:Addr} {o:Obj} {xs:List V} (e:H a=some (.frz o (.lst xs))):TyOf K H (.ref a) (.type "list")
 |tup {a:Addr} {xs:List V} (e:H a=some (.tup xs)):TyOf K H (.ref a) (.type "tuple")
 |dK {a:Addr} {kvs:List (Key×V)} (e:H a=some (.dK kvs)):TyOf K H (.ref a) (.type "dict")
 |dT {a:Addr} {kvs:List (List Key×V)} (e:H a=some (.dT kvs)):TyOf K H (.ref a) (.type "dict")
 |ins {a C dx:Addr} {fs:List (Str×V)} (e:H a=some (.ins C dx fs)) (cl:Cls K C) (ha:W.findIn K (.ref C) "__class__"=some (some (.builtin "object.__class__")))
   (hn:W.specialIn K (.builtin "object.__class__") "__get__"=some (some (.builtin "getset_descriptor.__get__"))) (htk:W.takesIn K (.builtin "object.__class__")=some true)
   (hm:W.mroIn K C (.type "object")=some true):TyOf K H (.ref a) (.ref C)
def QdX{x:V}{t:Value}(I:Inv X pins Y H s)(rx:RelV x u)(ty:TyOf X.K H x t)(e:W.kitOne X.K t c=some b)(h:∀tk,Q (.bool b) {s with toks:=tk}):
  wpAny (model X.prog X.w) A (call (.builtin "isinstance") [u,c]) Q E s:=by
 cases ty with
 |non=>cases(show u=Value.none from rx);exact Ug W.kitx_none I.kIn True.intro e (λz=>nomatch z) h
 |bl y=>cases(show u=Value.bool y from rx);exact Ug W.kitx_bool I.kIn True.intro e (λz=>nomatch z) h
 |int i=>obtain⟨t,q⟩:=(show ∃t,u=Value.int i t from rx);cases q;exact Ug W.kitx_int I.kIn True.intro e (λz=>nomatch z) h
 |str y=>obtain⟨t,q⟩:=(show ∃t,u=Value.str y t from rx);cases q;exact Ug W.kitx_str I.kIn True.intro e (λz=>nomatch z) h
 |flt y=>obtain⟨t,q⟩:=(show ∃t,u=Value.float y t from rx);cases q;exact Ug W.kitx_float I.kIn True.intro e (λz=>nomatch z) h
 | @lst a xs ea=>
  cases(show u=Value.ref a from rx);obtain⟨_,_,n,_,h1⟩:=(show ObjOk X.prog X.w H s.heap a (.lst xs)from I.hok a _ ea);exact Ug W.kitx_list I.kIn ⟨_,h1,rfl⟩ e (λz=>nomatch z) h
 | @frz a ob xs ea=>
  cases(show u=Value.ref a from rx);obtain⟨_,_,_,n,_,h1⟩:=(show ObjOk X.prog X.w H s.heap a (.frz ob (.lst xs))from I.hok a _ ea);exact Ug W.kitx_list I.kIn ⟨_,h1,rfl⟩ e (λz=>nomatch z) h
 | @tup a xs ea=>
  cases(show u=Value.ref a from rx);obtain⟨_,_,_,p⟩:=(show ObjOk X.prog X.w H s.heap a (.tup xs)from I.hok a _ ea);obtain⟨o,h1,h2,_⟩:=p;exact Ug W.kitx_tuple I.kIn ⟨o,h1,h2⟩ e (λz=>nomatch z) h
 | @dK a kvs ea=>
  cases(show u=Value.ref a from rx);obtain⟨_,_,vs,_,p⟩:=(show ObjOk X.prog X.w H s.heap a (.dK kvs)from I.hok a _ ea);obtain⟨o,es,ep,h1,h2,_⟩:=p;exact Ug W.kitx_dict I.kIn ⟨o,h1,h2.1⟩ e (λz=>nomatch z) h
 | @dT a kvs ea=>
  cases(show u=Value.ref a from rx);obtain⟨_,_,xs,_,o,es,ep,h1,h2,_⟩:=(show ObjOk X.prog X.w H s.heap a (.dT kvs)from I.hok a _ ea);exact Ug W.kitx_dict I.kIn ⟨o,h1,h2.1⟩ e (λz=>nomatch z) h
 | @ins a C dx fs ea cl ha hn htk hm=>
  cases(show u=Value.ref a from rx);obtain⟨mA,O,_⟩:=JD I.hok ea;obtain⟨od,J,_⟩:=O.look;exact Ug (W.kitx_own (cl.get _) cl.hd ha hn htk hm) I.kIn J e (λz=>nomatch z) h
end
end
section
variable {C f:Addr}{A:Around}{X:Cx}{e:Expr}{fd:FuncData}{base:Heap}{H:Hp}{pins:List (Addr×Obj)}{es:List Expr}{ps:List Str}{vs:List V}{us:List Value}{pos:Pos}{P:Program}{s:Shared}{Y:St}{x:Str}{mg:Str->Option Value}{t:TA}{Q:VK}{w:World}
structure Room(k:Nat)(A:Around):Prop where
 hd:A.handled=none
 dp:A.depth+3*k+5<recursionLimit
 un:A.units+16*k+200<cLine
def Room.mono{j k:Nat}(r:Room k A)(h:j<=k):Room j A:=⟨r.hd,by have:=r.dp;omega,by have:=r.un;omega⟩
theorem Room.deeper{k:Nat}(r:Room (k+1) A)(env:Env):Room k (A.deeper env):=
 ⟨r.hd,by have:=r.dp;show A.depth+1+3*k+5<_;omega,by have:=r.un;show A.units+3+16*k+200<_;omega⟩
def Qci{kw:List (Str×Value)}:(A.under (.builtin "type.__call__" ⟨.ref C::us,kw⟩)).depth=A.depth+1:=by
 first|rfl|simp[Around.under,Code.weight,Code.isCreation,Code.isGuard,Code.isCaller,Code.frames,Code.isFrame,guardIds]
def Qch{kw:List (Str×Value)}:(A.under (.builtin "type.__call__" ⟨.ref C::us,kw⟩)).units=A.units+1:=by
 first|rfl|simp[Around.under,Code.cUnits,Code.frames,Code.isFrame]
def Room.make{k:Nat}(r:Room (k+1) A)(C:Addr)(us:List Value)(kw:List (Str×Value)):Room k (A.under (.builtin "type.__call__" ⟨.ref C::us,kw⟩)):=
 ⟨r.hd,by have:=r.dp;rw[Qci];omega,by have:=r.un;rw[Qch];omega⟩
theorem Room.depth{k:Nat}(r:Room k A):A.depth<recursionLimit:=by have:=r.dp;omega
theorem Room.units{k:Nat}(r:Room k A):A.units+64<cLine:=by have:=r.un;omega
def QlF:TA:=λz H Q=>Q [] H
def QgX(ta:TE)(tr:TA):TA:=λY H Q=>ta Y H λx H1=>tr Y H1 λxs H2=>Q (x::xs) H2
section
variable {te:TE}
def YZ:PA X [] QlF:=λz z z z H Q I h=>Us ⟨[],H,I,.nil,h⟩
def Q7(ha:PE X e te)(hr:PA X es t)(hs:starEach (e::es) X.env=(false,eval e X.env)::starEach es X.env:=by rfl):PA X (e::es) (QgX te t):=by
 intro pos pins s Y H Q I h;rw[hs];show wpAny _ _ (spliced ((false,eval e X.env)::backTo pos (starEach es X.env))) _ _ s;refine Um (thn (ha pins s Y H _ I h) λu s1 z=>?_);obtain⟨x,H1,I1,r1,q1⟩:=z;exact thn (hr pos pins s1 Y H1 _ I1 q1) λus s2 y=>by obtain⟨xs,H2,I2,r2,q2⟩:=y;exact⟨x::xs,H2,I2,.cons r1 r2,q2⟩
def Qo0(t:TA):TE:=λY H Q=>t Y H λxs H1=>xs.length<=sizeLine/\∀p,H1 p=none->Q (.ref p) (upd H1 p (.tup xs))
def Qo6(t:TA):TE:=λY H Q=>t Y H λxs H1=>xs.length<=sizeLine/\∀p,H1 p=none->Q (.ref p) (upd H1 p (.lst xs))
def Qkb{x1}(h:PA X es t):PE X (.Tuple es x1 pos) (Qo0 t):=by
 intro pins s Y H Q I hq
 refine wpAny_Tuple_spliced (thn (h pos pins s Y H _ I hq) λus s1 ⟨xs,H1,I1,r,z,q⟩=>⟨by rw[<-r.length];exact z,?_⟩)
 have hf:H1 s1.heap.objs.size=none:=I1.hok.fresh (Xm _);refine⟨.ref s1.heap.objs.size,upd H1 s1.heap.objs.size (.tup xs),I1.laid (t':=s1.toks) (λb u e=>Xb _ e) (Xm _) ?_,rfl,q _ hf⟩;exact⟨z,us,r,⟨_,Xo _ rfl,rfl,_,rfl⟩⟩
def Qkd(h:PA X es t):PE X (.List es pos) (Qo6 t):=by
 intro pins s Y H Q I hq
 refine wpAny_List_spliced (thn (h pos pins s Y H _ I hq) λus s1 ⟨xs,H1,I1,r,z,q⟩=>⟨by rw[<-r.length];exact z,?_⟩)
 have hf:H1 s1.heap.objs.size=none:=I1.hok.fresh (Xm _);refine⟨.ref s1.heap.objs.size,upd H1 s1.heap.objs.size (.lst xs),I1.laid (t':=s1.toks) (λb u e=>Xb _ e) (Xm _) ?_,rfl,q _ hf⟩;exact⟨z,us,0,r,Xo _ rfl⟩
end
abbrev Sp:=List V->Hp->VK->XK->Prop
abbrev CXT:=List Env->Hp->Shared->XK->Value->Shared->Prop
structure Env0(P:Program)(w:World)(K:W.Frag)(mg:Str->Option Value)(base:Heap)(A:Around)(outer:List Env)(s:Shared)(H:Hp):Prop where
 frames:A.frames=some outer
 mod:Mod K mg base
 bs:∀b o,base.get? b=some o->s.heap.get? b=some o/\H b=none
 bsz:base.objs.size<=s.heap.objs.size
 funs:s.heap.FunFrames base outer
 frf:∀b∈frs outer,H b=none
 hok:HOk P w H s.heap
 bare:AllBare s.gens
noncomputable def CE(outer:List Env)(P:Program)(w:World)(H:Hp)(s:Shared)(Q:VK)(u:Value)(s':Shared):Prop :=
 ∃v H',s'.os=s.os/\AllBare s'.gens/\Un (frs outer) [] H H' s.heap s'.heap/\HOk P w H' s'.heap/\RelV v u/\Q v H'
noncomputable def CR(CX:CXT)(outer:List Env)(P:Program)(w:World)(H:Hp)(s:Shared)(Q:VK)(E:XK)(r:Result)(s':Shared):Prop :=
 match r with
 |.ok (.ret u)=>CE outer P w H s Q u s'
 |.ok _=>False
 |.error e=>CX outer H s E e s'
structure FnOk(P:Program)(w:World)(K:W.Frag)(mg:Str->Option Value)(base:Heap)(CX:CXT)(k:Nat)(f:Addr)(fd:FuncData)(ps:List Str)(sp:Sp):Prop where
 len:∀vs H Q E,sp vs H Q E->vs.length=ps.length
 run:∀(A:Around) (outer:List Env) (s:Shared) (H:Hp) (args:Args) (us:List Value) (vs:List V) (Q:VK) (E:XK),Room k A->Env0 P w K mg base A outer s H->BindsTo s fd args (ps.zip us)->Vals vs us->sp vs H Q E ->
  codeAny (model P w) A (.call (.ref f) args) (CR CX outer P w H s Q E) s
theorem FnOk.mono{K:W.Frag}{CX:CXT}{j k:Nat}{sp:Sp}(F:FnOk P w K mg base CX j f fd ps sp)(h:j<=k):
  FnOk P w K mg base CX k f fd ps sp:=⟨F.len,λA outer s H args us vs Q E hr=>F.run A outer s H args us vs Q E (hr.mono h)⟩
def FnOk.imp{K:W.Frag}{CX:CXT}{k:Nat}{sp sp':Sp}(F:FnOk P w K mg base CX k f fd ps sp)
  (h:∀vs H Q E,sp' vs H Q E->sp vs H Q E):FnOk P w K mg base CX k f fd ps sp' :=
 ⟨λvs H Q E q=>F.len vs H Q E (h _ _ _ _ q),λA outer s H args us vs Q E hr he hb hv hs=>F.run A outer s H args us vs Q E hr he hb hv (h _ _ _ _ hs)⟩
def Env0.make{K:W.Frag}{outer:List Env}(e:Env0 P w K mg base A outer s H)(C:Addr)(us:List Value)(kw:List (Str×Value)):
  Env0 P w K mg base (A.under (.builtin "type.__call__" ⟨.ref C::us,kw⟩)) outer s H:=⟨by first|exact e.frames|(simpa[Around.under,Code.envs,Code.isFrame,pushEnvs]using e.frames),e.mod,e.bs,e.bsz,e.funs,e.frf,e.hok,e.bare⟩
section
variable {s':Shared}
def Inv.env0(I:Inv X pins Y H s):Env0 X.prog X.w X.K X.mg X.base X.A X.stack s H :=
 ⟨I.ok.frames,I.ok.mod,I.bs,X6 I.ok.bsz I.sz,I.stack,I.stkFree,I.hok,I.bare⟩
def Inv.after{u:Value}(I:Inv X pins Y H s)(h:CE X.stack X.prog X.w H s Q u s'):EP X pins Y Q u s':=by
 obtain⟨v,H',os,bare,un,hok,r,q⟩:=h;obtain⟨hh,g,d,t,os'⟩:=s';obtain rfl:os'=s.os:=os
 exact⟨v,H',I.call (h':=hh) (g':=g) (d':=d) (t':=t) (ch:=[]) un hok bare (λb z=>absurd z (by simp)),r,q⟩
end
def QgY(sp:Sp)(dvs:List V)(E:XK)(t:TA):TE:=λY H Q=>t Y H λvs H1=>sp (vs++dvs) H1 Q E
def Qjp(C:Addr)(sp:Sp)(dvs:List V)(E:XK)(t:TA):TE:=λY H Q=>t Y H λvs H1=>∀x dx,H1 x=none->H1 dx=none->dx≠x ->
 sp (.ref x::(vs++dvs)) (upd (upd H1 dx (.own x)) x (.ins C dx [])) (λv H2=>v=.non/\Q (.ref x) H2) E
noncomputable def Binds(K:W.Frag)(fd:FuncData)(ps:List Str)(ds:List Value):Prop :=
 ∀(s:Shared) (us:List Value),K.In s.heap->(us++ds).length=ps.length->BindsTo s fd ⟨us,[]⟩ (ps.zip (us++ds))
def Binds.all{K:W.Frag}(h:∀us:List Value,us.length=ps.length->bindArgs fd ⟨us,[]⟩=pure (ps.zip us)):Binds K fd ps []:=λs us z hl=>by
 rw[Wd]at hl ⊢;exact .of_eq (h us hl)
def ZK(CX:CXT)(X:Cx)(E:XK):Prop:=∀(pins:List (Addr×Obj)) (Y:St) (H:Hp) (s:Shared) (e:Value) (s':Shared),Inv X pins Y H s->CX X.stack H s E e s'->X.xe e s'
section
variable {CX:CXT}{k:Nat}{sp:Sp}{dvs:List V}{ds:List Value}{E:XK}{p:Pos}
def Qda(F:FnOk X.prog X.w X.K X.mg X.base CX k f fd ps sp)(hr:Room k X.A)(hb:Binds X.K fd ps ds)(hd:Vals dvs ds)(hx:ZK CX X E)
  (I:Inv X pins Y H s) (r:Vals vs us) (h:sp (vs++dvs) H Q E):wpAny (model X.prog X.w) X.A (call (.ref f) us) (EP X pins Y Q) X.xe s:=by
 have r2:Vals (vs++dvs) (us++ds):=r.append hd
 have hl:(us++ds).length=ps.length:=by rw[<-r2.length];exact F.len _ _ _ _ h
 refine Uz (Uv (F.run X.A X.stack s H ⟨us,[]⟩ (us++ds) (vs++dvs) Q E hr I.env0 (hb s us I.kIn hl) r2 h) λr s' hq=>?_)
 cases r with
 |error e=>exact hx pins Y H s e s' I hq
 |ok fl=>
  cases fl with
  |ret u=>exact I.after hq
  |next=>exact False.elim hq
  |brk=>exact False.elim hq
  |cont=>exact False.elim hq
def QhH(F:FnOk X.prog X.w X.K X.mg X.base CX k f fd ps sp)(hr:Room k X.A)(hg:Gl X x)(hm:X.mg x=some (.ref f))(hk:W.keepIn X.K (.ref f)=true)(hb:Binds X.K fd ps ds)(hd:Vals dvs ds)(hx:ZK CX X E)
  (ha:PA X (e::es) t) (hdb:(x==("__debug__":Str))=false:=by decide) (he:starEach (e::es) X.env=(false,eval e X.env)::starEach es X.env:=by rfl) (hpl:(backTo pos (starEach es X.env)).any (·.1)=false:=by rfl):
  PE X (.Call (.Name x p) (e::es) [] pos) (QgY sp dvs E t):=by
 intro pins s Y H Q I h;refine Wg (Zc I hg hm ?_ hdb);refine W.callWith_K (h₀:=X.base) I.ok.mod.kin hk (thn (ha pos pins s Y H _ I h) λus s1 ⟨vs,H1,I1,r,q⟩=>⟨I1.kIn,?_⟩) he hpl;exact Qda F hr hb hd hx I1 r q
def Qfg(F:FnOk X.prog X.w X.K X.mg X.base CX k f fd ps sp)(hr:Room k X.A)(hg:Gl X x)(hm:X.mg x=some (.ref f))(hk:W.keepIn X.K (.ref f)=true)(hb:Binds X.K fd ps ds)(hd:Vals dvs ds)(hx:ZK CX X E)
  (hdb:(x==("__debug__":Str))=false:=by decide):PE X (.Call (.Name x p) [] [] pos) (QgY sp dvs E QlF):=by
 intro pins s Y H Q I h;refine Wg (Zc I hg hm ?_ hdb);exact W.callWith_K0 I.kIn hk (Qda (us:=[]) F hr hb hd hx I .nil h)
structure Mk(K:W.Frag)(C f:Addr):Prop where
 makes:W.makesIn K C=true
 init:W.findIn K (.ref C) "__init__"=some (some (.ref f))
 fn:W.isFn K (.ref f)=true
 kp:W.keepIn K (.ref C)=true
def Qbx(M:Mk X.K C f)(F:FnOk X.prog X.w X.K X.mg X.base CX k f fd ps sp)(hr:Room (k+1) X.A)(hb:Binds X.K fd ps ds)(hd:Vals dvs ds)
  (hx:ZK CX X E) (I:Inv X pins Y H s) (r:Vals vs us)
  (h:∀x dx,H x=none->H dx=none->dx≠x->sp (.ref x::(vs++dvs)) (upd (upd H dx (.own x)) x (.ins C dx [])) (λv H2=>v=.non/\Q (.ref x) H2) E):
  wpAny (model X.prog X.w) X.A (call (.ref C) us) (EP X pins Y Q) X.xe s:=by
 have hq:=h (s.heap.objs.size+1) s.heap.objs.size (I.hok.fresh (Vs _)) (I.hok.fresh (Xm _)) (Xn (Wz _));have I2:=Inv.made (C:=C) I;have r2:Vals (V.ref (s.heap.objs.size+1)::(vs++dvs)) (Value.ref (s.heap.objs.size+1)::(us++ds)):=.cons rfl (r.append hd)
 have hl:(Value.ref (s.heap.objs.size+1)::us++ds).length=ps.length:=by
  have e:=r2.length;rw[F.len _ _ _ _ hq]at e;exact e.symm
 refine Uz (Qfo (f:=f) I.kIn M.makes M.init (Wn.mp M.fn) (Uv (F.run _ X.stack _ _ ⟨Value.ref (s.heap.objs.size+1)::us,[]⟩ (Value.ref (s.heap.objs.size+1)::(us++ds)) _ _ E (hr.make C us [])
  (I2.env0.make C us []) (hb _ (Value.ref (s.heap.objs.size+1)::us) I2.kIn hl) r2 hq) λr s' hq'=>?_))
 cases r with
 |error e=>exact hx pins Y _ _ e s' I2 hq'
 |ok fl=>
  cases fl with
  |ret u=>
   obtain⟨v,H',I3,rv,ev,q3⟩:=I2.after hq';subst ev;exact⟨rv,⟨V.ref (s.heap.objs.size+1),H',I3,rfl,q3⟩⟩
  |next=>exact False.elim hq'
  |brk=>exact False.elim hq'
  |cont=>exact False.elim hq'
def QhB(M:Mk X.K C f)(F:FnOk X.prog X.w X.K X.mg X.base CX k f fd ps sp)(hr:Room (k+1) X.A)(hg:Gl X x)(hm:X.mg x=some (.ref C))(hb:Binds X.K fd ps ds)(hd:Vals dvs ds)(hx:ZK CX X E)
  (ha:PA X (e::es) t) (hdb:(x==("__debug__":Str))=false:=by decide) (he:starEach (e::es) X.env=(false,eval e X.env)::starEach es X.env:=by rfl) (hpl:(backTo pos (starEach es X.env)).any (·.1)=false:=by rfl):
  PE X (.Call (.Name x p) (e::es) [] pos) (Qjp C sp dvs E t):=by
 intro pins s Y H Q I h;refine Wg (Zc I hg hm ?_ hdb);refine W.callWith_K (h₀:=X.base) I.ok.mod.kin M.kp (thn (ha pos pins s Y H _ I h) λus s1 ⟨vs,H1,I1,r,q⟩=>⟨I1.kIn,?_⟩) he hpl;exact Qbx M F hr hb hd hx I1 r q
def Qfd(M:Mk X.K C f)(F:FnOk X.prog X.w X.K X.mg X.base CX k f fd ps sp)(hr:Room (k+1) X.A)(hg:Gl X x)(hm:X.mg x=some (.ref C))(hb:Binds X.K fd ps ds)(hd:Vals dvs ds)(hx:ZK CX X E)
  (hdb:(x==("__debug__":Str))=false:=by decide):PE X (.Call (.Name x p) [] [] pos) (Qjp C sp dvs E QlF):=by
 intro pins s Y H Q I h;refine Wg (Zc I hg hm ?_ hdb);exact W.callWith_K0 I.kIn M.kp (Qbx (us:=[]) M F hr hb hd hx I .nil h)
end
structure FnScope(N P:List Str)(sc:Scope):Prop where
 kind:sc.kind=.function
 co:sc.isCoroutine=false
 gen:sc.isGenerator=false
 nd:N.Nodup
 pre:N.take P.length=P
 par:∀x∈P,sc.names.lookup x=some .local\/sc.names.lookup x=some .cell
 nofree:∀y∈sc.names,y.2≠.free
theorem QaF{kindOf:Str->Option NameKind}{x:Str}:∀{binds:List (Str×Value)} {m:Str->Option Value},(∀v,(x,v)∉binds)->bindL kindOf binds m x=m x
 |[],_,_=>rfl
 | (n,v)::r,m,h=>by
  unfold bindL;rw[QaF λw hw=>h w (Xp _ hw)];split
  ·have:x≠n:=by rintro rfl;exact h v Xw
   simp[this]
  ·rfl
theorem QaH{kindOf:Str->Option NameKind}{x:Str}:∀{binds:List (Str×Value)} {m:Str->Option Value},(∀v,(x,v)∉binds)->bindC kindOf binds m x=m x
 |[],_,_=>rfl
 | (n,v)::r,m,h=>by
  unfold bindC;rw[QaH λw hw=>h w (Xp _ hw)];split
  ·rfl
  ·have:x≠n:=by rintro rfl;exact h v Xw
   simp[this]
theorem QaG{kindOf:Str->Option NameKind}{x:Str}{v:Value}:∀{P:List Str} {vs:List Value} {i:Nat} {m:Str->Option Value},P.Nodup->P[i]?=some x->vs[i]?=some v->kindOf x=some .local ->
  bindL kindOf (P.zip vs) m x=some v
 |[],_,_,_,_,h,_,_=>by simp at h
 |_::_,[],_,_,_,_,h,_=>by simp at h
 |p::P,w::vs,0,m,nd,h1,h2,hk=>by
  simp at h1 h2;subst h1;subst h2;show bindL kindOf ((p,w)::P.zip vs) m p=_;unfold bindL;rw[QaF λv hv=>(Vt.mp nd).1 (List.of_mem_zip hv).1,if_pos hk];simp
 |p::P,w::vs,i+1,m,nd,h1,h2,hk=>by
  show bindL kindOf ((p,w)::P.zip vs) m x=_;unfold bindL
  exact QaG (i:=i) (Vt.mp nd).2 (by simpa using h1) (by simpa using h2) hk
theorem QaI{kindOf:Str->Option NameKind}{x:Str}{v:Value}:∀{P:List Str} {vs:List Value} {i:Nat} {m:Str->Option Value},P.Nodup->P[i]?=some x->vs[i]?=some v->kindOf x≠some .local ->
  bindC kindOf (P.zip vs) m x=some v
 |[],_,_,_,_,h,_,_=>by simp at h
 |_::_,[],_,_,_,_,h,_=>by simp at h
 |p::P,w::vs,0,m,nd,h1,h2,hk=>by
  simp at h1 h2;subst h1;subst h2;show bindC kindOf ((p,w)::P.zip vs) m p=_;unfold bindC;rw[QaH λv hv=>(Vt.mp nd).1 (List.of_mem_zip hv).1,if_neg hk];simp
 |p::P,w::vs,i+1,m,nd,h1,h2,hk=>by
  show bindC kindOf ((p,w)::P.zip vs) m x=_;unfold bindC
  exact QaI (i:=i) (Vt.mp nd).2 (by simpa using h1) (by simpa using h2) hk
noncomputable def start(N:List Str)(vs:List V):St:=vs.map some++List.replicate (N.length-vs.length) none
noncomputable def QcK(CX:CXT)(P:Program)(w:World)(K:W.Frag)(mg:Str->Option Value)(base:Heap)(N:List Str)(qual:Str)(scope:Scope)(f:Addr)(cd:Value)(A:Around)(outer:List Env)(s:Shared)(H:Hp)(E:XK):Cx where
 prog:=P
 w:=w
 K:=K
 mg:=mg
 base:=base
 A:=A.deeper (envOfC qual scope s.heap.objs.size f cd)
 N:=N
 s₀:=s
 H₀:=H
 env:=envOfC qual scope s.heap.objs.size f cd
 outer:=outer
 stack:=envOfC qual scope s.heap.objs.size f cd::outer
 ex:=[]
 calm:=true
 fn:=λz=>true
 pn:=[]
 xe:=λe s'=>wpAny (model P w) (A.deeper (envOfC qual scope s.heap.objs.size f cd)) (leaving (envOfC qual scope s.heap.objs.size f cd) e) (λz s''=>CX outer H s E e s'') (λe' s''=>CX outer H s E e' s'') s'
def QbX{sc:Scope}{n:Nat}(h:sc.names.lookup x=some .cell):∃c,(cellsFrom n sc.names []).lookup x=some c:=by
 have q:=W.cellsFrom_some sc.names n [] (.inl h);exact Tb.mp q
def QdY{CX:CXT}{K:W.Frag}{N:List Str}{qual:Str}{scope:Scope}{cd:Value}{outer:List Env}{s1:Shared}{E:XK}
  (S:FnScope N ps scope) (hd:A.handled=none) (e0:Env0 P w K mg base A outer s H) (hl:vs.length=ps.length) (r:Vals vs us)
  (x:InCallC s s.heap.objs.size (bindL (envOfC qual scope s.heap.objs.size f cd).kindOf (ps.zip us) λt=>none) (cellsFrom (s.heap.objs.size+1) scope.names []) (bindC (envOfC qual scope s.heap.objs.size f cd).kindOf (ps.zip us) λt=>none) s1):
  Inv (QcK CX P w K mg base N qual scope f cd A outer s H E) [] (start N vs) H s1:=by
 have hpl:ps.length<=N.length:=by have:=congrArg List.length S.pre;rw[Vw]at this;omega
 obtain⟨h1,tk,rfl,hk⟩:=x.done
 have noA:∀b:Addr,b∉(QcK CX P w K mg base N qual scope f cd A outer s H E).ex:=λb z=>absurd (show b∈([]:List Addr)from z) (by simp)
 refine⟨⟨e0.mod,S.kind,rfl,rfl,Xm _,λy z c h1 h2=>?_,λy hy=>?_,λy c t h=>?_,λt=>hd,Around.frames_deeper e0.frames,.inr ⟨rfl,rfl⟩,λb z=>absurd z (noA b),e0.bs,e0.bsz,λb t t=>noA b,λb z=>absurd z (noA b),e0.funs,e0.frf⟩,
  rfl,e0.bare,Un.kept hk,⟨_,x.toInCall.ns,λi y v h1 h2 h3=>?_⟩,λy c h=>⟨_,x.cell y c h⟩,e0.hok.fresh (Xm _),λy c h=>?_,λp hp=>absurd (show p∈([]:List (Addr×Obj))from hp) (by simp),e0.hok.kept hk,?_⟩
 ·exact name_of_addr x.apart (Uj h1) (Uj h2)
 ·have hy:scope.names.lookup y=some .cell\/scope.names.lookup y=some .free:=hy
  rcases hy with hy|hy
  ·exact QbX hy
  ·exact absurd rfl (S.nofree _ (Uj hy))
 ·exact Nat.le_of_lt (x.above y c (Uj h))
 ·have hi:i<vs.length:=by
   unfold start at h2;by_cases hi:i<vs.length
   ·exact hi
   ·rw[Xv (by simpa using hi)]at h2
    rw[Th]at h2;split at h2<;>cases h2
  have ha:vs[i]?=some v:=by
   unfold start at h2
   rw[Xu (by simpa using hi),Vg]at h2
   cases e:vs[i]? with
   |none=>rw[e]at h2;cases h2
   |some a=>rw[e]at h2;cases h2;rfl
  obtain⟨u,hu,rv⟩:=r.get ha
  have hp:ps[i]?=some y:=by
   rw[<-S.pre,List.getElem?_take_of_lt (by omega)];exact h1
  have ndP:ps.Nodup:=by rw[<-S.pre];exact S.nd.sublist (List.take_sublist _ _)
  refine⟨u,rv,?_⟩
  rcases S.par y (Xr hp)with k|k
  ·exact .inl ⟨k,QaG ndP hp hu k⟩
  ·obtain⟨c,e⟩:=QbX (n:=s.heap.objs.size+1) k;refine .inr ⟨.inl k,c,e,?_⟩;have q:=x.cell y c e
   rw[QaI ndP hp hu (by show scope.names.lookup y≠_;rw[k];decide)]at q
   exact q
 ·exact e0.hok.fresh (Nat.le_of_lt (x.above y c (Uj h)))
 ·unfold start;show _=N.length;rw[Wq,Xl,List.length_replicate];omega
def Qig{CX:CXT}{K:W.Frag}{k:Nat}{name qual:Str}{params:Arguments}{body:List Stmt}{scope:Scope}{dV kV doc pm cdv ct oc:Value}{an od:Option Addr}
  {osl:Array (Option Value)} {N:List Str} {sp:Sp} (lk:K.lookup f=some ⟨oc,od,.func (W.fnOf name qual params body scope dV kV doc pm an cdv ct),osl⟩) (hcd:W.codeIn K cdv qual=true) (S:FnScope N ps scope)
  (len:∀vs H Q E,sp vs H Q E->vs.length=ps.length)
  (hbody:∀(A:Around) (outer:List Env) (s:Shared) (H:Hp) (vs:List V) (Q:VK) (E:XK),Room k (A.deeper (envOfC qual scope s.heap.objs.size f cdv))->sp vs H Q E ->
   ∃t,PSs (QcK CX P w K mg base N qual scope f cdv A outer s H E) body t/\t {nx:=λz H'=>Q .non H',rt:=Q} (start N vs) H):
  FnOk P w K mg base CX (k+1) f (W.fnOf name qual params body scope dV kV doc pm an cdv ct) ps sp:=by
 refine⟨len,λA outer s H args us vs Q E hr e0 hb r hsp=>?_⟩;have hl:=len _ _ _ _ hsp;have KX:K.In s.heap:=e0.mod.kin.keeps λb o e=>(e0.bs b o e).1;have lim:s.heap.NoLimit:=e0.mod.nolimit.keeps λb o e=>(e0.bs b o e).1
 have hkind:∀y∈ps.zip us,scope.names.lookup y.1=some .local\/(scope.names.lookup y.1=some .cell/\((cellsFrom (s.heap.objs.size+1) scope.names []).lookup y.1).isSome=true):=λp hy=>by
  obtain⟨n,v⟩:=p
  rcases S.par n (List.of_mem_zip hy).1 with q|q
  ·exact .inl q
  ·exact .inr ⟨q,W.cellsFrom_some _ _ _ (.inl q)⟩
 refine codeAny_call_function hr.depth (KX _ _ lk) rfl S.co S.gen rfl (W.codeRec_of KX hcd) (hb _ _ _ _ ?_);refine wpAny_newFunctionEnv_cells S.kind hkind λenv he s1 x=>?_;subst he;refine⟨lim.keeps x.toInCall.keep,codeAny_func ?_⟩;obtain⟨t,ht,hq⟩:=hbody A outer s H vs Q E (hr.deeper _) hsp;have I:Inv (QcK CX P w K mg base N qual scope f cdv A outer s H E) [] (start N vs) H s1:=QdY S hr.hd e0 hl r x;refine X2 (ht [] s1 (start N vs) H _ I hq) (λfl s' hs=>?_) λe s' hs=>hs
 have fin:∀{Y':St} {H':Hp} {v:V} {u:Value},Inv (QcK CX P w K mg base N qual scope f cdv A outer s H E) [] Y' H' s'->RelV v u->Q v H'->CE outer P w H s Q u s' :=
  λ{Y' H' v u} J rv q=>⟨v,H',J.os,J.bare,J.base,J.hok,rv,q⟩
 cases fl with
 |ret u=>
  obtain⟨v,Y',H',J,rv,q⟩:=hs;exact fin J rv q
 |next=>
  obtain⟨Y',H',J,q⟩:=hs;exact fin (v:=V.non) (u:=Value.none) J rfl q
 |brk=>
  obtain⟨_,_,_,q⟩:=hs;exact False.elim q
 |cont=>
  obtain⟨_,_,_,q⟩:=hs;exact False.elim q
end
section
section
variable {X:Cx}{x:Str}{p pos:Pos}{e:Expr}{es:List Expr}{t:TA}{id T:String}{r:List V->Hp->VK->Prop}
def tCB(r:List V->Hp->VK->Prop)(t:TA):TE:=λY H Q=>t Y H λvs H1=>r vs H1 Q
def ZC(hc:CallR X (.builtin id) r)(hg:Gl X x)(hm:X.mg x=none)(hv:bootBuiltins x=some (.builtin id))(ha:PA X (e::es) t)(hn:x≠"__name__":=by decide)(hdb:(x==("__debug__":Str))=false:=by decide)
  (he:starEach (e::es) X.env=(false,eval e X.env)::starEach es X.env:=by rfl) (hpl:(backTo pos (starEach es X.env)).any (·.1)=false:=by rfl):PE X (.Call (.Name x p) (e::es) [] pos) (tCB r t):=by
 intro pins s Y H Q I h;refine Wg (Zl I hg hm hv ?_ hn hdb);exact PyProof.Rows.callWith_builtin1 (thn (ha pos pins s Y H _ I h) λus s1 z=>by obtain⟨vs,H1,I1,r1,q1⟩:=z;exact hc pins s1 Y H1 vs us Q I1 r1 q1) he hpl
def Yl(hc:CallR X (.type T) r)(hg:Gl X x)(hm:X.mg x=none)(hv:bootBuiltins x=some (.type T))(ha:PA X (e::es) t)(hn:x≠"__name__":=by decide)(hdb:(x==("__debug__":Str))=false:=by decide)
  (he:starEach (e::es) X.env=(false,eval e X.env)::starEach es X.env:=by rfl) (hpl:(backTo pos (starEach es X.env)).any (·.1)=false:=by rfl):PE X (.Call (.Name x p) (e::es) [] pos) (tCB r t):=by
 intro pins s Y H Q I h;refine Wg (Zl I hg hm hv ?_ hn hdb);exact Wf (thn (ha pos pins s Y H _ I h) λus s1 z=>by obtain⟨vs,H1,I1,r1,q1⟩:=z;exact hc pins s1 Y H1 vs us Q I1 r1 q1) he hpl
end
end
end L2
namespace HT
open PySem PyProof.Rows
section
open PySem.SeqAt
open PySem.AutoSeq1 (wpAny_loadPart')
open PySem.MeetsSeq PySem.MeetsSeq2 PySem.MeetsSeq3
end
section
noncomputable def sIx(n d:Nat):Option Int->Nat
 |none=>d
 |some v=>if v<0 then(v+(n:Int)).toNat else min v.toNat n
end
end HT
namespace L2
open PySem PySem.Spec PyProof.Rows
section
abbrev TO:=St->Hp->(Option Int->Hp->Prop)->Prop
noncomputable def PO(X:Cx)(e:Option Expr)(t:TO):Prop :=
 ∀(pins:List (Addr×Obj)) (s:Shared) (Y:St) (H:Hp) (Q:Option Int->Hp->Prop),Inv X pins Y H s->t Y H Q ->
  wpAny (model X.prog X.w) X.A (evalPart e X.env) (λu s'=>∃o H',Inv X pins Y H' s'/\IsPart u o/\Q o H') X.xe s
def QgU:TO:=λz H Q=>Q none H
def Qma(t:TE):TO:=λY H Q=>t Y H λx H1=>∃i,x=.int i/\Q (some i) H1
section
variable {X:Cx}{e:Expr}{te:TE}{lo hi:Option Expr}{tl th:TO}{pos p2:Pos}
def Qhu:PO X none QgU:=by
 intro pins s Y H Q I h;rw[evalPart_none];exact Xf ⟨none,H,I,.none,h⟩
def Qht(h:PE X e te):PO X (some e) (Qma te):=by
 intro pins s Y H Q I hw;rw[evalPart_some];refine thn (h pins s Y H _ I hw) λu s1 z=>?_;obtain⟨x,H1,I1,r1,q1⟩:=z;obtain⟨i,rfl,q⟩:=q1;obtain⟨t,rfl⟩:=r1;exact⟨some i,H1,I1,.int i t,q⟩
noncomputable def SlR(X:Cx)(r:V->Option Int->Option Int->Hp->VK->Prop):Prop :=
 ∀(pins:List (Addr×Obj)) (s:Shared) (Y:St) (H:Hp) (x:V) (v vl vu:Value) (lo hi:Option Int) (sl:Addr) (Q:VK),Inv X pins Y H s->RelV x v->s.heap.IsSliceOf sl vl vu .none->IsPart vl lo->IsPart vu hi->r x lo hi H Q ->
  ∃T id,typeLookup (.type T) "__getitem__"=pure (some (.builtin id))/\s.TypeIs v T/\wpAny (model X.prog X.w) X.A (getItem v (.ref sl)) (EP X pins Y Q) X.xe s
def tSl(r:V->Option Int->Option Int->Hp->VK->Prop)(te:TE)(tl th:TO):TE:=λY H Q=>te Y H λx H1=>tl Y H1 λl H2=>th Y H2 λu H3=>r x l u H3 Q
def Qfc{r:V->Option Int->Option Int->Hp->VK->Prop}(hr:SlR X r)(he:PE X e te)(hl:PO X lo tl)(hu:PO X hi th):PE X (.Subscript e (.Slice lo hi none p2) pos) (tSl r te tl th):=by
 intro pins s Y H Q I h;refine Subscript_ (thn (he pins s Y H _ I h) λv s1 z=>?_);obtain⟨x,H1,I1,r1,q1⟩:=z;refine wpAny_Slice (thn (hl pins s1 Y H1 _ I1 q1) λvl s2 ⟨l,H2,I2,pl,q2⟩=>thn (hu pins s2 Y H2 _ I2 q2) λvu s3 y=>?_);obtain⟨u,H3,I3,pu,q3⟩:=y;rw[evalPart_none];refine Xf ?_;have I4:Inv X pins Y H3 {s3 with heap:=s3.heap.push {cls:=.type "slice",data:=.fields #[vl,vu,.none]} }:=I3.kept (t':=s3.toks) λb ob q=>Xb _ q;obtain⟨T,id,hT,ht,hg⟩:=hr pins {s3 with heap:=s3.heap.push {cls:=.type "slice",data:=.fields #[vl,vu,.none]} } Y H3 x v vl vu l u s3.heap.objs.size Q I4 r1 (Heap.IsSliceOf.new ..) pl pu q3;show wpAny (model X.prog X.w) X.A (subscriptTail e (.Slice lo hi none p2) v (.ref s3.heap.objs.size)) (EP X pins Y Q) X.xe {s3 with heap:=s3.heap.push {cls:=.type "slice",data:=.fields #[vl,vu,.none]} }
 exact tail_any (ops:=[.ref s3.heap.objs.size,v]) ht hT hg (by with_unfolding_all rfl)
noncomputable def QiO(xs:List V)(lo hi:Option Int):List V:=(xs.drop (HT.sIx xs.length 0 lo)).take (HT.sIx xs.length xs.length hi-HT.sIx xs.length 0 lo)
def Qbk(xs:List V)(lo hi:Option Int):(QiO xs lo hi).length<=xs.length:=by
 unfold QiO;rw[Vw,List.length_drop];omega
end
end
section
variable {x:V}
noncomputable def ixN(n:Nat)(i:Int):Option Nat:=if 0<=i then(if i<n then some i.toNat else none)else if -(n:Int)<=i then some (i+n).toNat else none
noncomputable def atI{α:Type}(xs:List α)(i:Int):Option α:=(ixN xs.length i).bind λj=>xs[j]?
def Qia{n:Nat}{i:Int}{j:Nat}(h:ixN n i=some j):seqIndex? i n=some j/\j<n/\-(n:Int)<=i/\i<n:=by
 unfold ixN at h;by_cases h0:0<=i
 ·rw[if_pos h0]at h;by_cases h1:i<n
  ·rw[if_pos h1]at h;have e:i.toNat=j:=X3 h
   exact⟨by rw[seqIndex_of h0 h1,e],by omega,by omega,h1⟩
  ·rw[if_neg h1]at h;cases h
 ·rw[if_neg h0]at h;by_cases h1:-(n:Int)<=i
  ·rw[if_pos h1]at h;have e:(i+n).toNat=j:=X3 h
   exact⟨by rw[seqIndex_neg (by omega) h1,e],by omega,h1,by omega⟩
  ·rw[if_neg h1]at h;cases h
def Qbm{α:Type}{xs:List α}{i:Int}{v:α}(h:atI xs i=some v):∃j,seqIndex? i xs.length=some j/\xs[j]?=some v/\j<xs.length/\-(xs.length:Int)<=i/\i<xs.length:=by
 unfold atI at h
 cases e:ixN xs.length i with
 |none=>rw[e]at h;cases h
 |some j=>
  rw[e]at h;obtain⟨h1,h2,h3,h4⟩:=Qia e;exact⟨j,h1,h,h2,h3,h4⟩
def QeA(b:Expr):Prop:=∀o i,subscripted b false o i=operate [o,i] (getItem o i)
noncomputable def IxR(X:Cx)(r:R2):Prop :=
 ∀(value slice:Expr) (pins:List (Addr×Obj)) (s:Shared) (Y:St) (H:Hp) (x y:V) (v u:Value) (Q:VK),Inv X pins Y H s->RelV x v->RelV y u->r x y H Q ->
  subscripted slice false v u=operate [v,u] (getItem v u)->wpAny (model X.prog X.w) X.A (subscriptTail value slice v u) (EP X pins Y Q) X.xe s
noncomputable def MtR(X:Cx)(id:String)(r:V->List V->Hp->VK->Prop):Prop :=
 ∀(pins:List (Addr×Obj)) (s:Shared) (Y:St) (H:Hp) (x:V) (xs:List V) (v:Value) (us:List Value) (Q:VK),Inv X pins Y H s->RelV x v->Vals xs us->r x xs H Q ->
  wpAny (model X.prog X.w) X.A (call (.builtin id) (v::us)) (EP X pins Y Q) X.xe s
section
variable {X:Cx}{a b:Expr}{ta tb:TE}{pos:Pos}
def IxR.or{r r':R2}(h:IxR X r)(h':IxR X r'):IxR X (λx y H Q=>r x y H Q\/r' x y H Q):=by
 intro value slice pins s Y H x y v u Q I rx ry q hs
 rcases q with q|q
 ·exact h value slice pins s Y H x y v u Q I rx ry q hs
 ·exact h' value slice pins s Y H x y v u Q I rx ry q hs
def QmE{r:R2}(hr:IxR X r)(ha:PE X a ta)(hb:PE X b tb)(hs:QeA b):PE X (.Subscript a b pos) (tOp r ta tb):=by
 intro pins s Y H Q I h;exact Subscript_ (QnR ha hb I h λv u s2 x y H2 I2 rx ry q=>hr a b pins s2 Y H2 x y v u Q I2 rx ry q (hs _ _))
def Qov(K:W.Frag):R2:=λx y H Q=>∃p xs i v,x=.ref p/\y=.int i/\SqL K H p xs/\atI xs i=some v/\Q v H
def Qot(K:W.Frag):R2:=λx y H Q=>∃p xs i v,x=.ref p/\y=.int i/\SqT K H p xs/\atI xs i=some v/\Q v H
def Qou:R2:=λx y H Q=>∃z i c,x=.str z/\y=.int i/\z.length<=sizeLine/\atI z.cps.toList i=some c/\Q (.str ⟨#[c]⟩) H
def ix_list:IxR X (Qov X.K):=by
 intro value slice pins s Y H x y v u Q I rx ry h hs;obtain⟨p,xs,i,z,rfl,rfl,hq,he,q⟩:=h;cases rx;obtain⟨t,rfl⟩:=ry;obtain⟨its,r,pl,hz⟩:=I.list hq;obtain⟨j,h1,h2,h3,h4,h5⟩:=Qbm he;obtain⟨w,ew,rw'⟩:=r.get h2;have hl:=r.length;have hn:=Y3;have fin:EP X pins Y Q w s:=⟨z,H,I,rw',q⟩;by_cases h0:0<=i
 ·have hj:i.toNat=j:=by
   rw[seqIndex_of h0 h5]at h1;exact X3 h1
  exact item_listR pl.isList h0 (by omega) (by rw[hj];simpa using ew) fin hs
 ·have hj:(i+(its.toArray.size:Int)).toNat=j:=by
   rw[seqIndex_neg (by omega) h4]at h1
   rw[Xz,<-hl];exact X3 h1
  exact subscriptTail_builtinR (x:=w) pl.isList.typeIs slot_list_getitem.lookup
   (wpAny_getItem_list_neg (Q:=λr s'=>r=w/\EP X pins Y Q r s') pl.isList (by omega) (by rw[Xz]<;>omega) (by omega) (by rw[hj];simpa using ew) ⟨rfl,fin⟩) hs
def ix_tup:IxR X (Qot X.K):=by
 intro value slice pins s Y H x y v u Q I rx ry h hs;obtain⟨p,xs,i,z,rfl,rfl,hq,he,q⟩:=h;cases rx;obtain⟨t,rfl⟩:=ry;obtain⟨its,r,pl,hz⟩:=I.tuple hq;obtain⟨j,h1,h2,h3,h4,h5⟩:=Qbm he;obtain⟨w,ew,rw'⟩:=r.get h2;have hl:=r.length;have hn:=Y3;have fin:EP X pins Y Q w s:=⟨z,H,I,rw',q⟩
 exact subscriptTail_builtinR (x:=w) pl.typeIs slot_tuple_getitem.lookup
  (getItem_tuple (j:=j) (Q:=λr s'=>r=w/\EP X pins Y Q r s') pl (by omega) (by omega) (by rw[Xz,<-hl];exact h1) (by simpa using ew) ⟨rfl,fin⟩) hs
def QkN:IxR X Qou:=by
 intro value slice pins s Y H x y v u Q I rx ry h hs;obtain⟨z,i,c,rfl,rfl,hz,he,q⟩:=h;obtain⟨t,rfl⟩:=rx;obtain⟨t',rfl⟩:=ry;obtain⟨j,h1,h2,h3,h4,h5⟩:=Qbm he
 have hl:z.cps.toList.length=z.length:=by simp[Str.length]
 rw[hl]at h1 h4 h5;have hn:=Y3
 exact tail_any (typeIs_str s z t) slot_str_getitem.lookup (getItem_str (c:=c) (by
  have e1:decide (i < -(2 ^ 63:Int))=false:=Xq (by omega)
  have e2:decide (i≥2 ^ 63)=false:=Xq (by omega)
  rw[e1,e2,Bool.or_false]) (by rw[h1];simpa using h2) ⟨.str ⟨#[c]⟩,H,I.tok _,⟨_,rfl⟩,q⟩) hs
def rIx(K:W.Frag):R2:=λx y H Q=>Qov K x y H Q\/Qot K x y H Q\/Qou x y H Q
def ix_seq:IxR X (rIx X.K):=ix_list.or (ix_tup.or QkN)
def JZ(lo hi:Option Int)(n:Nat):(sliceBounds lo hi none n).1=((HT.sIx n 0 lo:Nat):Int)/\(sliceBounds lo hi none n).2.1=((HT.sIx n n hi:Nat):Int)/\(sliceBounds lo hi none n).2.2=1:=by
 refine⟨?_,?_,rfl⟩
 ·cases lo with
  |none=>simp[sliceBounds,HT.sIx]
  |some i=>
   simp only[sliceBounds,HT.sIx,Option.getD_none,show(1:Int) > 0 by decide,Wa]
   by_cases h:i<0
   ·simp only[h,Wa]<;>omega
   ·simp only[h,Vh]<;>omega
 ·cases hi with
  |none=>simp[sliceBounds,HT.sIx]
  |some i=>
   simp only[sliceBounds,HT.sIx,Option.getD_none,show(1:Int) > 0 by decide,Wa]
   by_cases h:i<0
   ·simp only[h,Wa]<;>omega
   ·simp only[h,Vh]<;>omega
def Jp(its:List Value)(lo hi:Option Int):slicePick its.toArray lo hi none=((its.drop (HT.sIx its.length 0 lo)).take (HT.sIx its.length its.length hi-HT.sIx its.length 0 lo)).toArray:=by
 obtain⟨h1,h2,h3⟩:=JZ lo hi its.toArray.size;unfold slicePick;rw[h1,h2,h3];simp only[sliceRange_one,pick_run,Xz]<;>rfl
def Qor(K:W.Frag):V->Option Int->Option Int->Hp->VK->Prop:=λx lo hi H Q=>∃a xs,x=.ref a/\SqL K H a xs/\∀p,H p=none->Q (.ref p) (upd H p (.lst (QiO xs lo hi)))
def Qg3:SlR X (Qor X.K):=by
 intro pins s Y H x v vl vu lo hi sl Q I rx hs pl pu h;obtain⟨a,xs,rfl,hx,q⟩:=h;cases rx;obtain⟨its,r,ht,hz⟩:=I.list hx;have hlen:=r.length;refine⟨"list",_,slot_list_getitem.lookup,ht.isList.typeIs,?_⟩
 refine wpAny_getItem_list_slice ht.isList hs pl pu .none (by simp) ?_ (by rw[Xz]<;>omega)
 rw[Jp,<-hlen];refine⟨.ref s.heap.objs.size,_,I.laid (t':=s.toks) (o:=.lst (QiO xs lo hi)) (λb ob q=>Xb _ q) (Xm _) ?_,rfl,q _ (I.hok.fresh (Xm _))⟩;exact⟨X6 (Qbk xs lo hi) hz,_,0,(r.drop (HT.sIx xs.length 0 lo)).take (HT.sIx xs.length xs.length hi-HT.sIx xs.length 0 lo),Xo _ rfl⟩
noncomputable def YR:V->Bool
 |.non=>true
 |.bl _=>true
 |.int _=>true
 |.str _=>true
 |_=>false
noncomputable def eqV:V->V->Bool
 |.non,.non=>true
 |.bl a,.bl b=>a==b
 |.bl a,.int b=>(if a then 1 else 0)==b
 |.int a,.bl b=>a==(if b then 1 else 0)
 |.int a,.int b=>a==b
 |.str a,.str b=>a==b
 |_,_=>false
def Qk4{A:Around}{s:Shared}{y:V}{u v:Value}(ry:RelV y u)(rx:RelV x v)(fy:YR y=true)(fx:YR x=true):SeqAt.EqAt A s u v (eqV y x):=by
 cases y with
 |non=>
  cases ry
  cases x with
  |non=>cases rx;exact SeqAt.EqAt.same _
  |bl b=>cases rx;exact SeqAt.EqAt.none_bool b
  |int b=>obtain⟨t,rfl⟩:=rx;exact SeqAt.EqAt.none_int b t
  |str b=>obtain⟨t,rfl⟩:=rx;exact SeqAt.EqAt.none_str b t
  |_=>exact absurd (show false=true from fx) Xh
 |bl a=>
  cases ry
  cases x with
  |non=>cases rx;exact SeqAt.EqAt.bool_none a
  |bl b=>cases rx;exact SeqAt.EqAt.bool_bool a b
  |int b=>obtain⟨t,rfl⟩:=rx;exact SeqAt.EqAt.bool_int a b t
  |str b=>obtain⟨t,rfl⟩:=rx;exact SeqAt.EqAt.bool_str a b t
  |_=>exact absurd (show false=true from fx) Xh
 |int a=>
  obtain⟨t',rfl⟩:=ry
  cases x with
  |non=>cases rx;exact SeqAt.EqAt.int_none a t'
  |bl b=>cases rx;exact SeqAt.EqAt.int_bool a t' b
  |int b=>obtain⟨t,rfl⟩:=rx;exact SeqAt.EqAt.int_int a t' b t
  |str b=>obtain⟨t,rfl⟩:=rx;exact SeqAt.EqAt.int_str a t' b t
  |_=>exact absurd (show false=true from fx) Xh
 |str a=>
  obtain⟨t',rfl⟩:=ry
  cases x with
  |non=>cases rx;exact SeqAt.EqAt.str_none a t'
  |bl b=>cases rx;exact SeqAt.EqAt.str_bool a t' b
  |int b=>obtain⟨t,rfl⟩:=rx;exact SeqAt.EqAt.str_int a t' b t
  |str b=>obtain⟨t,rfl⟩:=rx;exact SeqAt.EqAt.str_str a t' b t
  |_=>exact absurd (show false=true from fx) Xh
 |_=>exact absurd (show false=true from fy) Xh
noncomputable def eqU(x:V)(u:Value):Bool:=match u with
 |.none=>eqV .non x
 |.bool b=>eqV (.bl b) x
 |.int i _=>eqV (.int i) x
 |.str z _=>eqV (.str z) x
 |_=>false
def QgB{y:V}{u:Value}(r:RelV y u)(f:YR y=true):eqU x u=eqV y x:=by
 cases y with
 |non=>cases r;rfl
 |bl b=>cases r;rfl
 |int i=>obtain⟨t,rfl⟩:=r;rfl
 |str z=>obtain⟨t,rfl⟩:=r;rfl
 |_=>exact absurd (show false=true from f) Xh
theorem YA{x:V}:∀{xs:List V} {us:List Value},Vals xs us->xs.all YR=true->us.any (eqU x)=xs.any λy=>eqV y x
 |_,_,.nil,_=>rfl
 |y::xs,u::us,.cons r t,f=>by
  rw[Uk,Xk]at f;rw[V9,V9,QgB r f.1,YA t f.2]
theorem ZE{A:Around}{s:Shared}{x:V}{v:Value}(rx:RelV x v)(fx:YR x=true):∀{xs:List V} {us:List Value},Vals xs us->xs.all YR=true->∀u∈us,SeqAt.EqAt A s u v (eqU x u)
 |_,_,.nil,_=>λu hu=>by cases hu
 |y::xs,u::us,.cons r t,f=>λu' hu=>by
  rw[Uk,Xk]at f
  rcases X5.mp hu with rfl|hu
  ·rw[QgB r f.1];exact Qk4 r rx f.1 fx
  ·exact ZE rx fx t f.2 u' hu
noncomputable def inV(x:V)(xs:List V):Bool:=xs.any λy=>eqV y x
def rIn(K:W.Frag)(neg:Bool):R2:=λx y H Q=>∃p xs,y=.ref p/\(SqL K H p xs\/SqT K H p xs)/\YR x=true/\xs.all YR=true/\Q (.bl (if neg then !inV x xs else inV x xs)) H
def Qdy:OpR X (compareOp .In) (rIn X.K false):=by
 intro pins s Y H x y v u Q I rx ry h;obtain⟨p,xs,rfl,hq,fx,fs,q⟩:=h;cases ry
 rcases hq with hq|hq
 ·obtain⟨its,r,pl,hz⟩:=I.list hq
  refine SeqAt.in_listAt (eqU x) pl.isList (λw hw=>ZE rx fx r fs w (by simpa using hw)) ⟨.bl _,H,I,rfl,?_⟩
  rw[show its.toArray.any (eqU x)=its.any (eqU x) by simp,YA r fs]
  exact q
 ·obtain⟨its,r,pl,hz⟩:=I.tuple hq
  refine SeqAt.in_tupleAt (eqU x) pl (λw hw=>ZE rx fx r fs w (by simpa using hw)) ⟨.bl _,H,I,rfl,?_⟩
  rw[show its.toArray.any (eqU x)=its.any (eqU x) by simp,YA r fs]
  exact q
def Qaf:OpR X (compareOp .NotIn) (rIn X.K true):=by
 intro pins s Y H x y v u Q I rx ry h;obtain⟨p,xs,rfl,hq,fx,fs,q⟩:=h;cases ry
 rcases hq with hq|hq
 ·obtain⟨its,r,pl,hz⟩:=I.list hq
  refine SeqAt.notIn_listAt (eqU x) pl.isList (λw hw=>ZE rx fx r fs w (by simpa using hw)) ⟨.bl _,H,I,rfl,?_⟩
  rw[show its.toArray.any (eqU x)=its.any (eqU x) by simp,YA r fs]
  exact q
 ·obtain⟨its,r,pl,hz⟩:=I.tuple hq
  refine SeqAt.notIn_tupleAt (eqU x) pl (λw hw=>ZE rx fx r fs w (by simpa using hw)) ⟨.bl _,H,I,rfl,?_⟩
  rw[show its.toArray.any (eqU x)=its.any (eqU x) by simp,YA r fs]
  exact q
def QaE:CallR X (.builtin "len") (λxs H Q=>∃p ys,xs=[.ref p]/\(SqL X.K H p ys\/SqT X.K H p ys)/\Q (.int ys.length) H):= by
 intro pins s Y H xs us Q I r h;obtain⟨p,ys,rfl,hq,q⟩:=h;obtain⟨u,rfl,rx⟩:=Jg r;cases rx;have hn:=Y3
 rcases hq with hq|hq
 ·obtain⟨its,r',pl,hz⟩:=I.list hq;have hlen:=r'.length
  exact Calls.call_len_list pl.isList (by simp only[Xz]<;>omega) ⟨.int ys.length,H,I.tok _,⟨s.toks+1,by rw[Xz,hlen]⟩,q⟩
 ·obtain⟨its,r',pl,hz⟩:=I.tuple hq;have hlen:=r'.length
  exact len_tuple pl (by simp only[Xz]<;>omega) ⟨.int ys.length,H,I.tok _,⟨s.toks+1,by rw[Xz,hlen]⟩,q⟩
def QaD:CallR X (.builtin "len") (λxs H Q=>∃z,xs=[.str z]/\z.length<=sizeLine/\Q (.int z.length) H):= by
 intro pins s Y H xs us Q I r h;obtain⟨z,rfl,hz,q⟩:=h;obtain⟨u,rfl,t,rfl⟩:=Jg r;have hn:=Y3
 exact len_str (by omega) ⟨.int z.length,H,I.tok _,⟨_,rfl⟩,q⟩
def CallR.or{f:Value}{r r':List V->Hp->VK->Prop}(h:CallR X f r)(h':CallR X f r'):CallR X f (λxs H Q=>r xs H Q\/r' xs H Q):=by
 intro pins s Y H xs us Q I rs q
 rcases q with q|q
 ·exact h pins s Y H xs us Q I rs q
 ·exact h' pins s Y H xs us Q I rs q
def QaC:CallR X (.type "list") (λxs H Q=>∃p ys,xs=[.ref p]/\(SqL X.K H p ys\/SqT X.K H p ys)/\∀l,H l=none->Q (.ref l) (upd H l (.lst ys))):= by
 intro pins s Y H xs us Q I r h;obtain⟨p,ys,rfl,hq,q⟩:=h;obtain⟨u,rfl,rx⟩:=Jg r;cases rx
 have fin:∀(its:List Value),Vals ys its->ys.length<=sizeLine->∀(h':Heap) (c':Nat),(∀b o',s.heap.get? b=some o'->h'.get? b=some o') ->
   h'.get? s.heap.objs.size=some {cls:=.type "list",dict:=none,data:=.seq its.toArray c',slots:=#[]}->EP X pins Y Q (.ref s.heap.objs.size) {s with heap:=h'}:=λits r' hz h' c' kp e=>
  ⟨.ref s.heap.objs.size,_,I.laid (t':=s.toks) kp (Xm _) (show ObjOk X.prog X.w _ h' _ (.lst ys)from⟨hz,its,c',r',e⟩),rfl,q _ (I.hok.fresh (Xm _))⟩
 rcases hq with hq|hq
 ·obtain⟨its,r',pl,hz⟩:=I.list hq;have hlen:=r'.length;obtain⟨o,ho,hc,n,hd⟩:=pl.isList
  exact call_list_seq p (.inl rfl) ho hc hd (λh' c' kp e=>fin its r' hz h' c' kp e) (by simp only[Xz]<;>omega)
 ·obtain⟨its,r',pl,hz⟩:=I.tuple hq;have hlen:=r'.length;obtain⟨o,ho,hc,n,hd⟩:=pl
  exact call_list_seq p (.inr rfl) ho hc hd (λh' c' kp e=>fin its r' hz h' c' kp e) (by simp only[Xz]<;>omega)
def JK:CallR X (.type "tuple") (λxs H Q=>∃p ys,xs=[.ref p]/\((SqL X.K H p ys/\∀l,H l=none->Q (.ref l) (upd H l (.tup ys)))\/(SqT X.K H p ys/\Q (.ref p) H))):= by
 intro pins s Y H xs us Q I r h;obtain⟨p,ys,rfl,h⟩:=h;obtain⟨u,rfl,rx⟩:=Jg r;cases rx
 rcases h with⟨hq,q⟩|⟨hq,q⟩
 ·obtain⟨its,r',pl,hz⟩:=I.list hq;have hlen:=r'.length
  refine call_tuple_list pl.isList (λh' kp=>?_) (by simp only[Xz]<;>omega)
  have I1:Inv X pins Y H {s with heap:=h'}:=I.kept (t':=s.toks) kp
  have I2:Inv X pins Y (upd H h'.objs.size (.tup ys)) {s with heap:=h'.push {cls:=.type "tuple",data:=.seq its.toArray} }:=
   I1.laid (t':=s.toks) (λb o e=>Xb _ e) (Xm _) (show ObjOk X.prog X.w _ _ _ (.tup ys)from⟨hz,its,r',IsTup.new _ _⟩)
  exact⟨.ref h'.objs.size,_,I2,rfl,q _ (I1.hok.fresh (Xm _))⟩
 ·obtain⟨its,r',pl,hz⟩:=I.tuple hq;exact call_tuple_same pl ⟨.ref p,H,I,rfl,q⟩
def tyV(K:W.Frag)(T:String)(x:V)(H:Hp):Prop:=match x with
 |.str _=>T="str"
 |.int _=>T="int"
 |.ref p=>(T="list"/\∃xs,SqL K H p xs)\/(T="tuple"/\∃o,K.lookup p=some o/\o.cls=.type "tuple"/\o.dict=none) \/
   (T="dict"/\((∃kvs,H p=some (.dK kvs))\/∃kvs,H p=some (.dT kvs)))\/(T="set"/\∃S n,H p=some (.set S n))
 |_=>False
def Qf5{pins:List (Addr×Obj)}{Y:St}{H:Hp}{s:Shared}{T:String}{v:Value}(I:Inv X pins Y H s)(r:RelV x v)(ty:tyV X.K T x H):
  s.TypeIs v T/\∀a,v=.ref a->∃ob,s.heap.get? a=some ob/\ob.dict=none:=by
 cases x with
 |str z=>
  obtain⟨t,rfl⟩:=r;cases(show T="str" from ty);exact⟨typeIs_str s z t,λy e=>nomatch e⟩
 |int i=>
  obtain⟨t,rfl⟩:=r;cases(show T="int" from ty);exact⟨typeIs_int s i t,λy e=>nomatch e⟩
 |ref p=>
  cases r
  rcases ty with⟨rfl,xs,hq⟩|⟨rfl,o,hk,hc,hd⟩|⟨rfl,hk⟩|⟨rfl,S,n,hk⟩
  ·obtain⟨its,_,pl,_⟩:=I.list hq;refine⟨pl.isList.typeIs,λa e=>?_⟩;cases e;obtain⟨o,n,e,c,hd,_⟩:=pl;exact⟨o,e,hd⟩
  ·refine⟨⟨o,I.kIn p o hk,hc⟩,λa e=>?_⟩;cases e;exact⟨o,I.kIn _ o hk,hd⟩
  ·have z:∃o,s.heap.get? p=some o/\o.ExactDict:=by
    rcases hk with⟨kvs,hk⟩|⟨kvs,hk⟩
    ·obtain⟨_,_,_,_,o,_,_,e,ex,_⟩:=I.hok p _ hk;exact⟨o,e,ex⟩
    ·obtain⟨_,_,_,_,o,_,_,e,ex,_⟩:=I.hok p _ hk;exact⟨o,e,ex⟩
   obtain⟨o,e,ex⟩:=z;refine⟨⟨o,e,ex.1⟩,λa e2=>?_⟩;cases e2;exact⟨o,e,ex.2.1⟩
  ·obtain⟨o,_,_,_,e,ex,_⟩:=I.hok p _ hk;refine⟨⟨o,e,ex.1⟩,λa e2=>?_⟩;cases e2;exact⟨o,e,ex.2.1⟩
 |_=>exact False.elim ty
def Qpb(K:W.Frag)(T:String)(r:V->List V->Hp->VK->Prop)(to:TE):TE:=λY H Q=>to Y H λx H1=>tyV K T x H1/\r x [] H1 Q
def tBM(K:W.Frag)(T:String)(r:V->List V->Hp->VK->Prop)(to:TE)(t:TA):TE:=λY H Q=>to Y H λx H1=>tyV K T x H1/\t Y H1 λxs H2=>r x xs H2 Q
variable {o e:Expr}{es:List Expr}{to:TE}{t:TA}{name:Str}{apos cpos:Pos}{T id:String}{r:V->List V->Hp->VK->Prop}
def Qkh(pa:PlainAttrs T)(slot:Slot T name id)(hty:typeOf (.builtin id)=pure (.type "method_descriptor"))(hm:MtR X id r)(ho:PE X o to)
  (hbase:attributeBase o name X.env (eval o X.env)=eval o X.env:=by rfl) (hline:(apos.endLine==cpos.line)=true:=by rfl):PE X (.Call (.Attribute o name apos) [] [] cpos) (Qpb X.K T r to):=by
 intro pins s Y H Q I h;refine wpAny_Call_method0_late hbase hline (thn (ho pins s Y H _ I h) λv s1 z=>?_);obtain⟨x,H1,I1,r1,ty,q1⟩:=z;obtain⟨h1,h2⟩:=Qf5 I1 r1 ty;exact⟨T,id,pa,slot,hty,h1,h2,To rfl (PySem.evalArgs_none (hm pins s1 Y H1 x [] v [] Q I1 r1 .nil q1))⟩
def QmF(pa:PlainAttrs T)(slot:Slot T name id)(hty:typeOf (.builtin id)=pure (.type "method_descriptor"))(hm:MtR X id r)(ho:PE X o to)(ha:PA X (e::es) t)
  (hbase:attributeBase o name X.env (eval o X.env)=eval o X.env:=by rfl)
  (hfew:((backTo cpos (starEach (e::es) X.env)).all (λx=>!x.1)&&(backToKw cpos (keywordEach [] X.env)).all (λx=>x.1.isSome)
   && decide ((e::es).length+([]:List Keyword).length+(if([]:List Keyword).isEmpty then 0 else 1) < 30))=true:=by rfl)
  (hline:(apos.endLine==cpos.line)=true:=by rfl) (hs:starEach (e::es) X.env=(false,eval e X.env)::starEach es X.env:=by rfl) (hplain:(backTo cpos (starEach es X.env)).any (·.1)=false:=by rfl):
  PE X (.Call (.Attribute o name apos) (e::es) [] cpos) (tBM X.K T r to t):=by
 intro pins s Y H Q I h;refine wpAny_Call_method_late hbase hfew hline rfl (thn (ho pins s Y H _ I h) λv s1 z=>?_);obtain⟨x,H1,I1,r1,ty,q1⟩:=z;obtain⟨h1,h2⟩:=Qf5 I1 r1 ty;refine⟨T,id,pa,slot,hty,h1,h2,?_⟩;have hA:=ha cpos pins s1 Y H1 _ I1 q1;rw[hs]at hA ⊢
 refine To (by show(false||(backTo cpos (starEach es X.env)).any (·.1))=false;rw[hplain]<;>rfl) (Calls.evalArgs_plain ?_)
 exact thn hA λus s2 y=>by obtain⟨vs,H2,I2,r2,q2⟩:=y;exact hm pins s2 Y H2 x vs v us Q I2 r1 r2 q2
end
end
section
variable {X:Cx}{xs:List V}{us:List Value}
noncomputable def MtM(X:Cx)(id:String)(r:V->List V->Hp->VK->Prop):Prop :=
 ∀(pins:List (Addr×Obj)) (s:Shared) (Y:St) (H:Hp) (x:V) (xs:List V) (v:Value) (us:List Value) (Q:VK),Inv X pins Y H s->RelV x v->Vals xs us->r x xs H Q ->
  wpAny (model X.prog X.w) X.A (call (.builtin id) (v::us)) (EP X pins Y Q) X.xe s
def Vals.one{x:V}(h:Vals [x] us):∃u,us=[u]/\RelV x u:=by
 cases h with
 |cons r t=>cases t;exact⟨_,rfl,r⟩
def Vals.two{x y:V}(h:Vals [x,y] us):∃u v,us=[u,v]/\RelV x u/\RelV y v:=by
 cases h with
 |cons r t=>obtain⟨v,rfl,q⟩:=Vals.one t;exact⟨_,_,rfl,r,q⟩
def Vals.zero:∀{us:List Value},Vals [] us->us=[]
 |_,.nil=>rfl
theorem Vals.dropLast(h:Vals xs us):Vals xs.dropLast us.dropLast:=by
 induction h with
 |nil=>exact .nil
 |cons r t ih=>
  cases t with
  |nil=>exact .nil
  |cons q t'=>exact .cons r ih
theorem Vals.reverse(h:Vals xs us):Vals xs.reverse us.reverse:=by
 induction h with
 |nil=>exact .nil
 |cons r t ih=>rw[Tk,Tk];exact Vals.append ih (.cons r .nil)
def Qcr{α:Type}(l:List α):l.eraseIdx (l.length-1)=l.dropLast:=by
 induction l with
 |nil=>rfl
 |cons a r ih=>
  cases r with
  |nil=>rfl
  |cons b r=>
   have e:(a::b::r).length-1=((b::r).length-1)+1:=by
    have h1:(a::b::r).length=r.length+2:=rfl;have h2:(b::r).length=r.length+1:=rfl;omega
   rw[e,List.eraseIdx_cons_succ,ih]
   all_goals rfl
section
variable {pins:List (Addr×Obj)}{Y:St}{H:Hp}{s:Shared}{l:Addr}{ys:List V}
def Inv.lset{its its':List Value}{n:Nat}{f:Array Value->Array Value}{t':Nat}(I:Inv X pins Y H s)(hH:H l=some (.lst xs))
  (e:s.heap.get? l=some {cls:=.type "list",data:=.seq its.toArray n}) (hf:f its.toArray=its'.toArray) (hv:Vals ys its') (hz:ys.length<=sizeLine):
  Inv X pins Y (upd H l (.lst ys)) {s with heap:=s.heap.update l (Obj.mapSeq f),toks:=t'}:=by
 have q:=PySem.IsL.update e f;rw[hf]at q
 refine I.write (x:=l) (e:=l) (by rw[hH];exact trivial) (.inl rfl) (λb' u hb hu=>(W7 s.heap (Obj.mapSeq f) (X9 hb)).trans hu) ⟨_,q⟩ ?_
 exact⟨hz,its',_,hv,q⟩
def Inv.lnew{its:List Value}{t':Nat}(I:Inv X pins Y H s)(hv:Vals ys its)(hz:ys.length<=sizeLine):
  Inv X pins Y (upd H s.heap.objs.size (.lst ys)) {s with heap:=s.heap.push {cls:=.type "list",data:=.seq its.toArray},toks:=t'}:=
 I.laid (λz z q=>Xb _ q) (Xm _) ⟨hz,its,0,hv,Xo _ rfl⟩
theorem Inv.fresh(I:Inv X pins Y H s):H s.heap.objs.size=none:=I.hok.fresh (Xm _)
def Inv.lstM(I:Inv X pins Y H s)(hH:H l=some (.lst xs)): xs.length<=sizeLine/\∃(its:List Value) (n:Nat),Vals xs its/\xs.length=its.length/\s.heap.get? l=some {cls:=.type "list",data:=.seq its.toArray n}:= by
 obtain⟨z,its,n,r,e⟩:=I.hok l _ hH;exact⟨z,its,n,r,r.length,e⟩
end
section

def Qhi:V->List V->Hp->VK->Prop:=λx vs H Q=>∃l xs y,x=.ref l/\vs=[y]/\H l=some (.lst xs)/\xs.length<sizeLine/\Q .non (upd H l (.lst (xs++[y])))
def Qai:MtM X "list.append" Qhi:=by
 intro pins s Y H x vs v us Q I rx rv h;obtain⟨l,xs,y,rfl,rfl,hH,hz,q⟩:=h;cases rx;obtain⟨u,rfl,ru⟩:=rv.one;obtain⟨z,its,n,r,hl,e⟩:=I.lstM hH
 refine call_meets F.slot_list_append ⟨_,e,rfl⟩ F.entry_list_append (F.args_list_append_2 _ _) (PySem.list_append l its.toArray n u (by rw[Xz];omega)) ⟨e,?_⟩
 refine⟨.non,_,I.lset (its':=its++[u]) hH e (by simp) (r.append (.cons ru .nil)) ?_,rfl,q⟩
 rw[Wq,List.length_singleton];omega
def Qpl:V->List V->Hp->VK->Prop:=λx vs H Q=>∃l xs y,x=.ref l/\vs=[]/\H l=some (.lst xs)/\xs[xs.length-1]?=some y/\Q y (upd H l (.lst xs.dropLast))
def Qkz:MtM X "list.pop" Qpl:=by
 intro pins s Y H x vs v us Q I rx rv h;obtain⟨l,xs,y,rfl,rfl,hH,hy,q⟩:=h;cases rx;have hus:=rv.zero;subst hus;obtain⟨z,its,n,r,hl,e⟩:=I.lstM hH;obtain⟨u,hu,ru⟩:=r.get hy
 have hy':its.toArray[its.toArray.size-1]?=some u:=by
  show its.toArray[its.length-1]?=some u;rw[<-Tv,<-hl];exact hu
 refine call_meets F.slot_list_pop ⟨_,e,rfl⟩ F.entry_list_pop (F.args_list_pop_1 _) (MeetsSeq.list_pop_last l its.toArray n u hy' (by rw[Xz];omega)) ⟨e,?_⟩
 refine⟨y,_,I.lset (its':=its.dropLast) hH e ?_ r.dropLast ?_,ru,q⟩
 ·show its.toArray.eraseIdxIfInBounds (its.toArray.size-1)=its.dropLast.toArray;rw[Xz,List.eraseIdxIfInBounds_toArray,Qcr]
 ·rw[List.length_dropLast];omega
def Qpm:R2:=λx y H Q=>∃l b xs zs,x=.ref l/\y=.ref b/\H l=some (.lst xs)/\H b=some (.lst zs)/\xs.length+zs.length<=sizeLine/\∀p,H p=none->Q (.ref p) (upd H p (.lst (xs++zs)))
def Qkt:OpR X (binaryOp .Add) Qpm:=by
 intro pins s Y H x y v u Q I rx ry h;obtain⟨l,b,xs,zs,rfl,rfl,hH,hB,hz,q⟩:=h;cases rx;cases ry;obtain⟨z,its,n,r,hl,e⟩:=I.lstM hH;obtain⟨z2,its2,n2,r2,hl2,e2⟩:=I.lstM hB
 refine PySem.P.add_list e e2 ?_ (by rw[Xz,Xz];omega)
 have ea:its.toArray++its2.toArray=(its++its2).toArray:=by simp
 rw[ea]
 exact⟨.ref _,_,I.lnew (t':=s.toks) (r.append r2) (by rw[Wq];omega),rfl,q _ I.fresh⟩
end
section
set_option maxRecDepth 100000 in
end
section

end
end
section
variable {a:Addr}{A:Around}{X:Cx}{H H':Hp}{pins:List (Addr×Obj)}{xs:List (List Key×Addr×Value)}{kvs:List (List Key×V)}{o:Option V}{P:Program}{s:Shared}{Y:St}{y:V}{u:Value}{Q:Value->Shared->Prop}{w:World}
section
variable {κ:Type}[DecidableEq κ]
noncomputable def ZM(kvs:List (κ×V))(k:κ):Option V:=(kvs.find? λkv=>decide (kv.1=k)).map (·.2)
noncomputable def Z7(kvs:List (κ×V))(k:κ)(v:V):List (κ×V):=
 if(kvs.any λkv=>decide (kv.1=k))=true then kvs.map (λkv=>if kv.1=k then(kv.1,v)else kv)else kvs++[(k,v)]
def Z5{p:κ×V}{r:List (κ×V)}{k:κ}(e:p.1=k):ZM (p::r) k=some p.2:=by simp[ZM,Wx,e]
def Z6{p:κ×V}{r:List (κ×V)}{k:κ}(e:¬p.1=k):ZM (p::r) k=ZM r k:=by simp[ZM,Wx,e]
theorem Jh(k:κ):∀kvs:List (κ×V),(kvs.any λkv=>decide (kv.1=k))=(ZM kvs k).isSome
 |[]=>rfl
 |p::r=>by
  rw[V9];by_cases e:p.1=k
  ·simp only[Z5 e,X4 e,Bool.true_or,Option.isSome_some]
  ·rw[Z6 e,Xq e,Bool.false_or];exact Jh k r
def Q4(kvs:List (κ×V))(k:κ)(v:V):(Z7 kvs k v).length<=kvs.length+1:=by
 unfold Z7;split
 ·rw[Xl];omega
 ·rw[Wq,X7,Vj];omega
def Qe8{kvs:List (κ×V)}{k:κ}(v:V)(h:ZM kvs k=none):Z7 kvs k v=kvs++[(k,v)]:=by
 unfold Z7;rw[Jh,h]
 exact if_neg (by decide)
def RelO.isSome_eq{u:Option Value}(r:RelO o u):o.isSome=u.isSome:=by
 cases o with
 |none=>cases u with
  |none=>rfl
  |some _=>exact(show False from r).elim
 |some _=>cases u with
  |none=>exact(show False from r).elim
  |some _=>rfl
theorem RelO.getD{u:Option Value}{d:V}{d':Value}(r:RelO o u)(rd:RelV d d'):RelV (o.getD d) (u.getD d'):=by
 cases o with
 |none=>cases u with
  |none=>exact rd
  |some _=>exact(show False from r).elim
 |some _=>cases u with
  |none=>exact(show False from r).elim
  |some _=>exact r
def KV.val{kvs:List (κ×V)}{vs:List (κ×Value)}(r:KV kvs vs)(k:κ):RelO (ZM kvs k) (valueAt vs k):=by
 unfold KV at r
 induction r with
 |nil=>exact True.intro
 | @cons p q ps qs h t ih=>
  obtain⟨h1,h2⟩:=h;by_cases e:p.1=k
  ·have e':q.1=k:=h1.symm.trans e
   have b:valueAt (q::qs) k=some q.2:=by simp[valueAt,Wx,e']
   rw[Z5 e,b];exact h2
  ·have e':¬q.1=k:=λz=>e (h1.trans z)
   have b:valueAt (q::qs) k=valueAt qs k:=by simp[valueAt,Wx,e']
   rw[Z6 e,b];exact ih
theorem KV.any{kvs:List (κ×V)}{vs:List (κ×Value)}(r:KV kvs vs)(k:κ):(kvs.any λkv=>decide (kv.1=k))=vs.any λkv=>decide (kv.1=k):=by
 unfold KV at r
 induction r with
 |nil=>rfl
 |cons h t ih=>rw[V9,V9,ih,h.1]
def KV.repl{kvs:List (κ×V)}{vs:List (κ×Value)}(r:KV kvs vs)(k:κ)(ry:RelV y u):
  KV (kvs.map λkv=>if kv.1=k then(kv.1,y)else kv) (vs.map λkv=>if kv.1=k then(kv.1,u)else kv):=by
 unfold KV at r ⊢
 induction r with
 |nil=>exact .nil
 | @cons p q ps qs h t ih=>
  rw[X0,X0];refine .cons ?_ ih;obtain⟨h1,h2⟩:=h;by_cases e:p.1=k
  ·rw[if_pos e,if_pos (h1.symm.trans e)];exact⟨h1,ry⟩
  ·rw[if_neg e,if_neg (λz=>e (h1.trans z))];exact⟨h1,h2⟩
def KV.put{kvs:List (κ×V)}{vs:List (κ×Value)}(r:KV kvs vs)(k:κ)(ry:RelV y u):KV (Z7 kvs k y) (stored vs k u):=by
 unfold Z7 stored;rw[r.any k];by_cases e:(vs.any λkv=>decide (kv.1=k))=true
 ·rw[if_pos e,if_pos e];exact r.repl k ry
 ·rw[if_neg e,if_neg e];exact Paired.snoc r ⟨rfl,ry⟩
theorem KV.length{kvs:List (κ×V)}{vs:List (κ×Value)}(r:KV kvs vs):kvs.length=vs.length:=Wj r
end
def Qaq{k:Key}(r:RelV (kV k) u):(Qq P w).is k u=true:=by
 cases k with
 |inl i=>obtain⟨t,e⟩:=(show ∃t,u=Value.int i t from r);subst e;exact Qa8 P w i t
 |inr x=>obtain⟨t,e⟩:=(show ∃t,u=Value.str x t from r);subst e;exact Qa7 P w x t
theorem Qas{P:Program}{w:World}:∀{ks:List Key} {us:List Value},Vals (ks.map kV) us->ItemsAre (Qq P w) ks us
 |[],_,r=>by rw[Uw]at r;cases r;exact .nil
 |k::ks,_,r=>by
  rw[X0]at r
  cases r with
  |cons h t=>exact .cons (Qaq h) (Qas t)
abbrev KT(H:Hp):List (List Key×V)->List (List Key×Addr×Value)->Prop:=Paired λp q=>p.1=q.1/\H q.2.1=some (.tup (p.1.map kV))/\RelV p.2 q.2.2
def KT.val(r:KT H kvs xs)(k:List Key):RelO (ZM kvs k) ((atKey xs k).map (·.2)):=by
 induction r with
 |nil=>exact True.intro
 | @cons p q ps qs h t ih=>
  obtain⟨h1,_,h2⟩:=h;by_cases e:p.1=k
  ·have e':q.1=k:=h1.symm.trans e
   have b:atKey (q::qs) k=some q.2:=by simp[atKey,Wx,e']
   rw[Z5 e,b];exact h2
  ·have e':¬q.1=k:=λz=>e (h1.trans z)
   have b:atKey (q::qs) k=atKey qs k:=by simp[atKey,Wx,e']
   rw[Z6 e,b];exact ih
def KT.repl(r:KT H kvs xs)(k:List Key)(ry:RelV y u):
  KT H (kvs.map λkv=>if kv.1=k then(kv.1,y)else kv) (xs.map (putAt k u)):=by
 induction r with
 |nil=>exact .nil
 | @cons p q ps qs h t ih=>
  rw[X0,X0];refine .cons ?_ ih;obtain⟨h1,h2,h3⟩:=h;unfold putAt;by_cases e:p.1=k
  ·rw[if_pos e,if_pos (h1.symm.trans e)];exact⟨h1,h2,ry⟩
  ·rw[if_neg e,if_neg (λz=>e (h1.trans z))];exact⟨h1,h2,h3⟩
def KT.put(r:KT H kvs xs)(k:List Key){b:Addr}(hb:H b=some (.tup (k.map kV)))(ry:RelV y u):
  KT H (Z7 kvs k y) (storedH xs k b u):=by
 have e:(kvs.any λkv=>decide (kv.1=k))=(atKey xs k).isSome:=by
  rw[Jh,(r.val k).isSome_eq,Option.isSome_map]
 unfold Z7 storedH;rw[e];by_cases q:(atKey xs k).isSome=true
 ·rw[if_pos q,if_pos q];exact r.repl k ry
 ·rw[if_neg q,if_neg q];exact Paired.snoc r ⟨rfl,hb,ry⟩
def KT.keeps(r:KT H kvs xs)(ht:∀b ys,H b=some (.tup ys)->H' b=some (.tup ys)):KT H' kvs xs :=
 Paired.mapP r λy y z=>⟨z.1,ht _ _ z.2.1,z.2.2⟩
section
variable {h:Heap}
def QjR{u:HO}(ok:HOk P w H h)(e:Rd H a u):ObjOk P w H h a u:=e.ok ok
def Qct{kvs:List (Key×V)}(ok:HOk P w H h)(e:Rd H a (.dK kvs)):kvs.length<=sizeLine/\(a==sysModules)=false/\∃vs,KV kvs vs/\h.DictOf (Qq P w) a vs :=
 show ObjOk P w H h a (.dK kvs)from QjR ok e
def Qcu{kvs:List (Key×V)}(ok:HOk P w H h)(e:H a=some (.dK kvs)):kvs.length<=sizeLine/\(a==sysModules)=false/\∃vs,KV kvs vs/\h.DictOf (Qq P w) a vs:=Qct ok (.inl e)
def Y4{ks:List Key}(ok:HOk P w H h)(e:H a=some (.tup (ks.map kV))):(tupleKind (Qq P w)).is h ks a:=by
 obtain⟨_,its,r,o,h1,h2,n,h3⟩:=(show ObjOk P w H h a (.tup (ks.map kV))from ok a _ e)
 exact⟨o,its.toArray,n,h1,h2,h3,by simpa using Qas r⟩
def Qcs(ok:HOk P w H h)(e:Rd H a (.dT kvs)):kvs.length<=sizeLine/\(a==sysModules)=false /\
  ∃xs,KT H kvs xs/\h.DictOfH (tupleKind (Qq P w)) a xs:=by
 obtain⟨z,y,xs,r,o,es,ep,h1,h2,h3,h4,h5⟩:=(show ObjOk P w H h a (.dT kvs)from QjR ok e);refine⟨z,y,xs,r,o,es,ep,h1,h2,h3,h4,λx hx=>?_,h5⟩
 have all:∀{l:List (List Key×V)} {m:List (List Key×Addr×Value)},KT H l m->∀x∈m,(tupleKind (Qq P w)).is h x.1 x.2.1:=by
  intro l m q
  induction q with
  |nil=>intro x hx;exact nomatch hx
  | @cons p q ps qs hq t ih=>
   intro x hx
   rcases X5.mp hx with e|hx
   ·subst e
    exact Y4 ok (by rw[<-hq.1];exact hq.2.1)
   ·exact ih x hx
 exact all r x hx
def Qnt(ok:HOk P w H h)(e:H a=some (.dT kvs)):kvs.length<=sizeLine/\(a==sysModules)=false /\
  ∃xs,KT H kvs xs/\h.DictOfH (tupleKind (Qq P w)) a xs:=Qcs ok (.inl e)
end
noncomputable def DGet(H:Hp)(a:Addr)(y:V)(r:Option V):Prop :=
 (∃kvs k,Rd H a (.dK kvs)/\y=kV k/\r=ZM kvs k)\/∃kvs k b,Rd H a (.dT kvs)/\y=.ref b/\H b=some (.tup (k.map kV))/\r=ZM kvs k
noncomputable def DPut(H:Hp)(a:Addr)(y v:V)(H':Hp):Prop :=
 (∃kvs k,H a=some (.dK kvs)/\y=kV k/\kvs.length<sizeLine/\H'=upd H a (.dK (Z7 kvs k v))) \/
 ∃kvs k b,H a=some (.dT kvs)/\y=.ref b/\H b=some (.tup (k.map kV))/\kvs.length<sizeLine/\H'=upd H a (.dT (Z7 kvs k v))
theorem DGet.k{H:Hp}{a:Addr}{kvs:List (Key×V)}{k:Key}(e:H a=some (.dK kvs)):DGet H a (kV k) (ZM kvs k):=.inl ⟨kvs,k,.inl e,rfl,rfl⟩
theorem DPut.k{H:Hp}{a:Addr}{kvs:List (Key×V)}{k:Key}{v:V}(e:H a=some (.dK kvs))(hl:kvs.length<sizeLine):DPut H a (kV k) v (upd H a (.dK (Z7 kvs k v))):=.inl ⟨kvs,k,e,rfl,hl,rfl⟩
section
variable {v:V}{r:Value}{E:Value->Shared->Prop}
def Inv.big(I:Inv X pins Y H s):sysModules<s.heap.objs.size:=by
 have h:mainGlobals<s.heap.objs.size:=(I.mod.glob.keeps I.bk).lt
 exact Nat.lt_trans (by decide) h
def Qee(hu:A.units+1<cLine)(I:Inv X pins Y H s)(g:DGet H a y (some v))(ry:RelV y u)(h:∀w' s',Inv X pins Y H s'->RelV v w'->Q w' s'):
  wpAny (model X.prog X.w) A (getItem (.ref a) u) Q E s:=by
 rcases g with⟨kvs,k,e,ey,l⟩|⟨kvs,k,b,e,ey,eb,l⟩
 ·subst ey;obtain⟨z,hd,vs,rel,dd⟩:=Qct I.hok e
  obtain⟨w',hw,rw'⟩:=RelO.some_of (v:=v) (o:=valueAt vs k) (by rw[l];exact rel.val k)
  exact wpAny_getItem_of (Qaq ry) dd.mapOf hw (h w' _ (I.tok _) rw')
 ·subst ey;cases(show u=Value.ref b from ry);obtain⟨z,hd,xs,rel,dd⟩:=Qcs I.hok e
  obtain⟨w',hw,rw'⟩:=RelO.some_of (v:=v) (o:=(atKey xs k).map (·.2)) (by rw[l];exact rel.val k)
  obtain⟨p,hp,hp2⟩:=Xd.mp hw;refine wpAny_getItem_heap (Uo hu) (Y4 I.hok eb) dd hp ?_;rw[hp2];exact h w' _ (I.tok _) rw'
def QpM(hu:A.units+1<cLine)(I:Inv X pins Y H s)(g:DGet H a y o)(ry:RelV y u)(h:∀s',Inv X pins Y H s'->Q (.bool o.isSome) s'):
  wpAny (model X.prog X.w) A (compareOp .In u (.ref a)) Q E s:=by
 rcases g with⟨kvs,k,e,ey,l⟩|⟨kvs,k,b,e,ey,eb,l⟩
 ·subst ey;obtain⟨z,hd,vs,rel,dd⟩:=Qct I.hok e;refine wpAny_in_of (Qaq ry) hd dd.mapOf ?_;rw[<-(rel.val k).isSome_eq,<-l];exact h _ (I.tok _)
 ·subst ey;cases(show u=Value.ref b from ry);obtain⟨z,hd,xs,rel,dd⟩:=Qcs I.hok e;refine wpAny_in_heap (Uo hu) (Y4 I.hok eb) hd dd ?_;have q:=(rel.val k).isSome_eq;rw[Option.isSome_map]at q;rw[<-q,<-l];exact h _ (I.tok _)
def Qip(hu:A.units+1<cLine)(I:Inv X pins Y H s)(g:DGet H a y o)(ry:RelV y u)(h:∀s',Inv X pins Y H s'->Q (.bool (!o.isSome)) s'):
  wpAny (model X.prog X.w) A (compareOp .NotIn u (.ref a)) Q E s:=by
 rcases g with⟨kvs,k,e,ey,l⟩|⟨kvs,k,b,e,ey,eb,l⟩
 ·subst ey;obtain⟨z,hd,vs,rel,dd⟩:=Qct I.hok e;refine wpAny_notIn_of (Qaq ry) hd dd.mapOf ?_;rw[<-(rel.val k).isSome_eq,<-l];exact h _ (I.tok _)
 ·subst ey;cases(show u=Value.ref b from ry);obtain⟨z,hd,xs,rel,dd⟩:=Qcs I.hok e;refine wpAny_notIn_heap (Uo hu) (Y4 I.hok eb) hd dd ?_;have q:=(rel.val k).isSome_eq;rw[Option.isSome_map]at q;rw[<-q,<-l];exact h _ (I.tok _)
def JH{h':Heap}{t':Nat}{ob:HO}(I:Inv X pins Y H s)(mu:Mut (H a))(hs:Heap.SameBut a s.heap h')(he:∃q,h'.get? a=some q)(new:ObjOk X.prog X.w (upd H a ob) h' a ob):
  Inv X pins Y (upd H a ob) {s with heap:=h',toks:=t'}:=
 I.write (x:=a) (e:=a) mu (.inl rfl) (λb q hb z=>(hs.2 b hb).trans z) he new
def Qd9{h':Heap}{kvs:List (Key×V)}{vs:List (Key×Value)}(z:kvs.length<=sizeLine)(hd:(a==sysModules)=false)(rel:KV kvs vs)(dd:h'.DictOf (Qq P w) a vs):
  ObjOk P w H' h' a (.dK kvs):=⟨z,hd,vs,rel,dd⟩
def Qed{Q:Unit->Shared->Prop}(hu:A.units+1<cLine)(I:Inv X pins Y H s)(g:DPut H a y v H')(ry:RelV y u)(rv:RelV v r)(h:∀s',Inv X pins Y H' s'->Q () s'):
  wpAny (model X.prog X.w) A (setItem (.ref a) u r) Q E s:=by
 rcases g with⟨kvs,k,e,ey,l,eH⟩|⟨kvs,k,b,e,ey,eb,l,eH⟩
 ·subst ey eH;obtain⟨z,hd,vs,rel,dd⟩:=Qcu I.hok e
  have hz:vs.length<=sizeLine:=by rw[<-rel.length];exact z
  have hl:(Z7 kvs k v).length<=sizeLine:=by have:=Q4 kvs k v;omega
  refine wpAny_setItem_pairs (hsz:=hz) (Qaq ry) dd λh' dd' hs=>h _ ?_;have he:∃q,h'.get? a=some q:=let ⟨q,_,_,hq,_⟩:=dd';⟨q,hq⟩
  exact JH I (by rw[e];exact True.intro) hs he (Qd9 hl hd (rel.put k rv) dd')
 ·subst ey eH;cases(show u=Value.ref b from ry);obtain⟨z,hd,xs,rel,dd⟩:=Qnt I.hok e
  have hz:xs.length<=sizeLine:=by rw[<-Wj rel];exact z
  have hl:(Z7 kvs k v).length<=sizeLine:=by have:=Q4 kvs k v;omega
  refine wpAny_setItem_heap (hsz:=hz) (Uo hu) (Y4 I.hok eb) dd λh' dd' hs=>h _ ?_;obtain⟨q,es,ep,hq,h2,h3,h4,_,h5⟩:=dd'
  refine JH I (by rw[e];exact True.intro) hs ⟨q,hq⟩ ⟨hl,hd,_,(rel.put k eb rv).keeps λc ys ec=>?_,q,es,ep,hq,h2,h3,h4,h5⟩
  rw[Qb (QmU ec e (λz=>nomatch z))];exact ec
end
def Qbi(I:Inv X pins Y H s)(g:DGet H a y o):s.TypeIs (.ref a) "dict":=by
 rcases g with⟨kvs,k,e,_,_⟩|⟨kvs,k,b,e,_,_,_⟩
 ·obtain⟨_,_,vs,_,dd⟩:=Qct I.hok e;exact dd.typeIs
 ·obtain⟨_,_,xs,_,dd⟩:=Qcs I.hok e;exact dd.typeIs
def QfS(h:Heap)(hb:sysModules<h.objs.size):ObjOk P w H (h.push {cls:=.type "dict",data:=.dict #[]}) h.objs.size (.dK []):=
 ⟨Vy _,Wm.mpr (X9 (Xn hb)),[],.nil,Heap.DictOf.new h⟩
def Qjq:TE:=λz H Q=>∀p,H p=none->Q (.ref p) (upd H p (.dK []))
section
variable {pos:Pos}
def Qff:PE X (.Dict [] [] pos) Qjq:=λpins s Y H Q I h=>
 wpAny_Dict_empty ⟨.ref s.heap.objs.size,_,I.laid (a:=s.heap.objs.size) (o:=.dK []) (t':=s.toks) (λz z q=>Xb _ q) (Xm _) (QfS s.heap I.big),rfl,h _ (I.hok.fresh (Xm _))⟩
end
abbrev VV:List (V×V)->List (Value×Value)->Prop:=Paired λp q=>RelV p.1 q.1/\RelV p.2 q.2
noncomputable def Q3(kvs more:List (Key×V)):List (Key×V):=more.foldl (λacc kv=>Z7 acc kv.1 kv.2) kvs
def KV.merge:∀{more:List (Key×V)} {rs:List (Key×Value)} {kvs:List (Key×V)} {vs:List (Key×Value)},KV more rs->KV kvs vs->KV (Q3 kvs more) (merged vs rs):=by
 intro more rs kvs vs r;unfold KV at r
 induction r generalizing kvs vs with
 |nil=>intro q;exact q
 | @cons p q ps qs h t ih=>
  intro r0
  have e:KV (Z7 kvs p.1 p.2) (stored vs q.1 q.2):=by
   have:=r0.put p.1 h.2;rw[<-h.1];exact this
  exact ih e
theorem ZF:∀(more kvs:List (Key×V)),(Q3 kvs more).length<=kvs.length+more.length
 |[],kvs=>by show kvs.length<=kvs.length+0;omega
 |p::r,kvs=>by
  have h1:=ZF r (Z7 kvs p.1 p.2);have h2:=Q4 kvs p.1 p.2;show(Q3 (Z7 kvs p.1 p.2) r).length<=_;rw[X7];omega
section
variable {d:V}{r:Value}{E:Value->Shared->Prop}
def Qk7(hu:A.units+1<cLine)(I:Inv X pins Y H s)(g:DGet H a y o)(ry:RelV y u)(rd:RelV d r)(h:∀w' s',Inv X pins Y H s'->RelV (o.getD d) w'->Q w' s'):
  wpAny (model X.prog X.w) A (call (.builtin "dict.get") [.ref a,u,r]) Q E s:=by
 rcases g with⟨kvs,k,e,ey,l⟩|⟨kvs,k,b,e,ey,eb,l⟩
 ·subst ey;obtain⟨z,hd,vs,rel,dd⟩:=Qct I.hok e;refine call_meetsIn Tw dd.typeIs PySem.F.entry_dict_get (PySem.F.args_dict_get_3 _ _ _) (meets_dict_get_default (Qq X.prog X.w) a (Qaq ry) hd r) ⟨_,dd.mapOf,h _ _ (I.tok _) ?_⟩;rw[l];exact(rel.val k).getD rd
 ·subst ey;cases(show u=Value.ref b from ry);obtain⟨z,hd,xs,rel,dd⟩:=Qcs I.hok e;refine call_meetsIn Tw dd.typeIs PySem.F.entry_dict_get (PySem.F.args_dict_get_3 _ _ _) (meetsH_dict_get_default (tupleKind (Qq X.prog X.w)) a b hd r) ⟨Uo hu,k,xs,Y4 I.hok eb,dd,h _ _ (I.tok _) ?_⟩;rw[l];exact(rel.val k).getD rd
end
end
end L2
namespace Att
open PySem PySem.W PySem.Calls PyProof.Rows
def Yr{P:Params}{h:Heap}:∀(ns:List Int) (vs:List Value),WellAll P h vs (ns.map WData.int)->IntsAre vs ns:=by
 intro ns
 induction ns with
 |nil=>
  intro vs w;rw[Uw]at w;cases w;exact .nil
 |cons n ns ih=>
  intro vs w;rw[X0]at w
  cases w with
  |cons a b=>
   cases a;exact .cons _ _ (ih _ b)
def Qc6{l:OpenLaw}{n:Nat}(hn:l.most=some n){P:Params}{h:Heap}{args:List WData}{vals:List Value}
  (hpre:l.row.toRowW.claim.pre args=true) (hwl:WellAll P h vals args):
  ∃a vs ns,vals=[Value.ref a]/\args=[WData.list (ns.map WData.int)]/\h.get? a=some {cls:=.type "list",data:=.seq vs.toArray}/\IntsAre vs ns/\ns.length<=n:=by
 have hsh:WShape.hasAll [] args [.list .int]=true:=(pre_splitW hpre).1;have hc:l.pre.holds [] {args:=args}=true:=(pre_splitW hpre).2;obtain⟨d,r,rfl,h1,h2⟩:=hasAllW_cons hsh;obtain rfl:=hasAllW_nil h2;obtain⟨xs,rfl,h3⟩:=hasW_list h1;obtain⟨ns,rfl⟩:=items_int h3
 have hlen:ns.length<=n:=by
  unfold OpenLaw.pre at hc
  have h4:(WTm.not (.lt (.lit (.int (n:Int))) (.len (.arg 0)))).holds [] {args:=[.list (ns.map .int)]}=true:=by
   have h4:=(holds_andW hc).1;rw[hn]at h4;exact h4
  have h5:=condW_of h4 (w_not (w_lt w_lit (w_len_list (w_arg rfl))));rw[Xl]at h5;refine Ts λq=>?_
  have q':(n:Int) < ((ns.length:Nat):Int):=by omega
  first
   | (rw[X4 q']at h5;exact absurd h5 (by decide))
   | (simp at h5;omega)
 cases hwl with
 |cons w1 w2=>
  cases w2
  cases w1 with
  |list ho hall=>exact⟨_,_,ns,rfl,rfl,ho,Yr ns _ hall,hlen⟩
def Qdm(l:OpenLaw)(args:List WData):l.row.toRowW.claim.post args (.bool true) args=true :=
 postW_of (r:=l.row.toRowW) (X:=(true==true))
  (show WShape.has [] (.bool true) .bool=true by first|rfl|decide|simp[WShape.has,WShape.arms,WShape.armsAll])
  (show(WTm.eq .res (.lit (.bool true))).value [] {args:=args,res:=some (.bool true),after:=args}=some (.bool (true==true))from w_eq_bool (w_res rfl) w_lit) rfl
def attach_call{l:OpenLaw}{n:Nat}{q:Program}{loose:List Str}{XP:(Str->Option Value)->Heap->Prop}{YP:World->Heap->Prop}{d:DefRec}
  (hn:l.most=some n) (hdf:d.params.defaults=[])
  (call:∀(w:World) (s₀ s₁:Shared) (mg mb:Str->Option Value) (fa:Addr) (o:Obj) (pm cd doc:Value) (a:Addr) (vs:List Value) (ns:List Int),
   Ground q loose [] XP w s₀ mg mb s₁.heap->YP w s₁.heap ->
   s₁.heap.get? fa=some o->o.data=.func (docDef d.name d.params d.body d.scope pm cd doc)->s₁.heap.CodeRec cd d.name->mg d.name=some (.ref fa) ->
   s₁.heap.get? a=some {cls:=.type "list",data:=.seq vs.toArray}->IntsAre vs ns->ns.length<=n->s₁.gens=#[] ->
   codeAny (model l.prog w) callerA (.call (.ref fa) ⟨[.ref a],[]⟩) (λr s'=>r=.ok (.ret (.bool true))/\OldK s₁.heap s'.heap/\s'.os=s₁.os/\AllBare s'.gens) s₁):
  WalkO q loose XP YP l.row.toRowW d [] (λf vs=>PySem.call f vs):=by
 intro w s₀ s₁ mg mb G Yyy fa o pm cd doc dV kV ho hd hcd hD hmg hg args vals as hpre hlay hrd hwl hlo;obtain rfl:dV=.none:=Dflts.none hD hdf;obtain rfl:kV=.none:=Dflts.noKw hD;obtain⟨a,vs,ns,rfl,rfl,hobj,hints,hlen⟩:=Qc6 hn hpre hwl;refine enter_call (Uv (call w s₀ s₁ mg mb fa o pm cd doc a vs ns G Yyy ho (fd_plain hd) hcd hmg hobj hints hlen hg) λr s' hq=>?_);obtain⟨rfl,h2,h3,h4⟩:=hq;exact⟨.inl ⟨.bool true,.bool true,[],rfl,λz=>rfl,.bool true,Qdm l _,λz=>⟨List.Pairwise.nil,λz hm=>(nomatch hm)⟩⟩,h2,h3,h4⟩
end Att
namespace L2
open PySem PySem.Spec PyProof.Rows
section
theorem JT:∀{vs:List Value} {ns:List Int},IntsAre vs ns->Vals (ns.map V.int) vs
 |_,_,.nil=>.nil
 |_,_,.cons n t h=>.cons ⟨t,rfl⟩ (JT h)
def QlT(H:Hp):Prop:=∀b,H b=none\/∃o xs,H b=some (.frz o (.lst xs))
def Qfu{P:Program}{w:World}{K:W.Frag}{mg mb:Str->Option Value}{CX:CXT}{k:Nat}{fa a:Addr}{fd:FuncData}{x:Str}{sp:Sp}{s₁:Shared}{vs:List Value}{ns:List Int}
  (KX:K.In s₁.heap) (hns:s₁.heap.Ns mainGlobals mg) (hb:s₁.heap.Ns builtinsNs mb) (hbb:∀x:Str,x≠"__name__"->mb x=bootBuiltins x) (hlim:s₁.heap.NoLimit) (hg:s₁.gens=#[])
  (ha:s₁.heap.get? a=some {cls:=.type "list",data:=.seq vs.toArray}) (hi:IntsAre vs ns) (hl:ns.length<=sizeLine) (hr:Room k callerA)
  (F:∀base:Heap,K.In base->base.Ns mainGlobals mg->FnOk P w K mg base CX k fa fd [x] sp) (hbind:∀(s:Shared) (u:Value),BindsTo s fd ⟨[u],[]⟩ [(x,u)])
  (hsp:∀H:Hp,QlT H->SqL K H a (ns.map V.int)->sp [.ref a] H (λv y=>v=.bl true) λy y y=>False)
  (hCX:∀H e s',CX [] H s₁ (λy y y=>False) e s'->False):
  codeAny (model P w) callerA (.call (.ref fa) ⟨[.ref a],[]⟩) (λr s'=>r=.ok (.ret (.bool true))/\OldK s₁.heap s'.heap/\s'.os=s₁.os/\AllBare s'.gens) s₁:=by
 have rv:=JT hi;have lenV:=hi.length
 have core:∀H:Hp,QlT H->SqL K H a (ns.map V.int)->HOk P w H s₁.heap->(∀b,H b≠none->b=a)->(H a≠none->K.lookup a=none) ->
   codeAny (model P w) callerA (.call (.ref fa) ⟨[.ref a],[]⟩) (λr s'=>r=.ok (.ret (.bool true))/\OldK s₁.heap s'.heap/\s'.os=s₁.os/\AllBare s'.gens) s₁:=by
  intro H hO hS hok hA hK;have base_of:∀{b:Addr} {o:Obj},s₁.heap.get? b=some o->H b=none->(QfG s₁.heap H).get? b=some o:=λe n=>QfF e n
  have noA:∀{b:Addr} {o:Obj} {es:Array DictEntry} {ep:Nat},s₁.heap.get? b=some o->o.data=.dict es ep->H b=none:=λ{b o es ep} e d=>by
   cases q:H b with
   |none=>rfl
   |some u=>
    have e':b=a:=hA b (by rw[q];simp)
    subst e';rw[ha]at e;cases e;have d':Data.seq vs.toArray _=Data.dict es ep:=d;cases d'
  have nsK:∀{b:Addr} {m:Str->Option Value},s₁.heap.Ns b m->(QfG s₁.heap H).Ns b m:=λ{b m} ⟨o,es,ep,e,d,r⟩=>⟨o,es,ep,base_of e (noA e d),d,r⟩
  have hKb:K.In (QfG s₁.heap H):=λb o e=>base_of (KX b o e) (by
   cases q:H b with
   |none=>rfl
   |some u=>
    have e':b=a:=hA b (by rw[q];simp)
    subst e'
    rw[hK (by rw[q];simp)]at e;cases e)
  have hM:Mod K mg (QfG s₁.heap H):=⟨hKb,nsK hns,⟨mb,nsK hb,hbb⟩,let ⟨mc,h1,h2⟩:=hlim;⟨mc,nsK h1,h2⟩⟩
  have e0:Env0 P w K mg (QfG s₁.heap H) callerA [] s₁ H:=⟨rfl,hM,λb o e=>QhS e,Nat.le_of_eq (Qd3 _ _),trivial,λb hb=>absurd (show b∈([]:List Addr)from hb) (by simp),hok,.of_eq hg⟩
  refine Uv ((F _ hKb (nsK hns)).run callerA [] s₁ H ⟨[.ref a],[]⟩ [.ref a] [.ref a] _ _ hr e0 (hbind s₁ (.ref a)) (.cons rfl .nil) (hsp H hO hS)) λr s' h=>?_
  cases r with
  |error e=>exact(hCX H e s' h).elim
  |ok fl=>
   cases fl with
   |next=>exact False.elim h
   |brk=>exact False.elim h
   |cont=>exact False.elim h
   |ret u=>
    obtain⟨v,H',os,bare,un,hok',r',q⟩:=h;have q':v=.bl true:=q;subst q';obtain rfl:u=Value.bool true:=r';refine⟨rfl,OldK.of_keep λb o e=>?_,os,bare⟩
    cases q:H b with
    |none=>exact un.keep b o e q (by intro z;exact absurd (show b∈([]:List Addr)from z) (by simp)) (by simp)
    |some u=>
     rcases hO b with z|⟨ob,xs,z⟩
     ·rw[q]at z;cases z
     ·have z2:=un.frzs b ob _ z;obtain⟨e1,_⟩:=hok b _ z;obtain⟨e2,_⟩:=hok' b _ z2;rw[e]at e1;cases e1;exact e2
 cases hk:K.lookup a with
 |some o=>
  have e:=KX a o hk;rw[ha]at e;cases e
  refine core (λy=>none) (λy=>.inl rfl) (.inr ⟨_,vs.toArray,_,hk,rfl,rfl,rfl,by rw[Xz,lenV];exact hl,by simpa using rv⟩) (λb u z=>by have z':(none:Option HO)=some u:=z;cases z') (λb z=>absurd rfl z) λz=>absurd rfl z
 |none=>
  refine core (λb=>if b=a then some (.frz {cls:=.type "list",data:=.seq vs.toArray} (.lst (ns.map V.int)))else none) (λb=>?_) (.inl (.inr ⟨{cls:=.type "list",data:=.seq vs.toArray},if_pos rfl⟩)) (λb u z=>?_) (λb z=>?_) λy=>hk
  ·by_cases hb:b=a
   ·exact .inr ⟨_,_,if_pos hb⟩
   ·exact .inl (if_neg hb)
  ·by_cases hb:b=a
   ·have z':=(if_pos hb).symm.trans z;cases z';subst hb
    exact⟨ha,by rw[Xl];exact hl,vs,_,rv,ha⟩
   ·have z':=(if_neg hb).symm.trans z;cases z'
  ·by_cases hb:b=a
   ·exact hb
   ·exact absurd (if_neg hb) z
end
section
noncomputable abbrev KOf{K:W.Frag}{h:Heap}(_:K.In h):W.Frag:=K
def walk_of{l:W.OpenLaw}{n k:Nat}{q:Program}{loose:List Str}{XP:(Str->Option Value)->Heap->Prop}{YP:World->Heap->Prop}{d:DefRec}{K:Params->W.Frag}{CX:World->CXT}{sp:World->Sp}{x:Str}
  (hn:l.most=some n) (hn2:n<=sizeLine) (hdf:d.params.defaults=[]) (hr:Room k callerA)
  (hY:∀(w:World) (h:Heap),YP w h->(K w.params).In h)
  (F:∀(w:World) (mg:Str->Option Value) (fa:Addr) (h:Heap),(K w.params).In h->h.Ns mainGlobals mg->mg d.name=some (.ref fa) ->
   ∃fd:FuncData,(∀(s:Shared) (u:Value),BindsTo s fd ⟨[u],[]⟩ [(x,u)]) /\
    ∀base:Heap,(K w.params).In base->base.Ns mainGlobals mg->FnOk l.prog w (K w.params) mg base (CX w) k fa fd [x] (sp w))
  (hsp:∀(w:World) (H:Hp) (a:Addr) (ns:List Int),ns.length<=n->QlT H->SqL (K w.params) H a (ns.map V.int)->sp w [.ref a] H (λv z=>v=.bl true) λz z z=>False)
  (hCX:∀(w:World) (H:Hp) (s:Shared) (e:Value) (s':Shared),CX w [] H s (λz z z=>False) e s'->False):
  W.WalkO q loose XP YP l.row.toRowW d [] (λf vs=>PySem.call f vs):=by
 refine Att.attach_call hn hdf λw s₀ s₁ mg mb fa o pm cd doc a vs ns G Yyy ho hd hcd hmg hobj hints hlen hg=>?_;have KX:=hY w _ Yyy;obtain⟨fd,hb,hF⟩:=F w mg fa _ KX G.T.g hmg;exact Qfu KX G.T.g G.T.b G.T.builtins G.T.nolimit hg hobj hints (X6 hlen hn2) hr hF hb (λH hO hS=>hsp w H a ns hlen hO hS) λH e s'=>hCX w H s₁ e s'
end
section
noncomputable def QF(s:Stmt)(j:Nat):Stmt:=match s with
 |.ClassDef _ _ _ body _ _ _ _ _ _ _=>body.getD j (.Pass ⟨0,0,0,0⟩)
 |_=>.Pass ⟨0,0,0,0⟩
noncomputable def Yt(s:Stmt):Arguments:=match s with
 |.FunctionDef _ a _ _ _ _ _ _ _ _=>a
 |_=>{posonlyargs:=[],args:=[],vararg:=none,kwonlyargs:=[],kw_defaults:=[],kwarg:=none,defaults:=[]}
noncomputable def QY(s:Stmt):List Stmt:=match s with
 |.FunctionDef _ _ b _ _ _ _ _ _ _=>b
 |_=>[]
noncomputable def Qh(s:Stmt):Scope:=match s with
 |.FunctionDef _ _ _ _ _ _ sc _ _ _=>sc
 |_=>{kind:=.function,names:=[],isGenerator:=false,isCoroutine:=false}
abbrev CX0:CXT:=λz z z z z z=>False
abbrev E0:XK:=λz z z=>False
def Qce{X:Cx}:ZK CX0 X E0:=λz z z z z z z h=>h.elim
def Qnf{A:Around}{k:Nat}(hr:Room k A):A.units+1<cLine:=Nat.lt_of_le_of_lt (Nat.add_le_add_left (by decide:1<=64) _) hr.units
section
variable {κ:Type}[DecidableEq κ]
end
end
end L2
namespace Iv
open PySem
noncomputable def Qm6(sep:List Nat):List (List Nat)->List Nat
 |[]=>[]
 |[x]=>x
 |x::y::r=>x++sep++Qm6 sep (y::r)
noncomputable def Qf9(c:Nat):List Nat->List (List Nat)
 |[]=>[[]]
 |a::r=>if a=c then []::Qf9 c r else match Qf9 c r with
  |[]=>[[a]]
  |p::ps=>(a::p)::ps
end Iv
namespace L2
open PySem PySem.Spec PyProof.Rows Builtin Builtin.Str
section
variable {X:Cx}
def Qhh:V->List V->Hp->VK->Prop:=λx vs H Q=>∃a k y kvs,x=.ref a/\vs=[kV k,y]/\H a=some (.dK kvs)/\kvs.length<sizeLine/\(∀z,ZM kvs k=some z->Q z H)/\(ZM kvs k=none->Q y (upd H a (.dK (kvs++[(k,y)]))))
def QdN:MtR X "dict.setdefault" Qhh:=by
 intro pins s Y H x vs v us Q I rx rv h;obtain⟨a,k,y,kvs,rfl,rfl,hH,hz,q1,q2⟩:=h;cases rx;obtain⟨uk,uy,rfl,rk,ry⟩:=Qb2 rv;obtain⟨z,hd,ws,rel,dd⟩:=Qcu I.hok hH
 refine call_meetsIn F.slot_dict_setdefault dd.typeIs F.entry_dict_setdefault (F.args_dict_setdefault_3 _ _ _) (kt_meets_setdefault (Qq X.prog X.w) a (Qaq rk) hd uy)
  ⟨ws,dd,by rw[<-rel.length];exact z,λw' hw=>?_,λhn h' dd' hs=>?_⟩
 ·have rr:=rel.val k;rw[hw]at rr
  cases e:ZM kvs k with
  |none=>rw[e]at rr;exact(show False from rr).elim
  |some z=>rw[e]at rr;exact⟨z,H,I.tok _,rr,q1 z e⟩
 ·have e:ZM kvs k=none:=by
   have rr:=rel.val k;rw[hn]at rr
   cases e:ZM kvs k with
   |none=>rfl
   |some z=>rw[e]at rr;exact(show False from rr).elim
  have he:∃q,h'.get? a=some q:=(by obtain⟨q,_,_,hq,_⟩:=dd';exact⟨q,hq⟩);have e2:=Qe8 y e
  have hl:(Z7 kvs k y).length<=sizeLine:=by have:=Q4 kvs k y;omega
  have I2:=JH (t':=s.toks+1) I (by rw[hH];exact True.intro) hs he (Qd9 hl hd (rel.put k ry) dd')
  rw[e2]at I2;exact⟨y,_,I2,ry,q2 e⟩
end
end L2
namespace L2
open PySem PySem.Spec PyProof.Rows
section
variable {X:Cx}
theorem Yx:∀{bs:List Bool} {us:List Value},Vals (bs.map V.bl) us->∀(i:Nat) v,us[i]?=some v->∃b,bs[i]?=some b/\v=.bool b
 |[],us,r,i,v,e=>by rw[Uw]at r;cases r;simp at e
 |b::bs,us,r,i,v,e=>by
  rw[X0]at r
  cases r with
  |cons h t=>
   cases(show _=Value.bool b from h)
   cases i with
   |zero=>simp at e;exact⟨b,rfl,e.symm⟩
   |succ i=>simpa using Yx t i v (by simpa using e)
def Qp0(bs:List Bool):((List.range bs.length).any λi=>(bs[i]?).getD false)=bs.any id:=LSm.range_any bs
def Qp1(bs:List Bool):((List.range bs.length).all λi=>(bs[i]?).getD true)=bs.all id:=LSm.range_all bs
def Qel(hc:X.calm=true): CallR X (.builtin "any") (λxs H Q=>∃(a:Addr) (bs:List Bool),xs=[.ref a]/\SqL X.K H a (bs.map V.bl)/\Q (.bl (bs.any id)) H):= by
 intro pins s Y H xs us Q I r h;obtain⟨a,bs,rfl,hq,q⟩:=h;obtain⟨u,rfl,rx⟩:=Jg r;cases rx;obtain⟨its,rr,pl,hz⟩:=I.list hq;have hl:=pl.isList
 have hlt:a<s.heap.objs.size:=by obtain⟨_,e,_⟩:=hl;exact Xg e
 have hlen:=rr.length;rw[Xl]at hlen;refine call_any_walk (Vf hl ?_)
 refine⟨s.heap.objs.size,[s.heap.objs.size,a],[s.heap.objs.size],its.toArray.size,_,_,λi=>(bs[i]?).getD false,rfl,Walks.list (A:=X.A.in1) (I.ok.hd hc) _ a (Xn hlt) its.toArray,
  ⟨⟨_,Xo _ rfl,rfl,rfl⟩,hl.push _⟩,λi v s' Q' E' hP hQ=>?_,λh' tk hk=>?_⟩
 ·obtain⟨b,e,rfl⟩:=Yx rr i v (by simpa using hP)
  simp only[e,Vx]at hQ;exact Ub hQ
 ·have e:((List.range its.toArray.size).any λi=>(bs[i]?).getD false)=bs.any id:=by
   rw[Xz,<-hlen];exact Qp0 bs
  rw[e];exact⟨.bl _,H,I.kept (t':=tk) (LSm.kept_iter hk),rfl,q⟩
def Qem(hc:X.calm=true): CallR X (.builtin "all") (λxs H Q=>∃(a:Addr) (bs:List Bool),xs=[.ref a]/\SqL X.K H a (bs.map V.bl)/\Q (.bl (bs.all id)) H):= by
 intro pins s Y H xs us Q I r h;obtain⟨a,bs,rfl,hq,q⟩:=h;obtain⟨u,rfl,rx⟩:=Jg r;cases rx;obtain⟨its,rr,pl,hz⟩:=I.list hq;have hl:=pl.isList
 have hlt:a<s.heap.objs.size:=by obtain⟨_,e,_⟩:=hl;exact Xg e
 have hlen:=rr.length;rw[Xl]at hlen;refine call_all_walk (Vf hl ?_)
 refine⟨s.heap.objs.size,[s.heap.objs.size,a],[s.heap.objs.size],its.toArray.size,_,_,λi=>(bs[i]?).getD true,rfl,Walks.list (A:=X.A.in1) (I.ok.hd hc) _ a (Xn hlt) its.toArray,
  ⟨⟨_,Xo _ rfl,rfl,rfl⟩,hl.push _⟩,λi v s' Q' E' hP hQ=>?_,λh' tk hk=>?_⟩
 ·obtain⟨b,e,rfl⟩:=Yx rr i v (by simpa using hP)
  simp only[e,Vx]at hQ;exact Ub hQ
 ·have e:((List.range its.toArray.size).all λi=>(bs[i]?).getD true)=bs.all id:=by
   rw[Xz,<-hlen];exact Qp1 bs
  rw[e];exact⟨.bl _,H,I.kept (t':=tk) (LSm.kept_iter hk),rfl,q⟩
end
end L2
namespace L2
open PySem PySem.Spec PySem.W PyProof.Rows
section
variable {p:Array Nat}{m n:Nat}
noncomputable def Qge{α:Type}(lt:Nat->Nat->Bool):KasT α->α
 |.ret a=>a
 |.ask i j k=>Qge lt (k (lt i j))
def InR{α:Type}(n:Nat)(P:α->Prop):KasT α->Prop
 |.ret a=>P a
 |.ask i j k=>i<n/\j<n/\∀b,InR n P (k b)
theorem InR.bind{α β:Type}{n:Nat}{P:α->Prop}{R:β->Prop}{f:α->KasT β}:∀{t:KasT α},InR n P t->(∀a,P a->InR n R (f a))->InR n R (t.bind f)
 |.ret a,h,hf=>hf a h
 |.ask i j k,h,hf=>⟨h.1,h.2.1,λb=>InR.bind (h.2.2 b) hf⟩
theorem InR.run{α:Type}{n:Nat}{P:α->Prop}{lt:Nat->Nat->Bool}:∀{t:KasT α},InR n P t->P (Qge lt t)
 |.ret a,h=>h
 |.ask i j k,h=>show P (Qge lt (k (lt i j)))from InR.run (t:=k (lt i j)) (h.2.2 (lt i j))
theorem InR.wp{α:Type}{n:Nat}{P:α->Prop}{lt:Nat->Nat->Bool}{cmp:Nat->Nat->(Bool->Shared->Prop)->Shared->Prop}{s:Shared}{Q:α->Shared->Prop}(hc:∀i j C,i<n->j<n->C (lt i j) s->cmp i j C s):
  ∀{t:KasT α},InR n P t->Q (Qge lt t) s->t.kasWp cmp Q s
 |.ret a,h,q=>q
 |.ask i j k,h,q=>hc i j _ h.1 h.2.1 (InR.wp hc (t:=k (lt i j)) (h.2.2 (lt i j)) q)
def Bd(n:Nat)(p:Array Nat):Prop:=0<n/\p.Perm (List.toArray (List.range n))
def Bd.get(h:Bd n p)(i:Nat):p.getD i 0<n:=by
 by_cases hi:i<p.size
 ·have e:p.getD i 0=p[i]:=by simp[Array.getD,hi]
  rw[e];have:=h.2.mem_iff.mp (Array.getElem_mem hi);simpa using this
 ·have e:p.getD i 0=0:=by simp[Array.getD,hi]
  rw[e];exact h.1
def Bd.perm{q:Array Nat}(h:Bd n p)(e:q.Perm p):Bd n q:=⟨h.1,e.trans h.2⟩
def Bd.rev{i j:Nat}(h:Bd n p):Bd n (kas_rev p i j):=h.perm (mirror_perm _ _ _ _)
def Bd.bub{i j:Nat}(h:Bd n p):Bd n (bubble p i j):=h.perm (bubble_perm _ _ _)
theorem Qhf{n:Nat}{p:Array Nat}(h:Bd n p):∀f i,InR n (λz=>True) (kas_asc p f i)
 |0,_=>trivial
 |f+1,i=>⟨h.get _,h.get _,λb=>by
  cases b
  ·exact Qhf h f (i+1)
  ·exact trivial⟩
theorem Qbz{n:Nat}:∀f (p:Array Nat) i q,Bd n p->InR n (λr=>Bd n r.1) (kas_desc f p i q)
 |0,p,i,q,h=>h
 |f+1,p,i,q,h=>⟨h.get _,h.get _,λb=>by
  cases b
  ·refine⟨h.get _,h.get _,λb=>?_⟩;cases b
   ·exact Qbz f p _ _ h
   ·exact h
  ·show InR n _ (if q>0 then _ else _);split
   ·exact Qbz f _ _ _ h.rev
   ·exact Qbz f _ _ _ h⟩
def Qdc{k:Nat}(h:Bd n p):InR n (λr=>Bd n r.2) (kas_tail3 k m p):=(Qhf h.rev _ _).bind λa z=>h.rev
def YW{k:Nat}(h:Bd n p):InR n (λr=>Bd n r.2) (kas_descPart k m p):=by
 refine(Qbz _ _ _ _ h).bind λr hr=>?_;split
 ·exact Qdc hr.rev
 ·exact Qdc hr
def Qhe(h:Bd n p):InR n (λr=>Bd n r.2) (kas_count m p):=by
 refine(Qhf h _ _).bind λk z=>?_;split
 ·exact h
 ·split
  ·refine⟨h.get _,h.get _,λb=>?_⟩;cases b
   ·exact YW h.rev
   ·exact h
  ·exact YW h
theorem QaW{n:Nat}{p:Array Nat}{k:Nat}(h:Bd n p):∀f l r,InR n (λz=>True) (kas_place p k f l r)
 |0,_,_=>trivial
 |f+1,l,r=>by
  unfold kas_place;split
  ·exact trivial
  ·refine⟨h.get _,h.get _,λb=>?_⟩;cases b
   ·exact QaW h f _ _
   ·exact QaW h f _ _
theorem QjS{n:Nat}:∀f (p:Array Nat) k,Bd n p->InR n (Bd n) (kas_bin f p k)
 |0,p,k,h=>h
 |f+1,p,k,h=>(QaW h _ _ _).bind λl z=>QjS f _ _ h.bub
def Qgg(hn:0<n):InR n (Bd n) (kas_sort n):=by
 have h0:Bd n (List.toArray (List.range n)):=⟨hn,Array.Perm.refl _⟩;refine(Qhe h0).bind λr hr=>?_;split
 ·exact QjS _ _ _ hr
 ·exact hr
noncomputable def QeE:List Int->List Int->Bool
 |[],[]=>false
 |[],_::_=>true
 |_::_,[]=>false
 |x::xs,y::ys=>if x=y then QeE xs ys else decide (x<y)
noncomputable def ltK(ks:List (List Int))(i j:Nat):Bool:=QeE (ks.getD i []) (ks.getD j [])
noncomputable def permK(ks:List (List Int))(n:Nat):List Nat:=if n<2 then List.range n else(Qge (ltK ks) (kas_sort n)).toList
section
variable {prog:Program}{w:World}{A:Around}{E:Value->Shared->Prop}{s:Shared}
def Qls(κ:SortKind)(z:Array Keyed):arrOf (SortSt.mk' κ z #[] 7 none)=z:=rfl
def Qc3(vs:List Value)(h:vs.length<2):(arrOf (SortSt.mk' general' (vs.toArray.zip vs.toArray) #[] 7 none)).map (·.2)=List.toArray ((List.range vs.length).map λi=>vs.getD i .none):=by
 rw[Qls]
 match vs,h with
 |[],_=>simp
 |[v],_=>simp[List.range,List.range.loop]
 |_::_::_,h=>simp at h;omega
def Yg{v:Value}{vs:List Value}{κ:SortKind}{ks:List (List Int)}{Q:Value->Shared->Prop}(h64:vs.length<64)
  (hcol:∀(A':Around) (E':Value->Shared->Prop) (Q':List Value->Shared->Prop),A'.handled=A.handled->(∀h1 tk,s.heap.objs.size<=h1.objs.size->(∀b o,s.heap.get? b=some o->h1.get? b=some o)->Q' vs {s with heap:=h1,toks:=tk})->wpAny (model prog w) A' (collect v) Q' E' s)
  (hk:2<=vs.length->∀h' tk A' (Q':SortKind->Shared->Prop),(∀b o,s.heap.get? b=some o->h'.get? b=some o)->Q' κ {s with heap:=h',toks:=tk}->wpAny (model prog w) A' (keyKind' vs.toArray) Q' (λz z=>False) {s with heap:=h',toks:=tk})
  (hlt:2<=vs.length->∀h' tk A' (Q':Bool->Shared->Prop) i j,(∀b o,s.heap.get? b=some o->h'.get? b=some o)->i<vs.length->j<vs.length->Q' (ltK ks i j) {s with heap:=h',toks:=tk} ->
   wpAny (model prog w) A' (keyLt' κ (vs.getD i .none) (vs.getD j .none)) Q' (λz z=>False) {s with heap:=h',toks:=tk})
  (hQ:∀h' tk c D,s.heap.objs.size<=D->(∀b o,s.heap.get? b=some o->h'.get? b=some o)->h'.get? D=some (seqObj "list" (List.toArray ((permK ks vs.length).map λi=>vs.getD i .none)) c)->Q (.ref D) {s with heap:=h',toks:=tk}):
  wpAny (model prog w) A (call (.builtin "sorted") [v]) Q E s:=by
 refine Calls.call_function_entry kind_sorted plain_sorted entry_sorted (args_sorted1 _) ?_;unfold Builtin.«sorted»;refine Xa (m:=checkCount "sorted" 1 1 _) (Xf ?_);refine Xa (hcol _ _ _ rfl λh1 tk hsz k1=>?_)
 refine Xa (wpAny_newList ?_ (by rw[W6];omega))
 have hoL:(h1.push (seqObj "list" vs.toArray 0)).get? h1.objs.size=some (seqObj "list" vs.toArray 0):=Xo _ rfl;show wpAny _ _ _ _ _ {s with heap:=h1.push (seqObj "list" vs.toArray 0),toks:=tk};generalize ha:h1.objs.size=a at hoL hsz;refine Xa (Wu (Vm slot_list_sort ⟨_,hoL,rfl⟩ entry_list_sort ?_ (args_list_sort _)));have k2:∀b o,s.heap.get? b=some o->(h1.push (seqObj "list" vs.toArray 0)).get? b=some o:=λb o q=>Xb _ (k1 b o q);generalize (h1.push (seqObj "list" vs.toArray 0))=h2 at hoL k2;rw[list_sort_plain]
 have hlen:vs.toArray.size=vs.length:=by simp
 refine Xa (listItems_at (s:={s with heap:=h2,toks:=tk}) hoL rfl ?_)
 refine Xa (listUpdate_at (s:={s with heap:=h2,toks:=tk}) hoL rfl ?_ (by rw[hlen,W6];omega) (Vy _))
 obtain⟨e1,ho1⟩:∃e1,(h2.update a (Obj.mapSeq λz=>(#[]:Array Value))).get? a=some (seqObj "list" #[] e1):=⟨_,get?_update_seq hoL (λz=>#[])⟩;have hna:∀b o,s.heap.get? b=some o->b≠a:=λb o q=>Xn (Xs (Xg q) hsz);have k3:∀b o,s.heap.get? b=some o->(h2.update a (Obj.mapSeq λz=>(#[]:Array Value))).get? b=some o:=λb o q=>(W7 _ _ (X9 (hna b o q))).trans (k2 b o q);generalize (h2.update a (Obj.mapSeq λz=>(#[]:Array Value)))=h3 at ho1 k3;refine Xa (seqEpoch_at (s:={s with heap:=h3,toks:=tk}) ho1 rfl ?_)
 refine Xa (wpAny_newTuple ?_ (by show vs.length<=_;rw[W6];omega))
 refine Xa (wpAny_newList ?_ (Vy _));refine Wu ?_;show wpAny (model prog w) _ _ _ _ {s with heap:=(h3.push (seqObj "tuple" vs.toArray 0)).push (seqObj "list" #[] 0),toks:=tk};have ho4:((h3.push (seqObj "tuple" vs.toArray 0)).push (seqObj "list" #[] 0)).get? a=some (seqObj "list" #[] e1):=Xb _ (Xb _ ho1);have k4:∀b o,s.heap.get? b=some o->((h3.push (seqObj "tuple" vs.toArray 0)).push (seqObj "list" #[] 0)).get? b=some o:=λb o q=>Xb _ (Xb _ (k3 b o q));generalize ((h3.push (seqObj "tuple" vs.toArray 0)).push (seqObj "list" #[] 0))=h4 at ho4 k4;dsimp only
 have fin:∀out:Array Value,out=List.toArray ((permK ks vs.length).map λi=>vs.getD i .none)->Q (.ref a) {s with heap:=h4.update a (Obj.mapSeq λz=>out),toks:=tk}:=λout eo=>by
  obtain⟨c,hc⟩:∃c,(h4.update a (Obj.mapSeq λz=>out)).get? a=some (seqObj "list" out c):=⟨_,get?_update_seq ho4 (λz=>out)⟩;rw[eo]at hc ⊢;exact hQ _ tk c a hsz (λb o q=>(W7 _ _ (X9 (hna b o q))).trans (k4 b o q)) hc
 by_cases h2:vs.toArray.size<2
 ·rw[if_pos h2,if_pos h2];refine Xa (Xf ?_);rw[StateT.run_pure];refine Xa (Xf ?_);dsimp only;refine Xa (seqEpoch_at (s:={s with heap:=h4,toks:=tk}) ho4 rfl ?_)
  refine Xa (listUpdate_at (s:={s with heap:=h4,toks:=tk}) ho4 rfl ?_ (Vy _) (hsz2:=by rw[Array.size_map];show(pairsOf vs).size<=_;rw[pairsOf_size,W6];omega))
  simp only[bne_self_eq_false,Wr,Vh];refine Xf ⟨_,rfl,Xf ⟨_,rfl,fin ((arrOf (SortSt.mk' general' (vs.toArray.zip vs.toArray) #[] 7 none)).map (·.2)) ?_⟩⟩;rw[hlen]at h2;unfold permK;rw[if_pos h2];exact Qc3 vs h2
 ·rw[if_neg h2,if_neg h2];rw[hlen]at h2
  have h2':2<=vs.length:=by omega
  refine Xa (X2 (hk h2' h4 tk _ (λκ' s'=>κ'=κ/\s'={s with heap:=h4,toks:=tk}) k4 ⟨rfl,rfl⟩) (λκ' s' hs=>?_) λz z x=>x.elim);obtain⟨rfl,rfl⟩:=hs
  have R:=Qgg (n:=vs.length) (by omega)
  refine Xa (X2 (kat_run (Q:=λst' s'=>s'={s with heap:=h4,toks:=tk}/\arrOf st'=(Qge (ltK ks) (kas_sort vs.length)).map (kas_item (vs.toArray.zip vs.toArray))/\failedOf st'=none/\(arrOf st').size=vs.length) (G:=λp s'=>p=Qge (ltK ks) (kas_sort vs.length)/\s'={s with heap:=h4,toks:=tk})
   rfl h2' h64 (λp' st' s' a1 a2 a3 a4=>⟨a4.2,a4.1▸a2,a3,by rw[a2,Array.size_map];exact a1⟩) (InR.wp (λi j C hi hj c=>hlt h2' h4 tk _ C i j k4 hi hj c) R ⟨rfl,rfl⟩)) ?_ λz z e=>e)
  rintro⟨⟨⟩,st'⟩ s' ⟨rfl,har,hf,hsize⟩;dsimp only;have hout:=kat_snds rfl har;rw[hout];refine Xa (seqEpoch_at (s:={s with heap:=h4,toks:=tk}) ho4 rfl ?_)
  have hz:(List.toArray ((Qge (ltK ks) (kas_sort vs.length)).toList.map λi=>vs.getD i Value.none)).size<=sizeLine+1:=by
   have e:(arrOf st').size=vs.length:=hsize;have e2:((arrOf st').map (·.2)).size=vs.length:=(Array.size_map ..).trans e;rw[hout]at e2;rw[e2,W6];omega
  refine Xa (listUpdate_at (s:={s with heap:=h4,toks:=tk}) ho4 rfl ?_ (Vy _) hz);rw[hf];simp only[bne_self_eq_false,Wr,Vh];refine Xf ⟨_,rfl,Xf ⟨_,rfl,fin _ ?_⟩⟩;unfold permK;rw[if_neg h2]
def Qb6{l:Addr}{vs:List Value}{κ:SortKind}{ks:List (List Int)}{Q:Value->Shared->Prop}(hl:s.heap.IsList l vs.toArray)(h64:vs.length<64)
  (hk:2<=vs.length->∀h' tk A' (Q':SortKind->Shared->Prop),(∀b o,s.heap.get? b=some o->h'.get? b=some o)->Q' κ {s with heap:=h',toks:=tk}->wpAny (model prog w) A' (keyKind' vs.toArray) Q' (λz z=>False) {s with heap:=h',toks:=tk})
  (hlt:2<=vs.length->∀h' tk A' (Q':Bool->Shared->Prop) i j,(∀b o,s.heap.get? b=some o->h'.get? b=some o)->i<vs.length->j<vs.length->Q' (ltK ks i j) {s with heap:=h',toks:=tk} ->
   wpAny (model prog w) A' (keyLt' κ (vs.getD i .none) (vs.getD j .none)) Q' (λz z=>False) {s with heap:=h',toks:=tk})
  (hQ:∀h' tk c D,s.heap.objs.size<=D->(∀b o,s.heap.get? b=some o->h'.get? b=some o)->h'.get? D=some (seqObj "list" (List.toArray ((permK ks vs.length).map λi=>vs.getD i .none)) c)->Q (.ref D) {s with heap:=h',toks:=tk}):
  wpAny (model prog w) A (call (.builtin "sorted") [.ref l]) Q E s:=by
 have hsz:((s.heap.push (seqObj "list" #[] 0)).update s.heap.objs.size (Obj.mapSeq (·++vs.toArray))).objs.size=s.heap.objs.size+1:=by
  rw[Heap.size_update,size_push']
 refine Yg (κ:=κ) (ks:=ks) h64 (λA' E' Q' z q=>collect_list hl (q _ s.toks (by rw[hsz];exact Vs _) λb o q=>?_) (by rw[W6];omega)) (λh h' tk A' Q' kp q=>hk h h' tk A' Q' kp q) (λh h' tk=>hlt h h' tk) hQ
 have hlt:b<s.heap.objs.size:=Xg q;rw[U5 _ _ _ _ (Xn hlt),Heap.get?_push_ne _ _ _ (Xn hlt)];exact q
def permK_perm(ks:List (List Int))(n:Nat):(permK ks n).Perm (List.range n):=by
 unfold permK;split
 ·exact List.Perm.refl _
 ·exact((Qgg (n:=n) (by omega)).run (lt:=ltK ks)).2.toList
def ZW(ks:List (List Int))(n:Nat):(permK ks n).length=n:=by rw[(permK_perm ks n).length_eq,List.length_range]
theorem QdS{b:Bool}{Q:Bool->Shared->Prop}:∀{k l:List Int} {xs ys:List Value} {fin:Bool} {i:Nat},Vals (k.map V.int) xs->Vals (l.map V.int) ys->fin=decide (k.length<l.length)->Q (QeE k l) s->KatLex prog w A true fin Q (xs.zip ys) i s
 |[],l,xs,ys,fin,i,h1,h2,hf,q=>by
  cases h1;rw[List.zip_nil_left];refine kat_nil ?_
  cases l with
  |nil=>rw[hf];exact q
  |cons _ _=>rw[hf];simpa[QeE]using q
 |x::k,[],xs,ys,fin,i,h1,h2,hf,q=>by
  cases h2;rw[List.zip_nil_right];refine kat_nil ?_;rw[hf];simpa[QeE]using q
 |x::k,y::l,xs,ys,fin,i,h1,h2,hf,q=>by
  cases h1 with
  |cons r1 t1=>
   cases h2 with
   |cons r2 t2=>
    obtain⟨a1,rfl⟩:=r1;obtain⟨a2,rfl⟩:=r2;rw[List.zip_cons_cons];refine kat_cons (wpAny_eqBool_int ?_);by_cases e:x=y
    ·subst e
     rw[show(x==x)=true by simp]
     refine kat_yes (QdS (b:=b) t1 t2 (by rw[hf];simp) ?_)
     simpa[QeE]using q
    ·rw[show(x==y)=false by simp[e]]
     have q':Q (decide (x<y)) s:=by simpa[QeE,e]using q
     refine kat_no ?_
     cases i with
     |zero=>exact oneLt_int q'
     |succ i=>exact kat_one _ _ (PyProof.Rows.lt_int q')
theorem QcY{h:Heap}: ∀{vs:List Value},(∀v∈vs,∃a o xs n,∃(i:Int) (t:Tok),v=Value.ref a/\h.get? a=some o/\o.cls=.type "tuple"/\o.data=.seq xs n/\xs[0]?=some (Value.int i t))->∃fs,KatTups h vs fs/\fs.length=vs.length/\∀f∈fs,∃i t,f=Value.int i t
 |[],_=>⟨[],.nil,rfl,by simp⟩
 |v::vs,H=>by
  obtain⟨fs,t,l,f⟩:=QcY λz hz=>H z (Xp _ hz);obtain⟨a,o,xs,n,i,tk,rfl,h1,h2,h3,h4⟩:=H v (Xw ..)
  refine⟨Value.int i tk::fs,KatTups.cons h1 h2 h3 h4 t,by simp[l],λz hz=>?_⟩
  rcases X5.mp hz with rfl|hz
  ·exact⟨_,_,rfl⟩
  ·exact f z hz
end
def Qlx(K:W.Frag)(H:Hp)(ys:List V)(ks:List (List Int)):Prop:=ys.length=ks.length/\∀(i:Nat) y k,ys[i]?=some y->ks[i]?=some k->k≠[]/\∃b,y=.ref b/\SqT K H b (k.map V.int)
noncomputable def Z0(ks:List (List Int))(ys:List V):List V:=(permK ks ys.length).map λi=>ys.getD i .non
section
variable {X:Cx}
theorem Yb{ys:List V}{its:List Value}(r:Vals ys its):∀(p:List Nat),Vals (p.map λi=>ys.getD i .non) (p.map λi=>its.getD i .none)
 |[]=>.nil
 |i::p=>.cons (by
   show RelV (ys.getD i .non) (its.getD i .none)
   cases e:ys[i]? with
   |none=>
    have:its[i]?=none:=by
     rw[Wi]at e ⊢;rw[<-r.length];exact e
    simp[List.getD,e,this,RelV]
   |some v=>
    obtain⟨u,hu,ru⟩:=r.get e
    simpa[List.getD,e,hu]using ru) (Yb r p)
def Qcy:CallR X (.builtin "sorted") (λxs H Q=>∃(a:Addr) (ys:List V) (ks:List (List Int)),xs=[.ref a]/\SqL X.K H a ys/\ys.length<64/\(2<=ys.length->Qlx X.K H ys ks)/\∀p,H p=none->Q (.ref p) (upd H p (.lst (Z0 ks ys)))):= by
 intro pins s Y H xs us Q I r h;obtain⟨a,ys,ks,rfl,hq,h64,ht,q⟩:=h;obtain⟨u,rfl,rx⟩:=Jg r;cases rx;obtain⟨its,rr,pl,hz⟩:=I.list hq;have hlen:=rr.length
 have item:2<=its.length->∀i,i<its.length->∃(b:Addr) (o:Obj) (xs:List Value) (n:Nat) (k:List Int),its.getD i .none=Value.ref b/\s.heap.get? b=some o/\o.cls=.type "tuple"/\o.data=.seq xs.toArray n/\ks.getD i []= k/\k≠[]/\Vals (k.map V.int) xs:=by
  intro h2 i hi
  obtain⟨tl,tt⟩:=ht (by omega)
  have hi':i<ys.length:=by omega
  have hk:i<ks.length:=by omega
  obtain⟨kn,b,ey,sq⟩:=tt i ys[i] ks[i] (Xj hi') (Xj hk);obtain⟨v,hv,rv⟩:=rr.get (Xj hi');rw[ey]at rv;cases rv;obtain⟨xs,rx,⟨o,e1,e2,n,e3⟩,_⟩:=I.tuple sq
  exact⟨b,o,xs,n,ks[i],by simp[List.getD,hv],e1,e2,e3,by simp[List.getD,hk],kn,rx⟩
 refine Qb6 (κ:=tuples' true) (ks:=ks) pl.isList (by omega) (λh2 h' tk A' Q' kp q'=>?_) (λh2 h' tk A' Q' i j kp hi hj q'=>?_) λh' tk c D hD kp hh=>?_
 ·obtain⟨fs,t,l,f⟩:=QcY (h:=h') (vs:=its) λv hv=>by
   obtain⟨i,hi,rfl⟩:=List.getElem_of_mem hv;obtain⟨b,o,xs,n,k,e0,e1,e2,e3,e4,kn,rx⟩:=item h2 i hi
   have e0':its[i]=Value.ref b:=by simpa[List.getD,hi]using e0
   cases k with
   |nil=>exact absurd rfl kn
   |cons x k=>
    cases rx with
    |cons r1 t1=>
     obtain⟨tk,rfl⟩:=r1
     exact⟨b,o,_,n,x,tk,e0',kp b o e1,e2,e3,by simp⟩
  refine kat_kind (T:=.type "int") t (by omega) (λv hv=>?_) (by decide) ?_
  ·obtain⟨i,t,rfl⟩:=f v hv;exact Looks.of_pure rfl
  ·exact q'
 ·obtain⟨b,o,xs,n,k,e0,e1,e2,e3,e4,kn,rx⟩:=item h2 i hi;obtain⟨b2,o2,xs2,n2,k2,f0,f1,f2,f3,f4,kn2,rx2⟩:=item h2 j hj;rw[e0,f0];refine kat_lt (kp b o e1) e3 (kp b2 o2 f1) f3 ?_
  have q2:Q' (QeE k k2) {s with heap:=h',toks:=tk}:=by
   have:=q';unfold ltK at this;rw[e4,f4]at this;exact this
  have l1:=rx.length;have l2:=rx2.length;simp only[Xl]at l1 l2
  exact QdS (b:=true) rx rx2 (by simp[<-l1,<-l2]) q2
 ·refine⟨.ref D,_,I.laid (t':=tk) (o:=.lst (Z0 ks ys)) kp hD ?_,rfl,q D (I.hok.fresh hD)⟩
  refine⟨by unfold Z0;rw[Xl,ZW];exact hz,_,c,?_,hh⟩
  unfold Z0;rw[hlen];exact Yb rr _
end
end
section
def QS:entryFor table "dict.update.loop"=some Builtin.«dict.update.loop»:=entryFor_of_tree (by kernel_rfl)
def Qu:plainId "dict.update.loop"=true:=by decide +kernel
def YO:typeLookup (.type "list") "keys"=pure none:=am_miss_of_fast (by kernel_rfl)
section
variable {prog:Program}{w:World}{A:Around}{s:Shared}{R:Result->Shared->Prop}{E:Value->Shared->Prop}
def ZI{a:Addr}{o:Obj}{xs:Array Value}{k:Nat}{Q:Option Value->Shared->Prop}
  (hx:s.heap.get? a=some o) (hc:o.cls=.type "list") (hdat:o.data=.seq xs k) (hd:o.dict=none) (hA:A.handled=none)
  (h:∀h' tk,(∀b o,s.heap.get? b=some o->h'.get? b=some o)->Q none {s with heap:=h',toks:=tk}):
  wpAny (model prog w) A (getAttr? (.ref a) "keys") Q E s:=by
 obtain⟨c,dct,dat,sl⟩:=o;simp only at hc hdat hd;subst hc hdat hd;obtain⟨hp,g,d,tk,os⟩:=s;have hT:∀tk',(⟨hp,g,d,tk',os⟩:Shared).TypeIs (.ref a) "list":=λz=>⟨_,hx,rfl⟩;have f1:=sub_AttributeError;have f3:=Tc.lookup;have f4:=Tc.bind (.ref a);have f5:=am_list_getattr_none;unfold getAttr? getAttrBy? getAttrBy
 repeat (any_goals (first|assumption|exact hT _|((with_reducible show wpAny _ _ (call (Value.builtin "list.__getattribute__") _ _) _ _ _);refine call_meets Tc (hT _) am_entry_list_getattribute (F.args_list_getattribute_2 _ _) (meets_getattribute_miss_list a xs k sl "keys" _ YO (by decide) (by size_fits)) ⟨hx,hA,λh' tk' e hx'=>?_⟩)|wp_step))
 obtain⟨t',u',he⟩:=hx'.there;show wpAny _ _ (getattributeRaised _ _ _ _ _ _ _) _ _ _;unfold getattributeRaised
 repeat (any_goals (first|assumption|wp_step))
 exact h _ _ hx'.keeps
def Qcj{D:Nat->Heap->Prop}{d it l:Addr}{items:Array Value}(n1:d≠it)(n2:d≠l)(n3:it≠l)(hh:A.in1.handled=none)
  (keep:∀i h h',D i h->(∀b o,b≠it->h.get? b=some o->h'.get? b=some o)->D i h')
  (step:∀(i:Nat) u (s:Shared),items[i]?=some u->D i s.heap->∃t key v o n,u=.ref t/\s.heap.get? t=some o/\o.cls=.type "tuple"/\o.data=.seq #[key,v] n /\
   ∀(E:Value->Shared->Prop) (Q:Unit->Shared->Prop),(∀h' tk,D (i+1) h'->Heap.SameBut d s.heap h'->Q () {s with heap:=h',toks:=tk})->wpAny (model prog w) A.in1 (dictSet d key v) Q E s):
  ∀(m i:Nat) (s:Shared),i+m=items.size->s.heap.IsListIter it l i->s.heap.IsList l items->D i s.heap ->
  (∀s',D items.size s'.heap->(∀b o,b≠d->b≠it->s.heap.get? b=some o->s'.heap.get? b=some o)->(∃h' c,s'={s with heap:=h',toks:=c})->R (.ok (.ret .none)) s') ->
  codeAny (model prog w) A (.builtin "dict.update.loop" ⟨[.ref d,.ref it,rawInt i,.none],[]⟩) R s:=by
 intro m
 induction m with
 |zero=>
  intro i s e hi hl hd hR;refine T0 QS ?_;rw[Around.under_plainId Qu _];show wpAny _ A.in1 (pyNext (.ref it) >>= _) _ _ s
  refine Xa (wpAny_pyNext_list_end hh hi hl (by simp;omega) λh' hs'=>?_)
  show wpAny _ A.in1 (Builtin.Dict.addKeywords d [] >>= _) _ _ _;refine Xa (Xf (Xf (hR _ ?_ (λb o b1 b2 e'=>?_) ⟨_,_,rfl⟩)))
  ·have:i=items.size:=by omega
   subst this;exact keep _ _ _ hd λb o nb e=>hs' b o nb e
  ·exact hs' b o b2 e'
 |succ m ih=>
  intro i s e hi hl hd hR
  have lt:i<items.size:=by omega
  obtain⟨u,eu⟩:∃u,items[i]?=some u:=⟨items[i],by simp[lt]⟩
  refine T0 QS ?_;rw[Around.under_plainId Qu _];show wpAny _ A.in1 (pyNext (.ref it) >>= _) _ _ s;refine Xa (wpAny_pyNext_list_item hi hl eu λh1 hi1 hs1=>?_);have g1:∀b o,b≠it->s.heap.get? b=some o->h1.get? b=some o:=λb o nb e=>(hs1.2 b nb).trans e;have hd1:D i h1:=keep _ _ _ hd g1;obtain⟨t,key,v,o,n,rfl,ho1,hc,hdat,st⟩:=step i u {s with heap:=h1} eu hd1;refine Xa (Wu ?_);refine Xa (wpAny_tryCatch ?_);unfold Builtin.Dict.pairItems;refine Xa (wpAny_typeOf_ref ho1 ?_);rw[hc]
  show wpAny _ _ (do return ((<-seqItems? (.ref t)).getD #[]).toList) _ _ _
  refine Xa (Vb ho1 hdat (Xf ?_));show wpAny _ _ (holding [key,v] (dictSet d key v)) _ _ _;refine Wu (st _ _ λh2 tk hd2 hs2=>?_);have g2:∀b o,b≠d->h1.get? b=some o->h2.get? b=some o:=λb o nb e=>(hs2.2 b nb).trans e;refine Xf ⟨plainId_quiet Qu _,?_⟩
  refine ih (i+1) _ (by omega) ?_ ?_ hd2 λs' hd' hk' hs'=>?_
  ·obtain⟨oi,hoi,rest⟩:=hi1;exact⟨oi,g2 it oi (X9 n1) hoi,rest⟩
  ·obtain⟨ol,hol,rest⟩:=hl;exact⟨ol,g2 l ol (X9 n2) (g1 l ol (X9 n3) hol),rest⟩
  ·exact hR s' hd' (λb o b1 b2 e'=>hk' b o b1 b2 (g2 b o b1 (g1 b o b2 e'))) (by obtain⟨h3,c3,e3⟩:=hs';exact⟨h3,c3,e3⟩)
def YT{D:Nat->Heap->Prop}{l:Addr}{ol:Obj}{items:Array Value}{nl:Nat}{Q:Value->Shared->Prop}(hA:A.handled=none)
  (hl:s.heap.get? l=some ol) (hc:ol.cls=.type "list") (hdat:ol.data=.seq items nl) (hdd:ol.dict=none)
  (start:∀h',(∀b o,s.heap.get? b=some o->h'.get? b=some o)->h'.get? s.heap.objs.size=some {cls:=.type "dict",data:=.dict #[]}->D 0 h')
  (keep:∀i h h' it,s.heap.objs.size<it->D i h->(∀b o,b≠it->h.get? b=some o->h'.get? b=some o)->D i h')
  (step:∀(i:Nat) u (s':Shared),items[i]?=some u->D i s'.heap->∃t key v o n,u=.ref t/\s'.heap.get? t=some o/\o.cls=.type "tuple"/\o.data=.seq #[key,v] n /\
   ∀(E:Value->Shared->Prop) (Q:Unit->Shared->Prop),(∀h' tk,D (i+1) h'->Heap.SameBut s.heap.objs.size s'.heap h'->Q () {s' with heap:=h',toks:=tk})->wpAny (model prog w) A.in1.in1 (dictSet s.heap.objs.size key v) Q E s')
  (h:∀h' tk,D items.size h'->(∀b o,s.heap.get? b=some o->h'.get? b=some o)->Q (.ref s.heap.objs.size) {s with heap:=h',toks:=tk}):
  wpAny (model prog w) A (call (.type "dict") [.ref l]) Q E s:=by
 have hlt:l<s.heap.objs.size:=Xg hl;refine callType_codes (Q₁:=λobj s₁=>obj=.ref s.heap.objs.size/\s₁={s with heap:=s.heap.push {cls:=.type "dict",data:=.dict #[]} }) F.kt_called_dict (F.kt_typeCall_dict_1 _) F.entry_dict_init (kt_code_dict_new _ ⟨rfl,rfl⟩) ?_;rintro obj s₁ ⟨rfl,rfl⟩;have hnew:(s.heap.push {cls:=.type "dict",data:=.dict #[]}).get? s.heap.objs.size=some {cls:=.type "dict",data:=.dict #[]}:=Xo _ rfl;have hT:Shared.TypeIs {s with heap:=s.heap.push {cls:=.type "dict",data:=.dict #[]} } (.ref s.heap.objs.size) "dict":=⟨_,hnew,rfl⟩;refine⟨hT,F.args_dict_init_2 _ _,?_⟩;unfold Builtin.«dict.__init__»;refine Xa ?_;unfold Builtin.Dict.selfAndRest;refine Xa (wpAny_notOrdered_dict hT ?_);show wpAny _ _ (pure (s.heap.objs.size,[Value.ref l])) _ _ _;refine Xf ?_;show wpAny _ _ (Builtin.Dict.updateFrom "dict.__init__" s.heap.objs.size (.ref l) [] .none) _ _ _;unfold Builtin.Dict.updateFrom;have hl1:(s.heap.push {cls:=.type "dict",data:=.dict #[]}).get? l=some ol:=Xb _ hl;refine Xa (wpAny_typeOf_ref hl1 ?_);rw[hc]
 rw[if_pos (by decide)]
 refine Xa (ZI (A:=A.in1.in1) hl1 hc hdat hdd hA λh2 tk2 k2=>?_);rw[if_pos (show(none:Option Value).isNone=true from rfl)];refine Xa (wpAny_rule ?_);have hl2:h2.IsList l items:=⟨ol,k2 _ _ hl1,hc,nl,hdat⟩;refine Xa (Vf (s:=⟨h2,_,_,_,_⟩) hl2 ?_);have g3:∀b o,s.heap.get? b=some o->(h2.push {cls:=.type "list_iterator",data:=.fields #[.ref l,.int 0 0]}).get? b=some o:=λb o e=>Xb _ (k2 _ _ (Xb _ e));have hd3:(h2.push {cls:=.type "list_iterator",data:=.fields #[.ref l,.int 0 0]}).get? s.heap.objs.size=some {cls:=.type "dict",data:=.dict #[]}:=Xb _ (k2 _ _ hnew);have lt2:s.heap.objs.size<h2.objs.size:=Xg (k2 _ _ hnew);refine Xf ⟨plainId_quiet Qu _,?_⟩
 refine Qcj (D:=D) (items:=items) (A:=A.in1) (l:=l) (Xn lt2) (Ta hlt) (Ta (Nat.lt_trans hlt lt2)) (by simpa using hA)
  (λi h h'=>keep i h h' _ lt2) step items.size 0 _ (by omega) ⟨_,Xo _ rfl,rfl,rfl⟩ ?_ (start _ g3 hd3) λs' hd' hk' hs'=>?_
 ·obtain⟨o4,ho4,rest⟩:=hl2;exact⟨o4,Xb _ ho4,rest⟩
 ·obtain⟨h4,c4,rfl⟩:=hs';exact⟨rfl,h h4 c4 hd' λb o e=>hk' b o (Xn (Xg e)) (Xn (Nat.lt_trans (Xg e) lt2)) (g3 b o e)⟩
end
def Qow{α β:Type}{R:α->β->Prop}{l:List α}{m:List β}{i:Nat}{a:α}(h:Paired R l m)(e:l[i]?=some a):∃b,m[i]?=some b/\R a b:=Qab h e
def QjU:List V->Hp->VK->Prop:=λxs H Q=>∃a vs kvs,xs=[.ref a]/\H a=some (.lst vs) /\
 Paired (λ(v:V) (p:Key×V)=>∃t,v=.ref t/\H t=some (.tup [kV p.1,p.2])) vs kvs/\∀d,H d=none->Q (.ref d) (upd H d (.dK (Q3 [] kvs)))
def Y1(kvs acc:List (Key×V)):(Q3 acc kvs).length<=acc.length+kvs.length:=by
 unfold Q3
 induction kvs generalizing acc with
 |nil=>simp
 |cons p r ih=>
  have h1:=ih (Z7 acc p.1 p.2);have h2:=Q4 acc p.1 p.2;simp only[List.foldl_cons,X7];omega
def QaP{kvs:List (Key×V)}{i:Nat}{p:Key×V}(h:kvs[i]?=some p):Q3 [] (kvs.take (i+1))=Z7 (Q3 [] (kvs.take i)) p.1 p.2:=by
 unfold Q3;rw[Tl,h];simp
def QcA{X:Cx}(hh:X.calm=true):CallR X (.type "dict") QjU:=by
 intro pins s Y H xs us Q I r h;obtain⟨a,vs,kvs,rfl,ha,pr,q⟩:=h;obtain⟨u,rfl,ru⟩:=Jg r;cases ru;obtain⟨z,its,n,rv,ho⟩:=(show ObjOk X.prog X.w H s.heap a (.lst vs)from I.hok a _ ha);have hnd:H s.heap.objs.size=none:=I.hok.fresh (Xm _);have lv:vs.length=kvs.length:=Wj pr;have li:vs.length=its.length:=rv.length
 refine YT (D:=λi h'=>∃ms,KV (Q3 [] (kvs.take i)) ms/\h'.DictOf (Qq X.prog X.w) s.heap.objs.size ms/\∀b o,H b≠none->s.heap.get? b=some o->h'.get? b=some o)
  (I.ok.hd hh) ho rfl rfl rfl (λh' k hd=>?_) (λi h1 h' it lt ⟨ms,kt,dd,k⟩ e=>?_) (λi u s' eu ⟨ms,kt,dd,k⟩=>?_) (λh' tk ⟨ms,kt,dd,_⟩ k=>?_)
 ·exact⟨[],.nil,⟨_,#[],0,hd,⟨rfl,rfl,rfl⟩,rfl,λe m=>by simp at m,.nil,List.nodup_nil⟩,λb o y e=>k b o e⟩
 ·obtain⟨o,es,ep,d1,rest⟩:=dd;exact⟨ms,kt,⟨o,es,ep,e _ o (Xn lt) d1,rest⟩,λb o nb e'=>e b o (Xn (Nat.lt_trans (Xg e') lt)) (k b o nb e')⟩
 ·have eu':its[i]?=some u:=by simpa using eu
  have lt:i<its.length:=(Xe.mp eu').1
  obtain⟨v,ev⟩:∃v,vs[i]?=some v:=⟨vs[i],by simp[li,lt]⟩
  obtain⟨u',eu2,rvu⟩:=rv.get ev;rw[eu']at eu2;cases eu2;obtain⟨p,ep,t,rfl,ht⟩:=Qow pr ev;cases(show u=Value.ref t from rvu);obtain⟨_,its2,r2,o,o1,o2,n2,o3⟩:=(show ObjOk X.prog X.w H s.heap t (.tup [kV p.1,p.2])from I.hok t _ ht);obtain⟨x1,x2,rfl,rx1,rx2⟩:=Qb2 r2
  refine⟨t,x1,x2,o,n2,rfl,k t o (by rw[ht];exact λz=>nomatch z) o1,o2,o3,λE Q hQ=>?_⟩
  have hsz:ms.length<=sizeLine:=by
   rw[<-KV.length kt];have h1:=Y1 (kvs.take i) []
   have h2:(kvs.take i).length<=kvs.length:=by simp[Vw];omega
   simp only[Vj]at h1;omega
  refine wpAny_dictSet_pairs (hsz:=hsz) (Qaq rx1) dd λh' dd' hs=>hQ h' _ ⟨_,?_,dd',λb o' nb e=>(hs.2 b (λz=>?_)).trans (k b o' nb e)⟩ hs
  ·rw[QaP ep];exact kt.put p.1 rx2
  ·subst z;exact nb hnd
 ·have hz:its.toArray.size=kvs.length:=by simp;omega
  rw[hz,W2]at kt;have hl:=Y1 kvs [];simp only[Vj]at hl
  exact⟨.ref s.heap.objs.size,_,I.laid (a:=s.heap.objs.size) (o:=.dK (Q3 [] kvs)) (t':=tk) k (Xm _) ⟨by omega,Wm.mpr (X9 (Xn I.big)),ms,kt,dd⟩,rfl,q _ hnd⟩
end
end L2
namespace L2
open PySem
variable {env:Env}{scope:Scope}
noncomputable def Qcx(cells:List (Str×Addr)):List (Str×NameKind)->List (Str×Addr)->List (Str×Addr)
 |[],cs=>cs
 | (n,k)::r,cs=>Qcx cells r (if(k==.free)=true then(match cells.lookup n with|some c=>(n,c)::cs|none=>cs)else cs)
def Jc(h:∀y∈scope.names,y.2=.free->∃c,env.cells.lookup y.1=some c):closureFor scope env=pure (Qcx env.cells scope.names []):=by
 have all:∀(l:List (Str×NameKind)) (cs:List (Str×Addr)),(∀y∈l,y.2=.free->∃c,env.cells.lookup y.1=some c) ->
   (forIn l cs λ(x:Str×NameKind) (r:List (Str×Addr))=>match x with|(name,kind)=>if(kind==NameKind.free)=true then(do let y <-cellOf env name;pure (ForInStep.yield ((name,y)::r)))else(pure (ForInStep.yield r):Sem _))=(pure (Qcx env.cells l cs):Sem _):=by
  intro l
  induction l with
  |nil=>intro cs _;simp only[List.forIn_nil];rfl
  |cons p r ih=>
   obtain⟨n,k⟩:=p;intro cs hy;rw[List.forIn_cons];by_cases hk:(k==NameKind.free)=true
   ·obtain⟨c,hc⟩:=hy (n,k) Xw (by simpa using hk)
    have hc:env.cells.lookup n=some c:=hc
    have e:cellOf env n=pure c:=by unfold cellOf;rw[hc]
    simp only[hk,Wa,e,pure_bind];rw[ih _ λy m=>hy y (Xp _ m)];simp only[Qcx,hk,Wa,hc]
   ·simp only[hk,Wr,Vh,pure_bind];rw[ih _ λy m=>hy y (Xp _ m)];simp only[Qcx,hk,Wr,Vh]
 have:=all scope.names [] h;unfold closureFor;simp only[bind_pure_comp]at this ⊢;rw[this];rfl
theorem QaB{cells:List (Str×Addr)}{x:Str}{c:Addr}:∀{l:List (Str×NameKind)} {cs:List (Str×Addr)},(Qcx cells l cs).lookup x=some c->cs.lookup x=some c\/cells.lookup x=some c
 |[],_,h=>.inl h
 | (n,k)::r,cs,h=>by
  have h:(Qcx cells r (if(k==NameKind.free)=true then(match cells.lookup n with|some c=>(n,c)::cs|none=>cs)else cs)).lookup x=some c:=h
  rcases QaB h with h1|h1
  ·clear h;by_cases hk:(k==NameKind.free)=true
   ·rw[if_pos hk]at h1
    cases hc:cells.lookup n with
    |none=>rw[hc]at h1;exact .inl h1
    |some c'=>
     rw[hc]at h1;have h2:List.lookup x ((n,c')::cs)=some c:=h1;clear h1;rw[W3]at h2
     cases hx:x==n with
     |true=>
      rw[hx]at h2;have e:=eq_of_beq hx;subst e;exact .inr (hc.trans h2)
     |false=>rw[hx]at h2;exact .inl h2
   ·rw[if_neg hk]at h1;exact .inl h1
  ·exact .inr h1
theorem JJ{cells:List (Str×Addr)}{x:Str}{c:Addr}(hc:cells.lookup x=some c):∀{l:List (Str×NameKind)} {cs:List (Str×Addr)},((x,NameKind.free)∈l\/cs.lookup x=some c)->(Qcx cells l cs).lookup x=some c
 |[],_,h=>by
  rcases h with h|h
  ·cases h
  ·exact h
 | (n,k)::r,cs,h=>by
  show(Qcx cells r (if(k==NameKind.free)=true then(match cells.lookup n with|some c=>(n,c)::cs|none=>cs)else cs)).lookup x=some c
  refine JJ (l:=r) hc ?_
  rcases h with h|h
  ·rcases X5.mp h with e|h
   ·cases e;refine .inr ?_
    rw[if_pos (by decide),hc]
    simp[W3]
   ·exact .inl h
  ·refine .inr ?_;split
   ·split
    ·rename_i c' h';rw[W3];split
     ·rename_i e;have e:=eq_of_beq e;subst e;exact h'.symm.trans hc
     ·exact h
    ·exact h
   ·exact h
noncomputable def mang(x:Str):Str:=⟨x.cps.push 33⟩
noncomputable def hideN(xs N:List Str):List Str:=N.map λy=>if xs.contains y then mang y else y
def ZH{xs N:List Str}:(hideN xs N).length=N.length:=by unfold hideN;rw[Xl]
def QfE{xs N:List Str}{i:Nat}{y:Str}(h:(hideN xs N)[i]?=some y):∃z,N[i]?=some z/\((z∈xs/\y=mang z)\/(z∉xs/\y=z)):=by
 unfold hideN at h;rw[Vg,Xd]at h;obtain⟨z,h1,h2⟩:=h;refine⟨z,h1,?_⟩;by_cases c:xs.contains z=true
 ·rw[if_pos c]at h2;exact .inl ⟨Vn.mp c,h2.symm⟩
 ·rw[if_neg c]at h2;exact .inr ⟨λm=>c (Vn.mpr m),h2.symm⟩
noncomputable def relN(outer:List (Str×NameKind))(names:List (Str×NameKind)):List (Str×NameKind):=names.map λ(n,k)=>if(k==.free&&outer.lookup n==some .cell)=true then(n,.cell)else(n,k)
def QM(h:env.scope.kind=.function):(relabel scope env).names=relN env.scope.names scope.names:=by
 unfold relabel relN;refine Wt λp z=>?_;obtain⟨n,k⟩:=p;simp only[h,beq_self_eq_true,Bool.and_true];rfl
theorem Zk{outer:List (Str×NameKind)}{x:Str}:∀{l:List (Str×NameKind)},(relN outer l).lookup x=(l.lookup x).map λk=>if(k==.free&&outer.lookup x==some .cell)=true then .cell else k
 |[]=>rfl
 | (n,k)::r=>by
  have ih:=@Zk outer x r;show List.lookup x ((if(k==NameKind.free&&outer.lookup n==some .cell)=true then(n,NameKind.cell)else(n,k))::relN outer r)=_;rw[W3 (as:=r)]
  cases hx:x==n with
  |true=>
   have e:=eq_of_beq hx;subst e;simp only[V7,Option.map_some];by_cases z:(k==NameKind.free&&outer.lookup x==some .cell)=true
   ·rw[if_pos z,if_pos z,V7]
   ·rw[if_neg z,if_neg z,V7]
  |false=>
   split
   ·simp[W3,hx,ih]
   ·simp[W3,hx,ih]
def Zo{κ β:Type}[BEq κ][LawfulBEq κ]{l:List (κ×β)}{k:κ}{b:β}(h:l.lookup k=some b):(k,b)∈l:=by
 induction l with
 |nil=>simp at h
 |cons p r ih=>
  obtain⟨a,c⟩:=p;rw[W3]at h;split at h
  ·rename_i e;have e:=eq_of_beq e;subst e;cases h;exact Xw
  ·exact Xp _ (ih h)
section
variable {prog:Program}{w:World}{A:Around}{R:Result->Shared->Prop}{s:Shared}
def QeJ{E:Value->Shared->Prop}{tl:Option Expr}{Q:Bool->Shared->Prop}(h:match tl with|none=>Q true s|some c=>wpAny (model prog w) A (isTrue c env (eval c env)) Q E s):
  wpAny (model prog w) A (forIn tl.toList true λc r=>if r=true then do let ok <-isTrue c env (eval c env);pure (ForInStep.yield ok)else pure (ForInStep.yield r)) Q E s:=by
 cases tl with
 |none=>exact wpAny_tests_nil h
 |some c=>exact wpAny_tests_one h
def Qbl{elt target iter:Expr}{tl:Option Expr}{pos:Pos}{it acc:Value}(I:Nat->Shared->Prop)
  (turn:∀n s,I n s->wpAny (model prog w) A (pyNext it) (λr s₁=>match r with
   |none=>R (.ok .next) s₁
   |some v=>wpAny (model prog w) A (letOwnedTupleGo target it v) (λz s₁'=>wpAny (model prog w) A (assign target env v) (λz s₂=>
     wpAny (model prog w) A (forIn tl.toList true λc r=>if r=true then do let ok <-isTrue c env (eval c env);pure (ForInStep.yield ok)else pure (ForInStep.yield r)) (λok s₃=>if ok=true then
      wpAny (model prog w) A (eval elt env) (λx s₄=>
       wpAny (model prog w) A (call (.builtin "list.append") [acc,x]) (λz s₅=>∃m,m<n/\I m s₅) (notedBy (model prog w) A env λe s'=>R (.error e) s') s₄) (notedBy (model prog w) A env λe s'=>R (.error e) s') s₃
      else ∃m,m<n/\I m s₃) (notedBy (model prog w) A env λe s'=>R (.error e) s') s₂)
        (notedBy (model prog w) A env λe s'=>R (.error e) s') s₁') (notedBy (model prog w) A env λe s'=>R (.error e) s') s₁) (notedBy (model prog w) A env λe s'=>R (.error e) s') s)
  (n:Nat) (h:I n s):codeAny (model prog w) A (.compLoop (.ListComp elt [⟨target,iter,tl.toList,0⟩] scope pos) 0 it acc env) R s:=by
 refine codeAny_loop rfl I (λn s hI=>?_) n h
 show wpAny _ A ((compTurn (.ListComp elt [⟨target,iter,tl.toList,0⟩] scope pos) 0 it acc env).onRaise (λx=>do noteFrame x env;theTreesLotGoes x)) _ _ s
 refine wpAny_noted ?_;rw[compTurn_list];refine Xa (Tp (Xa (X2 (turn n s hI) (λr s₁ h₁=>?_) λz z h'=>h')))
 cases r with
 |none=>exact Xf h₁
 |some v=>
  refine Xa (X2 h₁ (λz s₁' h₁'=>?_) λz z h'=>h');refine Xa (X2 h₁' (λz s₂ h₂=>Xa (X2 h₂ (λok s₃ h₃=>?_) λz z h'=>h')) λz z h'=>h')
  cases ok with
  |true=>
   rw[if_pos rfl]at h₃;exact Xa (Xa (X2 h₃ (λx s₄ h₄=>Xa (X2 h₄ (λz s₅ h₅=>Xf (Xf ⟨rfl,h₅⟩)) λz z h'=>h')) λz z h'=>h'))
  |false=>
   rw[if_neg Xh]at h₃;exact Xa (Xf (Xf ⟨rfl,h₃⟩))
end
end L2
namespace L2
open PySem PySem.Spec PySem.W PyProof.Rows
variable {env:Env}{α:Type}{e:Value}
def KD{α:Type}:Sem α->Prop
 |.pure _=>True
 |.raise _=>True
 |.unsupported _=>True
 |.rule _ k=>KD (k ())
 |.at _ k=>KD (k ())
 |.load _ _ k=>∀o,KD (k o)
 |.loadIfAlive _ k=>∀o,KD (k o)
 |.update _ _ f k=>(∀o:Obj,(f o).dict=o.dict/\(o.isFreed=false->(f o).isFreed=false))/\KD (k ())
 |.point _ k=>KD (k ())
 |.alloc _ k=>∀a,KD (k a)
 |.fresh k=>∀a,KD (k a)
 |.ask k=>∀a,KD (k a)
 |.handled _ k=>∀a,KD (k a)
 |.stack k=>∀a,KD (k a)
 |.thread k=>∀a,KD (k a)
 |_=>False
theorem KD.bind{β:Type}{f:α->Sem β}(hf:∀a,KD (f a)):∀{m:Sem α},KD m->KD (m.bind f):=by
 intro m
 induction m with
 |pure a=>exact λz=>hf a
 |raise e=>exact λz=>trivial
 |unsupported w=>exact λz=>trivial
 |rule t k ih=>exact λh=>ih () h
 | «at» t k ih=>exact λh=>ih () h
 |load a p k ih=>exact λh o=>ih o (h o)
 |loadIfAlive a k ih=>exact λh o=>ih o (h o)
 |update a p g k ih=>exact λh=>⟨h.1,ih () h.2⟩
 |point l k ih=>exact λh=>ih () h
 |alloc o k ih=>exact λh a=>ih a (h a)
 |fresh k ih=>exact λh a=>ih a (h a)
 |ask k ih=>exact λh a=>ih a (h a)
 |handled o k ih=>exact λh a=>ih a (h a)
 |stack k ih=>exact λh a=>ih a (h a)
 |thread k ih=>exact λh a=>ih a (h a)
 |_=>exact λh=>False.elim h
def DK(h h':Heap):Prop:=∀b o,h.get? b=some o->∃o',h'.get? b=some o'/\o'.dict=o.dict
def DK.refl(h:Heap):DK h h:=λz o e=>⟨o,e,rfl⟩
theorem DK.trans{h h1 h2:Heap}(a:DK h h1)(b:DK h1 h2):DK h h2:=λx o e=>by
 obtain⟨o1,e1,d1⟩:=a x o e;obtain⟨o2,e2,d2⟩:=b x o1 e1;exact⟨o2,e2,d2.trans d1⟩
def DK.kept{h h':Heap}(k:∀b o,h.get? b=some o->h'.get? b=some o):DK h h':=λb o e=>⟨o,k b o e,rfl⟩
def Qm5{M:Model}{Γ:PySem.Ctx}{Q:α->Pos->Shared->Prop}{E:Value->Pos->Shared->Prop}:∀{t:Sem α} {p:Pos} {s:Shared} {h0:Heap},KD t->DK h0 s.heap->Sem.wp M Γ t Q E p s ->
  Sem.wp M Γ t (λa p' s'=>Q a p' s'/\DK h0 s'.heap) (λe p' s'=>E e p' s'/\DK h0 s'.heap) p s:=by
 intro t
 induction t with
 |pure a=>exact λz d q=>⟨q,d⟩
 |raise e=>exact λz d q=>⟨q,d⟩
 |unsupported w=>exact λz z q=>q
 |rule t k ih=>exact λh d q=>ih () h d q
 | «at» t k ih=>exact λh d q=>ih () h d q
 |load a p k ih=>
  intro p s h0 h d q;obtain⟨o,e,q⟩:=q;exact⟨o,e,ih o (h o) d q⟩
 |loadIfAlive a k ih=>exact λh d q=>ih _ (h _) d q
 |update a p g k ih=>
  intro p s h0 h d q;obtain⟨e,q⟩:=q;refine⟨e,ih () h.2 (d.trans λb o ho=>?_) q⟩;by_cases hb:b=a
  ·subst hb;exact⟨g o,Wv _ ho ((h.1 o).2 (Heap.get?_some_iff.mp ho).2),(h.1 o).1⟩
  ·exact⟨o,(U5 _ _ _ _ hb).trans ho,rfl⟩
 |point l k ih=>exact λh d q=>ih () h d q
 |alloc o k ih=>exact λh d q=>ih _ (h _) (d.trans (DK.kept λb o e=>Xb _ e)) q
 |fresh k ih=>exact λh d q=>ih _ (h _) d q
 |ask k ih=>exact λh d q=>ih _ (h _) d q
 |handled o k ih=>exact λh d q=>ih _ (h _) d q
 |stack k ih=>exact λh d q=>ih _ (h _) d q
 |thread k ih=>exact λh d q=>ih _ (h _) d q
 |_=>exact λh=>False.elim h
def QbM{M:Model}{A:Around}{t:Sem α}{Q:α->Shared->Prop}{E:Value->Shared->Prop}{s:Shared}(h:KD t)(q:wpAny M A t Q E s):
  wpAny M A t (λa s'=>Q a s'/\DK s.heap s'.heap) (λe s'=>E e s'/\DK s.heap s'.heap) s:=fun Γ p i=>Qm5 h (DK.refl _) (q Γ p i)
def QkK{f:Array Value->Array Value}(o:Obj):(Obj.mapFields f o).dict=o.dict/\(o.isFreed=false->(Obj.mapFields f o).isFreed=false):=by
 obtain⟨c,d,dt,sl⟩:=o;cases dt<;>exact⟨rfl,λh=>h⟩
def KD.b{β:Type}{m:Sem α}{f:α->Sem β}(h:KD m)(hf:∀a,KD (f a)):KD (m >>= f):=KD.bind hf h
def Qbc{a:Addr}:KD (load a):=λz=>trivial
def Z8{i:Nat}:KD (field e i):=by
 unfold field fieldsOf
 refine KD.b ?_ λvs=>by split<;>exact trivial
 split
 ·exact KD.b Qbc λo=>by split<;>exact trivial
 ·exact trivial
def QdU{i:Nat}{x:Value}:KD (setField e i x):=by
 unfold setField;split
 ·unfold updateField;refine KD.b Qbc λo=>?_;split
  ·split
   ·exact⟨QkK,trivial⟩
   ·exact trivial
  ·exact trivial
 ·exact trivial
def Yq{f:Option Addr}:KD (setFlight e f):=by
 unfold setFlight;refine KD.b Z8 λtb=>?_;split
 ·exact QdU
 ·exact trivial
theorem QbL:∀l:List Env,KD (readyFrames l)
 |[]=>trivial
 |env::outer=>by
  unfold readyFrames;split
  ·refine KD.b Qbc λo=>?_;split
   ·exact trivial
   ·refine KD.b ?_ λim=>KD.b ?_ λback=>KD.b (show KD (update _ _)from⟨λo=>⟨rfl,by obtain⟨c,d,dt,sl⟩:=o;cases dt<;>exact λh=>h⟩,trivial⟩) λz=>QbL outer
    ·unfold behindIsImport
     repeat (first|exact trivial|exact KD.b Z8 λz=>trivial|split|refine KD.b trivial λz=>?_)
    ·unfold keptBack;split
     ·split
      ·exact trivial
      ·unfold underTheClaimsCaller
       repeat (first|exact trivial|exact λz=>trivial|split|refine KD.b ?_ λz=>?_)
     ·exact trivial
  ·exact trivial
def Qfw:KD (PySem.frameOf env):=by
 unfold PySem.frameOf frameEnvs
 refine KD.b ?_ λl=>KD.b ?_ λo=>by split<;>exact trivial
 ·exact KD.b (λz=>trivial) λz=>trivial
 ·unfold frameObject;split
  ·exact trivial
  ·exact KD.b (QbL _) λz=>trivial
def QdV:KD (noteFrame e env):=by
 have place:∀{f:Addr} {b:Bool},KD (entryPlaceOf f b):=λ{f b}=>by
  unfold entryPlaceOf
  exact KD.b (λz=>trivial) λacts=>by split<;>exact trivial
 have fin:∀{hd:Value} {f:Addr},KD (do setField e 1 (<-EntryCells.newEntry hd (<-PySem.frameOf env) .none (rawInt f) .none (<-entryPlaceOf f (hd != .none)))):=λ{hd f}=>by
  refine KD.b Qfw λa=>KD.b place λpl=>KD.b ?_ λb=>QdU;unfold EntryCells.newEntry newFields newObj newObjAsIs;dsimp only
  split<;>split<;>first|exact trivial|exact λz=>trivial|exact KD.b trivial λz=>KD.b (λz=>trivial) λz=>trivial
 unfold noteFrame;split
 ·refine KD.b Z8 λhd=>?_;split
  ·refine KD.b Z8 λfl=>?_;split
   ·exact trivial
   ·exact KD.b QdU λz=>fin
  ·exact fin
 ·exact trivial
def Qfv:KD (leaving env e):=by
 unfold leaving;exact KD.b QdV λz=>Yq
end L2
namespace L2
open PySem PySem.Spec PySem.W PyProof.Rows PySem.Calls PySem.Builtin PySem.Builtin.ObjectAttr PySem.Builtin.Getset_descriptor
variable {C a:Addr}
structure ErrCls(K:W.Frag)(C:Addr):Prop where
 ga:findIn K (.ref C) "__getattribute__"=some (some (.builtin "BaseException.__getattribute__"))
 gh:findIn K (.ref C) "__getattr__"=some none
 cl:findIn K (.ref C) "__class__"=some (some (.builtin "object.__class__"))
 gg:specialIn K (.builtin "object.__class__") "__get__"=some (some (.builtin "getset_descriptor.__get__"))
 tk:takesIn K (.builtin "object.__class__")=some true
 sb:subIn K (.ref C) (.type "BaseException")=some true
 so:subIn K (.ref C) (.type "object")=some true
 is:(clsIn K C).isSome=true
def QaK(a C:Addr)(dd:Option Addr)(h:Heap):Prop:=∃o vs,h.get? a=some o/\o.cls=.ref C/\o.data=.fields vs/\o.dict=dd
section
variable {A:Around}{E:Value->Shared->Prop}{K:W.Frag}{h:Heap}{g:Array GenState}{d:Drawn}{t:Nat}{os:OsState}{dd:Option Addr}
def Qd7{M:Model}(p:QaK a C dd h):Looks M h (typeOf (.ref a)) (.ref C):=by
 obtain⟨o,vs,h1,h2,_⟩:=p;exact h2▸(Looks.ld h1).andThen .now
def Qd8{M:Model}{nameV:Value}{Q:Unit->Shared->Prop}(Yyy:ErrCls K C)(X:K.In h)(p:QaK a C dd h)(hq:Q () ⟨h,g,d,t,os⟩):wpAny M A (checkBuiltinCall "BaseException.__getattribute__" ⟨[.ref a,nameV],[]⟩) Q E ⟨h,g,d,t,os⟩:=by
 have hk:builtinKind "BaseException.__getattribute__"=some .slot:=by decide +kernel
 have hsplit:splitId "BaseException.__getattribute__"=some ("BaseException","__getattribute__"):=by decide +kernel
 have ha:=PySem.F.args_bexc_ga (.ref a) nameV;have L2:Looks M h (isInstance (.ref a) (.type "BaseException")) true:=(Qd7 p).andThen (looks_subIn X Yyy.sb);simp only[checkBuiltinCall,hk,hsplit];refine Xa (L2.at ?_)
 repeat (first|wp_step)
 exact hq
end
noncomputable def QfO(a C:Addr)(dd:Option Addr):HO:=.ext (QaK a C dd)
def Qk2{P:Program}{w:World}{H:Hp}{h:Heap}{dd:Option Addr}(p:QaK a C dd h):ObjOk P w H h a (QfO a C dd):=by
 refine⟨p,?_,λh1 h2 q k=>?_⟩
 ·obtain⟨o,_,e,_⟩:=p;exact⟨o,e⟩
 ·obtain⟨o,vs,e,r⟩:=q;exact⟨o,vs,k o e,r⟩
def QfP{X:Cx}{pins:List (Addr×Obj)}{Y:St}{H:Hp}{s:Shared}{dd:Option Addr}(I:Inv X pins Y H s)(e:H a=some (QfO a C dd)):QaK a C dd s.heap :=
 (show ObjOk X.prog X.w H s.heap a (.ext (QaK a C dd))from I.hok a _ e).1
end L2
namespace L2
open PySem PySem.Spec PySem.W PyProof.Rows
section
variable {H:Hp}
structure Cov(B:Heap)(H:Hp)(s:Shared)(l:List Env):Prop where
 trk:∀b u,H b=some u->∃o,B.get? b=some o
 old:∀b o,s.heap.get? b=some o->b∉frs l->∃o',B.get? b=some o'
def DictAt(h:Heap)(a:Addr)(dd:Option Addr):Prop:=∃o,h.get? a=some o/\o.dict=dd
def DictAt.dk{h h':Heap}{a:Addr}{dd:Option Addr}(d:DictAt h a dd)(k:DK h h'):DictAt h' a dd:=by
 obtain⟨o,e,q⟩:=d;obtain⟨o',e',q'⟩:=k a o e;exact⟨o',e',q'.trans q⟩
noncomputable def CXw(P:Program)(w:World):CXT:=λouter H s E e s'=>∃a C H' B a0 dd,e=.ref a/\s'.os=s.os/\AllBare s'.gens/\Un (frs outer) [] H H' s.heap s'.heap/\HOk P w H' s'.heap /\
 Heap.FlyingW B outer a (.ref C) a0 s'.heap/\Cov B H' s outer/\H' a=none/\s.heap.get? a=none/\DictAt s'.heap a dd/\E (.ref C) dd H'
def ObjOk.there{P:Program}{w:World}{h:Heap}{a:Addr}{o:HO}(x:ObjOk P w H h a o):∃u,h.get? a=some u:=by
 cases o with
 |lst xs=>obtain⟨_,_,_,_,e⟩:=x;exact⟨_,e⟩
 |tup xs=>obtain⟨_,_,_,_,e,_⟩:=x;exact⟨_,e⟩
 |dK kvs=>obtain⟨_,_,_,_,o,_,_,e,_⟩:=x;exact⟨_,e⟩
 |dT kvs=>obtain⟨_,_,_,_,o,_,_,e,_⟩:=x;exact⟨_,e⟩
 |set S n=>obtain⟨o,_,_,_,e,_⟩:=x;exact⟨_,e⟩
 |ins C dx fs=>obtain⟨_,_,_,e,_⟩:=x;exact⟨_,e⟩
 |own y=>obtain⟨_,e⟩:=x;exact⟨_,e⟩
 |xd fs=>obtain⟨_,⟨_,_,_,e,_⟩,_⟩:=x;exact⟨_,e⟩
 |rng lo hi=>obtain⟨_,_,_,e⟩:=x;exact⟨_,e⟩
 |frz ob u=>obtain⟨e,_⟩:=x;exact⟨_,e⟩
 |tbl ps=>exact⟨_,(show h.get? a=some _ from x)⟩
 |met f y=>exact⟨_,(show h.get? a=some _ from x)⟩
 |ext φ=>obtain⟨_,⟨_,e⟩,_⟩:=x;exact⟨_,e⟩
def Qf4{P:Program}{w:World}{l:List Env}{H':Hp}{s:Shared}{h1 h2 B base:Heap}(un:Un (frs l) [] H H' s.heap h1)(hok:HOk P w H' h1)(ff:s.heap.FunFrames base l)(fr:∀b∈frs l,H b=none)
  (st1:B.StaysIn h1) (st2:B.StaysIn h2) (up:h1.UpToSlots h2) (cv:Cov B H' s l):Un (frs l) [] H H' s.heap h2/\HOk P w H' h2:=by
 have fsl:∀b o,s.heap.get? b=some o->b∈frs l->∃sl,h2.get? b=some {o with slots:=sl}:=λb o q hb=>by
  obtain⟨sl,e⟩:=un.slot b o q (fr b hb) hb (by simp)
  obtain⟨_,o2,ho2,hd⟩:=ff.mem hb;rw[q]at ho2;cases ho2;obtain⟨sl',e'⟩:=up b _ e hd;exact⟨sl',e'⟩
 refine⟨⟨λb o q n hb hx=>?_,λb o q n hb hx=>fsl b o q hb,un.free,λb o q hx=>?_,un.tups,un.frzs,un.tbls⟩,λa o e=>?_⟩
 ·have e1:=un.keep b o q n hb hx;obtain⟨o',e2⟩:=cv.old b o q hb;have e3:=st1 b o' e2;rw[e1]at e3;cases e3;exact st2 b _ e2
 ·by_cases hb:b∈frs l
  ·obtain⟨sl,e⟩:=fsl b o q hb;exact⟨_,e⟩
  ·obtain⟨o',e2⟩:=cv.old b o q hb;exact⟨o',st2 b _ e2⟩
 ·refine(hok a o e).stay (λb u hb q=>?_) (λy z=>z) λy y z=>z
  have ht:∃x,H' b=some x:=by
   rcases hb with rfl|z
   ·exact⟨_,e⟩
   ·exact⟨_,z⟩
  obtain⟨x,hx⟩:=ht;obtain⟨o',e2⟩:=cv.trk b x hx;have e3:=st1 b o' e2;rw[q]at e3;cases e3;exact st2 b _ e2
section
variable {X:Cx}{pins:List (Addr×Obj)}{Y:St}{s:Shared}{e C:Addr}{B:Heap}{a0:Value}{E:XK}
def Qba{E2:Value->Shared->Prop}{L:Addr}{oe:Obj}{vs:Array Value}(hst:X.stack=X.env::X.outer)(hf:X.env.frame=some L)(hex:X.ex=[])(I:Inv X pins Y H s)(hn:H e=none)(h0:X.s₀.heap.get? e=none)(hl:e≠X.env.locals)
  (he:s.heap.get? e=some oe) (hc:oe.cls=.ref C) (hd:oe.data=.fields vs) (v0:vs[0]?=some a0) (v1:vs[1]?=some .none) (hE:E (.ref C) oe.dict H):
  wpAny (model X.prog X.w) X.A (leaving X.env (.ref e)) (λy s''=>CXw X.prog X.w X.outer X.H₀ X.s₀ E (.ref e) s'') E2 s:=by
 have nf:e∉frs X.stack:=λz=>by
  rcases X5.mp (I.stkSub e z)with z|z
  ·exact hl z
  ·obtain⟨_,o,ho,_⟩:=I.ok.funs.mem z;rw[h0]at ho;cases ho
 generalize hB:hideAll s.heap (e::frs X.stack)=B;have stB:B.StaysIn s.heap:=λb o q=>of_hideAll _ (hB▸q);have ff:s.heap.FunFrames B X.stack:=hB▸funFrames_hide I.stack λenv hm a ha=>Xp _ (Vz.mpr ⟨env,hm,ha⟩);have eB:B.get? e=none:=hB▸hideAll_none _ (Xw ..)
 have cv:Cov B H X.s₀ X.outer:=by
  refine⟨λb u q=>?_,λb o q hb=>?_⟩
  ·obtain⟨o,ho⟩:=(I.hok b u q).there;refine⟨o,hB▸hideAll_get _ ho λz=>?_⟩
   rcases X5.mp z with rfl|z
   ·rw[hn]at q;cases q
   ·rw[I.stkFree b z]at q;cases q
  ·obtain⟨o',ho⟩:=I.base.there b o q (by rw[hex];simp)
   refine⟨o',hB▸hideAll_get _ ho λz=>?_⟩
   rcases X5.mp z with rfl|z
   ·rw[h0]at q;cases q
   ·rcases X5.mp (I.stkSub b z)with z|z
    ·exact Xn (Xs (Xg q) I.ok.above) z
    ·exact hb z
 refine X2 (QbM (E:=λy y=>False) Qfv (wpAny_leaving_firstW (base:=B) (Q:=λy s''=>Heap.FlyingW B X.outer e (.ref C) a0 s''.heap/\s.heap.UpToSlots s''.heap/\s''.os=s.os/\s''.gens=s.gens) (hst▸I.ok.frames) (hst▸ff) hf he stB eB hd v1 v0 λh' x=>by obtain⟨k1,⟨_,_,k2⟩,k3,k4⟩:=x;exact⟨⟨k1,eB,k2,hc▸k3⟩,k4,rfl,rfl⟩)) (λy s'' v=>?_) λy y z=>z.1.elim;obtain⟨⟨fl',up,eo,eg⟩,dk⟩:=v;have b:=I.base;rw[hex]at b;obtain⟨un,hok⟩:=Qf4 b I.hok I.ok.funs I.ok.frf stB fl'.1 up cv;exact⟨e,C,H,B,a0,oe.dict,rfl,eo.trans I.os,eg▸I.bare,un,hok,fl',cv,hn,h0,DictAt.dk ⟨oe,he,rfl⟩ dk,hE⟩
def Inv.adopt{ho:HO}(I:Inv X pins Y H s)(hn:H e=none)(h0:X.s₀.heap.get? e=none)(hL:e≠X.env.locals)(hC:∀x c,X.env.cells.lookup x=some c->c≠e)(hp:∀p∈X.pn++pins,p.1≠e)
  (new:ObjOk X.prog X.w (upd H e ho) s.heap e ho):Inv X pins Y (upd H e ho) s:=by
 have ne:∀b u,H b=some u->b≠e:=λb u q z=>by rw[z,hn]at q;cases q
 refine⟨I.ok,I.os,I.bare,⟨I.base.keep,I.base.slot,λb o q n hx=>?_,I.base.there,λb xs q=>?_,λb o u q=>?_,λb ps q=>?_⟩,I.loc,I.cell,?_,λx c q=>?_,λp hp'=>?_,λb u q=>?_,I.len⟩
 ·have hb:b≠e:=λz=>by rw[z,h0]at q;cases q
  rw[Qb hb];exact I.base.free b o q n hx
 ·have z:=I.base.tups b xs q;rw[Qb (ne _ _ z)];exact z
 ·have z:=I.base.frzs b o u q;rw[Qb (ne _ _ z)];exact z
 ·obtain⟨m,z⟩:=I.base.tbls b ps q
  exact⟨m,by rw[Qb (ne _ _ z)];exact z⟩
 ·rw[Qb (X9 hL)];exact I.free
 ·rw[Qb (hC x c q)];exact I.freeC x c q
 ·obtain⟨a1,a2,a3⟩:=I.pin p hp'
  exact⟨a1,by rw[Qb (hp p hp')];exact a2,a3⟩
 ·by_cases hb:b=e
  ·subst hb;rw[Qf]at q;cases q;exact new
  ·rw[Qb hb]at q
   exact(I.hok b u q).stay (λc v y r=>r) (λc r=>by rw[Qb (ne _ _ r)];exact r) λc xs r=>by rw[Qb (ne _ _ r)];exact r
def Inv.gone{n:Str}{j t:Nat}{m:Str->Option Value}{v:Option Value}{h':Heap}(I:Inv X pins Y H s)(hN:X.N.Nodup)(hj:X.N[j]?=some n)(hk:X.env.scope.names.lookup n=some .local)(hm:s.heap.Ns X.env.locals m)
  (hn:h'.Ns X.env.locals (λx=>if x=n then v else m x)) (hs:Heap.SameBut X.env.locals s.heap h'):Inv X pins (Y.set j none) H {s with heap:=h',toks:=t}:=by
 obtain⟨m0,hm0,hl⟩:=id I.loc;obtain⟨oL,_,_,hoL,_⟩:=id hm
 have em:∀x,m0 x=m x:=λx=>by
  obtain⟨o1,es1,ep1,a1,a2,a3,a4⟩:=hm0;obtain⟨o2,es2,ep2,b1,b2,b3,b4⟩:=hm;rw[a1]at b1;cases b1;rw[a2]at b2;cases b2;rw[<-a4,<-b4]
 refine⟨I.ok,I.os,I.bare,⟨λb o e n hb hx=>?_,λb o e n hb hx=>?_,I.base.free,λb o e hx=>?_,I.base.tups,I.base.frzs,I.base.tbls⟩,⟨_,hn,λi y v' e1 e2 e3=>?_⟩,λy c e=>?_,I.free,I.freeC,λp hp=>?_,λb ob e=>?_,by simpa using I.len⟩
 ·exact(hs.2 b (Xn (Xs (Xg e) I.ok.above))).trans (I.base.keep b o e n hb hx)
 ·obtain⟨sl,e1⟩:=I.base.slot b o e n hb hx;exact⟨sl,(hs.2 b (Xn (Xs (Xg e) I.ok.above))).trans e1⟩
 ·obtain⟨o',e1⟩:=I.base.there b o e hx;exact⟨o',(hs.2 b (Xn (Xs (Xg e) I.ok.above))).trans e1⟩
 ·have hij:i≠j:=λz=>by
   subst z
   have l:i < Y.length:=by rw[I.len];exact(Xe.mp hj).1
   rw[Wh l]at e2;cases e2
  rw[X8 (X9 hij)]at e2;obtain⟨u',r',q⟩:=hl i y v' e1 e2 e3;refine⟨u',r',?_⟩
  rcases q with⟨k,e⟩|⟨k,c,e,z⟩
  ·refine .inl ⟨k,?_⟩;have:y≠n:=λe=>hij (Jy hN e1 (e▸hj));simp[this,<-em,e]
  ·exact .inr ⟨k,c,e,z.sameBut hs (I.cne y c e)⟩
 ·obtain⟨w',z⟩:=I.cell y c e;exact⟨w',z.sameBut hs (I.cne y c e)⟩
 ·obtain⟨e,n,ne,nf,d⟩:=I.pin p hp;exact⟨(hs.2 p.1 ne).trans e,n,ne,nf,d⟩
 ·refine(I.hok b ob e).stay (λc w' hc q=>(hs.2 c ?_).trans q) (λw q=>q) λw w q=>q;rintro rfl
  rcases hc with hc|hc
  ·rw[<-hc,I.free]at e;cases e
  ·rw[I.free]at hc;cases hc
end
end
section
noncomputable def QeK:List Value:=[.type "ValueError",.type "Exception",.type "BaseException",.type "object"]
section
variable {X:Cx}{pins:List (Addr×Obj)}{Y:St}{H H':Hp}{s s':Shared}{e C C':Addr}{dd:Option Addr}{B:Heap}{a0:Value}{x n y:Str}{j:Nat}{np pn pos:Pos}{Q:Flow->Shared->Prop}{E:Value->Shared->Prop}
noncomputable def Cx.hd(X:Cx)(v:Value):Cx:={X with A:=X.A.mark (some v),calm:=false}
theorem Inv.hd{v:Value}(I:Inv X pins Y H s):Inv (X.hd v) pins Y H s :=
 ⟨⟨I.ok.mod,I.ok.kind,I.ok.glob,I.ok.blt,I.ok.above,I.ok.inj,I.ok.has,I.ok.cab,(λz=>nomatch z),I.ok.frames,I.ok.stk,I.ok.exf,I.ok.bs,I.ok.bsz,I.ok.noex,I.ok.exfs,I.ok.funs,I.ok.frf⟩,I.os,I.bare,I.base,I.loc,I.cell,I.free,I.freeC,I.pin,I.hok,I.len⟩
def Inv.unhd{v:Value}(ok:X.Ok)(I:Inv (X.hd v) pins Y H s):Inv X pins Y H s:=⟨ok,I.os,I.bare,I.base,I.loc,I.cell,I.free,I.freeC,I.pin,I.hok,I.len⟩
structure Met(X:Cx)(pins:List (Addr×Obj))(Y:St)(H H':Hp)(s s':Shared)(e C:Addr)(dd:Option Addr)(B:Heap)(a0:Value):Prop where
 I:Inv X pins Y H s
 os:s'.os=s.os
 bare:AllBare s'.gens
 un:Un (frs X.stack) [] H H' s.heap s'.heap
 hok:HOk X.prog X.w H' s'.heap
 fl:Heap.FlyingW B X.stack e (.ref C) a0 s'.heap
 cv:Cov B H' s X.stack
 hn:H' e=none
 hs0:s.heap.get? e=none
 h00:X.s₀.heap.get? e=none
 da:DictAt s'.heap e dd
def Met.at(M:Met X pins Y H H' s s' e C dd B a0){h2:Heap}(f2:Heap.FlyingW B X.stack e (.ref C) a0 h2)(up:s'.heap.UpToSlots h2)(tk:Nat):Inv X pins Y H' {s' with heap:=h2,toks:=tk}:=by
 obtain⟨un2,hok2⟩:=Qf4 M.un M.hok M.I.stack M.I.stkFree M.fl.1 f2.1 up M.cv
 exact M.I.call' (s':={s' with heap:=h2,toks:=tk}) (ch:=[]) M.os un2 hok2 M.bare (λb z=>absurd z (by simp))
def QgA{h:Heap}{l:List Env}(f:Heap.FlyingW B l e (.ref C) a0 h)(d:DictAt h e dd):QaK e C dd h:=by
 obtain⟨_,_,_,oe,vs,T,oT,ts,he,hc,hd,_⟩:=f;obtain⟨o,e1,e2⟩:=d;cases he.symm.trans e1;exact⟨oe,vs,he,hc.1,hd,e2⟩
def Qfn{nm:Option Str}{body:List Stmt}(hst:X.stack=X.env::X.outer)(hf:X.env.frame=some X.env.locals)(M:Met X pins Y H H' s s' e C dd B a0)
  (hg:Gl X x) (hm:X.mg x=some (.ref C')) (hx:exmOne X.K (.ref C) (.ref C')=some true) (hdb:(x==("__debug__":Str))=false)
  (k:∀h₅,Heap.FlyingW B (X.env::X.outer) e (.ref C) a0 h₅->s'.heap.UpToSlots h₅->DictAt h₅ e dd->codeAny (model X.prog X.w) (X.A.mark (some (.ref e))) (.handlers (.ref e) [.ExceptHandler none nm body pos] X.env) (λr s₂=>match r with
     |.ok f=>(match nm with
      |none=>Q f s₂
      |some n=>wpAny (model X.prog X.w) X.A (do bindName X.env n .none;unbindBehindTheSuite X.env n pos) (λv s₃=>Q f s₃) E s₂)
     |.error y=>cameBackBy (model X.prog X.w) X.A X.env E y s₂) {s' with heap:=h₅}):
  wpAny (model X.prog X.w) X.A (noteFrame (.ref e) X.env) (λv s₂=>wpAny (model X.prog X.w) X.A (setFlight (.ref e) none) (λv s₃=>
   wpAny (model X.prog X.w) X.A (handleBy (.ref e) X.env [.ExceptHandler (some (.Name x np)) nm body pos]) Q E s₃) E s₂) E s':=by
 have fl:=M.fl;rw[hst]at fl;refine X2 (QbM (E:=λv v=>False) QdV (wpAny_looks_onW (Q:=λv s''=>∃h₄,s''={s' with heap:=h₄}/\Heap.HeldW B (X.env::X.outer) e (.ref C) a0 X.env.locals h₄/\s'.heap.UpToSlots h₄) (hst▸M.I.ok.frames) hf fl λh₄ x y=>⟨h₄,rfl,x,y⟩)) (λv s4 u=>?_) λv v z=>z.1.elim;obtain⟨⟨h₄,e4,hl₄,up₄⟩,dk₄⟩:=u;subst e4;refine X2 (QbM (E:=λv v=>False) Yq (wpAny_landsW (s:={s' with heap:=h₄}) (Q:=λv s''=>∃h₅,s''={s' with heap:=h₅}/\Heap.FlyingW B (X.env::X.outer) e (.ref C) a0 h₅/\h₄.UpToSlots h₅) hl₄ λh₅ x y=>⟨h₅,rfl,x,y⟩)) (λv s5 t=>?_) λv v z=>z.1.elim;obtain⟨⟨h₅,e5,fl₅,up₅'⟩,dk₅⟩:=t;subst e5;have da₅:=(M.da.dk dk₄).dk dk₅;have up₅:=up₄.trans up₅';have J5:=M.at (hst▸fl₅) up₅ s'.toks
 refine wpAny_handleBy_cons (codeAny_handlers_test ?_) (by intro z;cases z)
 refine U1 M.I.ok.kind hg (Calls.loadGlobal_global (by rw[M.I.ok.glob];exact J5.mod.glob.keeps J5.bk) hm ?_) hdb
 refine(exm_one (M:=model X.prog X.w) J5.kIn (Qd7 (QgA fl₅ da₅)) hx).here ?_;exact k h₅ fl₅ up₅ da₅
def Qis{b₀:Stmt}{body:List Stmt}{W:St->Hp->Prop}(hst:X.stack=X.env::X.outer)(hf:X.env.frame=some X.env.locals)(hN:X.N.Nodup)(M:Met X pins Y H H' s s' e C dd B a0)
  (hg:Gl X x) (hm:X.mg x=some (.ref C')) (hx:exmOne X.K (.ref C) (.ref C')=some true) (hdb:(x==("__debug__":Str))=false)
  (hj:X.N[j]?=some n) (kn:X.env.scope.names.lookup n=some .local)
  (hS:∀s7,Inv (X.hd (.ref e)) pins (Y.set j (some (.ref e))) (upd H' e (QfO e C dd)) s7->wpAny (model X.prog X.w) (X.hd (.ref e)).A (execs (b₀::body) X.env) (λf s8=>f=.next/\∃σ8 H8,Inv (X.hd (.ref e)) pins σ8 H8 s8/\W σ8 H8) (λu u=>False) s7)
  (k:∀σ8 H8 s'',W σ8 H8->Inv X pins (σ8.set j none) H8 s''->Q .next s''):
  wpAny (model X.prog X.w) X.A (noteFrame (.ref e) X.env) (λu s₂=>wpAny (model X.prog X.w) X.A (setFlight (.ref e) none) (λu s₃=>
   wpAny (model X.prog X.w) X.A (handleBy (.ref e) X.env [.ExceptHandler (some (.Name x np)) (some n) (b₀::body) pos]) Q E s₃) E s₂) E s':=by
 refine Qfn hst hf M hg hm hx hdb λh₅ fl₅ up₅ da₅=>?_;refine codeAny_handlers_suite_as ?_;refine X2 (QbM (E:=λu u=>False) Yq (lands_againW (s:={s' with heap:=h₅}) (Q:=λu s''=>∃h₆,s''={s' with heap:=h₆}/\Heap.FlyingW B (X.env::X.outer) e (.ref C) a0 h₆/\h₅.UpToSlots h₆) fl₅ λh₆ x y=>⟨h₆,rfl,x,y⟩)) (λu s6 r=>?_) λu u z=>z.1.elim;obtain⟨⟨h₆,e6,fl₆,up₆⟩,dk₆⟩:=r;subst e6;have da₆:=da₅.dk dk₆;have J6:=M.at (hst▸fl₆) (up₅.trans up₆) s'.toks;have I:=M.I;have hs0:=M.hs0
 have cne:∀z c,X.env.cells.lookup z=some c->c≠e:=λz c q w=>by
  obtain⟨v,o,ho,_⟩:=I.cell z c q;rw[w,hs0]at ho;cases ho
 have hL:e≠X.env.locals:=λw=>by
  obtain⟨m,⟨o,_,_,ho,_⟩,_⟩:=I.loc;rw[<-w,hs0]at ho;cases ho
 have hp:∀p∈X.pn++pins,p.1≠e:=λp q w=>by
  have:=(I.pin p q).1;rw[w,hs0]at this;cases this
 have J6':Inv X pins Y (upd H' e (QfO e C dd)) {s' with heap:=h₆}:=J6.adopt M.hn M.h00 hL cne hp (Qk2 (QgA fl₆ da₆));refine Jl (v:=.ref e) J6' hN hj (.inl kn) rfl (λs7 J7=>?_) (.inr kn);refine X2 (hS _ J7.hd) (λf s8 l=>?_) λu u z=>z.elim;obtain⟨ef,σ8,H8,J8,w⟩:=l;subst ef;have J8:=J8.unhd I.ok;obtain⟨m8,hn8,_⟩:=J8.loc
 refine wpAny_nameGoes_keeps kn hn8 (by rw[I.ok.kind];rfl) λh' v hv hs=>?_
 exact k σ8 H8 _ w (J8.gone (t:=s8.toks+1) hN hj kn hn8 hv hs)
end
end
section
variable {C N fI:Addr}{A:Around}{h:Heap}{prog:Program}{s:Shared}{w:World}
section
variable {E:Value->Shared->Prop}{g:Array GenState}{d:Drawn}{t:Nat}{os:OsState}
variable {nm q:Str}{bs bm bmB:List Value}{hdct:Bool}{sn:List Str}{sub:List Value}{ab:Bool}{col:Option Bool}{dd:Option Addr}{k0 k1 k2 k3 k5:Option Value}{B newId initId:String}
def QgO(F:ExcBaseFacts B newId initId bmB)(T:OwnTail h bmB bm){mN:Str->Option Value}{us:List Value}{oI:Obj}{Q:Fin->Shared->Prop}
  (hC:h.get? C=some (excClassObj nm q C N bs bm hdct sn sub ab col dd k0 k1 k2 k3 k5 newId)) (hn:h.Ns N mN) (hi:mN "__init__"=some (.ref fI)) (hf:h.get? fI=some oI) (hc:oI.cls=.type "function")
  (k:∀h' e,e=h.objs.size+1->Heap.MadeExcOf h h' e (.ref C) us->wpAny (model prog w) A (call (.ref fI) (.ref e::us)) (λr s'=>r=.none/\Q (.done (.ret (.ref e))) s') E ⟨h',g,d,t,os⟩) (hu:us.length<=sizeLine):
  wpAny (model prog w) A (Builtin.«type.__call__» ⟨.ref C::us,[]⟩) Q E ⟨h,g,d,t,os⟩:=by
 repeat (first|with_reducible refine Ut hC ?_|with_reducible refine wpAny_madeBy_exc hC ?_|wp_step)
 refine codeAny_call_builtin_code (Code.quiet_builtin _ F.quiet) (wpAny_check_new_subT F T hC (codeAny_exc_new_subT F T hC ?_ hu));show wpAny _ _ _ _ _ _;generalize hh:(h.push {cls:=.type "tuple",data:=.seq us.toArray}).push {cls:=.ref C,data:=.fields #[.ref h.objs.size,.none,.none,.none,.bool false,.none]}=h2;have kp:∀b o,h.get? b=some o->h2.get? b=some o:=λb o e=>hh▸Xb _ (Xb _ e)
 have he:h2.get? (h.objs.size+1)=some {cls:=.ref C,data:=.fields #[.ref h.objs.size,.none,.none,.none,.bool false,.none]}:=by subst hh;heap_get
 have ht:h2.get? h.objs.size=some {cls:=.type "tuple",data:=.seq us.toArray}:=hh▸Xb _ (Heap.get?_push_at rfl rfl);have T2:=T.keeps kp
 have cC:(Value.ref C::bm).contains (.ref C)=true:=by simp
 unfold isInstance
 repeat (first|with_reducible refine Ut he ?_|(with_reducible refine wpAny_isSubtype_exc (kp _ _ hC) ?_;rw[cC])|wp_step)
 show wpAny _ _ (typeLookup (.ref C) _) _ _ _;refine wpAny_typeLookup_tail (kp _ _ hC) (hn.keeps kp) T2 F.mroIs F.init.lookup ?_;rw[hi];refine Wu (Xa ?_);unfold bindSpecial;refine Xa (wpAny_typeOf (T:="function") ⟨_,kp _ _ hf,hc⟩ ?_)
 rw[if_pos (by decide)]
 refine Xf (Xa (X2 (k h2 (h.objs.size+1) rfl ⟨kp,Ux (Vs _),h.objs.size,he,Ux (Xm _),ht⟩) (λr s' hr=>?_) λz z x=>x));obtain⟨rfl,hQ⟩:=hr
 wp_walk
 exact hQ
def QgP(F:ExcBaseFacts B newId initId bmB)(T:OwnTail h bmB bm){mN:Str->Option Value}{us:List Value}{oI:Obj}{Q:Value->Shared->Prop}
  (hC:h.get? C=some (excClassObj nm q C N bs bm hdct sn sub ab col dd k0 k1 k2 k3 k5 newId)) (hn:h.Ns N mN) (hi:mN "__init__"=some (.ref fI)) (hf:h.get? fI=some oI) (hc:oI.cls=.type "function")
  (k:∀h' e,e=h.objs.size+1->Heap.MadeExcOf h h' e (.ref C) us->wpAny (model prog w) (A.under (.builtin "type.__call__" ⟨.ref C::us,[]⟩)) (call (.ref fI) (.ref e::us)) (λr s'=>r=.none/\Q (.ref e) s') E ⟨h',g,d,t,os⟩) (hu:us.length<=sizeLine):
  wpAny (model prog w) A (call (.ref C) us) Q E ⟨h,g,d,t,os⟩:=by
 have f1:=tc_lookup;have f2:=tc_bind (.ref C);have hT:(⟨h,g,d,t,os⟩:Shared).TypeIs (.ref C) "type":=⟨_,hC,rfl⟩;refine Uz (codeAny_of_tree ?_);show wpAny _ _ (callAny (.ref C) _) _ _ _
 repeat (any_goals (first|assumption|with_reducible refine Ut hC ?_|wp_step))
 exact⟨rfl,codeAny_call_builtin_at (Code.quiet_builtin _ (by decide +kernel)) entry_typeCall (wpAny_check_type_call_sub hC (QgO F T hC hn hi hf hc k hu))⟩
end
section
variable {E:Value->Shared->Prop}{env:Env}
variable {nm q:Str}{bs bm:List Value}{hdct:Bool}{sn:List Str}{sub:List Value}{ab:Bool}{col:Option Bool}{dd:Option Addr}{k0 k1 k2 k3 k5:Option Value}{newId:String}
def QeI{M:Model}{x:Sem Value}{Q:Flow->Shared->Prop}(hb:bm.contains (.type "BaseException")=true)(hh:A.handled=none)
  (h:wpAny M A x (λv s₁=>∃e o vs,v=.ref e/\s₁.heap.get? C=some (excClassObj nm q C N bs bm hdct sn sub ab col dd k0 k1 k2 k3 k5 newId)/\s₁.heap.get? e=some o/\o.cls=.ref C/\o.data=.fields vs/\vs[1]?=some .none/\E (.ref e) s₁) E s):
  wpAny M A (raiseStmt env (some x) none) Q E s:=by
 have cB:(Value.ref C::bm).contains (.type "BaseException")=true:=by rw[List.contains_cons,hb,Bool.or_true]
 unfold raiseStmt;refine Xa (X2 h (λv s₁ h₁=>?_) λz z x=>x);obtain⟨e,⟨oc,od,odt,osl⟩,vs,rfl,hC,he,hc,hd,h1,hE⟩:=h₁;dsimp only at hc hd;subst hc hd;obtain⟨hp,g,d,tk,os⟩:=s₁
 repeat (first|with_reducible refine Ut he ?_|with_reducible refine Ut hC ?_|(with_reducible refine wpAny_isSubtype_exc hC ?_;rw[cB])|with_reducible refine W8 he rfl h1 ?_|wp_step)
 exact wpAny_raiseNew_none hh hE
end
def QlU(a C:Addr)(dd:Option Addr)(h:Heap):Prop:=∃o vs t0,h.get? a=some o/\o.cls=.ref C/\o.data=.fields vs/\vs[0]?=some (.ref t0)/\vs[1]?=some .none/\o.dict=dd
noncomputable def Jz(a C:Addr)(dd:Option Addr):HO:=.ext (QlU a C dd)
def QdJ{P:Program}{H:Hp}{a:Addr}{dd:Option Addr}(p:QlU a C dd h):ObjOk P w H h a (Jz a C dd):=by
 refine⟨p,?_,λh1 h2 q k=>?_⟩
 ·obtain⟨o,_,_,e,_⟩:=p;exact⟨o,e⟩
 ·obtain⟨o,vs,a0,e,r⟩:=q;exact⟨o,vs,a0,k o e,r⟩
section
variable {X:Cx}{pins:List (Addr×Obj)}{Y:St}{H:Hp}{e:Addr}{dd:Option Addr}
def QdK(I:Inv X pins Y H s)(q:H e=some (Jz e C dd)):QlU e C dd s.heap:=(show ObjOk X.prog X.w H s.heap e (.ext (QlU e C dd))from I.hok e _ q).1
def Inv.drop(I:Inv X pins Y (upd H e (Jz e C dd)) s)(hn:H e=none):Inv X pins Y H s:=by
 have ne:∀b u,u≠Jz e C dd->upd H e (Jz e C dd) b=some u->H b=some u:=λb u d q=>by
  by_cases hb:b=e
  ·subst hb;rw[Qf]at q;cases q;exact absurd rfl d
  ·rw[Qb hb]at q;exact q
 have no:∀b,upd H e (Jz e C dd) b=none->H b=none:=λb q=>by
  by_cases hb:b=e
  ·rw[hb];exact hn
  ·rw[Qb hb]at q;exact q
 refine⟨I.ok,I.os,I.bare,⟨I.base.keep,I.base.slot,λb o q n hx=>no b (I.base.free b o q n hx),I.base.there,λb xs q=>ne b _ (λz=>nomatch z) (I.base.tups b xs q),λb o u q=>ne b _ (λz=>nomatch z) (I.base.frzs b o u q),λb ps q=>?_⟩,I.loc,I.cell,no _ I.free,λx c q=>no _ (I.freeC x c q),λp hp=>?_,λb u q=>?_,I.len⟩
 ·obtain⟨m,z⟩:=I.base.tbls b ps q;exact⟨m,ne b _ (λz=>nomatch z) z⟩
 ·obtain⟨a1,a2,a3⟩:=I.pin p hp;exact⟨a1,no _ a2,a3⟩
 ·have hb:b≠e:=λz=>by rw[z,hn]at q;cases q
  refine(I.hok b u (by rw[Qb hb];exact q)).stay (λc v y r=>r) (λc r=>ne c _ (λz=>nomatch z) r) λc xs r=>ne c _ (λz=>nomatch z) r
end
section
variable {X:Cx}{CB:Addr}{x:Str}{np apos pos:Pos}{a b:Expr}{t:TA}
def tBI(C:Addr)(t:TA):TE:=λY H Q=>t Y H λvs H1=>∃e v dd,vs=[.ref e,v]/\H1 e=some (Jz e C dd)/\Q .non H1
def QmR{K:W.Frag}{mg:Str->Option Value}{n:Str}{v:Value}(X:K.In h)(G:h.Ns N mg)(e:nsIn K N n=some (some v)):mg n=some v:=by
 obtain⟨o,es,ep,ho,hd,_,hf⟩:=G;unfold nsIn at e;split at e
 ·rename_i q;cases ho.symm.trans (X _ _ q);cases hd;split at e
  ·rename_i en he;cases e;rw[<-hf,nsFind,findBy,<-Array.find?_toList,he];rfl
  ·split at e<;>cases e
 ·cases e
noncomputable def Qd6(K:W.Frag)(C fI:Addr):Bool:=match K.lookup C with
 |some ⟨.type "type",_,.cls cd,sl⟩=>(match cd.mro,sl.toList with
  |.ref C'::bm,[_,_,_,_,some (.builtin n),_]=>C'==C&&n=="ValueError.__new__"&&!cd.hasDel&&tailIn K QeK bm&&nsOkIn K cd.ns&&nsIn K cd.ns "__init__"==some (some (.ref fI))
  |_,_=>false)
 |_=>false
def Qbh{K:W.Frag}{C:Addr}(X:K.In h)(q:Qd6 K C fI=true):
  ∃bm N nm q bs hdct sn sub ab col dd k0 k1 k2 k3 k5 mN,h.get? C=some (excClassObj nm q C N bs bm hdct sn sub ab col dd k0 k1 k2 k3 k5 "ValueError.__new__")/\h.Ns N mN/\mN "__init__"=some (.ref fI)/\OwnTail h QeK bm:=by
 unfold Qd6 at q;split at q
 ·rename_i dd cd sl ho;split at q
  ·rename_i C' bm k0 k1 k2 k3 n k5 hm hs;simp only[Xk,Wn,Uc]at q;obtain⟨⟨⟨⟨⟨rfl,rfl⟩,hdel⟩,ht⟩,hok⟩,hni⟩:=q;obtain⟨nm,bs,mro,ns,qn,hd,sn,sub,ab,col,del⟩:=cd;dsimp only at hm hdel hok hni;subst hm hdel
   have hsl:sl=#[k0,k1,k2,k3,some (.builtin "ValueError.__new__"),k5]:=by
    obtain⟨l⟩:=sl;simp only at hs;rw[hs]
   subst hsl;exact⟨bm,ns,nm,qn,bs,hd,sn,sub,ab,col,dd,k0,k1,k2,k3,k5,_,X _ _ ho,.of_isNs (isNs_of_in X hok),QmR X (.of_isNs (isNs_of_in X hok)) hni,tail_of_in X ht⟩
  ·cases q
 ·cases q
def Qfh{pl:Sem Bool}(hg:Gl X x)(hm:X.mg x=some (.ref CB))(hdb:(x==("__debug__":Str))=false)(q:Qd6 X.K C fI=true)(h1:specialIn X.K (.ref CB) "__getattribute__"=some (some (.builtin "type.__getattribute__")))(h2:readsIn X.K CB (.type "type")=true)
  (h3:findCls X.K (.ref CB) (.type "type") "__init__"=some (.val (.builtin "ValueError.__init__"))) (ha:PA X [a,b] t) (hs:starEach [a,b] X.env=[(false,eval a X.env),(false,eval b X.env)])
  (ht:eval (.Call (.Attribute (.Name x np) "__init__" apos) [a,b] [] pos) X.env=(do
   let ov <-eval (.Name x np) X.env
   standAt apos.atName
   let (f,first) <-holding [ov] (getMethod ov "__init__" pl)
   callWith pos f first (backTo pos (starEach [a,b] X.env)) (backToKw pos (keywordEach [] X.env)))):
  PE X (.Call (.Attribute (.Name x np) "__init__" apos) [a,b] [] pos) (tBI C t):=by
 intro pins s Y H Q I h;refine methodCall_KW (pl:=pl) (Zc I hg hm ?_ hdb) ht
 refine method_cls I.kIn h1 (cls_value I.kIn h2 h3 (by decide +kernel) ?_)
 have I1:=I.tok (s.toks+1);have hA:=ha pos pins _ Y H _ I1 h;rw[hs]at hA ⊢;refine To rfl (Calls.evalArgs_plain (X2 hA (λus s1 y=>?_) λw w z=>z));obtain⟨vs,H1,I1,r,e,v,dd,ev,he,q1⟩:=y;subst ev;obtain⟨u,u2,rfl,ru,_⟩:=Qb2 r;cases(show u=Value.ref e from ru);obtain⟨bm,N,nm,qn,bs,hdct,sn,sub,ab,col,dd',k0,k1,k2,k3,k5,mN,hC,hN,hi,T⟩:=Qbh I1.kIn q;obtain⟨⟨oc,od,odt,osl⟩,vs,a0,ho,hc,hd,v0,v1,hdd⟩:=QdK I1 he;dsimp only at hc hd hdd;subst hc hd hdd;obtain⟨hp,g,dw,tk,os⟩:=s1;refine Uz (U0 Vl.init.plain Vl.initEntry (wpAny_check_init_subT Vl T hC ho rfl ?_));unfold Builtin.«BaseException.__init__» Builtin.BaseException.bexcPut
 repeat (first|with_reducible refine W8 (Xb _ ho) rfl v0 ?_|with_reducible refine Te (Xb _ ho) rfl (Array.getElem?_eq_some_iff.mp v0).1 ?_|wp_step)
 have up:(hp.push {cls:=.type "tuple",data:=.seq #[u2]}).get? e=some ⟨.ref C,od,.fields vs,osl⟩:=Xb _ ho;have hd2:=Up (o:=⟨.ref C,od,.fields vs,osl⟩) rfl (·.setIfInBounds 0 (Value.ref hp.objs.size));have he2:=Wv (Obj.mapFields (·.setIfInBounds 0 (Value.ref hp.objs.size))) up (Tx hd2);have z0:=(Array.getElem?_eq_some_iff.mp v0).1
 have J:=Inv.write (o:=Jz e C od) (t':=tk) I1 (by rw[he];trivial) (.inl rfl) (λb u nb q=>(W7 _ _ (X9 nb)).trans (Xb _ q)) ⟨_,he2⟩
  (QdJ ⟨_,_,hp.objs.size,he2,Obj.cls_mapFields _ _,hd2,by simp[z0],by rw[Array.getElem?_setIfInBounds_ne (by decide)];exact v1,rfl⟩)
 have eH:upd H1 e (Jz e C od)=H1:=funext λb=>by
  by_cases hb:b=e
  ·rw[hb,Qf,he]
  ·rw[Qb hb]
 rw[eH]at J;exact⟨.non,H1,J,rfl,q1⟩
end
noncomputable def QdA:List Value->Bool
 |.ref _::r=>QdA r
 |l=>l==QeK
noncomputable def Qae(K:W.Frag)(C:Addr):Bool:=(clsIn K C).any λcd=>QdA cd.mro&&cd.hasDict
theorem J0(self:Value):∀{l:List Value},QdA l=true->refuseLoop self "__setattr__" l=pure ()
 |[],e=>by cases e
 |v::r,e=>by
  cases v with
  |ref c=>rw[refuseLoop_ref];exact J0 self e
  |_=>rw[Wn.mp (show(_::r==QeK)=true from e)];exact PySem.F.store_ValueError.passes self
section
variable {E:Value->Shared->Prop}{K:W.Frag}{x:Addr}{name:Str}{v:Value}{vs:Array Value}{sl:Array (Option Value)}{Q:Unit->Shared->Prop}
open Builtin Builtin.ObjectAttr
def QeZ(X:K.In s.heap)(Yyy:ErrCls K C)(hs:findIn K (.ref C) "__setattr__"=some (some (.builtin "object.__setattr__")))(ho:Qae K C=true)(hf:findIn K (.ref C) name=some none)(hx:s.heap.get? x=some ⟨.ref C,none,.fields vs,sl⟩)
  (h:∀h' d tk,d=s.heap.objs.size->h'.get? x=some ⟨.ref C,some d,.fields vs,sl⟩->h'.Ns1 d (λy=>if y=name then some v else none)->(∀b o,b≠x->s.heap.get? b=some o->h'.get? b=some o)->Q () {s with heap:=h',toks:=tk}):
  wpAny (model prog w) A (setAttr (.ref x) name v) Q E s:=by
 have I:InstAt s.heap x ⟨.ref C,none,.fields vs,sl⟩ C none:=⟨hx,rfl,rfl,trivial⟩;obtain⟨cd,hc,hb⟩:=any_some ho;rw[Xk]at hb;refine set_plain X I hs ?_;have SF:=PySem.F.store_object;have sub:Looks (model prog w) s.heap (isInstance (.ref x) (.type "object")) true:=I.type.andThen (looks_subIn X Yyy.so);have hm:Looks (model prog w) s.heap (mroOf (.ref C)) cd.mro:=(looks_clsIn X hc).andThen .now;refine U0 SF.slot.plain SF.entry (@check_slot (model prog w) _ _ {s with toks:=s.toks+1} "object.__setattr__" "object" "__setattr__" (.ref x) [.str name s.toks,v] [] _ SF.kind SF.split sub (SF.args (.ref x) (.str name s.toks) v) ?_);rw[osa_eq,refuse_eq];refine Xa (Xa (Looks.here (s:={s with toks:=s.toks+1}) I.type (Xa (Looks.here (s:={s with toks:=s.toks+1}) hm ?_))));rw[J0 _ hb.1];refine Xf (Xa (Looks.here (s:={s with toks:=s.toks+1}) I.type (Xa (Looks.here (s:={s with toks:=s.toks+1}) (looks_findIn X hf) (Xa (Xf ?_))))));show wpAny _ _ (storeInOwnDict (.ref x) (.ref C) (.str name s.toks) name v false) _ _ _;refine Xa (Xf (Xa (Xa (wpAny_loadPart hx (Xa (Looks.here (s:={s with toks:=s.toks+1}) (looks_clsIn X hc) ?_))))))
 rw[hb.2,if_neg (by decide)]
 show wpAny _ _ (if(!true||!typeHasDict (.ref C))=true then pure none else _) _ _ _
 rw[if_neg (by simp[typeHasDict])]
 have nx:x≠s.heap.objs.size:=Xn (Xg hx);have hx1:(s.heap.push {cls:=.type "dict",data:=.dict #[]}).get? x=some ⟨.ref C,none,.fields vs,sl⟩:=Xb _ hx;refine Xa (wpAny_alloc' (Xa (wpAny_update' hx1 (Xf ?_))));generalize hh:(s.heap.push {cls:=.type "dict",data:=.dict #[]}).update x (λo=>{cls:=o.cls,dict:=some s.heap.objs.size,data:=o.data,slots:=o.slots})=h2;have gx:h2.get? x=some ⟨.ref C,some s.heap.objs.size,.fields vs,sl⟩:=hh▸Wv _ hx1 rfl;have gk:∀b o,b≠x->s.heap.get? b=some o->h2.get? b=some o:=λb o nb e=>hh▸(U5 _ _ _ _ nb).trans (Xb _ e)
 have gd:h2.Ns s.heap.objs.size (λz=>none):=⟨_,#[],_,hh▸(U5 _ _ _ _ (X9 nx)).trans (Heap.get?_push_at rfl rfl),rfl,λe he=>absurd he (by simp),λz=>rfl⟩
 show wpAny _ _ (storeInDict s.heap.objs.size (.str name s.toks) name v) _ _ _;unfold storeInDict newKeyGuard;refine Xa (Xf (Xa (wpAny_nsSet1 (Heap.Ns1.of_empty gd) λh' hn' hs=>?_)));obtain⟨oD,esD,epD,hoD,hdD,hcD⟩:=hn'.count (Within.cons name v Within.nil)
 refine Xa (wpAny_lookBehind hoD (by rw[hdD];exact pastItsLine_dict (X6 hcD (by rw[X7,Vj,W6];omega))) (Xf ?_))
 exact h h' _ _ rfl ((hs.2 x nx).trans gx) hn' λb o nb e=>(hs.2 b (Xn (Xg e))).trans (gk b o nb e)
end
end
end L2
namespace L2
open PySem PySem.Spec PySem.W PyProof.Rows PySem.Calls PySem.Builtin PySem.Builtin.ObjectAttr
section
variable {prog:Program}{w:World}{A:Around}{E:Value->Shared->Prop}{K:W.Frag}{h:Heap}{g:Array GenState}{d:Drawn}{t:Nat}{os:OsState}{a C dx:Addr}{name:Str}{v:Value}{mA:Str->Option Value}
def Qid{expr:Bool}{Q:Value->Shared->Prop}(Yyy:ErrCls K C)(X:K.In h)(hh:hasDictIn K C=true)(ha:findIn K (.ref C) name=some none)(p:QaK a C (some dx) h)(hn:h.Ns1 dx mA)(hv:mA name=some v)(hv':handedIn v=true)
  (hq:Q v ⟨h,g,d,t+1,os⟩):wpAny (model prog w) A (getAttr (.ref a) name expr) Q E ⟨h,g,d,t,os⟩:=by
 obtain⟨od,ho,hl⟩:=Qal hn;have L0:=Qd7 (M:=model prog w) p;have L1:=looks_findIn (M:=model prog w) X Yyy.ga;have L2:=looks_findIn (M:=model prog w) X Yyy.gh
 have J:∃ox,InstAt h a ox C (some od):=by
  obtain⟨o,vs,e1,e2,e3,e4⟩:=p
  exact⟨o,e1,e2,by unfold notCls;rw[e3],by rw[e4];exact ho⟩
 obtain⟨ox,J⟩:=J
 have LF:=looks_find (M:=model prog w) X J (findObj_own hh ha rfl (by rw[hl,hv]))
 unfold getAttr getAttrBy;refine Xa (wpAny_mkText (Wu (Xa (L0.at (Xa (L1.at ?_))))));dsimp only
 have hne:¬(onTheHeap (Value.ref C)&&Value.builtin "BaseException.__getattribute__"==Value.builtin "object.__getattribute__")=true:=by
  rw[show(Value.builtin "BaseException.__getattribute__"==Value.builtin "object.__getattribute__")=false from by decide +kernel]
  simp
 rw[if_neg hne];unfold getAttrByItsOwn hookBefore;refine Xa ?_;rw[if_pos (show onTheHeap (Value.ref C)=true from rfl)];refine L2.at ?_;refine Xa (Tq (Wu ?_));unfold callGetattribute
 rw[show(expr&&onTheHeap (Value.builtin "BaseException.__getattribute__"))=false from Bool.and_false _,if_neg (by decide)]
 have f3:=PySem.F.attrBase_ValueError.ga.bind (.ref a);unfold boundAndCalled;refine Xa (wpAny_of_eq f3 ?_);refine Uz ?_;refine U0 PySem.F.attrBase_ValueError.ga.plain PySem.F.entry_bexc_ga (Qd8 Yyy X p ?_);unfold Builtin.«object.__getattribute__»;refine Xa (Xf (Xa (Xf (Xa (L0.at (Xa (LF.at ?_)))))));show wpAny _ _ (ret v) _ _ _;refine Xf ?_;show wpAny _ _ (handedOut v) _ _ _;exact handed_on hv' hq
end
section
variable {X:Cx}{o e value:Expr}{f:Str}{pos pos':Pos}{ta tv:TE}{pins:List (Addr×Obj)}{Y:St}{H:Hp}{s:Shared}
def Qmc(K:W.Frag)(ta:TE)(f:Str):TE:=λY H Q=>ta Y H λx H1=>∃a C d od fs v,x=.ref a/\H1 a=some (QfO a C (some d))/\H1 d=some (.frz od (.xd fs))/\ErrCls K C/\hasDictIn K C=true/\findIn K (.ref C) f=some none/\fs.lookup f=some v/\Q v H1
def QhF(he:PE X e ta)(hb:attributeBase e f X.env (eval e X.env)=eval e X.env):PE X (.Attribute e f pos) (Qmc X.K ta f):=by
 intro pins s Y H Q I h;refine Qex hb (thn (he pins s Y H _ I h) λu s1 z=>?_);obtain⟨x,H1,I1,rx,a,C,d,od,fs,v,ex,ea,ed,Yyy,hh,hf,l,q⟩:=z;subst ex;obtain rfl:u=Value.ref a:=rx;obtain⟨_,mA,hn,r⟩:=(show ObjOk X.prog X.w H1 s1.heap d (.frz od (.xd fs))from I1.hok d _ ed)
 obtain⟨u,hu,ru⟩:=RelO.some_of (v:=v) (o:=mA f) (by rw[<-l];exact r f)
 obtain⟨hp,g,dw,tk,os⟩:=s1;exact Qid Yyy I1.kIn hh hf (QfP I1 ea) hn hu (Qav ru) ⟨v,H1,I1.tok _,ru,q⟩
def Qmr(K:W.Frag)(C:Addr)(ta tv:TE)(f:Str):TS:=λD Y H=>tv Y H λy H1=>ta Y H1 λx H2=>∃a,x=.ref a/\H2 a=some (Jz a C none)/\∀d od,H2 d=none->d≠a->D.nx Y (upd (upd H2 a (Jz a C (some d))) d (.frz od (.xd [(f,y)])))
def Qhp{C:Addr}(Yyy:ErrCls X.K C)(h1:findIn X.K (.ref C) "__setattr__"=some (some (.builtin "object.__setattr__")))(h2:Qae X.K C=true)(h3:findIn X.K (.ref C) f=some none)(ha:PE X o ta)(hv:PE X value tv)
  (hs:swapsWith value (some (.Attribute o f pos')) pos.line X.env=pure false) (hex:X.ex=[]):PS X (.Assign [.Attribute o f pos'] value pos) (Qmr X.K C ta tv f):=by
 intro pins s Y H D I h;refine plainObj_wpAny_Assign_Attribute (thn (hv pins s Y H _ I h) λu s1 ⟨y,H1,I1,ry,q⟩=>thn (ha pins s1 Y H1 _ I1 q) λov s2 v=>?_) hs;obtain⟨x,H2,I2,rx,a,ex,ea,q2⟩:=v;subst ex;obtain rfl:ov=Value.ref a:=rx;obtain⟨⟨oc,od,odt,osl⟩,vs,t0,ho,hc,hd,v0,v1,hdd⟩:=QdK I2 ea;dsimp only at hc hd hdd;subst hc hd hdd;refine QeZ I2.kIn Yyy h1 h2 h3 ho λh' d tk ed gx gn gk=>?_;have sz:s2.heap.objs.size<=d:=Nat.le_of_eq ed.symm;have dn:s2.heap.get? d=none:=Ux sz;have hH:H2 d=none:=I2.hok.fresh sz
 have da:d≠a:=λz=>by rw[z,ea]at hH;cases hH
 obtain⟨od,es,ep,e1,e2,e3⟩:=gn
 have J:=Inv.write (o:=Jz a C (some d)) (t':=tk) I2 (by rw[ea];trivial) (.inl rfl) gk ⟨_,gx⟩ (QdJ ⟨_,_,t0,gx,rfl,rfl,v0,v1,rfl⟩)
 have J2:=J.adopt (e:=d) (ho:=.frz od (.xd [(f,y)])) (by rw[Qb da];exact hH) (by
   cases z:X.s₀.heap.get? d with
   |none=>rfl
   |some o=>
    obtain⟨o',ho'⟩:=I2.base.there d o z (by rw[hex];simp)
    rw[dn]at ho'
    cases ho') (λz=>by
   obtain⟨m,⟨o,_,_,ho',_⟩,_⟩:=I2.loc;rw[<-z,dn]at ho'
   cases ho') (λx c z w=>by
   obtain⟨v',o,ho',_⟩:=I2.cell x c z;rw[w,dn]at ho'
   cases ho') (λp hp w=>by
   have:=(I2.pin p hp).1;rw[w,dn]at this
   cases this) ⟨e1,_,⟨od,es,ep,e1,e2,e3⟩,λn=>?_⟩
 ·exact⟨Y,_,J2,q2 d od hH da⟩
 ·by_cases hn:n=f
  ·subst hn;rw[if_pos rfl,V7];exact ry
  ·rw[if_neg hn,W3,show(n==f)=false from Wm.mpr hn];trivial
end
end L2
namespace L2
open PySem PySem.Spec PySem.W PyProof.Rows
section
variable {C fI:Addr}
structure Exi(K:W.Frag)(C fI:Addr):Prop where
 q:Qd6 K C fI=true
 fn:isFn K (.ref fI)=true
 kp:keepIn K (.ref C)=true
end
end L2
namespace L2
open PySem PySem.Spec PySem.W PyProof.Rows PySem.Calls PySem.Builtin
section
variable {X:Cx}{e:Expr}{ta:TE}
def Qo9(ta:TE):TE:=λY H Q=>ta Y H λx H1=>(∃i:Int,x=.int i/\i.natAbs.log2<1920/\Q (.str (toString i)) H1)\/∃y:Str,x=.str y/\y.length<=sizeLine/\Q (.str y) H1
def Qkf{pos:Pos}(he:PE X e ta):PE X (.FormattedValue e (-1) none pos) (Qo9 ta):=by
 intro pins s Y H Q I h;refine wpAny_FormattedValue_plain (thn (he pins s Y H _ I h) λu s1 z=>?_);obtain⟨v,H1,I1,r,q⟩:=z
 obtain⟨i,rfl,hi,q⟩|⟨y,rfl,hy,q⟩:=q
 ·obtain⟨t,rfl⟩:=r;exact wpAny_formatField_int hi ⟨.str (toString i),H1,I1.tok _,⟨_,rfl⟩,q⟩
 ·obtain⟨t,rfl⟩:=r;exact wpAny_formatField_str ⟨.str y,H1,I1,⟨_,rfl⟩,q⟩ ⟨.str y,H1,I1.tok _,⟨_,rfl⟩,q⟩ hy
noncomputable def tJn:List TE->Str->TE
 |[],acc=>λz H Q=>Q (.str acc) H
 |t::ts,acc=>λY H Q=>t Y H λx H1=>∃y:Str,x=.str y/\(acc++y).length<=sizeLine/\tJn ts (acc++y) Y H1 Q
def Qfx{es:List Expr}{ts:List TE}(h:Paired (λe t=>PE X e t) es ts):∀(acc:Str) (pins:List (Addr×Obj)) (s:Shared) (Y:St) (H:Hp) (Q:VK),acc.length<=sizeLine->Inv X pins Y H s->tJn ts acc Y H Q ->
  Joins (model X.prog X.w) X.A X.xe (evalEach es X.env) acc (λout s₁=>out.length<=sizeLine/\EP X pins Y Q (.str out s₁.toks) {s₁ with toks:=s₁.toks+1}) s:=by
 induction h with
 |nil=>exact λacc pins s Y H Q ha I h=>⟨ha,.str acc,H,I.tok _,⟨_,rfl⟩,h⟩
 |cons p _ ih=>
  intro acc pins s Y H Q ha I h;refine thn (p pins s Y H _ I h) λu s1 z=>?_;obtain⟨v,H1,I1,r,y,e,l,q⟩:=z;subst e;obtain⟨t,rfl⟩:=r;exact⟨y,t,rfl,l,ih (acc++y) pins s1 Y H1 Q l I1 q⟩
def QhE{e1 e2:Expr}{es:List Expr}{ts:List TE}{pos:Pos}(h:Paired (λe t=>PE X e t) (e1::e2::es) ts):PE X (.JoinedStr (e1::e2::es) pos) (tJn ts Str.empty):=
 λpins s Y H Q I q=>wpAny_JoinedStr (Qfx h Str.empty pins s Y H Q (by decide) I q)
end
end L2
namespace L2
open PySem PySem.Spec PySem.W PyProof.Rows
section
section
variable {X:Cx}{pins:List (Addr×Obj)}{Y:St}{H:Hp}{s:Shared}{C fI:Addr}{fd:FuncData}{ps:List Str}{k:Nat}{CX:CXT}{E0:XK}{sp:Sp}{vs dvs:List V}{us ds:List Value}{P:Addr->Hp->Prop}
def Qc9(M:Exi X.K C fI)(F:FnOk X.prog X.w X.K X.mg X.base CX k fI fd ps sp)(hr:Room (k+1) X.A)(hb:Binds X.K fd ps ds)(hd:Vals dvs ds)(hx:ZK CX X E0)(I:Inv X pins Y H s)(r:Vals vs us)(hu:us.length<=sizeLine)
  (h:∀e,H e=none->sp (.ref e::vs++dvs) (upd H e (Jz e C none)) (λu H'=>u=.non/\P e H') E0):
  wpAny (model X.prog X.w) X.A (call (.ref C) us) (λu s'=>∃e H',u=.ref e/\Inv X pins Y H' s'/\P e H'/\H e=none/\s.heap.get? e=none) X.xe s:=by
 obtain⟨bm,N,nm,qn,bs,hdct,sn,sub,ab,col,dd',k0,k1,k2,k3,k5,mN,hC,hN,hi,T⟩:=Qbh I.kIn M.q
 obtain⟨oI,hoI,hcI⟩: ∃oI,s.heap.get? fI=some oI/\oI.cls=.type "function":=by
  obtain⟨oI,h1,h2⟩:=Xd.mp (Wn.mp M.fn);exact⟨oI,I.kIn _ _ h1,h2⟩
 obtain⟨hp,g,dw,tk,os⟩:=s;refine QgP Vl T hC hN hi hoI hcI (λh' e ee mx=>?_) hu;have sz:hp.objs.size<=e:=ee▸Vs _;have hn:H e=none:=I.hok.fresh sz;obtain⟨t0,he,_,_⟩:=mx.there;have I2:Inv X pins Y (upd H e (Jz e C none)) ⟨h',g,dw,tk,os⟩:=I.laid (t':=tk) mx.keeps sz (QdJ ⟨_,_,t0,he,rfl,rfl,rfl,rfl,rfl⟩);have r2:Vals (V.ref e::vs++dvs) ((Value.ref e::us)++ds):=(show Vals (V.ref e::vs) (Value.ref e::us)from .cons rfl r).append hd;have hsp:=h e hn
 have hl:((Value.ref e::us)++ds).length=ps.length:=by rw[<-F.len _ _ _ _ hsp];exact r2.length.symm
 refine Uz (Uv (F.run _ X.stack _ _ ⟨.ref e::us,[]⟩ ((.ref e::us)++ds) _ _ E0 (hr.make C us []) (I2.env0.make C us []) (hb _ (.ref e::us) I2.kIn hl) r2 hsp) λr s' hq=>?_)
 cases r with
 |error e=>exact hx pins Y _ _ e s' I2 hq
 |ok fl=>
  cases fl with
  |ret u=>
   obtain⟨v',H',I3,rv,ev,p⟩:=I2.after hq;subst ev;exact⟨rv,e,H',rfl,I3,p,hn,mx.new⟩
  |next=>exact False.elim hq
  |brk=>exact False.elim hq
  |cont=>exact False.elim hq
def Qdg{x:Str}{np cpos pos:Pos}{W:Option Addr->Hp->Prop}{a:Expr}{as:List Expr}{ta:TA}(M:Exi X.K C fI)(F:FnOk X.prog X.w X.K X.mg X.base CX k fI fd ps sp)(hr:Room (k+1) X.A)(hb:Binds X.K fd ps ds)(hd:Vals dvs ds)(hx:ZK CX X E0)(hg:Gl X x)(hm:X.mg x=some (.ref C))(hc:X.calm=true)(hex:X.ex=[])(ha:PA X (a::as) ta)
  (hw:∀pins Y H s e oe vs a0,Inv X pins Y H s->H e=none->X.s₀.heap.get? e=none->e≠X.env.locals->s.heap.get? e=some oe->oe.cls=.ref C->oe.data=.fields vs->vs[0]?=some a0->vs[1]?=some .none->W oe.dict H->X.xe (.ref e) s) (hdb:(x==("__debug__":Str))=false)
  (he:starEach (a::as) X.env=(false,eval a X.env)::starEach as X.env) (hpl:(backTo cpos (starEach as X.env)).any (·.1)=false):
  PS X (.Raise (some (.Call (.Name x np) (a::as) [] cpos)) none pos) (λy Y H=>ta Y H λvs H1=>vs.length<=sizeLine/\∀e,H1 e=none->sp (.ref e::vs++dvs) (upd H1 e (Jz e C none)) (λu H'=>u=.non/\∃dd H2,H'=upd H2 e (Jz e C dd)/\H2 e=none/\W dd H2) E0):=by
 intro pins s Y H D I h;obtain⟨bm,N,nm,qn,bs,hdct,sn,sub,ab,col,dd',k0,k1,k2,k3,k5,mN,hC,hN,hi,T⟩:=Qbh I.ok.mod.kin M.q;rw[arm_exec_Raise];refine Xa (Tp (QeI (C:=C) (nm:=nm) (q:=qn) (N:=N) (bs:=bs) (bm:=bm) (hdct:=hdct) (sn:=sn) (sub:=sub) (ab:=ab) (col:=col) (dd:=dd') (k0:=k0) (k1:=k1) (k2:=k2) (k3:=k3) (k5:=k5) (newId:="ValueError.__new__") (T.hasType Vl.hasBase) (I.ok.hd hc) ?_))
 have run:wpAny (model X.prog X.w) X.A (eval (.Call (.Name x np) (a::as) [] cpos) X.env) (λu s'=>∃e dd H2,u=.ref e/\Inv X pins Y (upd H2 e (Jz e C dd)) s'/\H2 e=none/\W dd H2/\X.s₀.heap.get? e=none/\e≠X.env.locals) X.xe s:=by
  refine Wg (Zc I hg hm ?_ hdb);refine PySem.W.callWith_K (h₀:=X.base) I.ok.mod.kin M.kp (thn (ha cpos pins s Y H _ I h) λus s1 ⟨vs,H1,I1,r,l,q⟩=>⟨I1.kIn,?_⟩) he hpl
  refine thn (Qc9 M F hr hb hd hx I1 r (show us.length<=sizeLine by rw[<-r.length];exact l) q) λu s2 v=>?_;obtain⟨e,H',eu,J,⟨dd,H2,eH,n2,w⟩,n1,hs⟩:=v
  subst eH;refine⟨e,dd,H2,eu,J,n2,w,?_,?_⟩
  ·cases z:X.s₀.heap.get? e with
   |none=>rfl
   |some o=>
    obtain⟨o',ho'⟩:=I1.base.there e o z (by rw[hex];simp)
    rw[hs]at ho';cases ho'
  ·intro z;obtain⟨m,⟨o,_,_,ho',_⟩,_⟩:=I1.loc;rw[<-z,hs]at ho';cases ho'
 refine Xa (X2 run (λu s3 ⟨e,dd,H2,eu,J,n2,w,z1,z2⟩=>Xa (Tp (Xf ?_))) λy y z=>z);obtain⟨oe,vs,t0,g1,g2,g3,g4,g5,g6⟩:=QdK J Qf
 exact⟨e,oe,vs,eu,J.bk _ _ hC,g1,g2,g3,g5,hw pins Y _ _ e oe vs _ (J.drop n2) n2 z1 z2 g1 g2 g3 g4 g5 (by rw[g6];exact w)⟩
end
end
section
def spJ(C:Addr)(f:Str):Sp:=λvs H Q E=>∃e i,vs=[.ref e,.int i]/\i.natAbs.log2<1920/\H e=some (Jz e C none)/\∀d od,H d=none->d≠e->Q .non (upd (upd H e (Jz e C (some d))) d (.frz od (.xd [(f,.int i)])))
noncomputable def Qiu(B sf fl:Str)(txt:Str)(p1 p2 p3 p4 p5 p6 p7 p9 p10 p11 p12 p13 p14:Pos)(k7:Nat):List Stmt :=
 [.Expr (.Call (.Attribute (.Name B p1) "__init__" p2) [.Name sf p3,.JoinedStr [.Constant (.str txt) k7 p7,.FormattedValue (.Name fl p4) (-1) none p5] p6] [] p9) p10,.Assign [.Attribute (.Name sf p11) fl p12] (.Name fl p13) p14]
def QfC{P:Program}{w:World}{K:W.Frag}{mg:Str->Option Value}{base:Heap}{C CB fI:Addr}{name qual B sf fl txt:Str}{params:Arguments}{scope:Scope}{dV kV doc pm cdv ct oc:Value}{an od:Option Addr}{osl:Array (Option Value)}{body:List Stmt}
  {p1 p2 p3 p4 p5 p6 p7 p9 p10 p11 p12 p13 p14:Pos} {k7:Nat} (lk:K.lookup fI=some ⟨oc,od,.func (W.fnOf name qual params body scope dV kV doc pm an cdv ct),osl⟩) (hcd:W.codeIn K cdv qual=true) (S:FnScope [sf,fl] [sf,fl] scope)
  (hbd:body=Qiu B sf fl txt p1 p2 p3 p4 p5 p6 p7 p9 p10 p11 p12 p13 p14 k7) (M:Qd6 K C fI=true) (Yyy:ErrCls K C) (h1:specialIn K (.ref CB) "__getattribute__"=some (some (.builtin "type.__getattribute__"))) (h2:readsIn K CB (.type "type")=true)
  (h3:findCls K (.ref CB) (.type "type") "__init__"=some (.val (.builtin "ValueError.__init__"))) (hm:mg B=some (.ref CB)) (hg:∀L a cd,(envOfC qual scope L a cd).kindOf B=some .globalImplicit) (hdb:(B==("__debug__":Str))=false)
  (h4:findIn K (.ref C) "__setattr__"=some (some (.builtin "object.__setattr__"))) (h5:Qae K C=true) (h6:findIn K (.ref C) fl=some none) (d1:(sf==("__debug__":Str))=false) (d2:(sf==("__classdict__":Str))=false) (d3:(fl==("__debug__":Str))=false) (d4:(fl==("__classdict__":Str))=false) (hz:txt.length<=100000)
  (hst:∀L a cd,starEach [.Name sf p3,.JoinedStr [.Constant (.str txt) k7 p7,.FormattedValue (.Name fl p4) (-1) none p5] p6] (envOfC qual scope L a cd)=[(false,eval (.Name sf p3) (envOfC qual scope L a cd)),(false,eval (.JoinedStr [.Constant (.str txt) k7 p7,.FormattedValue (.Name fl p4) (-1) none p5] p6) (envOfC qual scope L a cd))])
  (hev:∀L a cd,∃pl:Sem Bool,eval (.Call (.Attribute (.Name B p1) "__init__" p2) [.Name sf p3,.JoinedStr [.Constant (.str txt) k7 p7,.FormattedValue (.Name fl p4) (-1) none p5] p6] [] p9) (envOfC qual scope L a cd)=(do
   let ov <-eval (.Name B p1) (envOfC qual scope L a cd)
   standAt p2.atName
   let (f,first) <-holding [ov] (getMethod ov "__init__" pl)
   callWith p9 f first (backTo p9 (starEach [.Name sf p3,.JoinedStr [.Constant (.str txt) k7 p7,.FormattedValue (.Name fl p4) (-1) none p5] p6] (envOfC qual scope L a cd))) (backToKw p9 (keywordEach [] (envOfC qual scope L a cd))))):
  FnOk P w K mg base CX0 2 fI (W.fnOf name qual params body scope dV kV doc pm an cdv ct) [sf,fl] (spJ C fl):=by
 subst hbd
 refine Qig (k:=1) (N:=[sf,fl]) lk hcd S (λvs H Q E y=>by obtain⟨e,i,h,_⟩:=y;rw[h];rfl) λA outer s H vs Q E hr x=>?_;obtain⟨e,i,ev,hi,he,q⟩:=x
 subst ev;generalize hX:QcK CX0 P w K mg base [sf,fl] qual scope fI cdv A outer s H E=X
 have xN:X.N=[sf,fl]:=by subst hX;rfl
 have xK:X.K=K:=by subst hX;rfl
 have xm:X.mg=mg:=by subst hX;rfl
 have xe:X.env=envOfC qual scope s.heap.objs.size fI cdv:=by subst hX;rfl
 have xx:X.ex=[]:=by subst hX;rfl
 have vis:∀z∈[sf,fl],Vis X.env.scope z:=λz hz=>by rw[xe];exact(S.par z hz).elim .inl λq=>.inr (.inl q)
 have ps:∀{p},PE X (.Name sf p) (Ql7 0):=Qdu (by rw[xN];rfl) (vis sf (by simp)) d1 d2
 have pf:∀{p},PE X (.Name fl p) (Ql7 1):=Qdu (by rw[xN];rfl) (vis fl (by simp)) d3 d4
 have pj:=QhE (X:=X) (pos:=p6) (es:=[]) (.cons (show PE X (.Constant (.str txt) k7 p7) (tC (.str txt))from Qgm) (.cons (Qkf (pos:=p5) (pf (p:=p4))) .nil))
 have st:starEach [.Name sf p3,.JoinedStr [.Constant (.str txt) k7 p7,.FormattedValue (.Name fl p4) (-1) none p5] p6] X.env=[(false,eval (.Name sf p3) X.env),(false,eval (.JoinedStr [.Constant (.str txt) k7 p7,.FormattedValue (.Name fl p4) (-1) none p5] p6) X.env)]:=by rw[xe];exact hst _ _ _
 have pa:=Q7 (ps (p:=p3)) (Q7 pj YZ rfl) rfl;obtain⟨pl,hev⟩:=hev s.heap.objs.size fI cdv;rw[<-xe]at hev
 refine⟨_,ZA (QaX (Qfh (C:=C) (CB:=CB) (fI:=fI) (show X.env.kindOf B=_ by rw[xe];exact hg _ _ _) (by rw[xm];exact hm) hdb (by rw[xK];exact M) (by rw[xK];exact h1) (by rw[xK];exact h2) (by rw[xK];exact h3) pa st hev) rfl)
  (Qdd (Qhp (C:=C) (by rw[xK];exact Yyy) (by rw[xK];exact h4) (by rw[xK];exact h5) (by rw[xK];exact h6) ps pf rfl xx)),?_⟩
 refine⟨.ref e,rfl,txt,rfl,?_,.int i,rfl,.inl ⟨i,rfl,hi,toString i,rfl,?_,?_⟩⟩
 ·rw[Str.length_append]
  exact X6 (Nat.add_le_add (show Str.empty.length<=0 from Xm _) hz) (by decide)
 ·rw[Str.length_append,Str.length_append,PySem.ofString_length]
  exact X6 (Nat.add_le_add (Nat.add_le_add (show Str.empty.length<=0 from Xm _) hz) (PySem.int_text_length_le (k:=1920) (by decide) hi)) (by decide)
 ·exact⟨e,_,none,rfl,he,.int i,rfl,.ref e,rfl,e,rfl,he,q⟩
end
end L2
namespace L2
open PySem
open Sem (wp)
open AutoSeq1 (wpAny_loadPart')
end L2
namespace L2
open PySem PySem.Spec PyProof.Rows
section
variable {a c:Int}
section
variable {X:Cx}
def Qo2(K:W.Frag)(te:TE):TE:=λY H Q=>te Y H λx H1=>∃a xs,x=.ref a/\SqL K H1 a xs/\∀p,H1 p=none->Q (.ref p) (upd H1 p (.lst xs.reverse))
noncomputable def QeC(a:Int)(n:Nat)(c:Int):List V:=(List.range n).map λi:Nat=>V.int (a+(i:Int)*c)
def Qe4{n:Nat}{acc:Array Value}(h:ItemsOf (λi v=>∃t,v=Value.int (a+i*c) t) acc n):Vals (QeC a n c) acc.toList:=by
 have all:∀(k:Nat) (l:List Value) (b:Nat),l.length=k->(∀j v,l[j]?=some v->∃t,v=Value.int (a+((b+j:Nat):Int)*c) t)->Vals ((List.range' b k).map λi:Nat=>V.int (a+(i:Int)*c)) l:=by
  intro k
  induction k with
  |zero=>
   intro l b hl _
   cases l with
   |nil=>exact .nil
   |cons _ _=>cases hl
  |succ k ih=>
   intro l b hl hv
   cases l with
   |nil=>cases hl
   |cons x r=>
    rw[List.range'_succ,X0]
    refine .cons ?_ (ih r (b+1) (by simpa using hl) λj v e=>?_)
    ·obtain⟨t,e⟩:=hv 0 x rfl
     exact⟨t,by simpa using e⟩
    ·obtain⟨t,e'⟩:=hv (j+1) v (by simpa using e)
     refine⟨t,?_⟩
     rw[e',show b+1+j=b+(j+1) by omega]
 unfold QeC;rw[List.range_eq_range']
 refine all n acc.toList 0 (by simpa using h.1) λj v e=>?_
 obtain⟨t,e'⟩:=h.2 j v (by simpa using e)
 exact⟨t,by simpa using e'⟩
def QaV{n:Nat}:(QeC a n c).length=n:=by simp[QeC]
noncomputable def QaL(a b c:Int):Nat:=if c=1 then(b-a).toNat else(a-b).toNat
def Qhd{b:Int}(h:c=1\/c=-1):Builtin.Range.rangeSize a b c=(QaL a b c:Nat):=by
 unfold QaL
 rcases h with rfl|rfl
 ·rw[rangeSize_one,if_pos rfl];split<;>omega
 ·unfold Builtin.Range.rangeSize
  rw[if_neg (show ¬((-1:Int) > 0) by decide),if_neg (show ¬((-1:Int)=1) by decide),show(-(-1:Int))=1 by decide,Int.ediv_one]
  split<;>omega
def QeW{b:Int}(ha:-(2 ^ 62)<=a)(ha':a<2 ^ 62)(hb:-(2 ^ 62)<=b)(hb':b<2 ^ 62):Builtin.Range.small a b (-1)=true:=by
 have e:Builtin.Range.rangeSize a b (-1)=if a>b then a-b else 0:=by
  unfold Builtin.Range.rangeSize
  rw[if_neg (show ¬((-1:Int) > 0) by decide),show(-(-1:Int))=1 by decide,Int.ediv_one]
  split<;>omega
 unfold Builtin.Range.small;rw[e]
 simp only[Builtin.Range.rangeFitsLong,Xk,Uq,Xy,Wn,show ¬((-1:Int) > 0) by decide,Vh]
 split<;>omega
noncomputable def rngA:List V->Option (Int×Int×Int)
 |[.int b]=>some (0,b,1)
 |[.int a,.int b]=>some (a,b,1)
 |[.int a,.int b,.int c]=>some (a,b,c)
 |_=>none
def Qe5{pins:List (Addr×Obj)}{s:Shared}{Y:St}{H:Hp}{vs:List V}{us:List Value}{b:Int}{E:Value->Shared->Prop}(I:Inv X pins Y H s)(r:Vals vs us)(h:rngA vs=some (a,b,c))(hc:c=1\/c=-1):
  wpAny (model X.prog X.w) X.A (call (.type "range") us) (λv s'=>∃r t u w,v=.ref r/\Inv X pins Y H s'/\IsRange s'.heap r a b c t u w) E s:=by
 have fin:∀{t u v:Tok} {tk:Nat},∃(r:Addr) (t' u' w':Tok),Value.ref s.heap.objs.size=.ref r/\Inv X pins Y H {s with heap:=s.heap.push {cls:=.type "range",data:=.fields #[.int a t,.int b u,.int c v]},toks:=tk} /\
   IsRange (s.heap.push {cls:=.type "range",data:=.fields #[.int a t,.int b u,.int c v]}) r a b c t' u' w':=λ{t u v tk}=>⟨_,_,_,_,rfl,I.kept λb o e=>Xb _ e,IsRange.new ..⟩
 unfold rngA at h;split at h
 ·cases h;obtain⟨x,rfl,t,rfl⟩:=r.one;exact call_range_1 fin
 ·cases h;obtain⟨x,y,rfl,⟨t,rfl⟩,u,rfl⟩:=r.two;exact call_range_2 fin
 ·cases h
  cases r with
  |cons r1 r=>
   obtain⟨x,y,rfl,⟨t,rfl⟩,u,rfl⟩:=Vals.two r;obtain⟨w,rfl⟩:=r1
   refine call_range_3 (by rcases hc with rfl|rfl<;>decide) fin (.inl (PyProof.noPylong_small ?_))
   rcases hc with rfl|rfl<;>decide
 ·cases h
end
end
section
open Sem (wp)
section
variable {prog:Program}{w:World}{A:Around}{E:Value->Shared->Prop}{s:Shared}
def QdQ:typeLookup (.type "list_reverseiterator") "__len__"=pure none:=by rw[typeLookup_type,Tz];kernel_rfl
def Qfq:typeLookup (.type "list_reverseiterator") "__length_hint__"=pure (some (.builtin "list_reverseiterator.__length_hint__")):=by rw[typeLookup_type,Tz];kernel_rfl
def Qcp{R:Result->Shared->Prop}{I l:Addr}{items:Array Value}(hh:A.handled=none)(hit:s.heap.IsRevIter I l ((items.size:Int) - 1))(hl:s.heap.IsList l items)(hne:l≠I)(hn:items.size<=sizeLine)(S:Addr)(res:Value)(c₀:Nat)
  (hS:s.heap.get? S=some {cls:=.type "list",data:=.seq #[] c₀}) (hSI:S≠I) (hSl:S≠l)
  (hR:∀h' tk acc' c',(∀b o,b≠S->b≠I->s.heap.get? b=some o->h'.get? b=some o)->h'.get? S=some {cls:=.type "list",dict:=none,data:=.seq acc' c',slots:=#[]} ->
   ItemsOf (λi v=>items[items.size-1-i]?=some v) acc' items.size->R (.ok (.ret res)) {s with heap:=h',toks:=tk}):
  wpAny (model prog w) A.in1 (Builtin.List.listExtendWith (.ref S) (.ref I) res)
   (λfin s'=>match fin with|.done f=>R (.ok f) s'|.again c'=>c'.quiet=true/\codeAny (model prog w) A c' R s') (λe s'=>R (.error e) s') s:=by
 have hTy:s.TypeIs (.ref I) "list_reverseiterator":=hit.typeIs;have W:=(Walks.listRev (prog:=prog) (w:=w) (A:=A.in1) hh I l hne items).toS
 have hSf:S∉[I,l]:=λhm=>by
  rcases X5.mp hm with e|hm
  ·exact hSI e
  ·exact hSl (Ws.mp hm)
 unfold Builtin.List.listExtendWith;refine Xa (wpAny_typeOf hTy ?_)
 have h1:Builtin.List.listSameRef (.ref S) (.ref I)=false:=by simp[Builtin.List.listSameRef,hSI]
 have h2:(Value.type "list_reverseiterator"==Value.type "list")=false:=by decide
 have h3:(Value.type "list_reverseiterator"==Value.type "tuple")=false:=by decide
 simp only[h1,h2,h3,Bool.or_false,Wr,Vh];refine Xa (wpAny_pyIter_revIter hit ?_);refine Xa (Wu ?_);unfold Builtin.List.listLengthHint;refine Xa (T1 hTy QdQ ?_);show wpAny _ A.in1 (specialOf (Value.ref I) (Str.ofString "__length_hint__") >>= _) _ _ _;refine Xa (T1 hTy Qfq ?_);generalize hid:("list_reverseiterator.__length_hint__":String)=id0
 wp_delta
 rw[show splitId id0=some ("list_reverseiterator","__length_hint__")from by subst hid;decide +kernel]
 subst hid
 refine Xa (Tt (T:="list_reverseiterator") (b:=true) hTy (by rw[isSubtype_type];kernel_rfl) ?_)
 refine U9 (λhab=>absurd hab (by decide)) (λz=>?_)
 refine U9 (λz=>?_) (λhab=>absurd (by decide +kernel) hab)
 refine U9 (λhab=>absurd hab (by decide +kernel)) (λz=>?_)
 refine Xf ?_
 rw[if_neg (by decide)]
 refine Xf ⟨plainId_quiet F.plain_extend_loop _,codeAny_extend_loopS W hn S hSf res items.size 0 _ #[] c₀ rfl (Vy _) ⟨Vy _,by simpa using hit,hl⟩ hS (ItemsOf.nil _) λs' acc' c' hm hS' hacc=>?_⟩
 rw[Moved.eq_with hm];refine hR s'.heap s'.toks acc' c' (λb o hb hb2 e=>hm.heap b o (λhmem=>?_) e) hS' hacc
 rcases X5.mp hmem with e'|hmem
 ·exact hb e'
 ·exact hb2 (Ws.mp hmem)
def JL{Q:Value->Shared->Prop}{I l:Addr}{items:Array Value}(hh:A.handled=none)(hit:s.heap.IsRevIter I l ((items.size:Int) - 1))(hl:s.heap.IsList l items)(hne:l≠I)(hn:items.size<=sizeLine)
  (hQ:∀h' tk acc' c',(∀b o,b≠I->s.heap.get? b=some o->h'.get? b=some o) ->
   h'.get? s.heap.objs.size=some {cls:=.type "list",dict:=none,data:=.seq acc' c',slots:=#[]}->ItemsOf (λi v=>items[items.size-1-i]?=some v) acc' items.size->Q (.ref s.heap.objs.size) {s with heap:=h',toks:=tk}):
  wpAny (model prog w) A (call (.type "list") [.ref I]) Q E s:=by
 refine callType_codes (Q₁:=λobj s₁=>obj=.ref s.heap.objs.size/\s₁={s with heap:=s.heap.push {cls:=.type "list",data:=.seq #[]} }) F.called_list (F.typeCall_list_1 _) F.entry_list_init
  (code_list_new _ ⟨rfl,rfl⟩) λobj s₁ h₁=>?_
 obtain⟨rfl,rfl⟩:=h₁;have hS:(s.heap.push {cls:=.type "list",data:=.seq #[]}).get? s.heap.objs.size=some {cls:=.type "list",data:=.seq #[]}:=Xo _ rfl
 have hI:s.heap.objs.size≠I:=by
  obtain⟨o,e,_⟩:=hit;exact X9 (Xn (Xg e))
 have hL:s.heap.objs.size≠l:=by
  obtain⟨o,e,_⟩:=hl;exact X9 (Xn (Xg e))
 refine⟨⟨_,hS,rfl⟩,F.args_list_init_2 _ _,?_⟩
 show wpAny _ _ (do let old <-Builtin.List.listItems (.ref s.heap.objs.size);Builtin.List.listUpdate (.ref s.heap.objs.size) (λz=>#[]);letGo old.toList.reverse;Builtin.List.listExtendWith (.ref s.heap.objs.size) (.ref I) .none) _ _ _
 refine Xa ?_;unfold Builtin.List.listItems;refine Xa (Vb hS rfl (Xf ?_));show wpAny _ _ (updateSeq s.heap.objs.size (λz=>#[]) >>= λz=>letGo (#[]:Array Value).toList.reverse >>= λz=>Builtin.List.listExtendWith (.ref s.heap.objs.size) (.ref I) .none) _ _ _;refine Xa (wpAny_updateSeq hS rfl ?_);have hS₂:=Wv (Obj.mapSeq (λz=>(#[]:Array Value))) hS rfl
 have oth:∀b o,s.heap.get? b=some o->((s.heap.push {cls:=.type "list",data:=.seq #[]}).update s.heap.objs.size (Obj.mapSeq (λz=>(#[]:Array Value)))).get? b=some o :=
  λb o e=>(W7 _ _ (X9 (Xn (Xg e)))).trans (Xb _ e)
 refine Xa (wpAny_letGo ?_);refine Qcp (A:=A.in1) hh (l:=l) (items:=items) ?_ ?_ hne hn _ .none _ hS₂ hI hL λh' tk acc' c' hk hS' hacc=>?_
 ·exact hit.at λo e=>oth _ _ e
 ·exact hl.at λo e=>oth _ _ e
 ·exact⟨rfl,hQ h' tk acc' c' (λb o hb e=>hk b o (Xn (Xg e)) hb (oth b o e)) hS' hacc⟩
end
section
variable {X:Cx}
def Qe6{xs:List V}{its:List Value}{acc:Array Value}(r:Vals xs its)(h:ItemsOf (λi v=>its.toArray[its.toArray.size-1-i]?=some v) acc its.toArray.size):Vals xs.reverse acc.toList:=by
 have e:acc.toList=its.reverse:=by
  refine Tn λi=>?_;by_cases hi:i<its.length
  ·rw[List.getElem?_reverse hi]
   have hs:acc.size=its.length:=by simpa using h.1
   have hi':i<acc.size:=by omega
   have h1:=h.2 i acc[i] (by simp[hi'])
   simp only[List.getElem?_toArray,Xz]at h1;rw[h1];simp[hi']
  ·have hs:acc.size=its.length:=by simpa using h.1
   rw[Ww (by simp;omega),Ww (by simp;omega)]
 rw[e];exact r.reverse
def QhD{e:Expr}{te:TE}{p q pos pos2:Pos}(hc:X.calm=true)(hg:Gl X "list")(hm:X.mg "list"=none)(hg2:Gl X "reversed")(hm2:X.mg "reversed"=none)(he:PE X e te)(hs:starEach [e] X.env=[(false,eval e X.env)]):
  PE X (.Call (.Name "list" p) [.Call (.Name "reversed" q) [e] [] pos2] [] pos) (Qo2 X.K te):=by
 intro pins s Y H Q I h;refine Wg (Zl I hg hm PyProof.Rows.boot_list ?_);refine Wf (e:=.Call (.Name "reversed" q) [e] [] pos2) (rest:=[]) ?_ rfl rfl;show wpAny _ _ (spliced ((false,eval (.Call (.Name "reversed" q) [e] [] pos2) X.env)::backTo pos (starEach [] X.env))) _ _ s;refine Um ?_;refine Wg (Zl I hg2 hm2 boot_reversed ?_);refine Wf (e:=e) (rest:=[]) ?_ hs rfl;rw[hs];show wpAny _ _ (spliced ((false,eval e X.env)::backTo pos2 (starEach [] X.env))) _ _ s;refine Um (thn (he pins s Y H _ I h) λu s1 z=>?_);obtain⟨x,H1,I1,rx,q1⟩:=z;refine Us ?_;obtain⟨a,xs,ev,hq,q⟩:=q1;subst ev;cases rx;obtain⟨its,rv,pl,hz⟩:=I1.list hq;refine call_reversed_list pl.isList ?_;refine Us ?_;have I2:Inv X pins Y H1 {s1 with heap:=s1.heap.push (revObj a ((its.toArray.size:Int) - 1))}:=I1.kept (t':=s1.toks) λb o e=>Xb _ e
 have st:(s1.heap.push (revObj a ((its.toArray.size:Int) - 1))).IsRevIter s1.heap.objs.size a ((its.toArray.size:Int) - 1):=⟨_,Xo _ rfl,rfl,by simp[revObj]⟩
 have hl:(s1.heap.push (revObj a ((its.toArray.size:Int) - 1))).IsList a its.toArray:=pl.isList.at λo e=>Xb _ e
 have hne:a≠s1.heap.objs.size:=by
  obtain⟨o,e,_⟩:=pl.isList;exact Xn (Xg e)
 refine JL (I2.ok.hd hc) st hl hne (by rw[Xz,<-rv.length];exact hz) λh' tk acc c' kp hS hacc=>?_
 have e1:(s1.heap.push (revObj a ((its.toArray.size:Int) - 1))).objs.size=s1.heap.objs.size+1:=by simp[Heap.push]
 have hS':=hS
 refine⟨.ref _,_,I1.laid (t':=tk) (o:=.lst xs.reverse) (a:=(s1.heap.push (revObj a ((its.toArray.size:Int) - 1))).objs.size) (λb o e=>kp b o (Xn (Xg e)) (Xb _ e)) (by rw[e1];exact Vs _) ?_,rfl,q _ (I1.hok.fresh (a:=(s1.heap.push (revObj a ((its.toArray.size:Int) - 1))).objs.size) (by rw[e1];exact Vs _))⟩
 exact⟨by rw[List.length_reverse];exact hz,acc.toList,c',Qe6 rv hacc,by simpa using hS⟩
end
end
section
variable {kv:List (Key×V)}
section
variable {X:Cx}{pins:List (Addr×Obj)}{Y:St}{H:Hp}{s:Shared}{d:Addr}
def Inv.freeze(I:Inv X pins Y H s)(h:H d=some (.dK kv)):∃o es ep,s.heap.get? d=some o/\o.data=.dict es ep/\Inv X pins Y (upd H d (.frz o (.dK kv))) s:=by
 obtain⟨hz,hm,vs,r,o,es,ep,e,c,dt,rr⟩:=Qcu I.hok h;refine⟨o,es,ep,e,dt,?_⟩
 have:=I.write (x:=d) (e:=d) (o:=.frz o (.dK kv)) (h':=s.heap) (t':=s.toks) (by rw[h];trivial) (.inl rfl) (λb u z q=>q) ⟨o,e⟩ ⟨e,hz,hm,vs,r,o,es,ep,e,c,dt,rr⟩
 exact this
def Inv.thaw{o:Obj}(I:Inv X pins Y H s)(h:H d=some (.frz o (.dK kv)))(h0:∀o' u',X.H₀ d≠some (.frz o' u')):Inv X pins Y (upd H d (.dK kv)) s:=by
 have ne:∀{b:Addr},H b=none->b≠d:=λq z=>by rw[z,h]at q;cases q
 refine⟨I.ok,I.os,I.bare,⟨I.base.keep,I.base.slot,λb ob q n hx=>?_,I.base.there,λb xs q=>?_,λb ob u q=>?_,λb ps q=>?_⟩,I.loc,I.cell,?_,λx c e=>?_,λp hp=>?_,λb u q=>?_,I.len⟩
 ·have:=I.base.free b ob q n hx;rw[Qb (ne this)];exact this
 ·have:=I.base.tups b xs q
  rw[Qb (λz=>by rw[z,h]at this;cases this)]
  exact this
 ·have:=I.base.frzs b ob u q
  rw[Qb (λz=>by subst z;exact h0 _ _ q)]
  exact this
 ·obtain⟨more,e⟩:=I.base.tbls b ps q;refine⟨more,?_⟩
  rw[Qb (λz=>by rw[z,h]at e;cases e)]
  exact e
 ·rw[Qb (ne I.free)];exact I.free
 ·rw[Qb (ne (I.freeC x c e))];exact I.freeC x c e
 ·obtain⟨a1,a2,a3⟩:=I.pin p hp
  exact⟨a1,by rw[Qb (ne a2)];exact a2,a3⟩
 ·by_cases hb:b=d
  ·subst hb;rw[Qf]at q;cases q;obtain⟨_,ok⟩:=I.hok b _ h;exact ok
  ·rw[Qb hb]at q;refine(I.hok b u q).stay (λc v y r=>r) (λc r=>?_) λc xs r=>?_
   ·rw[Qb (λz=>by rw[z,h]at r;cases r)];exact r
   ·rw[Qb (λz=>by rw[z,h]at r;cases r)];exact r
end
noncomputable def Itk(a:Addr)(o:Obj)(kv:List (Key×V)):It :=
 ⟨λi H=>H a=some (.frz o (.dK kv))/\i<kv.length,λi H x H'=>H'=H/\∃p,kv[i]?=some p/\x=kV p.1,λi H=>H a=some (.frz o (.dK kv))/\kv.length<=i⟩
def Qh6{P:Program}{w:World}{k:Key}{u:Value}(h:(Qq P w).is k u=true):RelV (kV k) u:=by
 rcases Qt (show JB k u=true from h)with⟨i,t,rfl,rfl⟩|⟨x,t,rfl,rfl⟩
 ·exact⟨t,rfl⟩
 ·exact⟨t,rfl⟩
def QkE{vs:List (Key×Value)}{i:Nat}{p:Key×V}{q:Key×Value}(h:KV kv vs)(h1:kv[i]?=some p)(h2:vs[i]?=some q):p.1=q.1:=by
 obtain⟨q',e,r⟩:=Qab h h1;rw[h2]at e;cases e;exact r.1
def QcW{P:Program}{w:World}{K:W.Frag}{tg:Expr}(a it:Addr)(o:Obj)(kv:List (Key×V))(es:Array DictEntry)(ep:Nat)(hd:o.data=.dict es ep):
  Turn P w K tg (Itk a o kv) [it] it (λi h=>h.IsKeyIter it a i kv.length ep) where
 mem:=by simp
 obj:=λi h st b hb=>by
  have e:b=it:=by simpa using hb
  subst e;obtain⟨o,e,c,d⟩:=st
  exact⟨o,e,λv z=>by rw[d]at z;cases z⟩
 keep:=λi h h' st k=>by
  obtain⟨o,e,r⟩:=st
  exact⟨o,k it (by simp) o e,r⟩
 item:=by
  intro X hP hw hK hc i pins s Y H E I hf st hg;subst hP hw hK
  obtain⟨f0,f1,f2,f3,f4,f5⟩:=hf it (by simp)
  obtain⟨hg,hi⟩:=hg;obtain⟨eo,hz,hm,vs,rr,o',es',ep',e',c',dt',r'⟩:=I.hok a _ hg;rw[eo]at e';cases e';rw[hd]at dt';cases dt';have hl:=Wj rr
  have hi':i<vs.length:=by omega
  have D:s.heap.DictAt (Qq X.prog X.w) a vs ep:=⟨o,es,eo,c',hd,r'⟩;have st':=st;rw[hl]at st';refine wpAny_pyNext_dict_item st' D (k:=vs[i].1) (v:=vs[i].2) (Xj hi') λkey h' hk hit sb=>?_;have I1:Inv X pins Y H {s with heap:=h'}:=I.turned (t':=s.toks) (λb o hb e=>(sb.2 b hb).trans e) f0 f1 f3 f4 f5;obtain⟨oi,e,c,dd⟩:=id hit
  have ek:kv[i].1=vs[i].1:=by
   exact QkE rr (Xj hi) (Xj hi')
  refine⟨key,rfl,QfI (s:={s with heap:=h'}) e c dd (by decide) ⟨kV kv[i].1,H,I1,by rw[ek];exact Qh6 hk,⟨rfl,kv[i],Xj hi,rfl⟩,?_,λb hb=>(hf b hb).1⟩⟩
  rw[hl];exact hit
 done:=by
  intro X hP hw hK hc i pins s Y H E I hf st hg;subst hP hw hK
  obtain⟨f0,f1,f2,f3,f4,f5⟩:=hf it (by simp)
  obtain⟨hg,hi⟩:=hg;obtain⟨eo,hz,hm,vs,rr,o',es',ep',e',c',dt',r'⟩:=I.hok a _ hg;rw[eo]at e';cases e';rw[hd]at dt';cases dt';have hl:=Wj rr;have D:s.heap.DictAt (Qq X.prog X.w) a vs ep:=⟨o,es,eo,c',hd,r'⟩;have st':=st;rw[hl]at st'
  exact wpAny_pyNext_dict_end (I.ok.hd hc) st' D (Ww (by omega)) λh' eb=>⟨rfl,I.turned (t':=s.toks) (λb o hb e=>eb b o hb e) f0 f1 f3 f4 f5⟩
 self:=λy y y y y st h=>wpAny_pyIter_keyiter st h
section
variable {X:Cx}
def Qnd(te:TE):TI:=λY H R=>te Y H λx H1=>∃a kv,x=.ref a/\H1 a=some (.dK kv)/\∀o,R (Itk a o kv) (upd H1 a (.frz o (.dK kv)))
def Qhy{tg e:Expr}{te:TE}(he:PE X e te):PI X tg e (Qnd te):=by
 intro pins s Y H R I h;refine thn (he pins s Y H _ I h) λu s1 z=>?_;obtain⟨x,H1,I1,rx,q1⟩:=z;obtain⟨a,kv,rfl,hk,q⟩:=q1;cases rx;obtain⟨hz,hm,vs,r,dof⟩:=Qcu I1.hok hk;obtain⟨o,es,ep,eo,hd,I2⟩:=I1.freeze hk;have hl:=Wj r;obtain⟨ep',D⟩:=dof.dictAt
 have ee:ep'=ep:=by
  obtain⟨o',es',e',c',dt',_⟩:=id D;rw[eo]at e';cases e';rw[hd]at dt';cases dt';rfl
 subst ee;refine wpAny_pyIter_dict hm D ?_
 refine⟨s1.heap.objs.size,[s1.heap.objs.size],_,Itk a o kv,_,rfl,I2.kept (t':=s1.toks) λb o e=>Xb _ e,QcW a _ o kv es ep' hd,⟨_,Xo _ rfl,rfl,by rw[hl];rfl⟩,λb hb=>?_,q o⟩
 have e:b=s1.heap.objs.size:=by simpa using hb
 subst e;exact I2.fpOk (Xm _) (I2.hok.fresh (Xm _))
def Qb5(d:Addr)(H:Hp)(P:Hp->Prop)(H':Hp):Prop:=∃o kv,H' d=some (.frz o (.dK kv))/\P (upd H' d (.dK kv))
def Qmq(ts:TS):TS:=λD Y H=>∃d kv,H d=some (.dK kv)/\ts ⟨λY'=>Qb5 d H (D.nx Y'),λv=>Qb5 d H (D.rt v),λY'=>Qb5 d H (D.bk Y'),λY'=>Qb5 d H (D.ct Y')⟩ Y H
def Qhm{st:Stmt}{ts:TS}(h:PS X st ts):PS X st (Qmq ts):=by
 intro pins s Y H D I q;obtain⟨d,kv,hk,q⟩:=q
 have h0:∀o' u',X.H₀ d≠some (.frz o' u'):=λo' u' z=>by
  have:=I.base.frzs d o' u' z;rw[hk]at this;cases this
 refine thn (h pins s Y H _ I q) λf s' hf=>?_
 cases f with
 |next=>obtain⟨Y',H',I',o,kv',e,p⟩:=hf;exact⟨Y',_,I'.thaw e h0,p⟩
 |brk=>obtain⟨Y',H',I',o,kv',e,p⟩:=hf;exact⟨Y',_,I'.thaw e h0,p⟩
 |cont=>obtain⟨Y',H',I',o,kv',e,p⟩:=hf;exact⟨Y',_,I'.thaw e h0,p⟩
 |ret u=>obtain⟨v,Y',H',I',rv,o,kv',e,p⟩:=hf;exact⟨v,Y',_,I'.thaw e h0,rv,p⟩
end
end
section
variable {d:Addr}{es:Array DictEntry}{ep:Nat}{od:Obj}
section
variable {prog:Program}{w:World}{A:Around}{E:Value->Shared->Prop}{s:Shared}
def Qfm{it:Addr}{i:Nat}{Q:Option Value->Shared->Prop}(hit:s.heap.IsKeyIter it d i es.size ep)(hod:s.heap.get? d=some od)(hdd:od.data=.dict es ep)(hlt:i<es.size)
  (hQ:∀h',h'.IsKeyIter it d (i+1) es.size ep->Heap.SameBut it s.heap h'->Q (some es[i].key) {s with heap:=h'}):wpAny (model prog w) A (pyNext (.ref it)) Q E s:=by
 obtain⟨o,ho,hc,hd⟩:=id hit;have ty:=hit.typeIs;have sl:=Ud
 have own:Builtin.Dict_items.ownsTuple "dict_keyiterator"=false:=by decide
 have nn:¬((Value.ref d==Value.none)=true):=Xh;unfold pyNext;refine Xa (Tq (Ve (name:=Str.ofString "__next__") ty sl (Vm sl ty Tf ?_ (Td _))));refine Xa (Xf (Xa (Xa ?_)))
 first
  |refine Xa (Vu ty (Xf ?_))
  |refine Xa (Uh ty (Xf ?_))
 refine Xa (wpAny_fieldsOf ho hd ?_);simp only[own,Wr,Vh];show wpAny _ _ (if(Value.ref d==Value.none)=true then _ else _) _ _ s;rw[if_neg nn];refine Xa (Xf (Xa (wpAny_dictEntries hod hdd ?_)))
 rw[if_neg (by simp)]
 refine Xa (Xf (Xa (wpAny_dictEpoch hod hdd ?_)))
 rw[if_neg (by simp)]
 refine Xf ?_
 have i0:¬((i:Int) < 0):=by omega
 simp only[i0,Vh,Ue,Array.getElem?_eq_getElem hlt];refine Xa ?_
 first
  |refine Xa (Vu ty (Xf ?_))
  |refine Xa (Uh ty (Xf ?_))
 refine Xa (wpAny_isOneOf_keyiter ty ?_);show wpAny _ _ (setField (.ref it) 1 (rawInt ((i:Int)+1)) >>= _) _ _ s
 refine Xa (Te ho hd (by simp) ?_)
 have nx:(s.heap.update it (Obj.mapFields (·.setIfInBounds 1 (rawInt ((i:Int)+1))))).IsKeyIter it d (i+1) es.size ep:=by
  refine⟨_,Wv _ ho (Tx (Up hd _)),(Obj.cls_mapFields ..).trans hc,?_⟩;rw[Up hd];simp[rawInt]
 refine Xa (Wu (Xa ?_));refine wpAny_isOneOf_keyiter (s:={s with heap:=s.heap.update it (Obj.mapFields (·.setIfInBounds 1 (rawInt ((i:Int)+1))))}) nx.typeIs ?_;show wpAny _ _ (pure es[i].key) _ _ _;exact Xf (Xf ⟨_,rfl,Xf (hQ _ nx (U6 ..))⟩)
def Qil{it:Addr}{i:Nat}{Q:Option Value->Shared->Prop}(hh:A.handled=none)(hit:s.heap.IsKeyIter it d i es.size ep)(hod:s.heap.get? d=some od)(hdd:od.data=.dict es ep)(hge:es.size<=i)
  (hQ:∀h',Heap.ExtBut it s.heap h'->Q none {s with heap:=h'}):wpAny (model prog w) A (pyNext (.ref it)) Q E s:=by
 obtain⟨o,ho,hc,hd⟩:=id hit;have ty:=hit.typeIs;have sl:=Ud
 have own:Builtin.Dict_items.ownsTuple "dict_keyiterator"=false:=by decide
 have nn:¬((Value.ref d==Value.none)=true):=Xh;unfold pyNext;refine Xa (Tq (Ve (name:=Str.ofString "__next__") ty sl (Vm sl ty Tf ?_ (Td _))));refine Xa (Xf (Xa (Xa ?_)))
 first
  |refine Xa (Vu ty (Xf ?_))
  |refine Xa (Uh ty (Xf ?_))
 refine Xa (wpAny_fieldsOf ho hd ?_);simp only[own,Wr,Vh];show wpAny _ _ (if(Value.ref d==Value.none)=true then _ else _) _ _ s;rw[if_neg nn];refine Xa (Xf (Xa (wpAny_dictEntries hod hdd ?_)))
 rw[if_neg (by simp)]
 refine Xa (Xf (Xa (wpAny_dictEpoch hod hdd ?_)))
 rw[if_neg (by simp)]
 refine Xf ?_
 have i0:¬((i:Int) < 0):=by omega
 simp only[i0,Vh,Ue,Array.getElem?_eq_none hge];refine Xa ?_
 first
  |refine Xa (Vu ty (Xf ?_))
  |refine Xa (Uh ty (Xf ?_))
 show wpAny _ _ (setField (.ref it) 0 .none >>= _) _ _ s
 refine Xa (Te ho hd (by simp) ?_)
 show wpAny _ _ (newExc (.type "StopIteration") [] >>= _) _ _ _;refine Xa ?_;simp only[newExc,newTuple]
 refine Xa (Uf ?_ (by size_fits))
 refine Xa (m:=firstArgMember _ _) (wpAny_of_eq (a:=Value.none) (by first|rfl|(simp only[firstArgMember];rfl)) (Uf ?_ (by size_fits)))
 simp only[raiseNew];refine Xa (wpAny_handled ?_);rw[show A.in1.handled=none from hh];refine Xa (Xf (wpAny_throw ?_));refine Xa (Tt (T:="StopIteration") (b:=true) ⟨_,Xo _ rfl,rfl⟩ isSubtype_stop (Xf (hQ _ ?_)));exact((U6 ..).extBut.push _).push _
def Qfy{Q:Value->Shared->Prop}(hm:(d==sysModules)=false)(ho:s.heap.get? d=some od)(hc:od.ExactDict)(hdd:od.data=.dict es ep)
  (hQ:Q (.ref s.heap.objs.size) {s with heap:=s.heap.push {cls:=.type "dict_keyiterator",data:=.fields #[.ref d,.int 0 0,.int es.size 0,.int ep 0]} }):wpAny (model prog w) A (pyIter (.ref d)) Q E s:=by
 have hT:s.TypeIs (.ref d) "dict":=⟨od,ho,hc.1⟩;have sl:=PySem.F.slot_dict_iter;refine wpAny_pyIter_slot hT sl (Vm sl hT PySem.F.entry_dict_iter ?_ (PySem.F.args_dict_iter_1 _));unfold Builtin.«dict.__iter__» Builtin.Dict.dictSlotNone;refine Xa (Xa (wpAny_notOrdered_dict hT ?_));show wpAny _ _ (pure (Value.ref d)) _ _ s;refine Xf ?_;show wpAny _ _ (Builtin.Dict.showsAll d >>= _) _ _ s;unfold Builtin.Dict.showsAll
 rw[if_neg (by rw[hm];exact Xh)]
 refine Xa (Xf (Xa (wpAny_dictEntries ho hdd (Xa (wpAny_dictEpoch ho hdd ?_)))));have nxt:=Ud.lookup;refine Xa (Uf (Xf ⟨_,rfl,"dict_keyiterator",_,⟨_,Xo _ rfl,rfl⟩,nxt,?_⟩));simpa[rawInt]using hQ
end
end
section
section
variable {prog:Program}{w:World}{A:Around}{E:Value->Shared->Prop}{s:Shared}
def QcQ(hh:A.handled=none)(I d:Addr)(hne:d≠I)(od:Obj)(es:Array DictEntry)(ep:Nat)(hdd:od.data=.dict es ep):
  Walks prog w A I [I,d] [I] es.size (λi v=>∃e,es[i]?=some e/\v=e.key) (λi h=>h.IsKeyIter I d i es.size ep/\h.get? d=some od) where
 sub:=λb hb=>by simp at hb;simp[hb]
 frame:=λy y y st hk=>⟨st.1.at λo e=>hk I (by simp) o e,hk d (by simp) _ st.2⟩
 item:=λi s Q E hi st hQ=>by
  refine Qfm st.1 st.2 hdd hi λh' hit sb=>?_
  exact hQ _ h' s.toks ⟨es[i],by simp[hi],rfl⟩ ⟨hit,(sb.2 d hne).trans st.2⟩ λb o hb e=>(sb.2 b λz=>hb (by simp[z])).trans e
 done:=λs Q E st hQ=>Qil hh st.1 st.2 hdd (Xm _) λh' eb=>hQ h' s.toks λb o hb e=>eb b o (λz=>hb (by simp[z])) e
 self:=λy y y y st hQ=>wpAny_pyIter_keyiter st.1 hQ
def JF:typeLookup (.type "dict") "__len__"=pure (some (.builtin "dict.__len__")):=by rw[typeLookup_type,Tz];kernel_rfl
def Qcq{R:Result->Shared->Prop}{d:Addr}{od:Obj}{es:Array DictEntry}{ep:Nat}(hh:A.handled=none)(hm:(d==sysModules)=false)(ho:s.heap.get? d=some od)(hc:od.ExactDict)(hdd:od.data=.dict es ep)(hn:es.size<=sizeLine)(S:Addr)(res:Value)(c₀:Nat)
  (hS:s.heap.get? S=some {cls:=.type "list",data:=.seq #[] c₀}) (hSd:S≠d)
  (hR:∀h' tk acc' c',(∀b o,b≠S->s.heap.get? b=some o->h'.get? b=some o)->h'.get? S=some {cls:=.type "list",dict:=none,data:=.seq acc' c',slots:=#[]} ->
   ItemsOf (λi v=>∃e,es[i]?=some e/\v=e.key) acc' es.size->R (.ok (.ret res)) {s with heap:=h',toks:=tk}):
  wpAny (model prog w) A.in1 (Builtin.List.listExtendWith (.ref S) (.ref d) res)
   (λfin s'=>match fin with|.done f=>R (.ok f) s'|.again c'=>c'.quiet=true/\codeAny (model prog w) A c' R s') (λe s'=>R (.error e) s') s:=by
 have hTy:s.TypeIs (.ref d) "dict":=⟨od,ho,hc.1⟩;unfold Builtin.List.listExtendWith;refine Xa (wpAny_typeOf hTy ?_)
 have h1:Builtin.List.listSameRef (.ref S) (.ref d)=false:=by simp[Builtin.List.listSameRef,hSd]
 have h2:(Value.type "dict"==Value.type "list")=false:=by decide
 have h3:(Value.type "dict"==Value.type "tuple")=false:=by decide
 simp only[h1,h2,h3,Bool.or_false,Wr,Vh];refine Xa (Qfy hm ho hc hdd ?_);generalize hI:s.heap.objs.size=I;have ltS:=Xg hS;have ltd:=Xg ho
 have hSI:S≠I:=by rw[<-hI];exact Xn ltS
 have hne:d≠I:=by rw[<-hI];exact Xn ltd
 generalize hit0:({cls:=.type "dict_keyiterator",data:=.fields #[.ref d,.int 0 0,.int es.size 0,.int ep 0]}:Obj)=oI
 have hit:(s.heap.push oI).IsKeyIter I d 0 es.size ep:=by
  rw[<-hI,<-hit0];exact⟨_,Xo _ rfl,rfl,rfl⟩
 have kp:∀b o,s.heap.get? b=some o->(s.heap.push oI).get? b=some o:=λb o e=>Xb _ e;generalize s.heap.push oI=h2' at hit kp ⊢;have hTy2:Shared.TypeIs {s with heap:=h2'} (.ref d) "dict":=⟨od,kp _ _ ho,hc.1⟩;refine Xa (Wu ?_);unfold Builtin.List.listLengthHint;refine Xa (T1 hTy2 JF ?_);generalize hid:("dict.__len__":String)=id0
 wp_delta
 rw[show splitId id0=some ("dict","__len__")from by subst hid;decide +kernel]
 subst hid
 refine Xa (Tt (T:="dict") (b:=true) hTy2 (by rw[isSubtype_type];kernel_rfl) ?_)
 refine U9 (λhab=>absurd hab (by decide)) (λz=>?_)
 refine U9 (λz=>?_) (λhab=>absurd (by decide +kernel) hab)
 refine Xa (wpAny_typeOf hTy2 ?_);refine Xf ?_
 rw[if_pos (by decide +kernel)]
 refine Xa (wpAny_rule ?_);have hS2:=kp _ _ hS;unfold Builtin.List.listTouch;refine Xa (Xa (wpAny_updateSeq (a:=S) (f:=(·.push .none)) hS2 rfl ?_));have hS3:=Wv (Obj.mapSeq (·.push Value.none)) hS2 rfl;refine wpAny_updateSeq (a:=S) (f:=(·.pop)) hS3 rfl ?_;have hS4:=Wv (Obj.mapSeq (·.pop)) hS3 rfl
 have oth:∀b o,b≠S->h2'.get? b=some o->((h2'.update S (Obj.mapSeq (·.push Value.none))).update S (Obj.mapSeq (·.pop))).get? b=some o :=
  λb o hb e=>(W7 _ _ (X9 hb)).trans ((W7 _ _ (X9 hb)).trans e)
 have W:=(QcQ (prog:=prog) (w:=w) (A:=A.in1) hh I d hne od es ep hdd).toS
 have hSf:S∉[I,d]:=λhm=>by
  rcases X5.mp hm with e|hm
  ·exact hSI e
  ·exact hSd (Ws.mp hm)
 refine Xf ⟨plainId_quiet F.plain_extend_loop _,codeAny_extend_loopS W hn S hSf res es.size 0 _ #[] _ rfl (Vy _) ⟨hit.at λo e=>oth _ _ (X9 hSI) e,oth _ _ (X9 hSd) (kp _ _ ho)⟩ hS4 (ItemsOf.nil _) λs' acc' c' hmv hS' hacc=>?_⟩;rw[Moved.eq_with hmv];refine hR s'.heap s'.toks acc' c' (λb o hb e=>hmv.heap b o (λhmem=>?_) (oth b o hb (kp b o e))) hS' hacc
 rcases X5.mp hmem with e'|hmem
 ·exact hb e'
 ·have:=Ws.mp hmem;exact Xn (Xg e) (this.trans hI.symm)
end
end
section
section
variable {prog:Program}{w:World}{A:Around}{E:Value->Shared->Prop}{s:Shared}
def QaA{Q:List Value->Shared->Prop}{d:Addr}{od:Obj}{es:Array DictEntry}{ep:Nat}(hh:A.handled=none)(hm:(d==sysModules)=false)(ho:s.heap.get? d=some od)(hc:od.ExactDict)(hdd:od.data=.dict es ep)(hn:es.size<=sizeLine)
  (h:∀h' tk acc,s.heap.objs.size<=h'.objs.size->(∀b o,s.heap.get? b=some o->h'.get? b=some o)->ItemsOf (λi v=>∃e,es[i]?=some e/\v=e.key) acc es.size->Q acc.toList {s with heap:=h',toks:=tk}):
  wpAny (model prog w) A (collect (.ref d)) Q E s:=by
 unfold collect;refine Xa (wpAny_runValue (T0 entry_proto_collect' ?_))
 show wpAny _ _ (do again (.builtin "list.__iadd__" ⟨[<-newList [],.ref d],[]⟩)) _ _ s
 refine Xa (wpAny_newList (Xf ⟨Code.quiet_builtin _ (by decide +kernel),T0 entry_list_iadd' ?_⟩))
 have hS:(s.heap.push (seqObj "list" #[] 0)).get? s.heap.objs.size=some (seqObj "list" #[] 0):=Xo _ rfl;have hL:s.heap.objs.size≠d:=X9 (Xn (Xg ho))
 have fin:∀s',(∃h' tk acc' c',s'={s with heap:=h',toks:=tk}/\(∀b o,s.heap.get? b=some o->h'.get? b=some o)/\h'.get? s.heap.objs.size=some {cls:=.type "list",dict:=none,data:=.seq acc' c',slots:=#[]}/\ItemsOf (λi v=>∃e,es[i]?=some e/\v=e.key) acc' es.size)->wpAny (model prog w) A (do
   let o <-load s.heap.objs.size
   match o.data with
   |.seq xs _=>pure xs.toList
   |_=>unsupported "internal:collect") Q E s':=by
  rintro s' ⟨h',tk,acc',c',rfl,kp,hS',hacc⟩;refine Xa (wpAny_load hS' ?_);exact Xf (h h' tk acc' (Nat.le_of_lt (Xg hS')) kp hacc)
 show wpAny _ _ (Builtin.List.listExtendWith (.ref s.heap.objs.size) (.ref d) (.ref s.heap.objs.size)) _ _ {s with heap:=s.heap.push (seqObj "list" #[] 0)};refine X2 (Qcq (R:=λr s'=>r=.ok (.ret (.ref s.heap.objs.size))/\∃h' tk acc' c',s'={s with heap:=h',toks:=tk}/\(∀b o,s.heap.get? b=some o->h'.get? b=some o)/\h'.get? s.heap.objs.size=some {cls:=.type "list",dict:=none,data:=.seq acc' c',slots:=#[]}/\ItemsOf (λi v=>∃e,es[i]?=some e/\v=e.key) acc' es.size) (s:={s with heap:=s.heap.push (seqObj "list" #[] 0)}) (A:=A) hh hm (Xb _ ho) hc hdd hn s.heap.objs.size (.ref s.heap.objs.size) 0 hS hL λh' tk acc' c' hk hS' hacc=>⟨rfl,h',tk,acc',c',rfl,λb o e=>hk b o (Xn (Xg e)) (Xb _ e),hS',hacc⟩) (λf s' z=>?_) λe s' z=>nomatch z.1
 cases f with
 |done f=>
  obtain⟨e,z⟩:=z;cases e;exact fin s' z
 |again c'=>
  refine⟨z.1,Uv z.2 λr s2 z2=>?_⟩;obtain⟨e,z2⟩:=z2;cases e;exact fin s2 z2
end
theorem Qd0{P:Program}{w:World}:∀{es:List DictEntry} {vs:List (Key×Value)} {ns:List Int},Pairs (Qq P w) es vs->vs.map (·.1)=ns.map Sum.inl->IntsAre (es.map (·.key)) ns
 |_,_,[],.nil,_=>.nil
 |_,_,_::_,.nil,h=>nomatch h
 |_,_,[],.cons ..,h=>nomatch h
 |e::_,kv::_,n::ns,.cons a _ t,h=>by
  rw[X0,X0]at h;obtain⟨h1,h2⟩:=List.cons.inj h
  rcases Qt (show JB kv.1 e.key=true from a)with⟨i,tk,e1,e2⟩|⟨x,tk,e1,e2⟩
  ·rw[h1]at e1;cases e1;rw[X0,e2];exact .cons _ _ (Qd0 t h2)
  ·rw[h1]at e1;cases e1
def Qcz{X:Cx}(hc:X.calm=true): CallR X (.builtin "sorted") (λxs H Q=>∃(a:Addr) (kv:List (Key×V)) (ns:List Int),xs=[.ref a]/\H a=some (.dK kv)/\kv.map (·.1)= ns.map Sum.inl/\ns.length<64/\∀p,H p=none->Q (.ref p) (upd H p (.lst (Z0 (ns.map λi=>[i]) (ns.map V.int))))):= by
 intro pins s Y H xs us Q I r h;obtain⟨a,kv,ns,rfl,ha,hk,h64,q⟩:=h;obtain⟨u,rfl,ru⟩:=Jg r;cases ru;obtain⟨hz,hm,vs,rr,o,es,ep,e,c,dt,_,pr,nd⟩:=(show ObjOk X.prog X.w H s.heap a (.dK kv)from I.hok a _ ha);have lk:=Wj rr
 have hk2:vs.map (·.1)=ns.map Sum.inl:=by
  rw[<-hk];clear hk nd pr hz lk ha
  induction rr with
  |nil=>rfl
  |cons h _ ih=>rw[X0,X0,ih,h.1]
 have hI:=Qd0 pr hk2
 have ll:es.size=ns.length:=by
  have:=congrArg List.length hk2;rw[Xl,Xl]at this;have e2:=Pairs.length pr;simp only[T6]at e2;omega
 have vI:∀{vs:List Value} {ns:List Int},IntsAre vs ns->Vals (ns.map V.int) vs:=λh=>by
  induction h with
  |nil=>exact .nil
  |cons n t _ ih=>exact .cons ⟨_,rfl⟩ ih
 have at_:∀{vs:List Value} {ns:List Int},IntsAre vs ns->∀i,i<vs.length->∃t,vs.getD i .none=.int (ns.getD i 0) t:=λh=>by
  induction h with
  |nil=>intro i hi;simp at hi
  |cons n t _ ih=>
   intro i hi
   cases i with
   |zero=>exact⟨t,rfl⟩
   |succ i=>exact ih i (by simpa using hi)
 have lI:(es.toList.map (·.key)).length=ns.length:=by simp[ll]
 refine Yg (κ:=oneType') (ks:=ns.map λi=>[i]) (vs:=es.toList.map (·.key)) (by omega) (λA' E' Q' hA q'=>QaA (hA.trans (I.ok.hd hc)) hm e c dt (by rw[W6];omega) λh' tk acc hs kp hi=>?_) (λh2 h' tk A' Q' kp q'=>?_) (λh2 h' tk A' Q' i j kp hi hj q'=>?_) λh' tk c D hD kp hh=>?_
 ·have ea:acc.toList=es.toList.map (·.key):=by
   refine Tn λi=>?_;have hs:acc.size=es.size:=hi.1;by_cases hi':i<acc.size
   ·obtain⟨e,he,ev⟩:=hi.2 i acc[i] (by simp[hi'])
    rw[Vg,Tv,Tv,he];simp[hi',ev]
   ·rw[Ww (by simp;omega),Ww (by simp;omega)]
  rw[ea];exact q' h' tk hs kp
 ·generalize es.toList.map (·.key)=L at hI h2 ⊢
  match L,h2 with
  |[],h2=>simp at h2
  |[_],h2=>simp at h2
  |v1::v2::L,_=>
   rw[keyKind_ints hI];exact Xf q'
 ·obtain⟨t1,e1⟩:=at_ hI i hi;obtain⟨t2,e2⟩:=at_ hI j hj;rw[e1,e2,keyLt'_oneType];refine oneLt_int ?_
  have e3:∀k,k<ns.length->(ns.map λi=>[i]).getD k []=[ns.getD k 0]:=λk hk=>by simp[List.getD,hk]
  have q2:=q';unfold ltK at q2
  rw[e3 i (by omega),e3 j (by omega)]at q2
  by_cases z:ns.getD i 0=ns.getD j 0
  ·rw[z]at q2 ⊢;simpa[QeE]using q2
  ·rw[show QeE [ns.getD i 0] [ns.getD j 0]=decide (ns.getD i 0<ns.getD j 0)from if_neg z]at q2;exact q2
 ·refine⟨.ref D,_,I.laid (t':=tk) (o:=.lst (Z0 (ns.map λi=>[i]) (ns.map V.int))) kp hD ?_,rfl,q D (I.hok.fresh hD)⟩
  refine⟨by unfold Z0;rw[Xl,ZW,Xl,W6];omega,_,c,?_,hh⟩
  unfold Z0;rw[Xl,<-lI];exact Yb (vI hI) _
def Qmb(ta:TA):TE:=λY H Q=>ta Y H λvs H1=>∃a b c:Int,rngA vs=some (a,b,c)/\(-(2 ^ 62)<=a/\a<2 ^ 62/\-(2 ^ 62)<=b/\b<2 ^ 62)/\(c=1\/c=-1)/\QaL a b c<=sizeLine/\QaL a b c<=2 ^ 24 /\
 ∀p,H1 p=none->Q (.ref p) (upd H1 p (.lst (QeC a (QaL a b c) c)))
def QhC{X:Cx}{a0:Expr}{args:List Expr}{ta:TA}{p q pos pos2:Pos}(hc:X.calm=true)(hg:Gl X "list")(hm:X.mg "list"=none)(hg2:Gl X "range")(hm2:X.mg "range"=none)(ha:PA X (a0::args) ta)
  (he:starEach (a0::args) X.env=(false,eval a0 X.env)::starEach args X.env) (hpl:(backTo pos2 (starEach args X.env)).any (·.1)=false):
  PE X (.Call (.Name "list" p) [.Call (.Name "range" q) (a0::args) [] pos2] [] pos) (Qmb ta):=by
 intro pins s Y H Q I h;refine Wg (Zl I hg hm PyProof.Rows.boot_list ?_);refine Wf (e:=.Call (.Name "range" q) (a0::args) [] pos2) (rest:=[]) ?_ rfl rfl;show wpAny _ _ (spliced ((false,eval (.Call (.Name "range" q) (a0::args) [] pos2) X.env)::backTo pos (starEach [] X.env))) _ _ s;refine Um ?_;refine Wg (Zl I hg2 hm2 boot_range ?_);refine Wf (thn (ha pos2 pins s Y H _ I h) λus s1 z=>?_) he hpl;obtain⟨vs,H1,I1,r1,q1⟩:=z;obtain⟨a,b,c,hv,⟨b1,b2,b3,b4⟩,h1,hz,h24,q⟩:=q1;refine thn (Qe5 I1 r1 hv h1) λv s2 y=>?_;obtain⟨r,t,u,w,e,I2,hr⟩:=y;subst e;refine Us ?_
 have hs:Builtin.Range.small a b c=true:=by
  rcases h1 with rfl|rfl
  ·exact small_one b1 b2 b3 b4
  ·exact QeW b1 b2 b3 b4
 refine call_list_range (I2.ok.hd hc) hr hs (Qhd h1) h24 λh' tk acc c' kp hS hacc=>?_;refine⟨.ref s2.heap.objs.size,_,I2.laid (t':=tk) (o:=.lst (QeC a (QaL a b c) c)) kp (Xm _) ?_,rfl,q _ (I2.hok.fresh (Xm _))⟩
 exact⟨by rw[QaV];exact hz,acc.toList,c',Qe4 hacc,by simpa using hS⟩
end
end L2
namespace Iv
open PySem
section
inductive U where
 |non|bl (b:Bool)|int (i:Int) (m:Nat)|str (x:List Nat)|ref (n:Nat)|con (k:Nat)|scr
 deriving DecidableEq,Inhabited
noncomputable abbrev Er:=Nat×U
inductive O where
 |lst (xs:List U)|tup (xs:List U)|ins (C:Nat) (fs:List (Nat×U))|dic (kvs:List (U×U))|dct (kvs:List (List U×U))|fzd (kvs:List (U×U))|fzt (kvs:List (List U×U))|err (c:Nat) (u:U)
 deriving DecidableEq,Inhabited
abbrev Hs:=List O
abbrev Rho:=List (Option U)
inductive Bi where
 |len|int|str|tuple|list|sum|any|all|max|min|abs|sorted|dict|dictS
 deriving DecidableEq,Inhabited
inductive Bm where
 |append|pop|clear|reverse|extend|setdef|get|update|join|split|find|insert|index
 deriving DecidableEq,Inhabited
inductive Ty where
 |non|bool|int|str|list|tuple|dict|cls (c:Nat)|vale
 deriving DecidableEq,Inhabited
mutual
inductive E where
 |c (u:U)|var (i:Nat)|con (k:Nat)
 |op (o:Operator) (a b:E)|neg (a:E)|cmp (o:CmpOp) (a b:E)
 |and (a b:E)|or (a b:E)|not (a:E)|ife (t a b:E)
 |tup (es:List E)|lst (es:List E)|dis (kvs:List (U×U)) (b:E)
 |ix (a b:E)|tab (k:Nat) (b:E)|sl (a:E) (lo hi:Option E)|rev (a:E)|tupR (es:List E)|lstR (es:List E)
 |fld (a:E) (f:Nat)
 |call (f:Nat) (es:List E)|meth (m:Nat) (o:E) (es:List E)|make (k:Nat) (es:List E)
 |bi (b:Bi) (es:List E)|isi (a:E) (t:Ty)|bm (b:Bm) (o:E) (es:List E)
 |comp (s:Src) (b:Bool) (t:Option E) (el:E)|dnew|dnewT|zap (e:E)|isiT (i:Nat) (cs:List Nat)|dsp (ks:List U) (es:List E)|thw (a e:E)|chain (o o':CmpOp) (a b c:E)
inductive Src where
 |seq (e:E)|rng (a:E)|rng2 (a b:E)|rngA (es:List E)|zip (a b:E)|revd (e:E)|enm (e:E)|rngR (a:E)|key (e:E)
inductive Tg where
 |name (i:Nat)|pair (i j:Nat)
end
inductive S where
 |pass|expr (e:E)|set (i:Nat) (e:E)|fld (o:E) (f:Nat) (e:E)|ret (e:E)|retN
 |ite (t:E) (a b:List S)|loop (t:Tg) (s:Src) (body:List S)|loopC (i:Nat) (e:E) (body:List S)|loopK (i:Nat) (e:E) (body:List S)|loopD (i:Nat) (e:E) (body:List S)|while (t:E) (body:List S)
 |brk|cont
 |aug (i:Nat) (o:Operator) (e:E)|bad
 |put (o i e:E)|unp (i j:Nat) (e:E)|par (i j:Nat) (a b:E)|unpN (is:List Nat) (e:E)
 |rse (c:Nat) (es:List E)|tryS (j:Option Nat) (f:Nat) (es:List E) (c:Nat) (body:List S)|cal (n:S) (f:Nat) (es:List E)
inductive Fl where
 |next|brk|cont|ret (u:U)
structure Fn where
 name:Str
 qual:Str
 st:Stmt
 ps:List Str
 N:List Str
 np:Nat
 nN:Nat
 lc:Bool
 body:List S
structure Cl where
 name:Str
 init:Option Nat
 meths:List (Nat×Nat)
 subs:List Nat
inductive Co where
 |tup (xs:List U)|lst (xs:List U)|tab (kvs:List (U×U))
 deriving Inhabited
structure Df where
 ps:List Str
 np:Nat
 last:Str
 ds:List U
structure Tbl where
 fns:List Fn
 cls:List Cl
 cons:List Co
 fns':List Str
 mns:List Str
 scr:List U
 isi:List ((Ty×Ty)×Bool)
 dfl:List (Nat×Df)
 dts:List Str:=[]
 zps:List Str:=[]
 ld:Bool:=false
 ers:List Nat:=[]
 esb:List (Nat×Nat):=[]
 pss:List Nat:=[]
 efl:List (Nat×Nat):=[]
 dks:List Str:=[]
 efi:List Nat:=[]
 xf:Nat->List U->Hs->Option (Er×Hs):=λ_ _ _=>none
noncomputable def bd{α β:Type}(o:Option (α×Hs))(f:α->Hs->Option β):Option β:=match o with
 |none=>none
 |some (a,h)=>f a h
def Qc{α β:Type}{o:Option (α×Hs)}{f:α->Hs->Option β}{r:β}(h:bd o f=some r):∃a h',o=some (a,h')/\f a h'=some r:=by
 unfold bd at h
 cases o with
 |none=>cases h
 |some p=>exact⟨p.1,p.2,rfl,h⟩
noncomputable def gz:Nat->Nat->Nat
 |0,n=>n
 |m+1,n=>Nat.gcd (m+1) n
noncomputable def Qp(i:Int):Bool:=decide (-(2 ^ 64) < i)&&decide (i<2 ^ 64)
noncomputable def Qeu(i:Int):Bool:=decide (i.natAbs<2 ^ 4096)
noncomputable def Qn8:U->U->Option U
 |.int i m,.int j n=>some (.int (i-j) (gz m n))
 |_,_=>none
noncomputable def QhX:U->U->Option U
 |.int i 0,.int j 0=>if Qp i||Qp j||(Qeu i&&Qeu j)then some (.int (i*j) 0)else none
 |.int i (m+1),.int j 0=>if Qp j then some (.int (i*j) ((m+1)*j.natAbs))else none
 |_,_=>none
noncomputable def Qk5:U->U->Option U
 |.int i 0,.int j 0=>if 0<j&&decide (j<1606938044258990275541962092341162602522202993782792835301376)then some (.int (i / j) 0)else none
 |.int i (m+1),.int j 0=>if 0<j&&decide (j<1606938044258990275541962092341162602522202993782792835301376)&&decide ((m+1) % j.toNat=0)then some (.int (i / j) ((m+1) / j.toNat))else none
 |_,_=>none
noncomputable def QkA:U->U->Option U
 |.int i 0,.int j 0=>if 0<j then some (.int (i % j) 0)else none
 |.int i (m+1),.int j 0=>if 0<j&&decide ((m+1) % j.toNat=0)then some (.int (i % j) 0)else none
 |_,_=>none
noncomputable def QnF(a b:Nat)(x y:O)(hs:Hs):Option (U×Hs):=match x,y with
 |.lst xs,.lst ys=>if xs.length+ys.length<=1000000 then some (.ref hs.length,hs++[.lst (xs++ys)])else none
 |_,_=>none
noncomputable def Qlv(u w:U)(hs:Hs):Option (U×Hs):=match u,w with
 |.int i m,.int j n=>some (.int (i+j) (gz m n),hs)
 |.ref a,.ref b=>match hs[a]?,hs[b]? with
  |some x,some y=>QnF a b x y hs
  |_,_=>none
 |_,_=>none
noncomputable def opU(o:Operator)(u w:U)(hs:Hs):Option (U×Hs):=match o with
 |.Add=>Qlv u w hs
 |.Sub=>(Qn8 u w).map λr=>(r,hs)
 |.Mult=>(QhX u w).map λr=>(r,hs)
 |.FloorDiv=>(Qk5 u w).map λr=>(r,hs)
 |.Mod=>(QkA u w).map λr=>(r,hs)
 |_=>none
noncomputable def eqS:U->U->Option Bool
 |.int i 0,.int j 0=>some (decide (i=j))
 |.str x,.str y=>some (decide (x=y))
 |.bl a,.bl b=>some (decide (a=b))
 |.non,.non=>some true
 |.non,.int _ _=>some false|.int _ _,.non=>some false|.non,.bl _=>some false|.bl _,.non=>some false|.non,.str _=>some false|.str _,.non=>some false
 |.int _ _,.str _=>some false|.str _,.int _ _=>some false|.bl _,.str _=>some false|.str _,.bl _=>some false
 |_,_=>none
noncomputable def Zp(T:Tbl)(u:U)(hs:Hs):Option (List U):=match u with
 |.ref n=>match hs[n]? with
  |some (.lst xs)=>some xs
  |some (.tup xs)=>some xs
  |_=>none
 |.con k=>match T.cons[k]? with
  |some (.lst xs)=>some xs
  |some (.tup xs)=>some xs
  |_=>none
 |.scr=>some T.scr
 |_=>none
noncomputable def YS:U->Bool
 |.int _ 0=>true
 |.str _=>true
 |.non=>true
 |_=>false
noncomputable def eqF:U->U->Bool
 |.int i _,.int j _=>decide (i=j)
 |.str x,.str y=>decide (x=y)
 |.non,.non=>true
 |_,_=>false
noncomputable def inU(x:U)(ys:List U):Option Bool:=if YS x&&ys.all YS then some (ys.any λy=>eqF y x)else none
noncomputable def QT(T:Tbl)(u:U)(hs:Hs):Option (List U):=match u with
 |.ref n=>match hs[n]? with
  |some (.lst xs)=>some xs
  |_=>none
 |.con k=>match T.cons[k]? with
  |some (.lst xs)=>some xs
  |_=>none
 |.scr=>some T.scr
 |_=>none
noncomputable def QeB(T:Tbl)(u:U)(hs:Hs):Option (List U):=match u with
 |.ref n=>match hs[n]? with
  |some (.tup xs)=>some xs
  |_=>none
 |.con k=>match T.cons[k]? with
  |some (.tup xs)=>some xs
  |_=>none
 |_=>none
noncomputable def Qcl(T:Tbl)(u w:U)(hs:Hs):Bool:=match QT T u hs,QT T w hs with
 |some xs,some ys=>decide (xs.length≠ys.length)
 |_,_=>false
noncomputable def Qb9(T:Tbl)(u w:U)(hs:Hs):Bool:=match QT T u hs,QT T w hs with
 |some xs,some ys=>decide (xs=ys)&&xs.all λx=>match x with|.ref _=>true|_=>false
 |_,_=>false
noncomputable def eqA(T:Tbl)(u w:U)(hs:Hs):Option Bool:=match eqS u w with
 |some b=>some b
 |none=>if Qcl T u w hs=true then some false else if Qb9 T u w hs=true then some true else none
noncomputable def Qck(kvs:List (U×U))(k:U):Option U:=match kvs with
 |[]=>none
 | (x,v)::r=>if x=k then some v else Qck r k
noncomputable def Qan:U->Bool
 |.int _ 0=>true
 |.str _=>true
 |_=>false
noncomputable def Z3{κ:Type}[DecidableEq κ](kvs:List (κ×U))(k:κ):Option U:=(kvs.find? λp=>decide (p.1=k)).map (·.2)
noncomputable def QeD{κ:Type}[DecidableEq κ](kvs:List (κ×U))(k:κ)(v:U):List (κ×U):=if(kvs.any λp=>decide (p.1=k))=true then kvs.map (λp=>if p.1=k then(p.1,v)else p)else kvs++[(k,v)]
noncomputable def JG(o:O)(w:U)(hs:Hs):Option (Option U):=match o with
 |.dic kvs=>if Qan w=true then some (Z3 kvs w)else none
 |.fzd kvs=>if Qan w=true then some (Z3 kvs w)else none
 |_=>none
noncomputable def QfR(n:Nat)(o:O)(k u:U)(hs:Hs):Option Hs:=match o with
 |.dic kvs=>if Qan k=true/\kvs.length<1000000 then some (hs.set n (.dic (QeD kvs k u)))else none
 |_=>none
noncomputable def Ym(kvs more:List (U×U)):List (U×U):=more.foldl (λacc p=>QeD acc p.1 p.2) kvs
noncomputable def Z4:List U->Option (List Int)
 |[]=>some []
 |.int i 0::r=>(Z4 r).map (i::·)
 |_=>none
noncomputable def itU(hs:Hs)(u:U):Option (List Int):=match u with
 |.ref m=>(match hs[m]? with
  |some (.tup (k::ks))=>Z4 (k::ks)
  |_=>none)
 |_=>none
noncomputable def Qib(hs:Hs):List U->Option (List (List Int))
 |[]=>some []
 |u::us=>(itU hs u).bind λk=>(Qib hs us).map λks=>k::ks
noncomputable def inD(w u:U)(hs:Hs):Option Bool:=match w with
 |.ref n=>(match hs[n]? with
  |some o=>(JG o u hs).map Option.isSome
  |none=>none)
 |_=>none
noncomputable def YH(T:Tbl)(o:CmpOp)(u w:U)(hs:Hs):Option Bool:=match o with
 |.Eq=>eqA T u w hs
 |.NotEq=>(eqA T u w hs).map (!·)
 |.Lt=>match u,w with|.int i 0,.int j 0=>some (decide (i<j))|_,_=>none
 |.LtE=>match u,w with|.int i 0,.int j 0=>some (decide (i<=j))|_,_=>none
 |.Gt=>match u,w with|.int i 0,.int j 0=>some (decide (j<i))|_,_=>none
 |.GtE=>match u,w with|.int i 0,.int j 0=>some (decide (j<=i))|_,_=>none
 |.In=>match Zp T w hs with|some xs=>inU u xs|none=>inD w u hs
 |.NotIn=>match Zp T w hs with|some xs=>(inU u xs).map (!·)|none=>(inD w u hs).map (!·)
 |.Is=>match w with|.non=>some (decide (u=.non))|_=>none
 |.IsNot=>match w with|.non=>some (!decide (u=.non))|_=>none
noncomputable def YJ(T:Tbl)(u:U)(hs:Hs):Option Bool:=match u with
 |.non=>some false
 |.bl b=>some b
 |.int i 0=>some (decide (i≠0))
 |.str x=>if x.length<=1000000 then some (!x.isEmpty)else none
 |u=>(Zp T u hs).map λxs=>!xs.isEmpty
noncomputable def ixU(n:Nat)(i:Int):Option Nat:=if 0<=i then(if i<n then some i.toNat else none)else if -(n:Int)<=i then some (i+n).toNat else none
noncomputable def atU{α:Type}(xs:List α)(i:Int):Option α:=match ixU xs.length i with
 |some j=>xs[j]?
 |none=>none
noncomputable def ZZ(T:Tbl)(u w:U)(hs:Hs):Option U:=match u,w with
 |.str x,.int i 0=>if x.length<=1000000 then(atU x i).map λc=>.str [c]else none
 |.ref n,w=>match hs[n]?,w with
  |some (.lst xs),.int i 0=>atU xs i
  |some (.tup xs),.int i 0=>atU xs i
  |some o,w=>(JG o w hs).bind id
  |none,_=>none
 |u,.int i 0=>match Zp T u hs with
  |some xs=>atU xs i
  |none=>none
 |_,_=>none
noncomputable def Qef(n d:Nat):Option Int->Nat
 |none=>d
 |some v=>if v<0 then(v+(n:Int)).toNat else min v.toNat n
noncomputable def Qcv{α:Type}(xs:List α)(lo hi:Option Int):List α:=(xs.drop (Qef xs.length 0 lo)).take (Qef xs.length xs.length hi-Qef xs.length 0 lo)
noncomputable def slU(T:Tbl)(u:U)(lo hi:Option Int)(hs:Hs):Option (U×Hs):=match u with
 |.scr=>some (.ref hs.length,hs++[.lst (Qcv T.scr lo hi)])
 |.ref n=>match hs[n]? with
  |some (.lst xs)=>some (.ref hs.length,hs++[.lst (Qcv xs lo hi)])
  |_=>none
 |_=>none
noncomputable def QpI(n:Nat):List Nat:=(Nat.toDigits 10 n).map Char.toNat
noncomputable def QpJ(x:List Nat):Bool:=x.all (λc=>decide (48<=c)&&decide (c<=57))&&!x.isEmpty&&decide (x.length<=640)
noncomputable def Qnx(x:List Nat):Nat:=x.foldl (λacc c=>acc*10+(c-48)) 0
noncomputable def ZY:List U->Option (List Bool)
 |[]=>some []
 |.bl b::r=>(ZY r).map (b::·)
 |_=>none
noncomputable def YL(ks:List (List Int))(xs:List U):List U:=(L2.permK ks xs.length).map λi=>xs.getD i .non
noncomputable def Qhq(hs:Hs):List U->Option (List (U×U))
 |[]=>some []
 |u::r=>match u with
  |.ref p=>(match hs[p]? with
   |some (.tup [k,v])=>if Qan k=true then(Qhq hs r).map λl=>(k,v)::l else none
   |_=>none)
  |_=>none
noncomputable def Qfp(u:U)(hs:Hs):Option (List U):=match u with
 |.ref p=>(match hs[p]? with
  |some (.lst xs)=>some xs
  |_=>none)
 |_=>none
noncomputable def Qnw(u:U)(hs:Hs):Option (List Int):=match u with
 |.ref p=>(match hs[p]? with
  |some (.dic kvs)=>Z4 (kvs.map (·.1))
  |_=>none)
 |_=>none
noncomputable def biL(T:Tbl)(b:Bi)(us:List U)(hs:Hs):Option (U×Hs):=match b,us with
 |.any,[u]=>(QT T u hs).bind λxs=>(ZY xs).map λbs=>(.bl (bs.any id),hs)
 |.all,[u]=>(QT T u hs).bind λxs=>(ZY xs).map λbs=>(.bl (bs.all id),hs)
 |.sorted,[u]=>match QT T u hs with
  |some xs=>if xs.length<64 then(if xs.length<2 then some []else Qib hs xs).map λks=>(.ref hs.length,hs++[.lst (YL ks xs)])else none
  |none=>(Qnw u hs).bind λns=>if ns.length<64 then some (.ref hs.length,hs++[.lst (YL (ns.map λi=>[i]) (ns.map λi=>.int i 0))])else none
 |.dictS,[u]=>(Qfp u hs).bind λxs=>(Qhq hs xs).map λkvs=>(.ref hs.length,hs++[.dic (Ym [] kvs)])
 |_,_=>none
noncomputable def biU(T:Tbl)(b:Bi)(us:List U)(hs:Hs):Option (U×Hs):=match b,us with
 |.len,[.str x]=>if x.length<=1000000 then some (.int x.length 0,hs)else none
 |.len,[u]=>match Zp T u hs with
  |some xs=>some (.int xs.length 0,hs)
  |none=>none
 |.int,[.int i m]=>some (.int i m,hs)
 |.int,[.bl b]=>some (.int (if b then 1 else 0) 0,hs)
 |.int,[.str x]=>if QpJ x then some (.int (Qnx x:Nat) 0,hs)else none
 |.str,[.int i 0]=>if 0<=i&&decide (i.natAbs.log2<1920)then some (.str (QpI i.toNat),hs)else none
 |.tuple,[.ref n]=>match hs[n]? with
  |some (.lst xs)=>some (.ref hs.length,hs++[.tup xs])
  |some (.tup _)=>some (.ref n,hs)
  |_=>none
 |.list,[u]=>match Zp T u hs with
  |some xs=>some (.ref hs.length,hs++[.lst xs])
  |none=>none
 |.len,_=>none
 |.int,_=>none
 |.str,_=>none
 |.tuple,_=>none
 |.list,_=>none
 |b,us=>biL T b us hs
noncomputable def Qbb(u:U)(hs:Hs):Option Ty:=match u with
 |.non=>some .non
 |.bl _=>some .bool
 |.int _ _=>some .int
 |.str _=>some .str
 |.ref n=>match hs[n]? with
  |some (.lst _)=>some .list
  |some (.tup _)=>some .tuple
  |some (.ins c _)=>some (.cls c)
  |_=>none
 |_=>none
noncomputable def Qm8(k t:Ty):Option Bool:=match k,t with
 |.cls _,_=>none
 |_,.cls _=>none
 |.bool,.int=>some true
 |k,t=>some (decide (k=t))
noncomputable def QbP(T:Tbl)(t:Ty)(u:U)(hs:Hs):Option Bool:=match Qbb u hs with
 |none=>none
 |some k=>match Qm8 k t with
  |some b=>some b
  |none=>T.isi.lookup (k,t)
noncomputable def QoL(T:Tbl)(c:Nat):List Nat->Option Bool
 |[]=>some false
 |t::r=>match T.isi.lookup (.cls c,.cls t)with
  |some true=>some true
  |some false=>QoL T c r
  |none=>none
noncomputable def Qm7(T:Tbl)(u:Option (Option U))(cs:List Nat)(hs:Hs):Option Bool:=match u with
 |some (some (.ref n))=>(match hs[n]? with
  |some (.err c _)=>QoL T c cs
  |_=>none)
 |_=>none
noncomputable def bmL(b:Bm)(n:Nat)(xs:List U)(us:List U)(hs:Hs):Option (U×Hs):=match b,us with
 |.append,[u]=>if xs.length<1000000 then some (.non,hs.set n (.lst (xs++[u])))else none
 |.pop,[]=>match xs[xs.length-1]? with
  |some y=>some (y,hs.set n (.lst xs.dropLast))
  |none=>none
 |_,_=>none
noncomputable def bmS(T:Tbl)(b:Bm)(x:List Nat)(us:List U)(hs:Hs):Option (U×Hs):=match b,us with
 |_,_=>none
noncomputable def bmD(b:Bm)(n:Nat)(kvs:List (U×U))(us:List U)(hs:Hs):Option (U×Hs):=match b with
 |.setdef=>(match us with
  |[k,v]=>if Qan k=true/\kvs.length<1000000 then(match Qck kvs k with
   |some x=>some (x,hs)
   |none=>some (v,hs.set n (.dic (kvs++[(k,v)]))))else none
  |_=>none)
 |.get=>(match us with
  |[k,v]=>if Qan k=true then some ((Z3 kvs k).getD v,hs)else none
  |_=>none)
 |.update=>(match us with
  |[.ref m]=>(match hs[m]? with
   |some (.dic more)=>if n≠m/\kvs.length+more.length<=1000000 then some (.non,hs.set n (.dic (Ym kvs more)))else none
   |_=>none)
  |_=>none)
 |_=>none
noncomputable def bmU(T:Tbl)(b:Bm)(o:U)(us:List U)(hs:Hs):Option (U×Hs):=match o with
 |.ref n=>match hs[n]? with
  |some (.lst xs)=>bmL b n xs us hs
  |some (.dic kvs)=>bmD b n kvs us hs
  |_=>none
 |.str x=>bmS T b x us hs
 |_=>none
noncomputable def bL:Bm->Bool
 |.setdef=>false|.get=>false|.update=>false|.join=>false|.split=>false|.find=>false|.index=>false|_=>true
noncomputable def bS:Bm->Bool
 |.join=>true|.split=>true|.find=>true|.index=>true|_=>false
noncomputable def bD:Bm->Bool
 |.setdef=>true|.get=>true|.update=>true|_=>false
noncomputable def Qe7(b:Bm)(u:U)(hs:Hs):Bool:=match u with
 |.ref n=>match hs[n]? with
  |some (.lst _)=>bL b
  |some (.dic _)=>bD b
  |_=>false
 |.str _=>bS b
 |_=>false
noncomputable def Zq(f:Nat)(u:U):List (Nat×U)->List (Nat×U)
 |[]=>[(f,u)]
 | (g,x)::r=>if g=f then(g,u)::r else(g,x)::Zq f u r
inductive Wk where
 |seqL (u:U)|seqT (u:U)|rng (lo:Int) (n:Nat)|zipB (b c:Bool) (x y:U)|revL (u:U) (n:Nat)|rngC (lo c:Int) (n:Nat)|enmL (u:U)|strW (x:List Nat)|keyD (n:Nat)
inductive Im where
 |one (u:U)|two (u w:U)
noncomputable def sqU(T:Tbl)(b:Bool)(u:U)(hs:Hs):Option (List U):=if b then QT T u hs else QeB T u hs
noncomputable def two(xs ys:List U)(i:Nat):Option Im:=match xs[i]?,ys[i]? with
 |some x,some y=>some (.two x y)
 |_,_=>none
noncomputable def itm(T:Tbl)(k:Wk)(i:Nat)(hs:Hs):Option (Option Im):=match k with
 |.seqL u=>(QT T u hs).map λxs=>(xs[i]?).map .one
 |.seqT u=>(QeB T u hs).map λxs=>(xs[i]?).map .one
 |.rng lo n=>some (if i<n then some (.one (.int (lo+i) 0))else none)
 |.zipB b c x y=>match sqU T b x hs,sqU T c y hs with
  |some xs,some ys=>some (two xs ys i)
  |_,_=>none
 |.revL _ _=>none
 |.rngC _ _ _=>none
 |.enmL u=>(QT T u hs).map λxs=>(xs[i]?).map λx=>.two (.int i 0) x
 |.strW _=>none
 |.keyD n=>match hs[n]? with
  |some (.fzd kvs)=>some ((kvs[i]?).map λp=>.one p.1)
  |_=>none
noncomputable def Qpk(a b c:Int):Nat:=if a<b then((b-a-1) / c+1).toNat else 0
noncomputable def Q6(T:Tbl)(k:Wk)(hs:Hs):Nat:=match k with
 |.seqL u=>((QT T u hs).getD []).length+1
 |.seqT u=>((QeB T u hs).getD []).length+1
 |.rng _ n=>n+1
 |.zipB b _ x _=>((sqU T b x hs).getD []).length+1
 |.revL _ _=>0
 |.rngC _ _ _=>0
 |.enmL u=>((QT T u hs).getD []).length+1
 |.strW _=>0
 |.keyD n=>(match hs[n]? with|some (.fzd kvs)=>kvs.length|_=>0)+1
noncomputable def tgt(t:Tg)(x:Im)(Z:Rho)(hs:Hs):Option Rho:=match t,x with
 |.name i,.one u=>some (Z.set i (some u))
 |.pair i j,.two u w=>some ((Z.set i (some u)).set j (some w))
 |.pair i j,.one (.ref n)=>match hs[n]? with
  |some (.tup [u,w])=>some ((Z.set i (some u)).set j (some w))
  |_=>none
 |_,_=>none
abbrev Cf:=Nat->List U->Hs->Option (U×Hs)
abbrev Ev:=E->Rho->Hs->Option (U×Hs)
noncomputable def evs(f:Ev)(Z:Rho):List E->Hs->Option (List U×Hs)
 |[],hs=>some ([],hs)
 |e::es,hs=>bd (f e Z hs) λu h1=>bd (evs f Z es h1) λus h2=>some (u::us,h2)
noncomputable def evO(f:Ev)(Z:Rho):Option E->Hs->Option (Option Int×Hs)
 |none,hs=>some (none,hs)
 |some e,hs=>bd (f e Z hs) λu h1=>match u with|.int i 0=>some (some i,h1)|_=>none
noncomputable def wkS(T:Tbl)(u:U)(hs:Hs):Option Wk:=match QT T u hs with
 |some _=>some (.seqL u)
 |none=>match QeB T u hs with
  |some _=>some (.seqT u)
  |none=>none
noncomputable def wkZ(T:Tbl)(u w:U)(hs:Hs):Option Wk :=
 let b:=(QT T u hs).isSome;let c:=(QT T w hs).isSome
 if(sqU T b u hs).isSome&&(sqU T c w hs).isSome then some (.zipB b c u w)else none
noncomputable def QfU(u:U)(hs h1:Hs):Option (Nat×List (U×U)):=match u with
 |.ref n=>(match hs[n]? with
  |some (.dic _)=>(match h1[n]? with
   |some (.dic kvs)=>some (n,kvs)
   |_=>none)
  |_=>none)
 |_=>none
noncomputable def Zf(T:Tbl)(f:Ev)(Z:Rho):Src->Hs->Option (Wk×Hs)
 |.seq e,hs=>bd (f e Z hs) λu h1=>(wkS T u h1).map λk=>(k,h1)
 |.rng a,hs=>bd (f a Z hs) λu h1=>match u with|.int i 0=>if Qp (i*4)then some (.rng 0 i.toNat,h1)else none|_=>none
 |.rng2 a b,hs=>bd (f a Z hs) λu h1=>bd (f b Z h1) λw h2=>match u,w with|.int i 0,.int j 0=>if Qp (i*4)&&Qp (j*4)then some (.rng i (j-i).toNat,h2)else none|_,_=>none
 |.rngA _,_=>none
 |.zip a b,hs=>bd (f a Z hs) λu h1=>bd (f b Z h1) λw h2=>(wkZ T u w h2).map λk=>(k,h2)
 |.revd _,_=>none
 |.enm e,hs=>bd (f e Z hs) λu h1=>match QT T u h1 with|some _=>some (.enmL u,h1)|none=>none
 |.rngR _,_=>none
 |.key e,hs=>bd (f e Z hs) λu h1=>(QfU u hs h1).map λp=>(.keyD p.1,h1.set p.1 (.fzd p.2))
noncomputable def QcI(T:Tbl)(f n:Nat):List U:=match T.dfl.lookup f with
 |none=>[]
 |some D=>D.ds.drop (D.ds.length-(D.np-n))
noncomputable def Qaj(T:Tbl)(cf:Cf)(c:Nat)(us:List U)(hs:Hs):Option (U×Hs):=match T.cls[c]? with
 |none=>none
 |some C=>match C.init with
  |none=>if us=[]then some (.ref hs.length,hs++[.ins c []])else none
  |some f=>match cf f (.ref hs.length::(us++QcI T f (us.length+1))) (hs++[.ins c []])with
   |some (.non,h2)=>some (.ref hs.length,h2)
   |_=>none
noncomputable def Qa9(T:Tbl)(m:Nat)(o:U)(hs:Hs):Option Nat:=match o with
 |.ref n=>match hs[n]? with
  |some (.ins c _)=>match T.cls[c]? with
   |some C=>C.meths.lookup m
   |none=>none
  |_=>none
 |_=>none
noncomputable def tgN(b:Bool)(n:Nat):Tg:=if b then .pair n (n+1)else .name n
noncomputable def QhK(b:Bool):Rho:=if b then [none,none]else [none]
noncomputable def Yv(T:Tbl)(f:Ev)(ft:Rho->Hs->Option (Bool×Hs))(w:Wk)(b:Bool)(el:E)(Z:Rho):Nat->Nat->List U->Hs->Option (List U×Hs)
 |0,_,_,_=>none
 |k+1,i,acc,hs=>match itm T w i hs with
  |none=>none
  |some none=>some (acc,hs)
  |some (some x)=>match tgt (tgN b Z.length) x (Z++QhK b) hs with
   |none=>none
   |some ρ'=>if acc.length<1000000 then bd (ft ρ' hs) λc h1=>if c=true then bd (f el ρ' h1) λu h2=>Yv T f ft w b el Z k (i+1) (acc++[u]) h2 else Yv T f ft w b el Z k (i+1) acc h1 else none
noncomputable def Qay(ft:E->Rho->Hs->Option (Bool×Hs))(t:Option E)(Z:Rho)(hs:Hs):Option (Bool×Hs):=match t with
 |none=>some (true,hs)
 |some e=>ft e Z hs
noncomputable def QiI(a b c:Int):Option (List U):=if Qp (a*4)&&Qp (b*4)&&(decide (c=1)||decide (c=-1))then
  (let n:=if c=1 then(b-a).toNat else(a-b).toNat
    if n<=1000000 then some ((List.range n).map λi:Nat=>.int (a+(i:Int)*c) 0)else none)else none
noncomputable def QiH:List U->Option (List U)
 |[.int b 0]=>QiI 0 b 1
 |[.int a 0,.int b 0]=>QiI a b 1
 |[.int a 0,.int b 0,.int c 0]=>QiI a b c
 |_=>none
mutual
noncomputable def ev(T:Tbl)(cf:Cf):Nat->Ev
 |0,_,_,_=>none
 |d+1,e,Z,hs=>match e with
  |.c u=>some (u,hs)
  |.con k=>some (.con k,hs)
  |.var i=>match Z[i]? with
   |some (some u)=>some (u,hs)
   |_=>none
  |.op o a b=>bd (ev T cf d a Z hs) λu h1=>bd (ev T cf d b Z h1) λw h2=>opU o u w h2
  |.neg a=>bd (ev T cf d a Z hs) λu h1=>match u with|.int i m=>some (.int (-i) m,h1)|_=>none
  |.cmp o a b=>bd (ev T cf d a Z hs) λu h1=>bd (ev T cf d b Z h1) λw h2=>(YH T o u w h2).map λc=>(.bl c,h2)
  |.and a b=>bd (ev T cf d a Z hs) λu h1=>match u with|.bl true=>ev T cf d b Z h1|.bl false=>some (.bl false,h1)|_=>none
  |.or a b=>bd (ev T cf d a Z hs) λu h1=>match u with|.bl true=>some (.bl true,h1)|.bl false=>ev T cf d b Z h1|_=>none
  |.not a=>bd (ev T cf d a Z hs) λu h1=>(YJ T u h1).map λc=>(.bl (!c),h1)
  |.ife t a b=>bd (evT T cf d t Z hs) λc h1=>if c=true then ev T cf d a Z h1 else ev T cf d b Z h1
  |.tup es=>bd (evs (ev T cf d) Z es hs) λus h1=>some (.ref h1.length,h1++[.tup us])
  |.lst es=>bd (evs (ev T cf d) Z es hs) λus h1=>some (.ref h1.length,h1++[.lst us])
  |.dis _ _=>none
  |.ix a b=>bd (ev T cf d a Z hs) λu h1=>bd (ev T cf d b Z h1) λw h2=>(ZZ T u w h2).map λx=>(x,h2)
  |.tab _ _=>none
  |.sl a lo hi=>bd (ev T cf d a Z hs) λu h1=>bd (evO (ev T cf d) Z lo h1) λl h2=>bd (evO (ev T cf d) Z hi h2) λr h3=>slU T u l r h3
  |.rev a=>bd (ev T cf d a Z hs) λu h1=>match QT T u h1 with|some xs=>some (.ref h1.length,h1++[.lst xs.reverse])|none=>none
  |.tupR _=>none
  |.lstR es=>bd (evs (ev T cf d) Z es hs) λus h1=>match QiH us with|some xs=>some (.ref h1.length,h1++[.lst xs])|none=>none
  |.fld a f=>bd (ev T cf d a Z hs) λu h1=>match u with
   |.ref n=>match h1[n]? with
    |some (.ins _ fs)=>(fs.lookup f).map λx=>(x,h1)
    |some (.err c w)=>if T.efl.contains (c,f)=true then some (w,h1)else none
    |_=>none
   |_=>none
  |.call f es=>bd (evs (ev T cf d) Z es hs) λus h1=>cf f us h1
  |.meth m o es=>bd (ev T cf d o Z hs) λu h1=>match Qa9 T m u h1 with
   |some f=>bd (evs (ev T cf d) Z es h1) λus h2=>cf f (u::(us++QcI T f (us.length+1))) h2
   |none=>none
  |.make c es=>bd (evs (ev T cf d) Z es hs) λus h1=>Qaj T cf c us h1
  |.bi b es=>bd (evs (ev T cf d) Z es hs) λus h1=>biU T b us h1
  |.isi a t=>bd (ev T cf d a Z hs) λu h1=>(QbP T t u h1).map λb=>(.bl b,h1)
  |.isiT i cs=>(Qm7 T Z[i]? cs hs).map λb=>(.bl b,hs)
  |.bm b o es=>bd (ev T cf d o Z hs) λu h1=>if Qe7 b u h1=true then bd (evs (ev T cf d) Z es h1) λus h2=>bmU T b u us h2 else none
  |.comp s b t el=>bd (Zf T (ev T cf d) Z s hs) λw h1=>bd (Yv T (ev T cf d) (Qay (evT T cf d) t) w b el Z (Q6 T w h1) 0 [] h1) λus h2=>some (.ref h2.length,h2++[.lst us])
  |.dnew=>some (.ref hs.length,hs++[.dic []])
  |.dnewT=>none
  |.zap _=>none
  |.thw a e=>match ev T cf d a Z hs with
   |some (.ref n,_)=>(match hs[n]? with
    |some (.dic _)=>(match ev T cf d e Z hs with
     |some (u,h2)=>(match h2[n]? with
      |some (.fzd kvs)=>some (u,h2.set n (.dic kvs))
      |_=>none)
     |none=>none)
    |_=>none)
   |_=>none
  |.dsp _ _=>none
  |.chain _ _ _ _ _=>none
noncomputable def evT(T:Tbl)(cf:Cf):Nat->E->Rho->Hs->Option (Bool×Hs)
 |0,_,_,_=>none
 |d+1,e,Z,hs=>match e with
  |.not a=>bd (evT T cf d a Z hs) λc h1=>some (!c,h1)
  |.and a b=>bd (evT T cf d a Z hs) λc h1=>if c=true then evT T cf d b Z h1 else some (false,h1)
  |.or a b=>bd (evT T cf d a Z hs) λc h1=>if c=true then some (true,h1)else evT T cf d b Z h1
  |e=>bd (ev T cf d e Z hs) λu h1=>(YJ T u h1).map λb=>(b,h1)
end
abbrev Ex:=Rho->Hs->Option (Fl×Rho×Hs)
noncomputable def YQ(T:Tbl)(w:Wk)(t:Tg)(body:Ex):Nat->Nat->Ex
 |0,_,_,_=>none
 |k+1,i,Z,hs=>match itm T w i hs with
  |none=>none
  |some none=>some (.next,Z,hs)
  |some (some x)=>match tgt t x Z hs with
   |none=>none
   |some ρ'=>match body ρ' hs with
    |some (.next,ρ2,h2)=>YQ T w t body k (i+1) ρ2 h2
    |some (.cont,ρ2,h2)=>YQ T w t body k (i+1) ρ2 h2
    |some (.brk,ρ2,h2)=>some (.next,ρ2,h2)
    |r=>r
noncomputable def Zi(test:Rho->Hs->Option (Bool×Hs))(body:Ex):Nat->Ex
 |0,_,_=>none
 |k+1,Z,hs=>match test Z hs with
  |none=>none
  |some (false,h1)=>some (.next,Z,h1)
  |some (true,h1)=>match body Z h1 with
   |some (.next,ρ2,h2)=>Zi test body k ρ2 h2
   |some (.cont,ρ2,h2)=>Zi test body k ρ2 h2
   |some (.brk,ρ2,h2)=>some (.next,ρ2,h2)
   |r=>r
noncomputable def QlJ:List Nat->List U->Rho->Option Rho
 |[],[],Z=>some Z
 |i::is,u::us,Z=>QlJ is us (Z.set i (some u))
 |_,_,_=>none
noncomputable def QlE(u:U)(hs:Hs):Option (List U):=match u with
 |.ref n=>(match hs[n]? with
  |some (.tup us)=>some us
  |_=>none)
 |_=>none
noncomputable def Qp6(o:Operator)(u w:U):Option U:=match o with
 |.Add=>(match u,w with|.int i 0,.int j 0=>some (.int (i+j) 0)|_,_=>none)
 |.Sub=>(match u,w with|.int i 0,.int j 0=>some (.int (i-j) 0)|_,_=>none)
 |_=>none
noncomputable def QiL(x k u:U)(hs:Hs):Option Hs:=match x with
 |.ref n=>(match hs[n]? with
  |some o=>QfR n o k u hs
  |none=>none)
 |_=>none
noncomputable def Qmj(j:Option Nat)(u:U)(Z:Rho):Rho:=match j with
 |some j=>Z.set j (some u)
 |none=>Z
noncomputable def QkT(j:Option Nat)(Z:Rho):Rho:=match j with
 |some j=>Z.set j none
 |none=>Z
noncomputable def Qnr(j:Option Nat)(c:Er)(hs:Hs):Hs:=match j with
 |some _=>hs++[.err c.1 c.2]
 |none=>hs
mutual
noncomputable def ex(T:Tbl)(cf:Cf):Nat->S->Ex
 |0,_,_,_=>none
 |d+1,s,Z,hs=>match s with
  |.pass=>some (.next,Z,hs)
  |.bad=>none
  |.aug _ _ _=>none
  |.brk=>some (.brk,Z,hs)
  |.cont=>some (.cont,Z,hs)
  |.expr e=>bd (ev T cf d e Z hs) λz h1=>some (.next,Z,h1)
  |.set i e=>bd (ev T cf d e Z hs) λu h1=>some (.next,Z.set i (some u),h1)
  |.fld o f e=>bd (ev T cf d e Z hs) λu h1=>bd (ev T cf d o Z h1) λx h2=>match x with
   |.ref n=>match h2[n]? with
    |some (.ins c fs)=>if fs.length<500 then some (.next,Z,h2.set n (.ins c (Zq f u fs)))else none
    |_=>none
   |_=>none
  |.ret e=>bd (ev T cf d e Z hs) λu h1=>some (.ret u,Z,h1)
  |.retN=>some (.ret .non,Z,hs)
  |.ite t a b=>match evT T cf d t Z hs with
   |some (true,h1)=>exs T cf d a Z h1
   |some (false,h1)=>exs T cf d b Z h1
   |none=>none
  |.loop t s body=>bd (Zf T (ev T cf d) Z s hs) λw h1=>YQ T w t (exs T cf d body) (Q6 T w h1) 0 Z h1
  |.loopC _ _ _=>none
  |.loopD _ _ _=>none
  |.loopK _ _ _=>none
  |.while t body=>Zi (evT T cf d t) (exs T cf d body) 1000000 Z hs
  |.put o i e=>bd (ev T cf d e Z hs) λu h1=>bd (ev T cf d o Z h1) λx h2=>bd (ev T cf d i Z h2) λk h3=>(QiL x k u h3).map λh4=>(.next,Z,h4)
  |.unp _ _ _=>none
  |.par _ _ _ _=>none
  |.unpN is e=>bd (ev T cf d e Z hs) λu h1=>(QlE u h1).bind λus=>(QlJ is us Z).map λρ'=>(.next,ρ',h1)
  |.rse _ _=>none
  |.tryS j f es c body=>bd (evs (ev T cf d) Z es hs) λus h1=>match cf f us h1 with
   |some (_,h2)=>some (.next,Z,h2)
   |none=>match T.xf f us h1 with
    |some (c',h2)=>if T.ers.contains c'.1=true/\T.esb.contains (c'.1,c)=true/\(match T.fns[f]? with|some F=>decide (us.length=F.np)|none=>false)=true then(match exs T cf d body (Qmj j (.ref h2.length) Z) (Qnr j c' h2)with
     |some (.next,ρ2,h3)=>some (.next,QkT j ρ2,h3)
     |_=>none)else none
    |none=>none
  |.cal n _ _=>ex T cf d n Z hs
noncomputable def exs(T:Tbl)(cf:Cf):Nat->List S->Ex
 |0,_,_,_=>none
 |d+1,ss,Z,hs=>match ss with
  |[]=>some (.next,Z,hs)
  |s::r=>match ex T cf d s Z hs with
   |some (.next,ρ1,h1)=>exs T cf d r ρ1 h1
   |x=>x
end
noncomputable def dd:Nat:=100
noncomputable def fin:Option (Fl×Rho×Hs)->Option (U×Hs)
 |some (.ret u,_,h)=>some (u,h)
 |some (.next,_,h)=>some (.non,h)
 |_=>none
noncomputable def QiJ(us:List U)(n:Nat):Rho:=us.map some++List.replicate (n-us.length) none
noncomputable def Qd(T:Tbl):Nat->Cf
 |0,_,_,_=>none
 |n+1,f,us,hs=>match T.fns[f]? with
  |none=>none
  |some F=>if us.length=F.np then fin (exs T (Qd T n) dd F.body (QiJ us F.nN) hs)else none
noncomputable def rsv(us:List U):Option U:=match us with
  |[.int i 0]=>if Qp i=true then some (.int i 0)else none
  |_=>none
noncomputable def QcJ(T:Tbl)(w:Wk)(t:Tg)(body:Ex)(bx:Rho->Hs->Option (Er×Hs)):Nat->Nat->Rho->Hs->Option (Er×Hs)
 |0,_,_,_=>none
 |k+1,i,Z,hs=>match itm T w i hs with
  |none=>none
  |some none=>none
  |some (some x)=>match tgt t x Z hs with
   |none=>none
   |some ρ'=>match body ρ' hs with
    |some (.next,ρ2,h2)=>QcJ T w t body bx k (i+1) ρ2 h2
    |some (.cont,ρ2,h2)=>QcJ T w t body bx k (i+1) ρ2 h2
    |some _=>none
    |none=>bx ρ' hs
mutual
noncomputable def exX(T:Tbl)(cf:Cf):Nat->S->Rho->Hs->Option (Er×Hs)
 |0,_,_,_=>none
 |d+1,s,Z,hs=>match s with
  |.rse c es=>bd (evs (ev T cf d) Z es hs) λus h1=>if T.ers.contains c=true/\es.length<=1000 then(rsv us).map λu=>((c,u),h1)else none
  |.ite t a b=>match evT T cf d t Z hs with
   |some (true,h1)=>exsX T cf d a Z h1
   |some (false,h1)=>exsX T cf d b Z h1
   |none=>none
  |.loop t s body=>bd (Zf T (ev T cf d) Z s hs) λw h1=>QcJ T w t (exs T cf d body) (exsX T cf d body) (Q6 T w h1) 0 Z h1
  |_=>none
noncomputable def exsX(T:Tbl)(cf:Cf):Nat->List S->Rho->Hs->Option (Er×Hs)
 |0,_,_,_=>none
 |d+1,ss,Z,hs=>match ss with
  |[]=>none
  |s::r=>match ex T cf d s Z hs with
   |some (.next,ρ1,h1)=>exsX T cf d r ρ1 h1
   |some _=>none
   |none=>exX T cf d s Z hs
end
noncomputable def QV(T:Tbl):Nat->Nat->List U->Hs->Option (Er×Hs)
 |0,_,_,_=>none
 |n+1,f,us,hs=>match T.fns[f]? with
  |none=>none
  |some F=>if us.length=F.np then exsX T (Qd T n) dd F.body (QiJ us F.nN) hs else none
end
section
variable {m:Nat}
inductive G where
 |fn (i:Nat)|cls (i:Nat)|con (k:Nat)|txt (x:List Nat)
structure Ctx where
 T:Tbl
 N:List Str
 names:List (Str×NameKind)
 gl:List (Str×G)
 bl:List Str
 lc:Bool:=false
noncomputable def idx(x:Str):List Str->Option Nat
 |[]=>none
 |y::r=>if y=x then some 0 else(idx x r).map (· + 1)
noncomputable def QfA(C:Ctx)(x:Str):Bool:=match C.names.lookup x with
 |some .local=>true|some .cell=>true|some .free=>true|_=>false
noncomputable def JC(C:Ctx)(x:Str):Bool:=match C.names.lookup x with
 |some .local=>true|some .cell=>true|_=>false
noncomputable def ZG(C:Ctx)(x:Str):Bool:=match C.names.lookup x with
 |some .globalImplicit=>true|_=>false
noncomputable def Q8:Expr->Bool
 |.Call (.Name _ _) [] [] _=>false
 |_=>true
noncomputable def ZD:Expr->Bool
 |.Slice ..=>false
 |_=>true
noncomputable def Qjg(C:Ctx)(x:Str):Option Ty:=match C.gl.lookup x with
 |some (.cls i)=>some (.cls i)
 |some _=>none
 |none=>if C.bl.contains x=false then none else if x="int" then some .int else if x="str" then some .str else if x="bool" then some .bool else if x="list" then some .list else if x="tuple" then some .tuple else if x="dict" then some .dict else if x="ValueError" then some .vale else none
noncomputable def Qln(b:Bool)(x:Str):Option Bi:=if x="sorted" then some .sorted else if x="dict" then(if b=true then some .dictS else none)else none
noncomputable def QlR(C:Ctx)(x:Str):Option Bi:=match C.gl.lookup x with
 |some _=>none
 |none=>if C.bl.contains x=false then none else if x="len" then some .len else if x="tuple" then some .tuple else if x="list" then some .list else if x="any" then some .any else if x="all" then some .all else Qln C.T.dts.isEmpty x
noncomputable def Qlm(x:Str):Option Bm:=if x="get" then some .get else if x="update" then some .update else none
noncomputable def QlP(x:Str):Option Bm:=if x="append" then some .append else if x="pop" then some .pop else if x="setdefault" then some .setdef else Qlm x
noncomputable def Qdn:E->Bool
 |.and _ _=>false
 |.or _ _=>false
 |.not _=>false
 |_=>true
noncomputable def okT:Expr->E->Bool
 |.BoolOp ..,_=>true
 |.UnaryOp .Not ..,_=>true
 |.Compare ..,_=>true
 |_,ir=>Qdn ir
noncomputable def Qdb(C:Ctx)(f:Str)(args:List Expr):Option (List Expr):=none
noncomputable def Jq(C:Ctx)(f:Str)(args:List Expr):Option (List Expr):=if f="list" then(match args with
 |[.Call (.Name r _) ra [] _]=>if r="range"&&ZG C r&&(C.gl.lookup r).isNone&&C.bl.contains r&&decide (ra.length<=3)&&decide (1<=ra.length)then some ra else none
 |_=>none)else none
noncomputable def JA(C:Ctx)(f:Str)(args:List Expr):Option Expr:=if f="list" then(match args with
 |[.Call (.Name r _) [a] [] _]=>if r="reversed"&&ZG C r&&(C.gl.lookup r).isNone&&C.bl.contains r then some a else none
 |_=>none)else none
noncomputable def Qlb:Expr->Option U
 |.Constant (.int i) _ _=>some (.int i 0)
 |.Constant (.str x) _ _=>some (.str x.cps.toList)
 |_=>none
noncomputable def Qnv:List (Option Expr)->List Expr->Option (List (U×U))
 |[],[]=>some []
 |some k::ks,v::vs=>(Qlb k).bind λk'=>(Qlb v).bind λv'=>(Qnv ks vs).bind λr=>if r.any (λp=>decide (p.1=k'))then none else some ((k',v')::r)
 |_,_=>none
noncomputable def Ctx.inner(C:Ctx)(xs:List Str)(scope:Scope):Ctx:={C with N:=L2.hideN xs C.N++xs,names:=L2.relN C.names scope.names,lc:=false}
noncomputable def hdC(C:Ctx):Bool:=decide (C.bl.head?=some ("isinstance":Str))
noncomputable def Ja(C:Ctx)(xs:List Str)(scope:Scope):Bool:=(scope.kind==.function)&&xs.all (λx=>(scope.names.lookup x==some .local)&&(scope.names.lookup (L2.mang x)==none))&&decide (L2.hideN xs C.N++xs).Nodup&&scope.names.all (λy=>match y.2 with
  |.local=>(xs.contains y.1||decide (y.1=".0"))&&(scope.names.lookup y.1==some .local)
  |.free=>(C.names.lookup y.1==some .cell)||(C.names.lookup y.1==some .free)
  |.cell=>false
  |_=>true)&&!(C.N.contains ".0")
noncomputable def QlM:Src->Bool
 |.zip _ _=>true
 |.enm _=>true
 |_=>false
noncomputable def Qa3:Src->Tg->Bool
 |.zip _ _,.name _=>false
 |.enm _,.name _=>false
 |.revd _,.pair _ _=>false
 |_,_=>true
noncomputable def Ql6:Expr->Option (Bool×List Str)
 |.Name x _=>some (false,[x])
 |.Tuple es _ _=>(match es with
  |[a,b]=>(match a,b with
   |.Name x _,.Name y _=>some (true,[x,y])
   |_,_=>none)
  |_=>none)
 |_=>none
noncomputable def QoA:List Expr->Option (Option Expr)
 |[]=>some none
 |[t]=>some (some t)
 |_=>none
structure Gn where
 b:Bool
 xs:List Str
 iter:Expr
 tl:Option Expr
noncomputable def QfK:List Comprehension->Option Gn
 |[g]=>if g.is_async=0 then(Ql6 g.target).bind λt=>(QoA g.ifs).map λtl=>⟨t.1,t.2,g.iter,tl⟩else none
 |_=>none
def QlS(tg:Expr)(b:Bool)(xs:List Str):Prop:=(b=false/\∃x p,tg=.Name x p/\xs=[x])\/(b=true/\∃x p y q k pt,tg=.Tuple [.Name x p,.Name y q] k pt/\xs=[x,y])
def QgT{tg:Expr}{b:Bool}{xs:List Str}(h:Ql6 tg=some (b,xs)):QlS tg b xs:=by
 unfold Ql6 at h;split at h
 ·cases h;exact .inl ⟨rfl,_,_,rfl,rfl⟩
 ·split at h
  ·split at h
   ·cases h;exact .inr ⟨rfl,_,_,_,_,_,_,rfl,rfl⟩
   ·cases h
  ·cases h
 ·cases h
def Y7{gens:List Comprehension}{g:Gn}(h:QfK gens=some g):∃tg,gens=[⟨tg,g.iter,g.tl.toList,0⟩]/\QlS tg g.b g.xs:=by
 unfold QfK at h;split at h
 ·rename_i c;split at h
  ·rename_i e;simp only[Xc,Xd]at h;obtain⟨⟨b,xs⟩,h1,tl,h2,rfl⟩:=h;obtain⟨tg,iter,ifs,ia⟩:=c;simp only at e h1 h2;subst e;refine⟨tg,?_,QgT h1⟩
   have:ifs=tl.toList:=by
    unfold QoA at h2;split at h2<;>cases h2<;>rfl
   rw[this]
  ·cases h
 ·cases h
inductive Sl where
 |cut (lo hi:Option Expr)|rev|bad
noncomputable def QiG:Expr->Option Sl
 |.Slice lo hi st _=>(match st with
  |none=>some (.cut lo hi)
  |some e=>some .bad)
 |_=>none
inductive He where
 |tab (ks:List (Option Expr)) (vs:List Expr)|nm (x:Str)|any
noncomputable def Qnj:Expr->He
 |.Name x _=>.nm x
 |_=>.any
noncomputable def Qjl(C:Ctx)(x:Str):Option Nat:=none
noncomputable def QlK(C:Ctx)(i:Nat)(es:List E):Option E:=match C.T.dfl.lookup i with
 |none=>some (.call i es)
 |some _=>none
noncomputable def QlO(C:Ctx)(it:Expr):Bool:=match it with
 |.Name y _=>C.T.dks.contains y
 |.Attribute (.Name _ _) f _=>C.T.dks.contains f
 |_=>false
mutual
noncomputable def Qe:Nat->Ctx->Expr->Option E
 |0,_,_=>none
 |m+1,C,e=>match e with
  |.Constant (.int i) _ _=>some (.c (.int i 0))
  |.Constant (.bool b) _ _=>some (.c (.bl b))
  |.Constant .none _ _=>some (.c .non)
  |.Constant (.str x) _ _=>some (.c (.str x.cps.toList))
  |.Name x _=>if x="__debug__"\/x="__classdict__" then none else if QfA C x then(idx x C.N).map .var else if ZG C x then(match C.gl.lookup x with|some (.con k)=> some (.con k)|some (.txt t)=> some (.c (.str t))|_=>none)else none
  |.BinOp a o b _=>(Qe m C a).bind λa'=>(Qe m C b).bind λb'=>some (.op o a' b')
  |.UnaryOp .USub a _=>(Qe m C a).bind λa'=>some (.neg a')
  |.UnaryOp .Not a _=>(compT m C a).bind λa'=>some (.not a')
  |.BoolOp .And (a::r) p=>compAnd m C a r p
  |.BoolOp .Or (a::r) p=>compOr m C a r p
  |.Compare a [o] [b] _=>(Qe m C a).bind λa'=>(Qe m C b).bind λb'=>some (.cmp o a' b')
  |.IfExp t a b _=>(compT m C t).bind λt'=>(Qe m C a).bind λa'=>(Qe m C b).bind λb'=>some (.ife t' a' b')
  |.Tuple es _ _=>if es.length<=1000000 then(compA m C es).bind λes'=>some (.tup es')else none
  |.List es _=>if es.length<=1000000 then(compA m C es).bind λes'=>some (.lst es')else none
  |.Subscript a b _=>match QiG b with
   |some (.cut lo hi)=>(Qe m C a).bind λa'=>(compO m C lo).bind λl=>(compO m C hi).bind λh=>some (.sl a' l h)
   |some .rev=>(Qe m C a).bind λa'=>some (.rev a')
   |some .bad=>none
   |none=>(Qe m C b).bind λb'=>match Qnj a with
    |.tab ks vs=>if decide (ks.length<=15)&&!ks.isEmpty then(Qnv ks vs).bind λkvs=>some (.dis kvs b')else none
    |.nm x=>(match Qjl C x with|some k=>some (.tab k b')|none=>(Qe m C a).bind λa'=>some (.ix a' b'))
    |.any=>(Qe m C a).bind λa'=>some (.ix a' b')
  |.Attribute a f _=>if Q8 a then(Qe m C a).bind λa'=>(idx f C.T.fns').bind λk=>some (.fld a' k)else none
  |.Call (.Name f _) args [] _=>if f="__debug__"\/f="__name__"\/ZG C f=false then none else match C.gl.lookup f with
   |some (.fn i)=>if hdC C=true then none else(compA m C args).bind λes=>QlK C i es
   |some (.cls i)=>if hdC C=true then none else(compA m C args).bind λes=>some (.make i es)
   |some (.con _)=>none
   |some (.txt _)=>none
   |none=>if C.bl.contains f=false then none else if f="isinstance" then(match args with
     |[a,.Name t _]=> if ZG C t/\t≠"__debug__"/\t≠"__name__" then(Qe m C a).bind λa'=>(Qjg C t).bind λty=>some (.isi a' ty)else none
     |_=>none)
    else if hdC C=true then none else match Qdb C f args with
     |some ra=>(compA m C ra).bind λes=>some (.tupR es)
     |none=>match Jq C f args with
       |some ra=>(compA m C ra).bind λes=>some (.lstR es)
       |none=>match JA C f args with
      |some a=>(Qe m C a).bind λa'=>some (.rev a')
      |none=>(QlR C f).bind λb=>(compA m C args).bind λes=>some (.bi b es)
  |.Call (.Attribute o x p) args [] q=>if Q8 o&&(p.endLine==q.line)&&decide (args.length<29)then match idx x C.T.mns with
   |some k=>if hdC C=true then none else(Qe m C o).bind λo'=>(compA m C args).bind λes=>some (.meth k o' es)
   |none=>(QlP x).bind λb=>(Qe m C o).bind λo'=>(compA m C args).bind λes=>some (.bm b o' es)else none
  |.ListComp elt gens scope _=>(match QfK gens with
   |some g=>if Ja C g.xs scope&&!hdC C then if QlO C g.iter then(if g.b=true then none else(Qe m C g.iter).bind λe'=>(compTO m (C.inner g.xs scope) g.tl).bind λt=>(Qe m (C.inner g.xs scope) elt).bind λel=>some (.thw e' (.comp (.key e') false t el)))else(compSrc m C g.iter).bind λsrc=>if Qa3 src (tgN g.b 0)then(compTO m (C.inner g.xs scope) g.tl).bind λt=>(Qe m (C.inner g.xs scope) elt).bind λel=>some (.comp src g.b t el)else none else none
   |none=>none)
  |.Dict [] [] _=>some .dnew
  |_=>none
noncomputable def compT:Nat->Ctx->Expr->Option E
 |0,_,_=>none
 |m+1,C,e=>match e with
  |.IfExp ..=>none
  |.NamedExpr ..=>none
  |e=>(Qe m C e).bind λir=>if okT e ir then some ir else none
noncomputable def compTO:Nat->Ctx->Option Expr->Option (Option E)
 |0,_,_=>none
 |m+1,C,none=>some none
 |m+1,C,some e=>(compT m C e).bind λe'=>some (some e')
noncomputable def compAnd:Nat->Ctx->Expr->List Expr->Pos->Option E
 |0,_,_,_,_=>none
 |m+1,C,a,r,p=>match r with
  |[]=>compT m C a
  |b::r=>(compT m C a).bind λa'=>(compAnd m C b r p).bind λb'=>some (.and a' b')
noncomputable def compOr:Nat->Ctx->Expr->List Expr->Pos->Option E
 |0,_,_,_,_=>none
 |m+1,C,a,r,p=>match r with
  |[]=>compT m C a
  |b::r=>(compT m C a).bind λa'=>(compOr m C b r p).bind λb'=>some (.or a' b')
noncomputable def compA:Nat->Ctx->List Expr->Option (List E)
 |0,_,_=>none
 |m+1,C,es=>match es with
  |[]=>some []
  |e::r=>(Qe m C e).bind λe'=>(compA m C r).bind λr'=>some (e'::r')
noncomputable def compO:Nat->Ctx->Option Expr->Option (Option E)
 |0,_,_=>none
 |m+1,C,none=>some none
 |m+1,C,some e=>(Qe m C e).bind λe'=>some (some e')
noncomputable def compSrc:Nat->Ctx->Expr->Option Src
 |0,_,_=>none
 |m+1,C,e=>match e with
  |.Call (.Name f p) args [] q=>if ZG C f then(match C.gl.lookup f with
   |some _=>(Qe m C (.Call (.Name f p) args [] q)).map .seq
   |none=>if C.bl.contains f=false then none else if f="range" then(match args with
     |[a]=>(Qe m C a).map .rng
     |[a,b]=>(Qe m C a).bind λa'=>(Qe m C b).map λb'=>.rng2 a' b'
     |_=>none)
    else if f="zip" then(match args with
     |[a,b]=>(Qe m C a).bind λa'=>(Qe m C b).map λb'=>.zip a' b'
     |_=>none)
    else if f="enumerate" then(match args with
     |[a]=>(Qe m C a).map .enm
     |_=>none)
    else(Qe m C (.Call (.Name f p) args [] q)).map .seq)else none
  |e=>(Qe m C e).map .seq
end
def cE4{C:Ctx}{x w1}: Qe (m+1) C (.Name x w1)= (if x="__debug__"\/x="__classdict__" then none else if QfA C x then(idx x C.N).map .var else if ZG C x then(match C.gl.lookup x with|some (.con k)=> some (.con k)|some (.txt t)=> some (.c (.str t))|_=>none)else none):= rfl
def cE5{C:Ctx}{a o b w1}:Qe (m+1) C (.BinOp a o b w1)=((Qe m C a).bind λa'=>(Qe m C b).bind λb'=>some (.op o a' b')):=rfl
def cE6{C:Ctx}{a w1}:Qe (m+1) C (.UnaryOp .USub a w1)=((Qe m C a).bind λa'=>some (.neg a')):=rfl
def cE7{C:Ctx}{a w1}:Qe (m+1) C (.UnaryOp .Not a w1)=((compT m C a).bind λa'=>some (.not a')):=rfl
def QpY{C:Ctx}{a o b w1}:Qe (m+1) C (.Compare a [o] [b] w1)=((Qe m C a).bind λa'=>(Qe m C b).bind λb'=>some (.cmp o a' b')):=rfl
def QpX{C:Ctx}{t a b w1}:Qe (m+1) C (.IfExp t a b w1)=((compT m C t).bind λt'=>(Qe m C a).bind λa'=>(Qe m C b).bind λb'=>some (.ife t' a' b')):=rfl
def QpW{C:Ctx}{es w1 w2}:Qe (m+1) C (.Tuple es w1 w2)=(if es.length<=1000000 then(compA m C es).bind λes'=>some (.tup es')else none):=rfl
def QpV{C:Ctx}{es w1}:Qe (m+1) C (.List es w1)=(if es.length<=1000000 then(compA m C es).bind λes'=>some (.lst es')else none):=rfl
def QpU{C:Ctx}{a b w1}:Qe (m+1) C (.Subscript a b w1)=(match QiG b with
   |some (.cut lo hi)=>(Qe m C a).bind λa'=>(compO m C lo).bind λl=>(compO m C hi).bind λh=>some (.sl a' l h)
   |some .rev=>(Qe m C a).bind λa'=>some (.rev a')
   |some .bad=>none
   |none=>(Qe m C b).bind λb'=>match Qnj a with
    |.tab ks vs=>if decide (ks.length<=15)&&!ks.isEmpty then(Qnv ks vs).bind λkvs=>some (.dis kvs b')else none
    |.nm x=>(match Qjl C x with|some k=>some (.tab k b')|none=>(Qe m C a).bind λa'=>some (.ix a' b'))
    |.any=>(Qe m C a).bind λa'=>some (.ix a' b')):=rfl
def QpT{C:Ctx}{a f w1}:Qe (m+1) C (.Attribute a f w1)=(if Q8 a then(Qe m C a).bind λa'=>(idx f C.T.fns').bind λk=>some (.fld a' k)else none):=rfl
def QpS{C:Ctx}{f w1 args w2}: Qe (m+1) C (.Call (.Name f w1) args [] w2)= (if f="__debug__"\/f="__name__"\/ZG C f=false then none else match C.gl.lookup f with
   |some (.fn i)=>if hdC C=true then none else(compA m C args).bind λes=>QlK C i es
   |some (.cls i)=>if hdC C=true then none else(compA m C args).bind λes=>some (.make i es)
   |some (.con _)=>none
   |some (.txt _)=>none
   |none=>if C.bl.contains f=false then none else if f="isinstance" then(match args with
     |[a,.Name t _]=> if ZG C t/\t≠"__debug__"/\t≠"__name__" then(Qe m C a).bind λa'=>(Qjg C t).bind λty=>some (.isi a' ty)else none
     |_=>none)
    else if hdC C=true then none else match Qdb C f args with
     |some ra=>(compA m C ra).bind λes=>some (.tupR es)
     |none=>match Jq C f args with
       |some ra=>(compA m C ra).bind λes=>some (.lstR es)
       |none=>match JA C f args with
      |some a=>(Qe m C a).bind λa'=>some (.rev a')
      |none=>(QlR C f).bind λb=>(compA m C args).bind λes=>some (.bi b es)):=rfl
def QpR{C:Ctx}{o x p args q}:Qe (m+1) C (.Call (.Attribute o x p) args [] q)=(if Q8 o&&(p.endLine==q.line)&&decide (args.length<29)then match idx x C.T.mns with
   |some k=>if hdC C=true then none else(Qe m C o).bind λo'=>(compA m C args).bind λes=>some (.meth k o' es)
   |none=>(QlP x).bind λb=>(Qe m C o).bind λo'=>(compA m C args).bind λes=>some (.bm b o' es)else none):=rfl
def QoK{C:Ctx}{elt gens scope w1}:Qe (m+1) C (.ListComp elt gens scope w1)=((match QfK gens with
   |some g=>if Ja C g.xs scope&&!hdC C then if QlO C g.iter then(if g.b=true then none else(Qe m C g.iter).bind λe'=>(compTO m (C.inner g.xs scope) g.tl).bind λt=>(Qe m (C.inner g.xs scope) elt).bind λel=>some (.thw e' (.comp (.key e') false t el)))else(compSrc m C g.iter).bind λsrc=>if Qa3 src (tgN g.b 0)then(compTO m (C.inner g.xs scope) g.tl).bind λt=>(Qe m (C.inner g.xs scope) elt).bind λel=>some (.comp src g.b t el)else none else none
   |none=>none)):=rfl
def QpQ{C:Ctx}{w1}:Qe (m+1) C (.Dict [] [] w1)=(some .dnew):=rfl
noncomputable def ZX(C:Ctx):Expr->Option Tg
 |.Name x _=>if JC C x then(idx x C.N).map .name else none
 |.Tuple [.Name x _,.Name y _] _ _=>if JC C x&&JC C y&&decide (x≠y)then(idx x C.N).bind λi=>(idx y C.N).map λj=>.pair i j else none
 |_=>none
noncomputable def Qnp:Expr->Option Bool
 |.Constant c _ _=>(match c with|.str _=>some true|_=>none)
 |.ListComp ..=>some false
 |_=>none
inductive As where
 |nm (x:Str)|at (o:Expr) (f:Str)|sub (o i:Expr)|two (x:Str) (p:Pos) (y:Str) (q:Pos)|many (es:List Expr)
noncomputable def QcU:Expr->Expr->Option As
 |.Name x p,.Name y q=>some (.two x p y q)
 |_,_=>none
noncomputable def as1:Expr->Option As
 |.Name x _=>some (.nm x)
 |.Attribute o f _=>some (.at o f)
 |.Subscript o i _=>some (.sub o i)
 |.Tuple es _ _=>(match es with|[a,b]=>QcU a b|[a,b,c]=>some (.many [a,b,c])|[a,b,c,d]=>some (.many [a,b,c,d])|_=>none)
 |_=>none
noncomputable def QfZ:List Expr->Option As
 |[t]=>as1 t
 |_=>none
noncomputable def Y5(C:Ctx)(x:Str):Bool:=match C.names.lookup x with
 |some .local=>true|_=>false
noncomputable def Qgp:Expr->Bool
 |.Tuple ..=>false
 |_=>true
noncomputable def Qa5(C:Ctx):List Expr->Option (List Nat)
 |[]=>some []
 |e::r=>match e with
  |.Name x _=>if JC C x then(idx x C.N).bind λi=>(Qa5 C r).map (i::·)else none
  |_=>none
noncomputable def Qe3(C:Ctx)(e f:Option Expr):Option (Nat×List Expr):=match e,f with
 |some (.Call (.Name x _) args [] _),none=>if ZG C x&&decide (x≠"__debug__")then(match C.gl.lookup x with
  |some (.cls c)=>if C.T.ers.contains c then some (c,args)else none
  |_=>none)else none
 |_,_=>none
structure Tr where
 j:Option Nat
 f:Nat
 args:List Expr
 c:Nat
 body:List Stmt
noncomputable def QeP(C:Ctx)(n:Option Str):Option (Option Nat):=match n with
 |none=>none
 |some n=>if Y5 C n&&decide (n≠"__debug__")then(idx n C.N).map some else none
noncomputable def QeT(C:Ctx)(x:Str):Option Nat:=if ZG C x&&decide (x≠"__debug__")then(match C.gl.lookup x with|some (.cls c)=>some c|_=>none)else none
noncomputable def QeR(C:Ctx)(x:Str):Option Nat:=if ZG C x&&decide (x≠"__debug__")then(match C.gl.lookup x with|some (.fn i)=>some i|_=>none)else none
noncomputable def QeN(C:Ctx)(b:List Stmt)(hs:List ExceptHandler)(o fn:List Stmt):Option Tr:=match b,hs,o,fn with
 |[.Expr (.Call (.Name f _) (a::args) [] _) _],[.ExceptHandler (some (.Name x _)) n (b0::body) _],[],[]=>
   (QeP C n).bind λj=>(QeT C x).bind λc=>(QeR C f).bind λk=>some ⟨j,k,a::args,c,b0::body⟩
 |_,_,_,_=>none
noncomputable def hdX(C:Ctx):Ctx:={C with bl:=("isinstance":Str)::C.bl.filter λx=>decide (x="ValueError")}
noncomputable def QiB(C:Ctx):Stmt->Option (Nat×Expr)
 |.Assign ts e _=>(match QfZ ts with
  |some (.nm y)=>if Y5 C y then(idx y C.N).map λi=>(i,e)else none
  |_=>none)
 |_=>none
noncomputable def Qei(m:Nat)(C:Ctx):List Stmt->Option (List S)
 |[]=>some []
 |s::r=>(QiB C s).bind λp=>(Qe m (hdX C) p.2).bind λe'=>(Qei m C r).bind λr'=>some (.set p.1 e'::r')
noncomputable def QoJ(m:Nat)(C:Ctx)(s:Stmt)(s0:S):Option S:=some s0
mutual
noncomputable def QQ:Nat->Ctx->Stmt->Option S
 |0,_,_=>none
 |m+1,C,s=>match s with
  |.Pass _=>some .pass
  |.Break _=>some .brk
  |.Continue _=>some .cont
  |.Expr e _=>(match Qnp e with
   |some true=>some .pass
   |some false=>none
   |none=>(Qe m C e).map .expr)
  |.Return v _=>(match v with
   |none=>some .retN
   |some e=>(Qe m C e).map .ret)
  |.Assign ts e _=>(match QfZ ts with
   |some (.nm x)=>if JC C x then(idx x C.N).bind λi=>(Qe m C e).bind λe'=>some (.set i e')else none
   |some (.at o f)=>if Q8 o then(Qe m C e).bind λe'=>(Qe m C o).bind λo'=>(idx f C.T.fns').bind λk=>some (.fld o' k e')else none
   |some (.sub o i)=>if ZD i then(Qe m C e).bind λe'=>(Qe m C o).bind λo'=>(Qe m C i).bind λi'=>some (.put o' i' e')else none
   |some (.two _ _ _ _)=>none
   |some (.many es)=>(Qa5 C es).bind λis=>if Qgp e then(Qe m C e).map (.unpN is)else none
   |none=>none)
  |.Raise e f _=>(match Qe3 C e f with
   |some (c,args)=>(compA m C args).bind λes=>some (.rse c es)
   |none=>some .bad)
  |.Try b hs o fn _=>if C.bl.contains ("isinstance":Str)then(QeN C b hs o fn).bind λt=>(compA m C t.args).bind λes=>(Qei m C t.body).bind λbd=>some (.tryS t.j t.f es t.c bd)else none
  |.If t a b _=>(compT m C t).bind λt'=>(compSs m C a).bind λa'=>(compSs m C b).bind λb'=>some (.ite t' a' b')
  |.While t a [] _=>(compT m C t).bind λt'=>(compSs m C a).bind λa'=>some (.while t' a')
  |.For tg it a [] _=>(ZX C tg).bind λtg'=>(compSrc m C it).bind λit'=>if Qa3 it' tg' then(compSs m C a).bind λa'=>some (.loop tg' it' a')else none
  |_=>none
noncomputable def compSs:Nat->Ctx->List Stmt->Option (List S)
 |0,_,_=>none
 |m+1,C,ss=>match ss with
  |[]=>some []
  |s::r=>(QQ m C s).bind λs0=>(QoJ m C s s0).bind λs'=>(compSs m C r).bind λr'=>some (s'::r')
end
end
end Iv
namespace L2
open PySem PySem.Spec PyProof.Rows
section
variable {X:Cx}
structure Mk0(K:W.Frag)(C:Addr):Prop where
 makes:W.makesIn K C=true
 init:W.findIn K (.ref C) "__init__"=some (some (.builtin "object.__init__"))
 kp:W.keepIn K (.ref C)=true
def QgW(C:Addr):TE:=λz H Q=>∀x dx,H x=none->H dx=none->dx≠x->Q (.ref x) (upd (upd H dx (.own x)) x (.ins C dx []))
def Qcb{pins:List (Addr×Obj)}{Y:St}{H:Hp}{s:Shared}{Q:VK}{C:Addr}(M:Mk0 X.K C)(I:Inv X pins Y H s)
  (h:∀x dx,H x=none->H dx=none->dx≠x->Q (.ref x) (upd (upd H dx (.own x)) x (.ins C dx []))):
  wpAny (model X.prog X.w) X.A (call (.ref C) []) (EP X pins Y Q) X.xe s:=by
 have hq:=h (s.heap.objs.size+1) s.heap.objs.size (I.hok.fresh (Vs _)) (I.hok.fresh (Xm _)) (Xn (Wz _));have I2:=Inv.made (C:=C) I;have Yyy:=W.makes_of (M:=model X.prog X.w) I.kIn M.makes
 have hob:((s.heap.push W.emptyDict).push (W.instObj C s.heap.objs.size)).get? (s.heap.objs.size+1)=some (W.instObj C s.heap.objs.size):=by
  have e:(s.heap.push W.emptyDict).objs.size=s.heap.objs.size+1:=Va ..;rw[<-e];exact Xo _ rfl
 have t1:W.Looks (model X.prog X.w) ((s.heap.push W.emptyDict).push (W.instObj C s.heap.objs.size)) (typeOf (.ref (s.heap.objs.size+1))) (.ref C):=(W.Looks.ld hob).andThen .now
 have t2:W.Looks (model X.prog X.w) ((s.heap.push W.emptyDict).push (W.instObj C s.heap.objs.size)) (isInstance (.ref (s.heap.objs.size+1)) (.type "object")) true :=
  t1.andThen (Yyy.top.keeps λb o e=>Xb _ (Xb _ e))
 refine Uz (QdP I.kIn M.makes M.init (λself=>W.Looks.of_pure (W.oi_bind self)) ?_);obtain⟨hh,g,d,t,os⟩:=s;refine U0 W.oi_plain W.entry_oi (@W.check_slot (model X.prog X.w) _ _ _ "object.__init__" "object" "__init__" (.ref (hh.objs.size+1)) [] [] _ W.oi_kind W.oi_split t2 (W.oi_args (.ref (hh.objs.size+1))) ?_);rw[W.oi_run];exact Xf (And.intro rfl ⟨V.ref (hh.objs.size+1),_,I2,rfl,hq⟩)
def Qdv{C:Addr}{x:Str}{p pos:Pos}(M:Mk0 X.K C)(hg:Gl X x)(hm:X.mg x=some (.ref C))(hdb:(x==("__debug__":Str))=false:=by decide):PE X (.Call (.Name x p) [] [] pos) (QgW C):=by
 intro pins s Y H Q I h;refine Wg (Zc I hg hm ?_ hdb);exact W.callWith_K0 I.kIn M.kp (Qcb M I h)
noncomputable def QoI:V->Option Value
 |.ty n=>some (.type n)
 |.ref a=>some (.ref a)
 |_=>none
def TyE(K:W.Frag)(H:Hp)(x:V)(t:Value):Prop:=TyOf K H x t\/False
def QfV:CallR X (.builtin "isinstance") (λxs H Q=>∃x c cv t b,xs=[x,c]/\QoI c=some cv/\TyE X.K H x t/\W.kitOne X.K t cv=some b/\Q (.bl b) H):= by
 intro pins s Y H xs us Q I r h;obtain⟨x,c,cv,t,b,rfl,hc,ty,e,q⟩:=h
 rcases ty with ty|ty
 case inr=>exact ty.elim
 obtain⟨u,w',rfl,rx,rc⟩:=Qb2 r
 have ec:w'=cv:=by
  cases c with
  |ty n=>cases(show w'=Value.type n from rc);exact X3 hc
  |ref a=>cases(show w'=Value.ref a from rc);exact X3 hc
  |_=>cases hc
 subst ec;exact QdX I rx ty e λtk=>⟨.bl b,H,I.tok tk,rfl,q⟩
end
end L2
namespace Iv
open PySem PySem.Spec PyProof.Rows L2
section
variable {a p:Addr}{e:Expr}{ho:HO}{H:Hp}{n:Nat}{o:O}{T:Tbl}
abbrev St:=L2.St
structure Adr where
 f:Nat->Addr
 c:Nat->Addr
 k:Nat->Addr
 s:Addr
def Cg(i r:Int)(m:Nat):Prop:=∃q:Int,i=r+m*q
def Cg.exact{i r:Int}(h:Cg i r 0):i=r:=by obtain⟨q,e⟩:=h;simpa using e
def Cg.refl(i:Int)(m:Nat):Cg i i m:=⟨0,by simp⟩
def RU(A:Adr)(α:List Addr):U->V->Prop
 |.non,v=>v=.non
 |.bl b,v=>v=.bl b
 |.int r m,v=>∃i,v=.int i/\Cg i r m
 |.str x,v=>v=.str ⟨x.toArray⟩
 |.ref n,v=>∃a,α[n]?=some a/\v=.ref a
 |.con k,v=>v=.ref (A.k k)
 |.scr,v=>v=.ref A.s
abbrev RUs(A:Adr)(α:List Addr):List U->List V->Prop:=Paired (RU A α)
def RF(T:Tbl)(A:Adr)(α:List Addr):List (Nat×U)->List (Str×V)->Prop:=Paired λp q=>T.fns'[p.1]?=some q.1/\RU A α p.2 q.2
def RK:U->Key->Prop
 |.int i m,k=>m=0/\k=Sum.inl i
 |.str x,k=>k=Sum.inr ⟨x.toArray⟩
 |_,_=>False
def RD(A:Adr)(α:List Addr):List (U×U)->List (Key×V)->Prop:=Paired λp q=>RK p.1 q.1/\RU A α p.2 q.2
abbrev RKs:List U->List Key->Prop:=Paired RK
def RT(A:Adr)(α:List Addr):List (List U×U)->List (List Key×V)->Prop:=Paired λp q=>RKs p.1 q.1/\RU A α p.2 q.2
def EF(T:Tbl)(H:Hp)(c:Er)(dd:Option Addr):Prop:=∀f,T.efl.contains (c.1,f)=true->∃d od x v,dd=some d/\T.fns'[f]?=some x/\H d=some (.frz od (.xd [(x,v)]))/\∀A,RU A [] c.2 v
def EF.fz{H':Hp}{c:Er}{dd:Option Addr}(h:EF T H c dd)(k:∀b o fs,H b=some (.frz o (.xd fs))->H' b=some (.frz o (.xd fs))):EF T H' c dd:=λf q=>by
 obtain⟨d,od,x,v,e1,e2,e3,e4⟩:=h f q;exact⟨d,od,x,v,e1,e2,k _ _ _ e3,e4⟩
def RO(T:Tbl)(A:Adr)(α:List Addr)(H:Hp)(a:Addr):O->Prop
 |.lst xs=>∃vs,H a=some (.lst vs)/\RUs A α xs vs
 |.tup xs=>∃vs,H a=some (.tup vs)/\RUs A α xs vs
 |.ins c fs=>∃dx fv,H a=some (.ins (A.c c) dx fv)/\RF T A α fs fv/\c<T.cls.length
 |.dic kvs=>∃kv,H a=some (.dK kv)/\RD A α kvs kv
 |.dct kvs=>∃kv,H a=some (.dT kv)/\RT A α kvs kv
 |.fzd kvs=>∃kv ob,H a=some (.frz ob (.dK kv))/\RD A α kvs kv
 |.fzt kvs=>∃kv ob,H a=some (.frz ob (.dT kv))/\RT A α kvs kv
 |.err c w=>∃dd,H a=some (QfO a (A.c c) dd)/\T.ers.contains c=true/\EF T H (c,w) dd
structure RH(T:Tbl)(A:Adr)(α:List Addr)(hs:Hs)(H:Hp):Prop where
 len:α.length=hs.length
 nd:∀(i j:Nat) a,α[i]?=some a->α[j]?=some a->i=j\/∃vs,H a=some (.tup vs)
 ob:∀(n:Nat) a o,α[n]?=some a->hs[n]?=some o->RO T A α H a o
def QnY(K:W.Frag)(H:Hp)(a:Addr)(xs:List V):Prop:=(∃o,H a=some (.frz o (.lst xs))) \/
 ∃(o:Obj) (its:Array Value) (n:Nat),K.lookup a=some o/\o.cls=.type "list"/\o.dict=none/\o.data=.seq its n/\its.size<=sizeLine/\Vals xs its.toList
def Scr(T:Tbl)(A:Adr)(K:W.Frag)(H:Hp):Prop:=∃vs,RUs A [] T.scr vs/\QnY K H A.s vs
structure Rep(T:Tbl)(A:Adr)(K:W.Frag)(α:List Addr)(hs:Hs)(H:Hp):Prop where
 h:RH T A α hs H
 s:Scr T A K H
structure Ext(α α':List Addr)(H H':Hp):Prop where
 pre:∀(n:Nat) a,α[n]?=some a->α'[n]?=some a
 new:∀(n:Nat) a,α'[n]?=some a->α.length<=n->H a=none\/∃vs,H a=some (.tup vs)
 keep:∀b o,H b=some o->b∉α->H' b=some o
 fz:∀b o u,H b=some (.frz o u)->H' b=some (.frz o u)
 tr:∀b o,H b=some o->∃o',H' b=some o'/\∀vs,o=.tup vs↔o'=.tup vs
structure RS(A:Adr)(α:List Addr)(Z:Rho)(Y:St):Prop where
 len:Z.length=Y.length
 val:∀(i:Nat) u,Z[i]?=some (some u)->∃v,Y[i]?=some (some v)/\RU A α u v
section
variable {A:Adr}{K:W.Frag}{α α' α1 α2:List Addr}{hs h2:Hs}{H' H1 H2:Hp}{u:U}{v:V}{us:List U}{vs:List V}{Z:Rho}{Y:St}
def RU.mono(p:∀(n:Nat) a,α[n]?=some a->α'[n]?=some a)(h:RU A α u v):RU A α' u v:=by
 cases u with
 |ref n=>obtain⟨a,e,r⟩:=h;exact⟨a,p _ _ e,r⟩
 |_=>exact h
theorem RUs.mono(p:∀(n:Nat) a,α[n]?=some a->α'[n]?=some a)(h:RUs A α us vs):RUs A α' us vs:=Paired.mapP h λz z r=>RU.mono p r
theorem RF.mono{fs:List (Nat×U)}{fv:List (Str×V)}(p:∀(n:Nat) a,α[n]?=some a->α'[n]?=some a)(h:RF T A α fs fv):RF T A α' fs fv:=Paired.mapP h λz z r=>⟨r.1,r.2.mono p⟩
theorem RD.mono{fs:List (U×U)}{fv:List (Key×V)}(p:∀(n:Nat) a,α[n]?=some a->α'[n]?=some a)(h:RD A α fs fv):RD A α' fs fv:=Paired.mapP h λz z r=>⟨r.1,r.2.mono p⟩
theorem RT.mono{fs:List (List U×U)}{fv:List (List Key×V)}(p:∀(n:Nat) a,α[n]?=some a->α'[n]?=some a)(h:RT A α fs fv):RT A α' fs fv:=Paired.mapP h λz z r=>⟨r.1,r.2.mono p⟩
theorem RS.mono(p:∀(n:Nat) a,α[n]?=some a->α'[n]?=some a)(h:RS A α Z Y):RS A α' Z Y:=⟨h.len,λi u e=>by obtain⟨v,e1,r⟩:=h.val i u e;exact⟨v,e1,r.mono p⟩⟩
def Ext.refl:Ext α α H H:=⟨λz z e=>e,λn a e l=>by
 have:=(Xe.mp e).1
 omega,λz z e z=>e,λz z z e=>e,λz o e=>⟨o,e,λz=>Iff.rfl⟩⟩
def getElem?_lt(e:α[n]?=some a):n < α.length:=(Xe.mp e).1
theorem Ext.trans(a:Ext α α1 H H1)(b:Ext α1 α2 H1 H2)(R:RH T A α2 h2 H2):Ext α α2 H H2 where
 fz:=λc o kv e=>b.fz c o kv (a.fz c o kv e)
 pre:=λn x e=>b.pre n x (a.pre n x e)
 tr:=λc o e=>by
  obtain⟨o1,e1,q1⟩:=a.tr c o e;obtain⟨o2,e2,q2⟩:=b.tr c o1 e1;exact⟨o2,e2,λvs=>(q1 vs).trans (q2 vs)⟩
 new:=λn x e l=>by
  by_cases hn:n < α1.length
  ·have e1:α1[n]?=some α1[n]:=Xj hn;have e2:=b.pre n _ e1;rw[e]at e2;cases e2;exact a.new n _ e1 l
  ·cases q:H x with
   |none=>exact .inl rfl
   |some o=>
    obtain⟨o1,e1,q1⟩:=a.tr x o q
    rcases b.new n x e (by omega)with z|⟨vs,z⟩
    ·rw[e1]at z;cases z
    ·rw[e1]at z;cases z;exact .inr ⟨vs,congrArg some ((q1 vs).mpr rfl)⟩
 keep:=λc o e hc=>by
  by_cases hm:c∈α1
  ·obtain⟨n,hn⟩:=Vc hm;by_cases l:n < α.length
   ·have e1:α[n]?=some α[n]:=Xj l;have:=a.pre n _ e1;rw[hn]at this;cases this;exact absurd (List.getElem_mem l) hc
   ·rcases a.new n c hn (by omega)with z|⟨vs,z⟩
    ·rw[z]at e;cases e
    ·rw[e]at z;cases z;obtain⟨o1,e1,q1⟩:=a.tr c _ e;obtain⟨o2,e2,q2⟩:=b.tr c o1 e1;rw[e2,((q1 vs).trans (q2 vs)).mp rfl]
  ·exact b.keep c o (a.keep c o e hc) hm
def RO.trk(h:RO T A α H a o):∃x,H a=some x/\(∀ob u,x≠.frz ob (.lst u))/\∀ob u,x≠.frz ob (.xd u):=by
 cases o with
 |lst xs=>obtain⟨vs,e,_⟩:=h;exact⟨_,e,(λy y z=>nomatch z),λy y z=>nomatch z⟩
 |tup xs=>obtain⟨vs,e,_⟩:=h;exact⟨_,e,(λy y z=>nomatch z),λy y z=>nomatch z⟩
 |ins c fs=>obtain⟨dx,fv,e,_⟩:=h;exact⟨_,e,(λy y z=>nomatch z),λy y z=>nomatch z⟩
 |dic _=>obtain⟨kv,e,_⟩:=h;exact⟨_,e,(λy y z=>nomatch z),λy y z=>nomatch z⟩
 |dct _=>obtain⟨kv,e,_⟩:=h;exact⟨_,e,(λy y z=>nomatch z),λy y z=>nomatch z⟩
 |fzd _=>obtain⟨kv,ob,e,_⟩:=h;exact⟨_,e,(λy y z=>nomatch z),λy y z=>nomatch z⟩
 |fzt _=>obtain⟨kv,ob,e,_⟩:=h;exact⟨_,e,(λy y z=>nomatch z),λy y z=>nomatch z⟩
 |err _ _=>obtain⟨dd,e,_⟩:=h;exact⟨_,e,(λy y z=>nomatch z),λy y z=>nomatch z⟩
def RH.trk(R:RH T A α hs H)(e:α[n]?=some a):∃o,hs[n]?=some o/\RO T A α H a o:=by
 have l:=getElem?_lt e;rw[R.len]at l;exact⟨hs[n],Xj l,R.ob n a _ e (Xj l)⟩
def RH.adr(R:RH T A α hs H)(e:hs[n]?=some o):∃a,α[n]?=some a/\RO T A α H a o:=by
 have l:n<hs.length:=(Xe.mp e).1;rw[<-R.len]at l;exact⟨α[n],Xj l,R.ob n _ _ (Xj l) e⟩
def RH.notIn(R:RH T A α hs H)(h:H p=none):p∉α:=λm=>by
 obtain⟨n,e⟩:=Vc m;obtain⟨o,_,r⟩:=R.trk e;obtain⟨x,e,_⟩:=r.trk;rw[h]at e;cases e
def RH.nd_keep(R:RH T A α hs H)(k:∀b x,b∈α->H b=some x->H' b=some x):∀(i j:Nat) a,α[i]?=some a->α[j]?=some a->i=j\/∃vs,H' a=some (.tup vs):=λi j a e1 e2=>
 (R.nd i j a e1 e2).imp id λz=>by obtain⟨vs,q⟩:=z;exact⟨vs,k a _ (Xr e1) q⟩
def QdL(h:∀(i j:Nat) a,α[i]?=some a->α[j]?=some a->i=j\/∃vs,H a=some (.tup vs))(n:p∉α):∀(i j:Nat) a,(α++[p])[i]?=some a->(α++[p])[j]?=some a->i=j\/∃vs,H a=some (.tup vs):=λi j a e1 e2=>by
 have cs:∀{k:Nat},(α++[p])[k]?=some a->α[k]?=some a\/(k=α.length/\a=p):=λ{k} e=>by
  by_cases l:k < α.length
  ·rw[Xu l]at e;exact .inl e
  ·rw[Xv (by omega)]at e
   have:=(Xe.mp e).1;simp at this
   have hk:k=α.length:=by omega
   subst hk;simp at e;exact .inr ⟨rfl,e.symm⟩
 rcases cs e1 with q1|⟨q1,w1⟩
 ·rcases cs e2 with q2|⟨q2,w2⟩
  ·exact h i j a q1 q2
  ·exact absurd (w2▸Xr q1) n
 ·rcases cs e2 with q2|⟨q2,w2⟩
  ·exact absurd (w1▸Xr q2) n
  ·exact .inl (q1.trans q2.symm)
def RO.keep(h:RO T A α H a o)(p:∀(n:Nat) a,α[n]?=some a->α'[n]?=some a)(k:∀b x,H b=some x->(b=a\/∃o fs,x=.frz o (.xd fs))->H' b=some x):RO T A α' H' a o:=by
 have kx:=k;have k:=λx e=>kx a x e (.inl rfl)
 cases o with
 |lst xs=>obtain⟨vs,e,r⟩:=h;exact⟨vs,k _ e,RUs.mono p r⟩
 |tup xs=>obtain⟨vs,e,r⟩:=h;exact⟨vs,k _ e,RUs.mono p r⟩
 |ins c fs=>obtain⟨dx,fv,e,r,l⟩:=h;exact⟨dx,fv,k _ e,RF.mono p r,l⟩
 |dic _=>obtain⟨kv,e,r⟩:=h;exact⟨kv,k _ e,RD.mono p r⟩
 |dct _=>obtain⟨kv,e,r⟩:=h;exact⟨kv,k _ e,RT.mono p r⟩
 |fzd _=>obtain⟨kv,ob,e,r⟩:=h;exact⟨kv,ob,k _ e,RD.mono p r⟩
 |fzt _=>obtain⟨kv,ob,e,r⟩:=h;exact⟨kv,ob,k _ e,RT.mono p r⟩
 |err _ _=>obtain⟨dd,e,l,q⟩:=h;exact⟨dd,k _ e,l,q.fz λb o fs e=>kx b _ e (.inr ⟨o,fs,rfl⟩)⟩
def Scr.keep(h:Scr T A K H)(k:∀x,H A.s=some x->(∃o u,x=.frz o (.lst u))->H' A.s=some x):Scr T A K H':=by
 obtain⟨vs,r,q|q⟩:=h
 ·obtain⟨o,e⟩:=q;exact⟨vs,r,.inl ⟨o,k _ e ⟨_,_,rfl⟩⟩⟩
 ·exact⟨vs,r,.inr q⟩
def Scr.sq(h:Scr T A K H):∃vs,RUs A α T.scr vs/\SqL K H A.s vs:=by
 obtain⟨vs,r,q⟩:=h
 refine⟨vs,RUs.mono (λn a e=>by simp at e) r,?_⟩
 rcases q with⟨o,e⟩|q
 ·exact .inl (.inr ⟨o,e⟩)
 ·exact .inr q
def QD:(α++[p])[α.length]?=some p:=by simp
def Qw:∀(n:Nat) a,α[n]?=some a->(α++[p])[n]?=some a:=λn a e=>by
 rw[Xu (getElem?_lt e)];exact e
def QI{β:Type}{l:List β}{p a:β}(e:(l++[p])[n]?=some a):l[n]?=some a\/(n=l.length/\a=p):=by
 by_cases h:n<l.length
 ·rw[Xu h]at e;exact .inl e
 ·rw[Xv (by omega)]at e
  have:n-l.length=0:=by
   cases q:n-l.length with
   |zero=>rfl
   |succ k=>rw[q]at e;simp at e
  rw[this]at e;simp at e
  exact .inr ⟨by omega,e.symm⟩
def Rep.new(R:Rep T A K α hs H)(hp:H p=none)(r:RO T A (α++[p]) (upd H p ho) p o):Rep T A K (α++[p]) (hs++[o]) (upd H p ho)/\Ext α (α++[p]) H (upd H p ho):=by
 have ne:∀b x,H b=some x->b≠p:=λb x e z=>by rw[z,hp]at e;cases e
 refine⟨⟨⟨by simp[R.h.len],QdL (R.h.nd_keep λb x y e=>by rw[Qb (ne _ _ e)];exact e) (R.h.notIn hp),λn a ob e1 e2=>?_⟩,R.s.keep λx e y=>by rw[Qb (ne _ _ e)];exact e⟩,⟨Qw,λn a e l=>?_,λb x e y=>by rw[Qb (ne _ _ e)];exact e,λb x kv e=>by rw[Qb (ne _ _ e)];exact e,λb x e=>⟨x,by rw[Qb (ne _ _ e)];exact e,λy=>Iff.rfl⟩⟩⟩
 ·rcases QI e1 with q|⟨q1,q2⟩
  ·rcases QI e2 with z|⟨z,_⟩
   ·exact RO.keep (R.h.ob n a ob q z) Qw λy x e y=>by rw[Qb (ne _ _ e)];exact e
   ·have:=getElem?_lt q;rw[R.h.len]at this;omega
  ·subst q2
   rcases QI e2 with z|⟨_,z⟩
   ·have:=(Xe.mp z).1;rw[<-R.h.len]at this;omega
   ·subst z;exact r
 ·rcases QI e with q|⟨_,q⟩
  ·have:=getElem?_lt q;omega
  ·rw[q];exact .inl hp
def Rep.side(R:Rep T A K α hs H)(hp:H p=none):Rep T A K α hs (upd H p ho)/\Ext α α H (upd H p ho):=by
 have k:∀b x,H b=some x->upd H p ho b=some x:=λb x e=>by rw[Qb (λz=>by rw[z,hp]at e;cases e)];exact e
 exact⟨⟨⟨R.h.len,R.h.nd_keep λb x y e=>k b x e,λn a o e1 e2=>RO.keep (R.h.ob n a o e1 e2) (λy y e=>e) λb x e y=>k b x e⟩,R.s.keep λx e y=>k _ x e⟩,⟨λy y e=>e,λn a e l=>absurd (getElem?_lt e) (Nat.not_lt.mpr l),λb x e y=>k b x e,λb x u e=>k b _ e,λb x e=>⟨x,k b x e,λy=>Iff.rfl⟩⟩⟩
def Rep.put0(R:Rep T A K α hs H)(ha:α[n]?=some a)(r:RO T A α (upd H a ho) a o)(ht:∀vs,H a≠some (.tup vs):=by intro _ z;simp only[*,Vi,reduceCtorEq]at z):Rep T A K α (hs.set n o) (upd H a ho):=by
 have ta:=R.h.trk ha;obtain⟨o0,_,r0⟩:=ta;obtain⟨x0,e0,nf,nx⟩:=r0.trk
 have nd:∀(i j:Nat) c,α[i]?=some c->α[j]?=some c->i=j\/∃vs,upd H a ho c=some (.tup vs):=λi j c e1 e2=>by
  rcases R.h.nd i j c e1 e2 with q|⟨vs,q⟩
  ·exact .inl q
  ·exact .inr ⟨vs,by rw[Qb (λ(z:c=a)=>ht vs (z▸q))];exact q⟩
 refine⟨⟨by simp[R.h.len],nd,λm b ob e1 e2=>?_⟩,R.s.keep λx e z=>?_⟩
 ·by_cases hm:m=n
  ·subst hm;rw[ha]at e1;cases e1
   have l:m<hs.length:=by rw[<-R.h.len];exact getElem?_lt ha
   rw[Wh l]at e2;cases e2;exact r
  ·rw[X8 (X9 hm)]at e2
   have hb:b≠a:=λz=>by
    rcases R.h.nd m n a (z▸e1) ha with q|⟨vs,q⟩
    ·exact hm q
    ·exact ht vs q
   refine RO.keep (R.h.ob m b ob e1 e2) (λy y e=>e) λc x e w=>?_
   rcases w with rfl|⟨oz,fs,rfl⟩
   ·rw[Qb hb];exact e
   ·rw[Qb (λz=>by rw[z,e0]at e;cases e;exact nx _ _ rfl)];exact e
 ·obtain⟨ob,u,z⟩:=z
  have hb:A.s≠a:=λq=>by rw[q,e0]at e;cases e;exact nf _ _ z
  rw[Qb hb];exact e
def Rep.put(R:Rep T A K α hs H)(ha:α[n]?=some a)(r:RO T A α (upd H a ho) a o)(hz:∀ob u,H a≠some (.frz ob u):=by intro _ _ z;simp only[*,Vi,reduceCtorEq]at z)(ht:∀vs,H a≠some (.tup vs):=by intro _ z;simp only[*,Vi,reduceCtorEq]at z)(hh:∀vs,ho≠.tup vs:=by intro _ z;cases z):Rep T A K α (hs.set n o) (upd H a ho)/\Ext α α H (upd H a ho):=by
 refine⟨R.put0 ha r ht,⟨λy y e=>e,λm b e l=>by have:=getElem?_lt e;omega,λb x e hb=>?_,λb ob kv e=>?_,λb x e=>?_⟩⟩
 ·have hb':b≠a:=λz=>hb (z▸Xr ha);rw[Qb hb'];exact e
 ·have hb':b≠a:=λz=>hz ob kv (z▸e);rw[Qb hb'];exact e
 ·by_cases hb':b=a
  ·subst hb';exact⟨ho,Qf,λvs=>⟨λz=>absurd (z▸e) (ht vs),λz=>absurd z (hh vs)⟩⟩
  ·exact⟨x,by rw[Qb hb'];exact e,λy=>Iff.rfl⟩
def RS.get(R:RS A α Z Y){i:Nat}{u:U}(e:Z[i]?=some (some u)):∃v,Y[i]?=some (some v)/\RU A α u v:=R.val i u e
theorem RS.set(R:RS A α Z Y)(i:Nat)(r:RU A α u v):RS A α (Z.set i (some u)) (Y.set i (some v)):=by
 refine⟨by simp[R.len],λj w e=>?_⟩
 by_cases h:j=i
 ·subst h
  have l:j < Z.length:=by
   have:=(Xe.mp e).1;simpa using this
  rw[Wh l]at e;cases e
  exact⟨v,Wh (by rw[<-R.len];exact l),r⟩
 ·rw[X8 (X9 h)]at e;rw[X8 (X9 h)];exact R.val j w e
end
def flE(A:Adr)(α:List Addr)(D:Ends)(Y:St)(H:Hp):Fl->Prop
 |.next=>D.nx Y H
 |.brk=>D.bk Y H
 |.cont=>D.ct Y H
 |.ret u=>∀v,RU A α u v->D.rt v H
section
variable (T:Tbl)(A:Adr)(K:W.Frag)
def TI(f:Rho->Hs->Option (U×Hs)):TE:=λY H Q=>∃α Z hs u hs',RS A α Z Y/\Rep T A K α hs H/\f Z hs=some (u,hs') /\
 ∀α' v H',Ext α α' H H'->Rep T A K α' hs' H'->RU A α' u v->Q v H'
def TIT(f:Rho->Hs->Option (Bool×Hs)):TT:=λY H Q=>∃α Z hs u hs',RS A α Z Y/\Rep T A K α hs H/\f Z hs=some (u,hs') /\
 ∀α' H',Ext α α' H H'->Rep T A K α' hs' H'->Q u H'
def TIA(f:Rho->Hs->Option (List U×Hs)):TA:=λY H Q=>∃α Z hs us hs',RS A α Z Y/\Rep T A K α hs H/\f Z hs=some (us,hs') /\
 ∀α' vs H',Ext α α' H H'->Rep T A K α' hs' H'->RUs A α' us vs->Q vs H'
def TIS(f:Ex):TS:=λD Y H=>∃α Z hs fl ρ' hs',RS A α Z Y/\Rep T A K α hs H/\f Z hs=some (fl,ρ',hs') /\
 ∀α' Y' H',Ext α α' H H'->Rep T A K α' hs' H'->RS A α' ρ' Y'->flE A α' D Y' H' fl
end
section
variable {A:Adr}{K:W.Frag}{α:List Addr}{Z:Rho}{Y:St}{hs h1:Hs}
def TI.run{f:Rho->Hs->Option (U×Hs)}{u:U}{Q:VK}(rs:RS A α Z Y)(rp:Rep T A K α hs H)(h:f Z hs=some (u,h1))
  (k:∀α1 v H1,Ext α α1 H H1->Rep T A K α1 h1 H1->RU A α1 u v->RS A α1 Z Y->Q v H1):TI T A K f Y H Q :=
 ⟨α,Z,hs,u,h1,rs,rp,h,λα1 v H1 e r q=>k α1 v H1 e r q (rs.mono e.pre)⟩
def TIT.run{f:Rho->Hs->Option (Bool×Hs)}{u:Bool}{Q:Bool->Hp->Prop}(rs:RS A α Z Y)(rp:Rep T A K α hs H)(h:f Z hs=some (u,h1))
  (k:∀α1 H1,Ext α α1 H H1->Rep T A K α1 h1 H1->RS A α1 Z Y->Q u H1):TIT T A K f Y H Q :=
 ⟨α,Z,hs,u,h1,rs,rp,h,λα1 H1 e r=>k α1 H1 e r (rs.mono e.pre)⟩
def TIA.run{f:Rho->Hs->Option (List U×Hs)}{us:List U}{Q:List V->Hp->Prop}(rs:RS A α Z Y)(rp:Rep T A K α hs H)(h:f Z hs=some (us,h1))
  (k:∀α1 vs H1,Ext α α1 H H1->Rep T A K α1 h1 H1->RUs A α1 us vs->RS A α1 Z Y->Q vs H1):TIA T A K f Y H Q :=
 ⟨α,Z,hs,us,h1,rs,rp,h,λα1 v H1 e r q=>k α1 v H1 e r q (rs.mono e.pre)⟩
end
section
variable {X:Cx}
def QL{t t':TE}(h:PE X e t)(i:∀Y H Q,t' Y H Q->t Y H Q):PE X e t':=λpins s Y H Q I q=>h pins s Y H Q I (i Y H Q q)
def QiE{t t':TT}(h:PT X e t)(i:∀Y H Q,t' Y H Q->t Y H Q):PT X e t':=λpins s Y H Q I q=>h pins s Y H Q I (i Y H Q q)
def Qlz{t t':TT}(h:PW X e t)(i:∀Y H Q,t' Y H Q->t Y H Q):PW X e t':=λwh pins s Y H Q I q=>h wh pins s Y H Q I (i Y H Q q)
def QlD{es:List Expr}{t t':TA}(h:PA X es t)(i:∀Y H Q,t' Y H Q->t Y H Q):PA X es t':=λpos pins s Y H Q I q=>h pos pins s Y H Q I (i Y H Q q)
def Zh{st:Stmt}{t t':TS}(h:PS X st t)(i:∀D Y H,t' D Y H->t D Y H):PS X st t':=λpins s Y H D I q=>h pins s Y H D I (i D Y H q)
def Qb0{st:List Stmt}{t t':TS}(h:PSs X st t)(i:∀D Y H,t' D Y H->t D Y H):PSs X st t':=λpins s Y H D I q=>h pins s Y H D I (i D Y H q)
end
end
section
variable {A:Adr}{C:Ctx}{X:Cx}{us:List U}{vs:List V}{x:Str}{mg:Str->Option Value}{T:Tbl}
noncomputable def tyV:Ty->String
 |.non=>"NoneType"|.bool=>"bool"|.int=>"int"|.str=>"str"|.list=>"list"|.tuple=>"tuple"|.dict=>"dict"|.cls _=>"object"|.vale=>"ValueError"
noncomputable def tyW(A:Adr):Ty->Value
 |.cls c=>.ref (A.c c)
 |t=>.type (tyV t)
structure ClOk(T:Tbl)(A:Adr)(K:W.Frag)(i:Nat)(C:Cl):Prop where
 cls:Cls K (A.c i)
 nf:∀x∈T.fns',NoAttr K (A.c i) x
 me:∀m f,C.meths.lookup m=some f->∃x,T.mns[m]?=some x/\Meth K (A.c i) x (A.f f)
 mks:W.makesIn K (A.c i)=true
 kp:W.keepIn K (.ref (A.c i))=true
 ini:match C.init with
  |some f=>W.findIn K (.ref (A.c i)) "__init__"=some (some (.ref (A.f f)))/\W.isFn K (.ref (A.f f))= true
  |none=>W.findIn K (.ref (A.c i)) "__init__"=some (some (.builtin "object.__init__"))
 ty:∀(H:Hp) (a dx:Addr) (fs:List (Str×V)),H a=some (.ins (A.c i) dx fs)->TyOf K H (.ref a) (.ref (A.c i))
structure FunD(K:W.Frag)(x qual:Str)(st:Stmt)(f:Addr)(fd:FuncData):Prop where
 ex:∃(oc:Value) (od:Option Addr) (dV kV doc pm:Value) (an:Option Addr) (cdv ct:Value) (osl:Array (Option Value)),
  fd=W.fnOf x qual (Yt st) (QY st) (Qh st) dV kV doc pm an cdv ct/\K.lookup f=some ⟨oc,od,.func fd,osl⟩/\W.codeIn K cdv qual=true
 kp:W.keepIn K (.ref f)=true
def FunD.ok{P:Program}{w:World}{K:W.Frag}{base:Heap}{qual:Str}{st:Stmt}{f:Addr}{fd:FuncData}{N ps:List Str}{k:Nat}{sp:Sp}(F:FunD K x qual st f fd)(S:FnScope N ps (Qh st))(len:∀vs H Q E,sp vs H Q E->vs.length=ps.length)
  (hbody:∀(cdv:Value) (A:Around) (outer:List Env) (s:Shared) (H:Hp) (vs:List V) (Q:VK) (E:XK),Room k (A.deeper (envOfC qual (Qh st) s.heap.objs.size f cdv))->sp vs H Q E ->
   ∃t,PSs (QcK CX0 P w K mg base N qual (Qh st) f cdv A outer s H E).nox (QY st) t/\t {nx:=λz H'=>Q .non H',rt:=Q} (start N vs) H):FnOk P w K mg base CX0 (k+1) f fd ps sp:=by
 obtain⟨oc,od,dV,kV,doc,pm,an,cdv,ct,osl,rfl,lk,hcd⟩:=F.ex;refine Qig lk hcd S len λA outer s H vs Q E hr hsp=>?_;obtain⟨t,h,q⟩:=hbody cdv A outer s H vs Q E hr hsp;exact⟨t,h.nox,q⟩
def FunD.same{K:W.Frag}{y q q':Str}{st st':Stmt}{f:Addr}{fd fd':FuncData}(a:FunD K x q st f fd)(b:FunD K y q' st' f fd'):fd=fd':=by
 obtain⟨_,_,_,_,_,_,_,_,_,_,_,l1,_⟩:=a.ex;obtain⟨_,_,_,_,_,_,_,_,_,_,_,l2,_⟩:=b.ex;rw[l1]at l2;cases l2;rfl
def QiQ(A:Adr)(K:W.Frag)(fd:FuncData)(D:Df):Prop:=∃(ds:List Value) (dvs:List V),RUs A [] D.ds dvs/\Vals dvs ds/\(∀n,Binds K fd D.ps (ds.drop n))
def QaJ(K:W.Frag)(mg:Str->Option Value)(C:Addr)(x:Str):Prop:=W.hasDictIn K C=true/\W.findIn K (.ref C) x=some none/\∃fI fd ps,Exi K C fI/\Binds K fd ps []/\∀P w base,FnOk P w K mg base CX0 2 fI fd ps (spJ C x)
structure Txt(T:Tbl)(A:Adr)(K:W.Frag)(mg:Str->Option Value):Prop where
 fn:∀i F,T.fns[i]?=some F->∃fd,FunD K F.name F.qual F.st (A.f i) fd/\Binds K fd F.ps []/\FnScope F.N F.ps (Qh F.st)/\F.ps.length=F.np/\F.N.length=F.nN
 df:∀i D,T.dfl.lookup i=some D->∃fd x q st,FunD K x q st (A.f i) fd/\QiQ A K fd D/\∀F,T.fns[i]?=some F->F.ps=D.ps/\F.np=D.np
 cl:∀i C,T.cls[i]?=some C->ClOk T A K i C
 fm:∀x∈T.fns',x∉T.mns
 fd:T.fns'.Nodup
 isi:∀k t b,T.isi.lookup (k,t)=some b->W.kitOne K (tyW A k) (tyW A t)=some b
 co:∀k c,T.cons[k]?=some c->match c with
  |Co.tup xs=>∃vs,RUs A [] xs vs/\∀H,SqT K H (A.k k) vs
  |Co.lst xs=>∃vs,RUs A [] xs vs/\∀H,SqL K H (A.k k) vs
  |Co.tab _=>True
 er:∀c,T.ers.contains c=true->ErrCls K (A.c c)/\∃f x,T.efl.contains (c,f)=true/\(∀f',T.efl.contains (c,f')=true->f'=f)/\T.fns'[f]?=some x/\QaJ K mg (A.c c) x
 es:∀c c',T.esb.contains (c,c')=true->W.exmOne K (.ref (A.c c)) (.ref (A.c c'))=some true
def Qm3:U->Key->Prop
 |.int i 0,k=>k=.inl i
 |.str x,k=>k=.inr ⟨x.toArray⟩
 |_,_=>False
def JO(P:Program)(w:World)(T:Tbl)(A:Adr)(K:W.Frag):Prop:=∀k kvs,T.cons[k]?=some (.tab kvs) ->
 ∃vs:List (Key×Value),(A.k k==sysModules)=false/\(∀h:Heap,K.In h->h.DictOf (Qq P w) (A.k k) vs)/\Paired (λ(p:U×U) (q:Key×Value)=>Qm3 p.1 q.1/\∃v,RU A [] p.2 v/\RelV v q.2) kvs vs
structure GX(T:Tbl)(A:Adr)(C:Ctx)(X:Cx):Prop where
 CT:C.T=T
 N:X.N=C.N
 nd:X.N.Nodup
 sc:X.env.scope.names=C.names
 calm:hdC C=false->X.calm=true
 kind:X.env.scope.kind=.function
 xe:X.xe=λ_ _=>False
 gfn:∀x i,C.gl.lookup x=some (.fn i)->X.mg x=some (.ref (A.f i))
 gcl:∀x i,C.gl.lookup x=some (.cls i)->X.mg x=some (.ref (A.c i))
 gco:∀x k,C.gl.lookup x=some (.con k)->X.mg x=some (.ref (A.k k))
 gtx:∀x t,C.gl.lookup x=some (.txt t)->∃k,X.mg x=some (.str ⟨t.toArray⟩ k)
 blt:∀x,¬C.bl.contains x=false->X.mg x=none
 txt:Txt T A X.K X.mg
 tab:JO X.prog X.w T A X.K
def spC(T:Tbl)(A:Adr)(K:W.Frag)(cf:Cf)(f:Nat):Sp:=λvs H Q z=>∃α us hs u hs',RUs A α us vs/\Rep T A K α hs H/\cf f us hs=some (u,hs')/\(∃F,T.fns[f]?=some F/\us.length=F.np) /\
 ∀α' v H',Ext α α' H H'->Rep T A K α' hs' H'->RU A α' u v->Q v H'
def spX(T:Tbl)(A:Adr)(K:W.Frag)(xf:Nat->List U->Hs->Option (Er×Hs))(f:Nat):Sp:=λvs H z E=>∃α us hs c hs',RUs A α us vs/\Rep T A K α hs H/\xf f us hs=some (c,hs')/\(∃F,T.fns[f]?=some F/\us.length=F.np) /\
 ∀α' H' dd,Ext α α' H H'->Rep T A K α' hs' H'->EF T H' c dd->E (.ref (A.c c.1)) dd H'
theorem QX{x:Str}:∀{N:List Str} {i:Nat},idx x N=some i->N[i]?=some x
 |[],_,h=>by simp[idx]at h
 |y::r,i,h=>by
  unfold idx at h;split at h
  ·rename_i e;cases h;simp[e]
  ·cases q:idx x r with
   |none=>rw[q]at h;cases h
   |some j=>
    rw[q]at h;cases h;simpa using QX q
def Qi4(g:GX T A C X)(h:QfA C x=true):Vis X.env.scope x:=by
 unfold QfA at h;unfold Vis;rw[g.sc];split at h<;>simp_all
def Qam(g:GX T A C X)(h:JC C x=true):L2.Loc X.env.scope x:=by
 unfold JC at h;unfold L2.Loc;rw[g.sc];split at h<;>simp_all
def QR(g:GX T A C X)(h:ZG C x=true):Gl X x:=by
 unfold ZG at h;show X.env.scope.names.lookup x=some .globalImplicit;rw[g.sc];split at h
 ·assumption
 ·cases h
def QP{y:Str}(h:x≠y):(x==y)=false:=by simpa using h
def QU{o:Expr}{f:Str}{env:Env}{w:Sem Value}(h:Q8 o=true):attributeBase o f env w=w:=by
 unfold attributeBase;split
 ·cases h
 ·rfl
def Qcd{b:Expr}(h:ZD b=true):QeA b:=by
 intro o i
 cases b<;>first|rfl|cases h
def Qj{e:Expr}{es:List Expr}{env:Env}(h:∀x p,e≠.Starred x p):starEach (e::es) env=(false,eval e env)::starEach es env:=by
 cases e<;>first|rfl|exact absurd rfl (h _ _)
def YC(es:List Expr):Prop:=∀e∈es,∀x p,e≠.Starred x p
theorem QZ{env:Env}{pos:Pos}:∀{es:List Expr},YC es->(backTo pos (starEach es env)).any (·.1)=false
 |[],_=>rfl
 |e::r,h=>by
  rw[Qj (h e (Xw ..))];have ih:=QZ (env:=env) (pos:=pos) (es:=r) λx hx=>h x (Xp _ hx);unfold backTo at ih ⊢;rw[X0,V9,ih];rfl
def Qs{m:Nat}{e:Expr}{ir:E}(h:Qe m C e=some ir):∀x p,e≠.Starred x p:=by
 rintro x p rfl
 cases m<;>first|exact Znn h|simp[Qe]at h
theorem Qn{C:Ctx}:∀{m:Nat} {es:List Expr} {irs:List E},compA m C es=some irs->YC es
 |0,_,_,h=>by simp[compA]at h
 |m+1,[],_,_=>λz h=>nomatch h
 |m+1,e::r,irs,h=>by
  simp only[compA,Xc]at h;obtain⟨e',he,r',hr,_⟩:=h;intro x hx
  rcases X5.mp hx with rfl|hx
  ·exact Qs he
  ·exact Qn hr x hx
section
variable {K:W.Frag}{α:List Addr}{hs:Hs}{H:Hp}{u:U}{v:V}
theorem RUs.length(r:RUs A α us vs):us.length=vs.length:=Wj r
def RUs.get{i:Nat}{u:U}(h:RUs A α us vs)(e:us[i]?=some u):∃v,vs[i]?=some v/\RU A α u v:=Qab h e
def RUs.append{ws:List U}{ys:List V}(h:RUs A α us vs)(h':RUs A α ws ys):RUs A α (us++ws) (vs++ys):=QbE h h'
def ZO{xs:List U}{K':W.Frag}(tx:Txt T A K mg)(R:Rep T A K α hs H)(h:Zp T u hs=some xs)(r:RU A α u v):∃a vs,v=.ref a/\RUs A α xs vs/\(SqL K H a vs\/SqT K H a vs):=by
 cases u with
 |ref n=>
  obtain⟨a,ha,rfl⟩:=r;simp only[Zp]at h;split at h
  ·rename_i ys e;cases h;obtain⟨vs,q,rr⟩:=R.h.ob n a _ ha e;exact⟨a,vs,rfl,rr,.inl (SqL.of q)⟩
  ·rename_i ys e;cases h;obtain⟨vs,q,rr⟩:=R.h.ob n a _ ha e;exact⟨a,vs,rfl,rr,.inr (SqT.of q)⟩
  ·cases h
 |con k=>
  simp only[Zp]at h;split at h
  ·rename_i ys e;cases h;obtain⟨vs,rr,q⟩:=tx.co k _ e
   exact⟨_,vs,r,RUs.mono (λn a e=>by simp at e) rr,.inl (q H)⟩
  ·rename_i ys e;cases h;obtain⟨vs,rr,q⟩:=tx.co k _ e
   exact⟨_,vs,r,RUs.mono (λn a e=>by simp at e) rr,.inr (q H)⟩
  ·cases h
 |scr=>
  simp only[Zp]at h;cases h;obtain⟨vs,rr,q⟩:=R.s.sq (α:=α);exact⟨_,vs,r,rr,.inl q⟩
 |_=>simp[Zp]at h
def Yu(x:List Nat):({cps:=x.toArray}:Str).length=x.length:=by simp[Str.length]
def big:(1000000:Nat)<=sizeLine:=by decide
def QcZ{b:Bool}(tx:Txt T A K mg)(R:Rep T A K α hs H)(h:YJ T u hs=some b)(r:RU A α u v):Qly K v H b:=by
 have sq:∀{xs:List U},Zp T u hs=some xs->b=!xs.isEmpty->Qly K v H b:=λ{xs} e1 e2=>by
  obtain⟨a,vs,rfl,rr,q⟩:=ZO (K':=K) tx R e1 r
  have e3:b=!vs.isEmpty:=by
   rw[e2];cases rr<;>rfl
  rcases q with q|q
  ·exact .inl ⟨vs,q,e3⟩
  ·exact .inr (.inl ⟨vs,q,e3⟩)
 cases u with
 |non=>simp only[YJ]at h;cases h;cases r;rfl
 |bl c=>simp only[YJ]at h;cases h;cases r;rfl
 |int i m=>
  cases m with
  |zero=>
   simp only[YJ]at h;cases h;obtain⟨j,rfl,c⟩:=r;cases c.exact;show decide (i≠0)=(i != 0);by_cases q:i=0<;>simp[q]
  |succ m=>simp[YJ,Zp]at h
 |str x=>
  simp only[YJ]at h;split at h
  ·rename_i l;cases h;cases(show v=.str ⟨x.toArray⟩from r)
   refine⟨by rw[Yu];exact X6 l big,?_⟩
   rw[Yu];cases x<;>simp;omega
  ·cases h
 |ref n=>
  simp only[YJ,Xd]at h;obtain⟨xs,e1,e2⟩:=h;exact sq e1 e2.symm
 |con n=>
  simp only[YJ,Xd]at h;obtain⟨xs,e1,e2⟩:=h;exact sq e1 e2.symm
 |scr=>
  simp only[YJ,Xd]at h;obtain⟨xs,e1,e2⟩:=h;exact sq e1 e2.symm
end
end
section
variable {i i' j:Int}{m:Nat}
def QgH{j':Int}{n:Nat}(a:Cg i' i m)(b:Cg j' j n):Cg (i'+j') (i+j) (gz m n):=by
 obtain⟨p,rfl⟩:=a;obtain⟨q,rfl⟩:=b
 cases m with
 |zero=>exact⟨q,by simp[gz];omega⟩
 |succ m=>
  obtain⟨x,hx⟩:=Nat.gcd_dvd_left (m+1) n;obtain⟨y,hy⟩:=Nat.gcd_dvd_right (m+1) n;refine⟨x*p+y*q,?_⟩
  have e1:((m+1:Nat):Int)=(Nat.gcd (m+1) n:Int)*(x:Int):=by
   have:=congrArg (λz:Nat=>(z:Int)) hx;simpa using this
  have e2:(n:Int)=(Nat.gcd (m+1) n:Int)*(y:Int):=by
   have:=congrArg (λz:Nat=>(z:Int)) hy;simpa using this
  show i+((m+1:Nat):Int)*p+(j+(n:Int)*q)=i+j+(Nat.gcd (m+1) n:Int)*(x*p+y*q);rw[Int.mul_add,<-T7,<-T7,<-e1,<-e2];omega
def QgG(a:Cg i' i m):Cg (-i') (-i) m:=by
 obtain⟨p,rfl⟩:=a
 exact⟨-p,by rw[Int.mul_neg];omega⟩
def Qlc{j':Int}{n:Nat}(a:Cg i' i m)(b:Cg j' j n):Cg (i'-j') (i-j) (gz m n):=by
 have:=QgH a (QgG b);rw[Int.sub_eq_add_neg,Int.sub_eq_add_neg];exact this
def Qld(a:Cg i' i m):Cg (i'*j) (i*j) (m*j.natAbs):=by
 obtain⟨p,rfl⟩:=a
 rcases Int.natAbs_eq j with e|e
 ·refine⟨p,?_⟩;rw[Int.add_mul,T3,<-e,Int.mul_right_comm]
 ·refine⟨-p,?_⟩
  have e':(j.natAbs:Int)=-j:=by omega
  rw[Int.add_mul,T3,e',Int.mul_neg,Int.mul_neg,Int.neg_mul,Int.neg_neg,Int.mul_right_comm]
def Qlf(a:Cg i' i m)(hj:0<j)(hd:m % j.toNat=0):Cg (i' / j) (i / j) (m / j.toNat):=by
 obtain⟨p,rfl⟩:=a
 have e:(m:Int)=j*((m / j.toNat:Nat):Int):=by
  have h:=Nat.div_add_mod m j.toNat;rw[hd,Nat.add_zero]at h;have h2:=congrArg (λz:Nat=>(z:Int)) h
  have h3:((j.toNat:Nat):Int)=j:=by omega
  simp only[T3,h3]at h2;exact h2.symm
 refine⟨p,?_⟩
 rw[e,T7,Int.add_mul_ediv_left _ _ (by omega)]
def Qle(a:Cg i' i m)(hj:0<j)(hd:m % j.toNat=0):i' % j=i % j:=by
 obtain⟨p,rfl⟩:=a
 have e:(m:Int)=j*((m / j.toNat:Nat):Int):=by
  have h:=Nat.div_add_mod m j.toNat;rw[hd,Nat.add_zero]at h;have h2:=congrArg (λz:Nat=>(z:Int)) h
  have h3:((j.toNat:Nat):Int)=j:=by omega
  simp only[T3,h3]at h2;exact h2.symm
 rw[e,T7,Int.add_mul_emod_self_left]
def Zn(h:Qp i=true):-(2 ^ 64) < i/\i<2 ^ 64:=by
 unfold Qp at h;rw[Xk,Xy,Xy]at h;exact h
def OpS(X:Cx)(T:Tbl)(A:Adr)(o:Operator):Prop:=∃r,OpR X (binaryOp o) r/\∀{α:List Addr} {u w u':U} {hs hs':Hs} {v y:V} {H:Hp} {Q:VK},opU o u w hs=some (u',hs')->RU A α u v->RU A α w y->Rep T A X.K α hs H ->
 (∀α' v' H',Ext α α' H H'->Rep T A X.K α' hs' H'->RU A α' u' v'->Q v' H')->r v y H Q
section
variable {X:Cx}{T:Tbl}{A:Adr}
def Qfj{o:Operator}(h:∀u w hs,opU o u w hs=none):OpS X T A o:=⟨λz z z z=>False,λz z z z z z z z z z z z h=>h.elim,λe=>by rw[h]at e;cases e⟩
def Qdz{o:Operator}{f:U->U->Option U}{r:R2}(ho:OpR X (binaryOp o) r)(hf:∀u w hs,opU o u w hs=(f u w).map λz=>(z,hs))
  (h:∀{α:List Addr} {u w z:U} {v y:V} {H:Hp} {Q:VK},f u w=some z->RU A α u v->RU A α w y->(∀v',RU A α z v'->Q v' H)->r v y H Q):OpS X T A o:=by
 refine⟨r,ho,?_⟩;intro α u w u' hs hs' v y H Q e ru rw R k;rw[hf,Xd]at e;obtain⟨z,e,q⟩:=e;cases q;exact h e ru rw λv' r'=>k α v' H Ext.refl R r'
def ZJ{α:List Addr}{v:V}(r:RU A α (.int i 0) v):v=.int i:=by
 obtain⟨j,rfl,c⟩:=r;cases c.exact;rfl
def QhN:OpS X T A .Sub:=Qdz Qkk (λx x x=>rfl) λ{α u w z v y H Q} h ru rw k=>by
 unfold Qn8 at h;split at h
 ·cases h;obtain⟨i',rfl,a⟩:=ru;obtain⟨j',rfl,b⟩:=rw;exact⟨i',j',rfl,rfl,k _ ⟨_,rfl,Qlc a b⟩⟩
 ·cases h
def QhM:OpR X (binaryOp .Mult) (rI IntMulOk λi j=>.int (i*j)):=opI λz z z z z z z hc q=>mul_int q hc
def Qet(h:Qeu i=true):Builtin.Int.intBits i<=4096:=by
 have h:=Wo h;unfold Builtin.Int.intBits;split
 ·omega
 ·rename_i z
  have n0:i.natAbs≠0:=by simpa using z
  exact Nat.succ_le_of_lt ((Nat.log2_lt n0).mpr h)
def Qky(h:(Qp i||Qp j||(Qeu i&&Qeu j))=true):IntMulOk i j:=by
 rw[Uq,Uq,Xk]at h
 rcases h with(h|h)|h
 ·exact CMul.ok (.inl (Zn h))
 ·exact CMul.ok (.inr (Zn h))
 ·have h1:=Qet h.1;have h2:=Qet h.2;unfold IntMulOk
  have:Builtin.Int.intTooBig (Builtin.Int.intBits i+Builtin.Int.intBits j)=false:=by
   unfold Builtin.Int.intTooBig;rw[bitsLine_eq]
   exact Xq (by omega)
  rw[this];simp
def QhP:OpS X T A .Mult:=by
 refine⟨_,QhM,?_⟩;intro α u w u' hs hs' v y H Q e ru rw R k;have e:(QhX u w).map (λr=>(r,hs))=some (u',hs'):=e;rw[Xd]at e;obtain⟨z,h,q⟩:=e;cases q;have k:∀v',RU A α u' v'->Q v' H:=λv' r'=>k α v' H Ext.refl R r';unfold QhX at h;split at h
 ·split at h
  ·rename_i c;cases h;cases ZJ ru;cases ZJ rw;exact⟨_,_,rfl,rfl,Qky c,k _ ⟨_,rfl,Cg.refl _ _⟩⟩
  ·cases h
 ·split at h
  ·rename_i c;cases h;obtain⟨i',rfl,a⟩:=ru;cases ZJ rw;exact⟨i',_,rfl,rfl,CMul.ok (.inr (Zn c)),k _ ⟨_,rfl,Qld a⟩⟩
  ·cases h
 ·cases h
def Qn4(i j:Int):Prop:=0<j/\j<1606938044258990275541962092341162602522202993782792835301376
def Qfi{X:Cx}:OpR X (binaryOp .FloorDiv) (rI Qn4 λi j=>.int (i / j)):=opI λi j y y y y y hc q=>by
 have h1:(0:Int) < j:=hc.1;have h2:j<1606938044258990275541962092341162602522202993782792835301376:=hc.2
 have h3:j.natAbs.log2<9000:=by
  have h4:j.natAbs<2 ^ 9000:=Xs (show j.natAbs<2 ^ 200 by omega) (Nat.pow_le_pow_right (by decide) (by decide))
  rcases Nat.eq_zero_or_pos j.natAbs with z|z
  ·rw[z];decide
  ·exact(Nat.log2_lt (by omega)).mpr h4
 exact floordiv_int (by omega) (by rw[Int.fdiv_eq_ediv_of_nonneg i (by omega)];exact q) (.inl (PyProof.noPylong_of_log2 h3))
def Qfk:OpS X T A .FloorDiv:=Qdz Qfi (λx x x=>rfl) λ{α u w z v y H Q} h ru rw k=>by
 unfold Qk5 at h;split at h
 ·split at h
  ·rename_i c;cases h;cases ZJ ru;cases ZJ rw;simp only[Xk,Xy]at c;exact⟨_,_,rfl,rfl,c,k _ ⟨_,rfl,Cg.refl _ _⟩⟩
  ·cases h
 ·split at h
  ·rename_i c;cases h;obtain⟨i',rfl,a⟩:=ru;cases ZJ rw;simp only[Xk,Xy]at c;exact⟨i',_,rfl,rfl,c.1,k _ ⟨_,rfl,Qlf a c.1.1 c.2⟩⟩
  ·cases h
 ·cases h
def QhQ:OpS X T A .Mod:=Qdz Qko (λx x x=>rfl) λ{α u w z v y H Q} h ru rw k=>by
 unfold QkA at h;split at h
 ·split at h
  ·rename_i c;cases h;cases ZJ ru;cases ZJ rw;exact⟨_,_,rfl,rfl,c,k _ ⟨_,rfl,Cg.refl _ _⟩⟩
  ·cases h
 ·split at h
  ·rename_i c;cases h;obtain⟨i',rfl,a⟩:=ru;cases ZJ rw;simp only[Xk,Xy]at c
   exact⟨i',_,rfl,rfl,c.1,k _ ⟨_,rfl,by rw[Qle a c.1 c.2];exact Cg.refl _ _⟩⟩
  ·cases h
 ·cases h
def QhO:OpS X T A .Pow:=⟨λz z z z=>False,λpins s Y H x y v u Q I rx ry h=>h.elim,λ{α u w u' hs hs' v y H Q} e=>Znn e⟩
def QhR:OpS X T A .Add:=by
 refine⟨_,OpR.or Qku Qkt,?_⟩;intro α u w u' hs hs' v y H Q h ru rw R k;have h:Qlv u w hs=some (u',hs'):=h;unfold Qlv at h;split at h
 ·cases h;obtain⟨i',rfl,a⟩:=ru;obtain⟨j',rfl,b⟩:=rw;exact .inl ⟨i',j',rfl,rfl,k α _ H Ext.refl R ⟨_,rfl,QgH a b⟩⟩
 ·rename_i a b;obtain⟨pa,ha,rfl⟩:=ru;obtain⟨pb,hb,rfl⟩:=rw;split at h
  ·rename_i ox oy e1 e2;have o1:=R.h.ob _ pa _ ha e1;have o2:=R.h.ob _ pb _ hb e2;unfold QnF at h;split at h
   ·rename_i xs ys;split at h
    ·rename_i c;cases h;obtain⟨vs,q1,r1⟩:=o1;obtain⟨ws,q2,r2⟩:=o2;refine .inr ⟨pa,pb,vs,ws,rfl,rfl,q1,q2,?_,λp hp=>?_⟩
     ·rw[<-r1.length,<-r2.length];exact X6 c big
     ·obtain⟨R',E'⟩:=R.new (o:=.lst (xs++ys)) hp ⟨_,Qf,RUs.mono Qw (r1.append r2)⟩
      exact k _ _ _ E' R' ⟨p,by rw[<-R.h.len];exact QD,rfl⟩
    ·cases h
   ·cases h
  ·cases h
 ·cases h
def opS(o:Operator):OpS X T A o:=by
 cases o with
 |Add=>exact QhR
 |Sub=>exact QhN
 |Mult=>exact QhP
 |FloorDiv=>exact Qfk
 |Mod=>exact QhQ
 |Pow=>exact QhO
 |_=>exact Qfj λu w hs=>rfl
end
end
section
variable {xs:List U}
section
variable {X:Cx}{T:Tbl}{A:Adr}{α:List Addr}{hs:Hs}{H:Hp}{u w:U}{v y:V}
def QK(tx:Txt T A X.K X.mg)(R:Rep T A X.K α hs H)(h:QT T u hs=some xs)(r:RU A α u v):∃a vs,v=.ref a/\RUs A α xs vs/\SqL X.K H a vs:=by
 cases u with
 |ref n=>
  obtain⟨a,ha,rfl⟩:=r;simp only[QT]at h;split at h
  ·rename_i ys e;cases h;obtain⟨vs,q,rr⟩:=R.h.ob n a _ ha e;exact⟨a,vs,rfl,rr,SqL.of q⟩
  ·cases h
 |con k=>
  simp only[QT]at h;split at h
  ·rename_i ys e;cases h;obtain⟨vs,rr,q⟩:=tx.co k _ e
   exact⟨_,vs,r,RUs.mono (λn a e=>by simp at e) rr,q H⟩
  ·cases h
 |scr=>
  simp only[QT]at h;cases h;obtain⟨vs,rr,q⟩:=R.s.sq (α:=α);exact⟨_,vs,r,rr,q⟩
 |_=>simp[QT]at h
def Jj(tx:Txt T A X.K X.mg)(R:Rep T A X.K α hs H)(h:QeB T u hs=some xs)(r:RU A α u v):∃a vs,v=.ref a/\RUs A α xs vs/\SqT X.K H a vs:=by
 cases u with
 |ref n=>
  obtain⟨a,ha,rfl⟩:=r;simp only[QeB]at h;split at h
  ·rename_i ys e;cases h;obtain⟨vs,q,rr⟩:=R.h.ob n a _ ha e;exact⟨a,vs,rfl,rr,SqT.of q⟩
  ·cases h
 |con k=>
  simp only[QeB]at h;split at h
  ·rename_i ys e;cases h;obtain⟨vs,rr,q⟩:=tx.co k _ e
   exact⟨_,vs,r,RUs.mono (λn a e=>by simp at e) rr,q H⟩
  ·cases h
 |_=>simp[QeB]at h
def Qos(T:Tbl)(A:Adr)(K:W.Frag)(b:Bool):R2:=λx y H Q=>∃α u w hs,RU A α u x/\RU A α w y/\Rep T A K α hs H/\Qcl T u w hs=true/\Q (.bl b) H
def QbJ{pins:List (Addr×Obj)}{s:Shared}{Y:L2.St}{H:Hp}{α:List Addr}{hs:Hs}{u w:U}{x y:V}{v z:Value}(tx:Txt T A X.K X.mg)(I:Inv X pins Y H s)(R:Rep T A X.K α hs H)(h:Qcl T u w hs=true)(r1:RU A α u x)(r2:RU A α w y)(rx:RelV x v)(ry:RelV y z):
  ∃(a b:Addr) (i1 i2:List Value),v=.ref a/\z=.ref b/\s.heap.IsList a i1.toArray/\s.heap.IsList b i2.toArray/\(i1.toArray.size != i2.toArray.size)=true:=by
 unfold Qcl at h;split at h
 ·rename_i xs ys e1 e2;obtain⟨a,vs,rfl,rr,sq⟩:=QK tx R e1 r1;obtain⟨b,ws,rfl,rr',sq'⟩:=QK tx R e2 r2;obtain⟨i1,q1,p1,_⟩:=I.list sq;obtain⟨i2,q2,p2,_⟩:=I.list sq';cases rx;cases ry;have l1:=rr.length;have l2:=rr'.length;have l3:=q1.length;have l4:=q2.length;have h:=Wo h;refine⟨a,b,i1,i2,rfl,rfl,p1.isList,p2.isList,?_⟩;simp only[Xz,bne_iff_ne,ne_eq];omega
 ·cases h
def Qks(tx:Txt T A X.K X.mg)(hu:X.A.units+64<cLine):OpR X (compareOp .Eq) (Qos T A X.K false):=by
 intro pins s Y H x y v u Q I rx ry h;obtain⟨α,u1,w1,hs,r1,r2,R,o1,q⟩:=h;obtain⟨a,b,i1,i2,rfl,rfl,p1,p2,z⟩:=QbJ tx I R o1 r1 r2 rx ry
 exact SeqAt.RcAt.lists_lengths p1 p2 z (by omega) _ _ _ _ ⟨.bl _,H,I,rfl,q⟩
def Qkn(tx:Txt T A X.K X.mg)(hu:X.A.units+64<cLine):OpR X (compareOp .NotEq) (Qos T A X.K true):=by
 intro pins s Y H x y v u Q I rx ry h;obtain⟨α,u1,w1,hs,r1,r2,R,o1,q⟩:=h;obtain⟨a,b,i1,i2,rfl,rfl,p1,p2,z⟩:=QbJ tx I R o1 r1 r2 rx ry
 exact SeqAt.RcNeAt.lists_lengths p1 p2 z (by omega) _ _ _ _ ⟨.bl _,H,I,rfl,q⟩
def QjT(T:Tbl)(A:Adr)(K:W.Frag)(b:Bool):R2:=λx y H Q=>∃α u w hs,RU A α u x/\RU A α w y/\Rep T A K α hs H/\Qb9 T u w hs=true/\Q (.bl b) H
def QcR{α:List Addr}{vs ws:List V}{i1 i2:List Value}(h:(xs.all λx=>match x with|.ref _=>true|_=>false)=true)(r1:RUs A α xs vs)(r2:RUs A α xs ws)(q1:Vals vs i1)(q2:Vals ws i2):i1=i2:=by
 induction xs generalizing vs ws i1 i2 with
 |nil=>cases r1;cases r2;cases q1;cases q2;rfl
 |cons x xs ih=>
  rw[Uk,Xk]at h
  cases r1 with
  |cons a r1=>
   cases r2 with
   |cons b r2=>
    cases q1 with
    |cons c q1=>
     cases q2 with
     |cons d q2=>
      rw[ih h.2 r1 r2 q1 q2]
      cases x with
      |ref n=>
       obtain⟨p,hp,rfl⟩:=a;obtain⟨p',hp',rfl⟩:=b;rw[hp]at hp';cases hp';cases c;cases d;rfl
      |_=>exact absurd h.1 (by simp)
def Qbw{pins:List (Addr×Obj)}{s:Shared}{Y:L2.St}{H:Hp}{α:List Addr}{hs:Hs}{u w:U}{x y:V}{v z:Value}(tx:Txt T A X.K X.mg)(I:Inv X pins Y H s)(R:Rep T A X.K α hs H)(h:Qb9 T u w hs=true)(r1:RU A α u x)(r2:RU A α w y)(rx:RelV x v)(ry:RelV y z):
  ∃(a b:Addr) (i1:List Value),v=.ref a/\z=.ref b/\s.heap.IsList a i1.toArray/\s.heap.IsList b i1.toArray:=by
 unfold Qb9 at h;split at h
 ·rename_i xs ys e1 e2;rw[Xk]at h;obtain⟨h0,h⟩:=h;have h0:=Wo h0;subst h0;obtain⟨a,vs,rfl,rr,sq⟩:=QK tx R e1 r1;obtain⟨b,ws,rfl,rr',sq'⟩:=QK tx R e2 r2;obtain⟨i1,q1,p1,_⟩:=I.list sq;obtain⟨i2,q2,p2,_⟩:=I.list sq';cases rx;cases ry;cases QcR h rr rr' q1 q2;exact⟨a,b,i1,rfl,rfl,p1.isList,p2.isList⟩
 ·cases h
def Qkr(tx:Txt T A X.K X.mg)(hu:X.A.units+64<cLine):OpR X (compareOp .Eq) (QjT T A X.K true):=by
 intro pins s Y H x y v u Q I rx ry h;obtain⟨α,u1,w1,hs,r1,r2,R,o1,q⟩:=h;obtain⟨a,b,i1,rfl,rfl,p1,p2⟩:=Qbw tx I R o1 r1 r2 rx ry
 have rc:=SeqAt.RcAt.lists (A:=X.A) (e:=λz=>true) p1 p2 rfl (by omega) λj h1 h2=>SeqAt.EqAt.same _
 have al:(List.range i1.toArray.size).all (λz=>true)=true:=by simp
 rw[al]at rc;exact rc _ _ _ _ ⟨.bl _,H,I,rfl,q⟩
def Qkm(tx:Txt T A X.K X.mg)(hu:X.A.units+64<cLine):OpR X (compareOp .NotEq) (QjT T A X.K false):=by
 intro pins s Y H x y v u Q I rx ry h;obtain⟨α,u1,w1,hs,r1,r2,R,o1,q⟩:=h;obtain⟨a,b,i1,rfl,rfl,p1,p2⟩:=Qbw tx I R o1 r1 r2 rx ry
 have rc:=SeqAt.RcNeAt.lists (A:=X.A) (e:=λz=>true) p1 p2 rfl (by omega) λj h1 h2=>SeqAt.EqAt.same _
 have al:(!(List.range i1.toArray.size).all (λz=>true))=false:=by simp
 rw[al]at rc;exact rc _ _ _ _ ⟨.bl _,H,I,rfl,q⟩
end
end
section
variable {u:U}{v:V}
section
variable {κ κ':Type}[DecidableEq κ][DecidableEq κ']{P:κ->κ'->Prop}{A:Adr}{α:List Addr}{w:κ}{k:κ'}
abbrev RG(P:κ->κ'->Prop)(A:Adr)(α:List Addr):List (κ×U)->List (κ'×V)->Prop:=Paired λp q=>P p.1 q.1/\RU A α p.2 q.2
def Inj(P:κ->κ'->Prop):Prop:=∀a b k l,P a k->P b l->(a=b↔k=l)
def RG.look(inj:Inj P)(hk:P w k){kvs:List (κ×U)}{kv:List (κ'×V)}(h:RG P A α kvs kv):(Z3 kvs w=none/\ZM kv k=none)\/∃u v,Z3 kvs w=some u/\ZM kv k=some v/\RU A α u v:=by
 induction h with
 |nil=>exact .inl ⟨rfl,rfl⟩
 | @cons p q _ _ r t ih=>
  by_cases h:p.1=w
  ·have h':q.1=k:=(inj _ _ _ _ r.1 hk).mp h
   exact .inr ⟨p.2,q.2,by simp[Z3,Wx,h],by simp[ZM,Wx,h'],r.2⟩
  ·have h':¬q.1=k:=λz=>h ((inj _ _ _ _ r.1 hk).mpr z)
   have e1:∀l,Z3 (p::l) w=Z3 l w:=λl=>by simp[Z3,Wx,h]
   have e2:∀l,ZM (q::l) k=ZM l k:=λl=>by simp[ZM,Wx,h']
   rw[e1,e2];exact ih
theorem RG.any(inj:Inj P)(hk:P w k){kvs:List (κ×U)}{kv:List (κ'×V)}(h:RG P A α kvs kv):(kvs.any λp=>decide (p.1=w))=(kv.any λp=>decide (p.1=k)):=by
 induction h with
 |nil=>rfl
 |cons r t ih=>rw[V9,V9,ih,decide_eq_decide.mpr (inj _ _ _ _ r.1 hk)]
def RG.repl(inj:Inj P)(hk:P w k)(ru:RU A α u v){kvs:List (κ×U)}{kv:List (κ'×V)}(h:RG P A α kvs kv):RG P A α (kvs.map λp=>if p.1=w then(p.1,u)else p) (kv.map λp=>if p.1=k then(p.1,v)else p):=by
 induction h with
 |nil=>exact .nil
 | @cons p q _ _ r t ih=>
  refine .cons ?_ ih;by_cases h:p.1=w
  ·have h':=(inj _ _ _ _ r.1 hk).mp h;simp only[h,h',Wa];exact⟨hk,ru⟩
  ·have h':¬q.1=k:=λz=>h ((inj _ _ _ _ r.1 hk).mpr z);simp only[h,h',Vh];exact r
def RG.put(inj:Inj P)(hk:P w k)(ru:RU A α u v){kvs:List (κ×U)}{kv:List (κ'×V)}(r:RG P A α kvs kv):RG P A α (QeD kvs w u) (Z7 kv k v):=by
 unfold QeD Z7;rw[RG.any inj hk r];split
 ·exact RG.repl inj hk ru r
 ·exact Paired.snoc r ⟨hk,ru⟩
def RG.merge(inj:Inj P){more:List (κ×U)}{mv:List (κ'×V)}(m:RG P A α more mv):∀{kvs:List (κ×U)} {kv:List (κ'×V)},RG P A α kvs kv->RG P A α (more.foldl (λacc p=>QeD acc p.1 p.2) kvs) (mv.foldl (λacc p=>Z7 acc p.1 p.2) kv):=by
 induction m with
 |nil=>intro _ _ r;exact r
 |cons q _ ih=>intro _ _ r;exact ih (RG.put inj q.1 q.2 r)
end
def Qau:Inj RK:=λa b k l h h'=>by
 cases a<;>cases b<;>simp only[RK]at h h'<;>first|exact h.elim|exact h'.elim|skip
 ·obtain⟨rfl,rfl⟩:=h;obtain⟨rfl,rfl⟩:=h';simp
 ·obtain⟨rfl,rfl⟩:=h;subst h';simp
 ·subst h;obtain⟨rfl,rfl⟩:=h';simp
 ·subst h h';simp
section
variable {X:Cx}{T:Tbl}{A:Adr}{K:W.Frag}{α:List Addr}{hs:Hs}{H:Hp}{n:Nat}{a:Addr}{o:O}{w:U}{y:V}
def QbK(hk:Qan w=true)(r:RU A α w y):∃k,RK w k/\y=kV k:=by
 cases w with
 |int i m=>
  cases m with
  |zero=>obtain⟨j,rfl,c⟩:=r;cases c.exact;exact⟨Sum.inl i,⟨rfl,rfl⟩,rfl⟩
  |succ m=>cases hk
 |str x=>cases(show y=_ from r);exact⟨Sum.inr _,rfl,rfl⟩
 |_=>cases hk
def Qbj{r:Option U}(R:Rep T A K α hs H)(ho:hs[n]?=some o)(ha:α[n]?=some a)(h:JG o w hs=some r)(rw':RU A α w y):(r=none/\DGet H a y none)\/∃u v,r=some u/\DGet H a y (some v)/\RU A α u v:=by
 cases o with
 |dic kvs=>
  obtain⟨kv,e,rd⟩:=R.h.ob n a _ ha ho;simp only[JG]at h;split at h
  ·rename_i c;cases h;obtain⟨k,rk,rfl⟩:=QbK c rw';have g:=DGet.k (k:=k) e
   rcases RG.look Qau rk rd with⟨h1,h2⟩|⟨u,v,h1,h2,h3⟩
   ·rw[h2]at g;exact .inl ⟨h1,g⟩
   ·rw[h2]at g;exact .inr ⟨u,v,h1,g,h3⟩
  ·cases h
 |fzd kvs=>
  obtain⟨kv,ob,e,rd⟩:=R.h.ob n a _ ha ho;simp only[JG]at h;split at h
  ·rename_i c;cases h;obtain⟨k,rk,rfl⟩:=QbK c rw';have g:DGet H a (kV k) (ZM kv k):=.inl ⟨kv,k,.inr ⟨ob,e⟩,rfl,rfl⟩
   rcases RG.look Qau rk rd with⟨h1,h2⟩|⟨u,v,h1,h2,h3⟩
   ·rw[h2]at g;exact .inl ⟨h1,g⟩
   ·rw[h2]at g;exact .inr ⟨u,v,h1,g,h3⟩
  ·cases h
 |_=>cases h
theorem RG.length{κ κ':Type}{P:κ->κ'->Prop}{kvs:List (κ×U)}{kv:List (κ'×V)}(r:RG P A α kvs kv):kvs.length=kv.length:=Wj r
def Qin{hs':Hs}(R:Rep T A K α hs H)(ho:hs[n]?=some o)(ha:α[n]?=some a)(h:QfR n o w u hs=some hs')(rw':RU A α w y)(ru:RU A α u v):∃H',DPut H a y v H'/\Rep T A K α hs' H'/\Ext α α H H':=by
 cases o with
 |dic kvs=>
  obtain⟨kv,e,rd⟩:=R.h.ob n a _ ha ho;simp only[QfR]at h;split at h
  ·rename_i c;cases h;obtain⟨k,rk,rfl⟩:=QbK c.1 rw';have l:=RG.length rd;obtain⟨R',E'⟩:=R.put (o:=.dic (QeD kvs w u)) (ho:=.dK (Z7 kv k v)) ha ⟨_,Qf,RG.put Qau rk ru rd⟩
   exact⟨_,DPut.k e (Xs (by omega:kv.length<1000000) big),R',E'⟩
  ·cases h
 |_=>cases h
def Qmx:R2:=λx y H Q=>∃a v,x=.ref a/\DGet H a y (some v)/\Q v H
def Qh8(hu:X.A.units+1<cLine):IxR X Qmx:=by
 intro value slice pins s Y H x y v u Q I rx ry h hs;obtain⟨a,z,rfl,g,q⟩:=h;obtain rfl:v=Value.ref a:=rx;have hT:=Qbi I g;unfold subscriptTail;refine Xa ?_;rw[getitemInPython_of_ne hT.not_modules];refine Xa (T1 hT PySem.F.slot_dict_getitem.lookup ?_)
 have fin:wpAny (model X.prog X.w) X.A (subscripted slice false (.ref a) u) (λr s₃=>wpAny (model X.prog X.w) X.A (letTemporaryGo value (.ref a) r >>= λt=>pure r) (EP X pins Y Q) X.xe s₃) X.xe s:=by
  rw[hs];exact wpAny_operating (Qee hu I g ry λw' s3 I3 rw'=>Xa (wpAny_letTemporaryGo (Xf ⟨z,H,I3,rw',q⟩)))
 first
  |exact Xf (Xa fin)
  |exact Xa (Xf (Xa fin))
  |exact Xa fin
def Qmy(neg:Bool):R2:=λx y H Q=>∃a o,y=.ref a/\DGet H a x o/\Q (.bl (if neg then !o.isSome else o.isSome)) H
def Qkq(hu:X.A.units+1<cLine):OpR X (compareOp .In) (Qmy false):=by
 intro pins s Y H x y v u Q I rx ry h;obtain⟨a,o,rfl,g,q⟩:=h;obtain rfl:u=Value.ref a:=ry;exact QpM hu I g rx λs3 I3=>⟨.bl o.isSome,H,I3,rfl,q⟩
def Qdx(hu:X.A.units+1<cLine):OpR X (compareOp .NotIn) (Qmy true):=by
 intro pins s Y H x y v u Q I rx ry h;obtain⟨a,o,rfl,g,q⟩:=h;obtain rfl:u=Value.ref a:=ry;exact Qip hu I g rx λs3 I3=>⟨.bl (!o.isSome),H,I3,rfl,q⟩
def Qgv{w:U}{y:V}{c neg:Bool}{Q:VK}(R:Rep T A K α hs H)(h:inD w u hs=some c)(ru:RU A α u v)(rw':RU A α w y)(q:Q (.bl (if neg then !c else c)) H):Qmy neg v y H Q:=by
 unfold inD at h;split at h
 ·rename_i n;split at h
  ·rename_i o e;simp only[Xd]at h;obtain⟨r,h1,rfl⟩:=h;obtain⟨a,ha,rfl⟩:=rw'
   rcases Qbj R e ha h1 ru with⟨rfl,g⟩|⟨u',v',rfl,g,_⟩
   ·exact⟨a,none,rfl,g,q⟩
   ·exact⟨a,some v',rfl,g,q⟩
  ·cases h
 ·cases h
def Qmw:V->V->V->Hp->(Hp->Prop)->Prop:=λo i v H Q=>∃a H',o=.ref a/\DPut H a i v H'/\Q H'
def Qe0(hu:X.A.units+1<cLine):QoM X Qmw:=by
 intro pins s Y H o i v ov iv u Q I ro ri rv h;obtain⟨a,H',rfl,g,q⟩:=h;obtain rfl:ov=Value.ref a:=ro;exact Qed hu I g ri rv λs4 I4=>⟨H',I4,q⟩
def Qmz:V->List V->Hp->VK->Prop:=λx vs H Q=>∃a y z o,x=.ref a/\vs=[y,z]/\DGet H a y o/\Q (o.getD z) H
def QhY(hu:X.A.units+1<cLine):MtR X "dict.get" Qmz:=by
 intro pins s Y H x vs v us Q I rx rv h;obtain⟨a,y,z,o,rfl,rfl,g,q⟩:=h;cases rx;obtain⟨uk,uy,rfl,rk,ry⟩:=Qb2 rv;exact Qk7 hu I g rk ry λw' s' I' rw'=>⟨o.getD z,H,I',rw',q⟩
def Qhg:V->List V->Hp->VK->Prop:=λx vs H Q=>∃a b kvs more,x=.ref a/\vs=[.ref b]/\H a=some (.dK kvs)/\H b=some (.dK more)/\a≠b/\kvs.length+more.length<=sizeLine/\Q .non (upd H a (.dK (Q3 kvs more)))
def QdM:MtR X "dict.update" Qhg:=by
 intro pins s Y H x vs v us Q I rx rv h;obtain⟨a,b,kvs,more,rfl,rfl,hA,hB,ne,hz,q⟩:=h;cases rx;obtain⟨u,rfl,ru⟩:=rv.one;cases ru;obtain⟨z,hd,ws,rel,dd⟩:=Qcu I.hok hA;obtain⟨z2,hd2,ws2,rel2,dd2⟩:=Qcu I.hok hB
 refine call_meetsIn PySem.F.slot_dict_update dd.typeIs PySem.F.entry_dict_update (PySem.F.args_dict_update_2 _ _) (meets_dict_update (Qq X.prog X.w) a b ne hd2) ⟨ws,ws2,dd,dd2,by rw[<-rel.length,<-rel2.length];exact hz,λh' dd' y hs=>?_⟩
 have he:∃q,h'.get? a=some q:=(by obtain⟨q,_,_,hq,_⟩:=dd';exact⟨q,hq⟩);have hl:(Q3 kvs more).length<=sizeLine:=X6 (ZF more kvs) hz
 have I2:=JH (t':=s.toks) I (by rw[hA];exact True.intro) hs he (Qd9 hl hd (KV.merge rel2 rel) dd')
 exact⟨.non,_,I2,rfl,q⟩
end
end
section
variable {H:Hp}{hs:Hs}{i:Int}{α:List Addr}{us:List U}{vs:List V}{u x:U}{v:V}
section
variable {X:Cx}{T:Tbl}{A:Adr}
def Qnz{j:Int}:decide (V.int i=V.int j)=decide (i=j):=by
 by_cases e:i=j
 ·subst e;simp
 ·have:¬V.int i=V.int j:=λq=>e (V.int.inj q);rw[Xq this,Xq e]
def Qny{x y:List Nat}:decide (V.str ⟨x.toArray⟩=V.str ⟨y.toArray⟩)=decide (x=y):=by
 by_cases e:x=y
 ·subst e;simp
 ·have:¬V.str ⟨x.toArray⟩=V.str ⟨y.toArray⟩:=λq=>e (by
   have q1:=V.str.inj q;have q2:=congrArg (λs:Str=>s.cps.toList) q1
   simpa using q2)
  rw[Xq this,Xq e]
def QnA{x y:Bool}:decide (V.bl x=V.bl y)=decide (x=y):=by cases x<;>cases y<;>rfl
def QgC{w:U}{y:V}{c:Bool}(h:eqS u w=some c)(ru:RU A α u v)(rw':RU A α w y):Qml v y=true/\decide (v=y)=c:=by
 cases u with
 |non=>
  cases(show v=_ from ru)
  cases w with
  |non=>cases(show y=_ from rw');cases h;exact⟨rfl,rfl⟩
  |bl b=>cases(show y=_ from rw');cases h;exact⟨rfl,rfl⟩
  |int j n=>obtain⟨_,rfl,_⟩:=rw';cases h;exact⟨rfl,rfl⟩
  |str x=>cases(show y=_ from rw');cases h;exact⟨rfl,rfl⟩
  |_=>exact Znn h
 |bl b=>
  cases(show v=_ from ru)
  cases w with
  |non=>cases(show y=_ from rw');cases h;exact⟨rfl,rfl⟩
  |bl b=>cases(show y=_ from rw');cases h;exact⟨rfl,QnA⟩
  |str x=>cases(show y=_ from rw');cases h;exact⟨rfl,rfl⟩
  |_=>exact Znn h
 |str x=>
  cases(show v=_ from ru)
  cases w with
  |non=>cases(show y=_ from rw');cases h;exact⟨rfl,rfl⟩
  |bl b=>cases(show y=_ from rw');cases h;exact⟨rfl,rfl⟩
  |int j n=>obtain⟨_,rfl,_⟩:=rw';cases h;exact⟨rfl,rfl⟩
  |str z=>cases(show y=_ from rw');cases h;exact⟨rfl,Qny⟩
  |_=>exact Znn h
 |int i m=>
  obtain⟨i',rfl,a⟩:=ru
  cases w with
  |non=>cases(show y=_ from rw');cases m<;>cases h<;>exact⟨rfl,rfl⟩
  |str x=>cases(show y=_ from rw');cases m<;>cases h<;>exact⟨rfl,rfl⟩
  |int j n=>
   obtain⟨j',rfl,b⟩:=rw'
   cases m with
   |succ m=>exact Znn h
   |zero=>
    cases n with
    |succ n=>exact Znn h
    |zero=>cases a.exact;cases b.exact;cases h;exact⟨rfl,Qnz⟩
  |_=>cases m<;>exact Znn h
 |_=>cases w<;>exact Znn h
def Qbe(h:YS x=true)(r:RU A α x v):YR v=true:=by
 cases x with
 |non=>cases(show v=_ from r);rfl
 |int i m=>obtain⟨_,rfl,_⟩:=r;rfl
 |str z=>cases(show v=_ from r);rfl
 |_=>cases h
def Qk3{y:U}{w:V}(hx:YS x=true)(hy:YS y=true)(rx:RU A α x v)(ry:RU A α y w):eqV w v=eqF y x:=by
 cases y with
 |non=>
  cases(show w=_ from ry)
  cases x with
  |non=>cases(show v=_ from rx);rfl
  |int i m=>obtain⟨_,rfl,_⟩:=rx;rfl
  |str z=>cases(show v=_ from rx);rfl
  |_=>cases hx
 |str z=>
  cases(show w=_ from ry)
  cases x with
  |non=>cases(show v=_ from rx);rfl
  |int i m=>obtain⟨_,rfl,_⟩:=rx;rfl
  |str z'=>
   cases(show v=_ from rx);show(({cps:=z.toArray}:Str)=={cps:=z'.toArray})=decide (z=z');by_cases e:z=z'
   ·subst e;simp
   ·rw[Xq e,Wm];intro q;have q2:=congrArg (λs:Str=>s.cps.toList) q
    exact e (by simpa using q2)
  |_=>cases hx
 |int j n=>
  obtain⟨j',rfl,b⟩:=ry
  cases n with
  |succ n=>cases hy
  |zero=>
   cases b.exact
   cases x with
   |non=>cases(show v=_ from rx);rfl
   |str z=>cases(show v=_ from rx);rfl
   |int i m=>
    obtain⟨i',rfl,a⟩:=rx
    cases m with
    |succ m=>cases hx
    |zero=>
     cases a.exact;show(j==i)=decide (j=i);by_cases e:j=i<;>simp[e]
   |_=>cases hx
 |_=>cases hy
theorem Qd1{α:List Addr}{x:U}{v:V}(hx:YS x=true)(rx:RU A α x v):∀{ys:List U} {ws:List V},RUs A α ys ws->ys.all YS=true->ws.all YR=true/\inV v ws=ys.any λy=>eqF y x
 |_,_,.nil,_=>⟨rfl,rfl⟩
 |_,_,.cons (a:=y) (b:=w) r t,h=>by
  rw[Uk,Xk]at h;obtain⟨h1,h2⟩:=Qd1 hx rx t h.2
  refine⟨by rw[Uk,h1,Qbe h.1 r];rfl,?_⟩
  show(eqV w v||inV v _)=(eqF y x||_);rw[h2,Qk3 hx h.1 rx r]
def Qkl{f:Value->Value->Sem Value}{r r':R2}(h:OpR X f r)(h':OpR X f r'):OpR X f (λx y H Q=>r x y H Q\/r' x y H Q):=λpins s Y H x y v u Q I rx ry q=>q.elim (h pins s Y H x y v u Q I rx ry) (h' pins s Y H x y v u Q I rx ry)
def QoP(X:Cx)(T:Tbl)(A:Adr)(o:CmpOp):Prop:=∃r,OpR X (compareOp o) r/\∀{α:List Addr} {u w:U} {hs:Hs} {v y:V} {H:Hp} {Q:VK} {c:Bool},YH T o u w hs=some c->RU A α u v->RU A α w y->Rep T A X.K α hs H->Q (.bl c) H->r v y H Q
def QbV{o:CmpOp}{p:Int->Int->Bool}(ho:OpR X (compareOp o) (rI0 λi j=>.bl (p i j)))(hc:∀u w hs,YH T o u w hs=match u,w with|.int i 0,.int j 0=>some (p i j)|_,_=>none):QoP X T A o:=by
 refine⟨_,ho,?_⟩;intro α u w hs v y H Q c h ru rw' R q;rw[hc]at h;split at h
 ·cases h;obtain⟨i',rfl,a⟩:=ru;obtain⟨j',rfl,b⟩:=rw';cases a.exact;cases b.exact;exact⟨_,_,rfl,rfl,q⟩
 ·cases h
def Qi(r:RUs A α (u::us) vs):∃v ws,vs=v::ws/\RU A α u v/\RUs A α us ws:=by cases r with|cons a b=>exact⟨_,_,rfl,a,b⟩
def Qo(r:RUs A α [] vs):vs=[]:=by cases r;rfl
theorem QbQ{α:List Addr}:∀{ys:List U} {ns:List Int} {vs:List V},Z4 ys=some ns->RUs A α ys vs->vs=ns.map V.int
 |[],_,_,h,r=>by cases h;cases Qo r;rfl
 |u::ys,ns,vs,h,r=>by
  cases u with
  |int i m=>
   cases m with
   |succ m=>simp[Z4]at h
   |zero=>
    simp only[Z4,Xd]at h;obtain⟨ns',h,rfl⟩:=h;obtain⟨v,ws,rfl,ru,rn⟩:=Qi r;obtain⟨j,rfl,c⟩:=ru;cases c.exact;rw[QbQ h rn];rfl
  |_=>simp[Z4]at h
def QkP{k:List Int}(R:Rep T A X.K α hs H)(r:RU A α u v)(h:itU hs u=some k):k≠[]/\∃b,v=.ref b/\SqT X.K H b (k.map V.int):=by
 unfold itU at h;split at h
 case h_2=>cases h
 obtain⟨a,ha,rfl⟩:=r;split at h
 case h_2=>cases h
 rename_i k0 ks e;obtain⟨vs,q,rr⟩:=R.h.ob _ a _ ha e;have hl:=rr.length;cases QbQ h rr;refine⟨λz=>?_,a,rfl,SqT.of q⟩;subst z;simp at hl
theorem QdW{hs:Hs}{H:Hp}(R:Rep T A X.K α hs H):∀{xs:List U} {ys:List V} {ks:List (List Int)},RUs A α xs ys->Qib hs xs=some ks->Qlx X.K H ys ks
 |[],ys,ks,rr,h=>by
  cases h;cases rr
  exact⟨rfl,λi y k e=>by simp at e⟩
 |u::us,ys,ks,rr,h=>by
  simp only[Qib,Xc,Xd]at h;obtain⟨k,hk,ks',hks,rfl⟩:=h;obtain⟨v,ws,rfl,ru,rn⟩:=Qi rr;obtain⟨l,f⟩:=QdW R rn hks
  refine⟨by simp[l],λi y k' e1 e2=>?_⟩
  cases i with
  |zero=>
   simp at e1 e2;subst e1 e2;exact QkP R ru hk
  |succ i=>exact f i y k' (by simpa using e1) (by simpa using e2)
def QpO(tx:Txt T A X.K X.mg)(tab:JO X.prog X.w T A X.K)(hu:X.A.units+64<cLine)(o:CmpOp):QoP X T A o:=by
 cases o with
 |Eq=>
  refine⟨_,OpR.or QmN (OpR.or (Qks tx hu) (Qkr tx hu)),?_⟩;intro α u w hs v y H Q c h ru rw' R q;simp only[YH,eqA]at h;split at h
  ·rename_i b e;cases h;obtain⟨h1,h2⟩:=QgC e ru rw'
   exact .inl ⟨h1,by rw[h2];exact q⟩
  ·split at h
   ·rename_i c;cases h;exact .inr (.inl ⟨α,u,w,hs,ru,rw',R,c,q⟩)
   ·split at h
    ·rename_i c;cases h;exact .inr (.inr ⟨α,u,w,hs,ru,rw',R,c,q⟩)
    ·cases h
 |NotEq=>
  refine⟨_,OpR.or QmI (OpR.or (Qkn tx hu) (Qkm tx hu)),?_⟩;intro α u w hs v y H Q c h ru rw' R q;simp only[YH,Xd,eqA]at h;obtain⟨d,h,e⟩:=h;split at h
  ·rename_i b eb;cases h;obtain⟨h1,h2⟩:=QgC eb ru rw'
   exact .inl ⟨h1,by rw[h2,e];exact q⟩
  ·split at h
   ·rename_i cc;cases h;refine .inr (.inl ⟨α,u,w,hs,ru,rw',R,cc,?_⟩);rw[show(true:Bool)=c from e];exact q
   ·split at h
    ·rename_i cc;cases h;refine .inr (.inr ⟨α,u,w,hs,ru,rw',R,cc,?_⟩);rw[show(false:Bool)=c from e];exact q
    ·cases h
 |Lt=>exact QbV QmJ λz z z=>rfl
 |LtE=>exact QbV QmK λz z z=>rfl
 |Gt=>exact QbV QmL λz z z=>rfl
 |GtE=>exact QbV QmM λz z z=>rfl
 |Is=>
  refine⟨_,Qkp,?_⟩;intro α u w hs v y H Q c h ru rw' R q;simp only[YH]at h;split at h
  ·cases h;refine⟨rw',?_⟩
   have e:decide (v=.non)=decide (u=.non):=by
    cases u with
    |non=>cases(show v=_ from ru);rfl
    |bl b=>cases(show v=_ from ru);rfl
    |int i m=>obtain⟨_,rfl,_⟩:=ru;rfl
    |str x=>cases(show v=_ from ru);rfl
    |ref n=>obtain⟨_,_,rfl⟩:=ru;rfl
    |con k=>cases(show v=_ from ru);rfl
    |scr=>cases(show v=_ from ru);rfl
   rw[e];exact q
  ·cases h
 |IsNot=>
  refine⟨_,QhL,?_⟩;intro α u w hs v y H Q c h ru rw' R q;simp only[YH]at h;split at h
  ·cases h;refine⟨rw',?_⟩
   have e:decide (v=.non)=decide (u=.non):=by
    cases u with
    |non=>cases(show v=_ from ru);rfl
    |bl b=>cases(show v=_ from ru);rfl
    |int i m=>obtain⟨_,rfl,_⟩:=ru;rfl
    |str x=>cases(show v=_ from ru);rfl
    |ref n=>obtain⟨_,_,rfl⟩:=ru;rfl
    |con k=>cases(show v=_ from ru);rfl
    |scr=>cases(show v=_ from ru);rfl
   rw[e];exact q
  ·cases h
 |In=>
  refine⟨_,Qkl Qdy (Qkq (by omega)),?_⟩
  intro α u w hs v y H Q c h ru rw' R q;simp only[YH]at h;split at h
  ·rename_i xs e;obtain⟨a,vs,rfl,rr,sq⟩:=ZO (K':=X.K) tx R e rw';unfold inU at h;split at h
   ·rename_i f;cases h;rw[Xk]at f;obtain⟨h1,h2⟩:=Qd1 f.1 ru rr f.2
    exact .inl ⟨a,vs,rfl,sq,Qbe f.1 ru,h1,by rw[h2];exact q⟩
   ·cases h
  ·exact .inr (Qgv (neg:=false) R h ru rw' q)
 |NotIn=>
  refine⟨_,Qkl Qaf (Qdx (by omega)),?_⟩
  intro α u w hs v y H Q c h ru rw' R q;simp only[YH]at h;split at h
  ·rename_i xs e;obtain⟨a,vs,rfl,rr,sq⟩:=ZO (K':=X.K) tx R e rw';simp only[Xd]at h;obtain⟨d,h,e2⟩:=h;unfold inU at h;split at h
   ·rename_i f;cases h;rw[Xk]at f;obtain⟨h1,h2⟩:=Qd1 f.1 ru rr f.2
    exact .inl ⟨a,vs,rfl,sq,Qbe f.1 ru,h1,by rw[h2];simp only[Wa];rw[e2];exact q⟩
   ·cases h
  ·simp only[Xd]at h;obtain⟨d,h,e2⟩:=h
   have q':Q (.bl (if true=true then !d else d)) H:=by simp only[Wa];rw[e2];exact q
   exact .inr (Qgv (neg:=true) R h ru rw' q')
def Qlo(r:RUs A α us vs)(h:atU us i=some u):∃v,atI vs i=some v/\RU A α u v:=by
 unfold atU at h;split at h
 ·rename_i j e;obtain⟨v,h1,h2⟩:=r.get h;refine⟨v,?_,h2⟩
  have e':ixN vs.length i=some j:=by rw[<-r.length];exact e
  unfold atI;rw[e'];exact h1
 ·cases h
def QnT{xs:List Nat}{c:Nat}(h:atU xs i=some c):atI xs i=some c:=by
 unfold atU at h;split at h
 ·rename_i j e;have e':ixN xs.length i=some j:=e;unfold atI;rw[e'];exact h
 ·cases h
def Qg0{w:U}{y:V}{Q:VK}(tx:Txt T A X.K X.mg)(h:ZZ T u w hs=some x)(ru:RU A α u v)(rw':RU A α w y)(R:Rep T A X.K α hs H)(k:∀z,RU A α x z->Q z H):rIx X.K v y H Q\/Qmx v y H Q:=by
 have seq:∀{xs:List U} {i:Int},Zp T u hs=some xs->w=.int i 0->atU xs i=some x->rIx X.K v y H Q\/Qmx v y H Q:=λ{xs i} e1 e2 e3=>by
  subst e2;obtain⟨j,rfl,c⟩:=rw';cases c.exact;obtain⟨a,vs,rfl,rr,sq⟩:=ZO (K':=X.K) tx R e1 ru;obtain⟨z,h1,h2⟩:=Qlo rr e3
  rcases sq with sq|sq
  ·exact .inl (.inl ⟨a,vs,i,z,rfl,rfl,sq,h1,k z h2⟩)
  ·exact .inl (.inr (.inl ⟨a,vs,i,z,rfl,rfl,sq,h1,k z h2⟩))
 cases u with
 |str z=>
  cases w with
  |int i m=>
   cases m with
   |succ m=>simp[ZZ,Zp]at h
   |zero=>
    simp only[ZZ]at h;split at h
    ·rename_i l;simp only[Xd]at h;obtain⟨c,e,rfl⟩:=h;cases(show v=_ from ru);obtain⟨j,rfl,q⟩:=rw';cases q.exact
     exact .inl (.inr (.inr ⟨_,i,c,rfl,rfl,by rw[Yu];exact X6 l big,by simpa using QnT e,k _ (by show _=_;rfl)⟩))
    ·cases h
  |_=>simp[ZZ,Zp]at h
 |ref n=>
  simp only[ZZ]at h;split at h
  ·rename_i xs i e
   exact seq (by simp only[Zp,e]) rfl h
  ·rename_i xs i e
   exact seq (by simp only[Zp,e]) rfl h
  ·rename_i o e _ _;obtain⟨a,ha,rfl⟩:=ru;simp only[Xc,id_eq]at h;obtain⟨r,h1,h2⟩:=h
   rcases Qbj R e ha h1 rw' with⟨h3,_⟩|⟨u',v',h3,g,rv⟩
   ·rw[h3]at h2;cases h2
   ·rw[h3]at h2;cases h2;exact .inr ⟨a,v',rfl,g,k v' rv⟩
  ·cases h
 |con n=>
  cases w with
  |int i m=>
   cases m with
   |succ m=>simp[ZZ]at h
   |zero=>
    simp only[ZZ]at h;split at h
    ·rename_i xs e;exact seq e rfl h
    ·cases h
  |_=>simp[ZZ]at h
 |scr=>
  cases w with
  |int i m=>
   cases m with
   |succ m=>simp[ZZ]at h
   |zero=>
    simp only[ZZ]at h;split at h
    ·rename_i xs e;exact seq e rfl h
    ·cases h
  |_=>simp[ZZ]at h
 |_=>
  cases w with
  |int i m=>cases m<;>simp[ZZ,Zp]at h
  |_=>simp[ZZ]at h
theorem RUs.drop(n:Nat)(h:RUs A α us vs):RUs A α (us.drop n) (vs.drop n):=Qdl h n
theorem RUs.take(n:Nat)(h:RUs A α us vs):RUs A α (us.take n) (vs.take n):=Qdk h n
def QbU(n d:Nat)(o:Option Int):Qef n d o=HT.sIx n d o:=by cases o<;>rfl
def RUs.cut(r:RUs A α us vs)(lo hi:Option Int):RUs A α (Qcv us lo hi) (QiO vs lo hi):=by
 unfold Qcv QiO;rw[QbU,QbU,r.length];exact RUs.take _ (RUs.drop _ r)
def Qjy{hs':Hs}{Q:VK}{lo hi:Option Int}(h:slU T u lo hi hs=some (x,hs'))(ru:RU A α u v)(R:Rep T A X.K α hs H)(k:∀α' z H',Ext α α' H H'->Rep T A X.K α' hs' H'->RU A α' x z->Q z H'):Qor X.K v lo hi H Q:=by
 cases u with
 |scr=>
  simp only[slU]at h;cases h;obtain⟨vs,rr,q⟩:=R.s.sq (α:=α);refine⟨_,vs,ru,q,λp hp=>?_⟩;obtain⟨R',E'⟩:=R.new (o:=.lst (Qcv T.scr lo hi)) hp ⟨_,Qf,RUs.mono Qw (rr.cut lo hi)⟩
  exact k _ _ _ E' R' ⟨p,by rw[<-R.h.len];exact QD,rfl⟩
 |ref n=>
  simp only[slU]at h;split at h
  ·rename_i xs e;cases h;obtain⟨a,ha,rfl⟩:=ru;obtain⟨vs,q,rr⟩:=R.h.ob n a _ ha e;refine⟨_,vs,rfl,SqL.of q,λp hp=>?_⟩;obtain⟨R',E'⟩:=R.new (o:=.lst (Qcv xs lo hi)) hp ⟨_,Qf,RUs.mono Qw (rr.cut lo hi)⟩
   exact k _ _ _ E' R' ⟨p,by rw[<-R.h.len];exact QD,rfl⟩
  ·cases h
 |_=>simp[slU]at h
end
end
section
variable {hs:Hs}{α:List Addr}{us:List U}{u:U}{v:V}
section
variable {X:Cx}{T:Tbl}{A:Adr}
def ZU{e:Expr}{t:TE}(h:∀Y H Q,¬t Y H Q):PE X e t:=λz z Y H Q z q=>(h Y H Q q).elim
def Qm2(K:W.Frag){k t:Ty}{b:Bool}(h:Qm8 k t=some b)(A:Adr):W.kitOne K (tyW A k) (tyW A t)=some b:=by
 cases k<;>cases t<;>simp only[Qm8]at h<;>first|(cases h;done)|(cases h;rfl)|(cases h;kernel_rfl)
def Qh5{H:Hp}{k:Ty}(tx:Txt T A X.K X.mg)(h:Qbb u hs=some k)(r:RU A α u v)(R:Rep T A X.K α hs H):TyE X.K H v (tyW A k):=by
 cases u with
 |non=>cases h;cases(show v=_ from r);exact .inl .non
 |bl b=>cases h;cases(show v=_ from r);exact .inl (.bl b)
 |int i m=>cases h;obtain⟨j,rfl,_⟩:=r;exact .inl (.int j)
 |str x=>cases h;cases(show v=_ from r);exact .inl (.str _)
 |ref n=>
  obtain⟨a,ha,rfl⟩:=r;simp only[Qbb]at h;split at h
  ·rename_i xs e;cases h;obtain⟨vs,q,_⟩:=R.h.ob n a _ ha e;exact .inl (.lst q)
  ·rename_i xs e;cases h;obtain⟨vs,q,_⟩:=R.h.ob n a _ ha e;exact .inl (.tup q)
  ·rename_i c fs e;cases h;obtain⟨dx,fv,q,_,l⟩:=R.h.ob n a _ ha e;exact .inl ((tx.cl c _ (Xj l)).ty H a dx fv q)
  ·cases h
 |_=>simp[Qbb]at h
def QkQ{H:Hp}{t:Ty}{b:Bool}(tx:Txt T A X.K X.mg)(h:QbP T t u hs=some b)(r:RU A α u v)(R:Rep T A X.K α hs H):∃tv,TyE X.K H v tv/\W.kitOne X.K tv (tyW A t)=some b:=by
 unfold QbP at h;split at h
 ·cases h
 ·rename_i k e;refine⟨tyW A k,Qh5 tx e r R,?_⟩;split at h
  ·rename_i b' e';cases h;exact Qm2 X.K e' A
  ·exact tx.isi k t b h
def BiS(X:Cx)(T:Tbl)(A:Adr)(b:Bi)(f:Value):Prop:=∃r,CallR X f r/\∀{α:List Addr} {us:List U} {u':U} {hs hs':Hs} {vs:List V} {H:Hp} {Q:VK},biU T b us hs=some (u',hs')->RUs A α us vs->Rep T A X.K α hs H ->
 (∀α' v' H',Ext α α' H H'->Rep T A X.K α' hs' H'->RU A α' u' v'->Q v' H')->r vs H Q
def QgI{f:Value}:CallR X f (λz z z=>False):=λpins s Y H xs us Q I r h=>h.elim
def Qiy(tx:Txt T A X.K X.mg):BiS X T A .len (.builtin "len"):=by
 refine⟨_,CallR.or (CallR.or QaE QaD) QgI,?_⟩;intro α us u' hs hs' vs H Q h r R k
 have seq:∀{u:U} {xs:List U},us=[u]->Zp T u hs=some xs->(u',hs')=(U.int xs.length 0,hs)->(∃p ys,vs=[V.ref p]/\(SqL X.K H p ys\/SqT X.K H p ys)/\Q (.int ys.length) H):=λ{u xs} e1 e2 e3=>by
  subst e1;cases e3;obtain⟨v,ws,rfl,ru,rn⟩:=Qi r;cases Qo rn;obtain⟨a,ys,rfl,rr,sq⟩:=ZO (K':=X.K) tx R e2 ru
  exact⟨a,ys,rfl,sq,k α _ H Ext.refl R ⟨_,rfl,by rw[rr.length];exact Cg.refl _ _⟩⟩
 cases us with
 |nil=>first|exact Znn h|simp[biU]at h
 |cons u t=>
  cases t with
  |cons _ _=>cases u<;>first|exact Znn h|simp[biU]at h
  |nil=>
   cases u with
   |str x=>
    unfold biU at h;try dsimp only at h;split at h
    ·rename_i l;cases h;obtain⟨v,ws,rfl,ru,rn⟩:=Qi r;cases Qo rn;cases(show v=_ from ru)
     refine .inl (.inr ⟨_,rfl,by rw[Yu];exact X6 l big,k α _ H Ext.refl R ⟨_,rfl,?_⟩⟩)
     rw[Yu];exact Cg.refl _ _
    ·cases h
   |ref n=>
    unfold biU at h;try dsimp only at h;split at h
    ·rename_i xs e;exact .inl (.inl (seq rfl e (X3 h).symm))
    ·cases h
   |con n=>
    unfold biU at h;try dsimp only at h;split at h
    ·rename_i xs e;exact .inl (.inl (seq rfl e (X3 h).symm))
    ·cases h
   |scr=>
    unfold biU at h;try dsimp only at h;split at h
    ·rename_i xs e;exact .inl (.inl (seq rfl e (X3 h).symm))
    ·cases h
   |_=>unfold biU at h;simp[Zp]at h
def Qev:BiS X T A .tuple (.type "tuple"):=by
 refine⟨_,JK,?_⟩;intro α us u' hs hs' vs H Q h r R k
 cases us with
 |nil=>first|exact Znn h|simp[biU]at h
 |cons u t=>
  cases t with
  |cons _ _=>cases u<;>first|exact Znn h|simp[biU]at h
  |nil=>
   obtain⟨v,ws,rfl,ru,rn⟩:=Qi r;cases Qo rn
   cases u with
   |ref n=>
    obtain⟨a,ha,rfl⟩:=ru;unfold biU at h;try dsimp only at h;split at h
    ·rename_i xs e;cases h;obtain⟨ys,q,rr⟩:=R.h.ob n a _ ha e;refine⟨a,ys,rfl,.inl ⟨SqL.of q,λp hp=>?_⟩⟩;obtain⟨R',E'⟩:=R.new (o:=.tup xs) hp ⟨_,Qf,RUs.mono Qw rr⟩
     exact k _ _ _ E' R' ⟨p,by rw[<-R.h.len];exact QD,rfl⟩
    ·rename_i xs e;cases h;obtain⟨ys,q,rr⟩:=R.h.ob n a _ ha e;exact⟨a,ys,rfl,.inr ⟨SqT.of q,k α _ H Ext.refl R ⟨a,ha,rfl⟩⟩⟩
    ·cases h
   |_=>first|exact Znn h|simp[biU]at h
def Qms{k:Key}(h:RK u k):RU A α u (kV k):=by
 cases u<;>simp only[RK]at h<;>first|exact h.elim|skip
 ·obtain⟨rfl,rfl⟩:=h;exact⟨_,rfl,Cg.refl _ _⟩
 ·subst h;rfl
def QfW(tx:Txt T A X.K X.mg)(hc:X.calm=true):BiS X T A .list (.type "list"):=by
 refine⟨_,CallR.or QaC QgI,?_⟩;intro α us u' hs hs' vs H Q h r R k
 cases us with
 |nil=>first|exact Znn h|simp[biU]at h
 |cons u t=>
  cases t with
  |cons _ _=>cases u<;>first|exact Znn h|simp[biU]at h
  |nil=>
   obtain⟨v,ws,rfl,ru,rn⟩:=Qi r;cases Qo rn
   have h:(match Zp T u hs with
    |some xs=>some (U.ref hs.length,hs++[O.lst xs])
    |none=>none)=some (u',hs'):=by
    cases u<;>exact h
   split at h
   ·rename_i xs e;cases h;obtain⟨a,ys,rfl,rr,sq⟩:=ZO (K':=X.K) tx R e ru;refine .inl ⟨a,ys,rfl,sq,λp hp=>?_⟩;obtain⟨R',E'⟩:=R.new (o:=.lst xs) hp ⟨_,Qf,RUs.mono Qw rr⟩
    exact k _ _ _ E' R' ⟨p,by rw[<-R.h.len];exact QD,rfl⟩
   ·cases h
theorem Yy{α:List Addr}:∀{ys:List U} {bs:List Bool} {vs:List V},ZY ys=some bs->RUs A α ys vs->vs=bs.map V.bl
 |[],_,_,h,r=>by cases h;cases Qo r;rfl
 |u::ys,bs,vs,h,r=>by
  cases u with
  |bl b=>
   simp only[ZY,Xd]at h;obtain⟨bs',h,rfl⟩:=h;obtain⟨v,ws,rfl,ru,rn⟩:=Qi r;cases(show v=_ from ru);rw[Yy h rn];rfl
  |_=>simp[ZY]at h
def Qiz(tx:Txt T A X.K X.mg)(hc:X.calm=true):BiS X T A .any (.builtin "any"):=by
 refine⟨_,Qel hc,?_⟩;intro α us u' hs hs' vs H Q h r R k;have h:biL T .any us hs=some (u',hs'):=h;unfold biL at h;split at h<;>try contradiction
 ·simp only[Xc,Xd]at h;obtain⟨xs,el,ns,en,h⟩:=h;cases h;obtain⟨v,ws,rfl,ru,rn⟩:=Qi r;cases Qo rn;obtain⟨a,vs,rfl,rr,sq⟩:=QK tx R el ru;cases Yy en rr;exact⟨a,ns,rfl,sq,k α _ H Ext.refl R rfl⟩
def QiA(tx:Txt T A X.K X.mg)(hc:X.calm=true):BiS X T A .all (.builtin "all"):=by
 refine⟨_,Qem hc,?_⟩;intro α us u' hs hs' vs H Q h r R k;have h:biL T .all us hs=some (u',hs'):=h;unfold biL at h;split at h<;>try contradiction
 ·simp only[Xc,Xd]at h;obtain⟨xs,el,ns,en,h⟩:=h;cases h;obtain⟨v,ws,rfl,ru,rn⟩:=Qi r;cases Qo rn;obtain⟨a,vs,rfl,rr,sq⟩:=QK tx R el ru;cases Yy en rr;exact⟨a,ns,rfl,sq,k α _ H Ext.refl R rfl⟩
def CallR.or{f:Value}{r1 r2:List V->Hp->VK->Prop}(h1:CallR X f r1)(h2:CallR X f r2):CallR X f (λxs H Q=>r1 xs H Q\/r2 xs H Q):=by
 intro pins s Y H xs us Q I r h
 rcases h with h|h
 ·exact h1 pins s Y H xs us Q I r h
 ·exact h2 pins s Y H xs us Q I r h
def Qbu{α':List Addr}{ks:List (List Int)}{xs:List U}{ys:List V}(rr:RUs A α' xs ys):RUs A α' (YL ks xs) (Z0 ks ys):=by
 unfold YL Z0;rw[rr.length];generalize permK ks ys.length=p
 induction p with
 |nil=>exact .nil
 |cons i p ih=>
  refine .cons ?_ ih
  cases e:xs[i]? with
  |none=>
   have e2:ys[i]?=none:=by
    rw[Wi]at e ⊢;rw[<-rr.length];exact e
   simp[List.getD,e,e2,RU]
  |some u=>
   obtain⟨v,hv,rv⟩:=rr.get e;simpa[List.getD,e,hv]using rv
theorem QkR{α:List Addr}:∀{kvs:List (U×U)} {kv:List (Key×V)} {ns:List Int},RD A α kvs kv->Z4 (kvs.map (·.1))=some ns->kv.map (·.1)=ns.map Sum.inl
 |[],_,_,.nil,h=>by cases h;rfl
 |p::kvs,q::kv,ns,.cons r t,h=>by
  obtain⟨u,w⟩:=p;rw[X0]at h;dsimp only at h
  cases u with
  |int i m=>
   obtain⟨rfl,e⟩:=r.1;simp only[Z4,Xd]at h;obtain⟨l,hl,rfl⟩:=h;rw[X0,X0,QkR t hl,e]
  |_=>exact nomatch (show none=some _ from h)
theorem QdZ{α:List Addr}:∀ns:List Int,RUs A α (ns.map λi=>U.int i 0) (ns.map V.int)
 |[]=>.nil
 |i::ns=>.cons ⟨i,rfl,Cg.refl _ _⟩ (QdZ ns)
def QcE(hh:X.calm=true)(tx:Txt T A X.K X.mg):BiS X T A .sorted (.builtin "sorted"):=by
 refine⟨_,CallR.or Qcy (Qcz hh),?_⟩;intro α us u' hs hs' vs H Q h r R k;have h:biL T .sorted us hs=some (u',hs'):=h
 obtain⟨u,rfl⟩:∃u,us=[u]:=by
  match us,h with
  |[],h=>exact Znn h
  |_::_::_,h=>exact Znn h
  |[u],_=>exact⟨u,rfl⟩
 simp only[biL]at h;split at h
 case h_2=>
  simp only[Xc]at h;obtain⟨ns,hd,h⟩:=h;rw[W9]at h;obtain⟨h64,h⟩:=h;cases h;obtain⟨v,ws,rfl,ru,rn⟩:=Qi r;cases Qo rn;unfold Qnw at hd;split at hd
  case h_2=>cases hd
  split at hd
  case h_2=>cases hd
  rename_i p _ _ kvs hp;obtain⟨a,ha,rfl⟩:=ru;obtain⟨kv,ez,rd⟩:=R.h.ob p a _ ha hp;refine .inr ⟨a,kv,ns,rfl,ez,QkR rd hd,h64,λp hp=>?_⟩;obtain⟨R2,E2⟩:=R.new (p:=p) (o:=.lst (YL (ns.map λi=>[i]) (ns.map λi=>.int i 0))) (ho:=.lst (Z0 (ns.map λi=>[i]) (ns.map V.int))) hp ⟨_,Qf,RUs.mono Qw (Qbu (QdZ ns))⟩
  exact k _ _ _ E2 R2 ⟨p,by rw[<-R.h.len];exact QD,rfl⟩
 rename_i xs el;split at h
 case isFalse=>cases h
 rename_i h64;simp only[Xd]at h;obtain⟨ks,hk,h⟩:=h;cases h;obtain⟨v,ws,rfl,ru,rn⟩:=Qi r;cases Qo rn;obtain⟨a,ys,rfl,rr,sq⟩:=QK tx R el ru;have hl:=rr.length
 refine .inl ⟨a,ys,ks,rfl,sq,by omega,λh2=>?_,λp hp=>?_⟩
 ·rw[if_neg (by omega)]at hk
  exact QdW R rr hk
 ·obtain⟨R2,E2⟩:=R.new (p:=p) (o:=.lst (YL ks xs)) (ho:=.lst (Z0 ks ys)) hp ⟨_,Qf,RUs.mono Qw (Qbu rr)⟩
  exact k _ _ _ E2 R2 ⟨p,by rw[<-R.h.len];exact QD,rfl⟩
theorem Qdi{α:List Addr}{hs:Hs}{H:Hp}(R:Rep T A X.K α hs H):∀{us:List U} {kvs:List (U×U)} {zs:List V},Qhq hs us=some kvs->RUs A α us zs->∃kv,RD A α kvs kv/\Paired (λ(v:V) (p:Key×V)=>∃t,v=.ref t/\H t=some (.tup [kV p.1,p.2])) zs kv
 |[],_,_,h,.nil=>by cases h;exact⟨[],.nil,.nil⟩
 |u::r,kvs,z::zs,h,.cons ru rr=>by
  cases u with
  |ref p=>
   simp only[Qhq]at h;split at h
   ·rename_i k v hp;split at h
    ·rename_i hk;obtain⟨l,hl,rfl⟩:=Xd.mp h;obtain⟨kv,q1,q2⟩:=Qdi R hl rr;obtain⟨a,ha,rfl⟩:=ru;obtain⟨vs,ez,rz⟩:=R.h.ob p a _ ha hp;obtain⟨y1,ws,rfl,s1,rz⟩:=Qi rz;obtain⟨y2,ws,rfl,s2,rz⟩:=Qi rz;cases Qo rz;obtain⟨kk,rk,rfl⟩:=QbK hk s1;exact⟨(kk,y2)::kv,.cons ⟨rk,s2⟩ q1,.cons ⟨a,rfl,ez⟩ q2⟩
    ·cases h
   ·cases h
  |_=>exact nomatch (show none=some _ from h)
def Qew(hh:X.calm=true):BiS X T A .dictS (.type "dict"):=by
 refine⟨_,QcA hh,?_⟩;intro α us u' hs hs' vs H Q h r R k;have h:biL T .dictS us hs=some (u',hs'):=h
 obtain⟨u,rfl⟩:∃u,us=[u]:=by
  match us,h with
  |[],h=>exact Znn h
  |_::_::_,h=>exact Znn h
  |[u],_=>exact⟨u,rfl⟩
 have h:Option.bind (Qfp u hs) _=some (u',hs'):=h;simp only[Xc,Xd]at h;obtain⟨xs,el,kvs,hk,h⟩:=h;cases h;obtain⟨v,ws,rfl,ru,rn⟩:=Qi r;cases Qo rn
 cases u with
 |ref p=>
  simp only[Qfp]at el;split at el
  ·rename_i ys hp;cases el;obtain⟨a,ha,rfl⟩:=ru;obtain⟨zs,ez,rz⟩:=R.h.ob p a _ ha hp;obtain⟨kv,q1,q2⟩:=Qdi R hk rz;refine⟨a,zs,kv,rfl,ez,q2,λd hd=>?_⟩;obtain⟨R2,E2⟩:=R.new (p:=d) (o:=.dic (Ym [] kvs)) (ho:=.dK (Q3 [] kv)) hd ⟨_,Qf,RD.mono Qw (RG.merge Qau q1 .nil)⟩
   exact k _ _ _ E2 R2 ⟨d,by rw[<-R.h.len];exact QD,rfl⟩
  ·cases el
 |_=>exact nomatch (show none=some _ from el)
def BmS(X:Cx)(T:Tbl)(A:Adr)(b:Bm)(id:String):Prop:=∃r,MtR X id r/\∀{α:List Addr} {o u':U} {us:List U} {hs hs':Hs} {x:V} {vs:List V} {H:Hp} {Q:VK},bmU T b o us hs=some (u',hs')->RU A α o x->RUs A α us vs->Rep T A X.K α hs H ->
 (∀α' v' H',Ext α α' H H'->Rep T A X.K α' hs' H'->RU A α' u' v'->Q v' H')->r x vs H Q
def Qes{b:Bm}{o u':U}{hs':Hs}(h:bmU T b o us hs=some (u',hs'))(hb:∀x,bmS T b x us hs=none)(hd:∀n kvs,bmD b n kvs us hs=none):∃n xs,o=.ref n/\hs[n]?=some (.lst xs):=by
 cases o with
 |ref n=>
  simp only[bmU]at h;split at h
  ·rename_i xs e;exact⟨n,xs,rfl,e⟩
  ·rw[hd]at h;cases h
  ·cases h
 |str x=>
  simp only[bmU]at h;rw[hb]at h;cases h
 |_=>simp[bmU]at h
def QcD:BmS X T A .append "list.append":=by
 refine⟨_,Qai,?_⟩;intro α o u' us hs hs' x vs H Q h ro r R k;obtain⟨n,xs,rfl,e⟩:=Qes h (λz=>rfl) (λz z=>rfl);obtain⟨a,ha,rfl⟩:=ro
 cases us with
 |nil=>simp[bmU,bmL,e]at h
 |cons u t=>
  cases t with
  |cons _ _=>simp[bmU,bmL,e]at h
  |nil=>
   simp only[bmU,bmL,e]at h;split at h
   ·rename_i l;cases h;obtain⟨v,ws,rfl,ru,rn⟩:=Qi r;cases Qo rn;obtain⟨ys,q,rr⟩:=R.h.ob n a _ ha e;refine⟨a,ys,v,rfl,rfl,q,?_,?_⟩
    ·rw[<-rr.length];exact Xs l big
    ·obtain⟨R',E'⟩:=R.put (o:=.lst (xs++[u])) ha ⟨_,Qf,rr.append (.cons ru .nil)⟩;exact k _ _ _ E' R' rfl
   ·cases h
theorem RUs.dropLast{vs:List V}(r:RUs A α us vs):RUs A α us.dropLast vs.dropLast:=by
 rw[List.dropLast_eq_take,List.dropLast_eq_take,r.length];exact RUs.take _ r
theorem RUs.reverse{vs:List V}(h:RUs A α us vs):RUs A α us.reverse vs.reverse:=Qgk h
def Qiv:BmS X T A .pop "list.pop":=by
 refine⟨_,Qkz,?_⟩;intro α o u' us hs hs' x vs H Q h ro r R k;obtain⟨n,xs,rfl,e⟩:=Qes h (λz=>rfl) (λz z=>rfl);obtain⟨a,ha,rfl⟩:=ro
 cases us with
 |cons u t=>simp[bmU,bmL,e]at h
 |nil=>
  simp only[bmU,bmL,e]at h;split at h
  ·rename_i y l;cases h;cases Qo r;obtain⟨ys,q,rr⟩:=R.h.ob n a _ ha e;obtain⟨v,hv,rv⟩:=rr.get l
   refine⟨a,ys,v,rfl,rfl,q,by rw[<-rr.length];exact hv,?_⟩
   obtain⟨R',E'⟩:=R.put (o:=.lst xs.dropLast) ha ⟨_,Qf,rr.dropLast⟩;exact k _ _ _ E' R' rv
  ·cases h
def RK.eq{w:U}{a b:Key}(h:RK u a)(h':RK w b):u=w↔a=b:=by
 cases u with
 |int i m=>
  obtain⟨rfl,rfl⟩:=h
  cases w with
  |int j n=>obtain⟨rfl,rfl⟩:=h';simp
  |str y=>cases(show b=_ from h');simp
  |_=>exact h'.elim
 |str x=>
  cases(show a=_ from h)
  cases w with
  |int j n=>obtain⟨rfl,rfl⟩:=h';simp
  |str y=>
   cases(show b=_ from h');constructor
   ·intro e;cases e;rfl
   ·intro e;have e1:=Sum.inr.inj e;have e2:=congrArg (λt:Str=>t.cps.toList) e1;simp only at e2;rw[e2]
  |_=>exact h'.elim
 |_=>exact h.elim
def Qh7(h:Qan u=true)(r:RU A α u v):∃k,RK u k/\v=kV k:=by
 cases u with
 |int i m=>
  cases m with
  |zero=>obtain⟨j,rfl,c⟩:=r;cases c.exact;exact⟨.inl i,⟨rfl,rfl⟩,rfl⟩
  |succ m=>cases h
 |str x=>cases(show v=_ from r);exact⟨.inr _,rfl,rfl⟩
 |_=>cases h
def QoN(A:Adr)(α:List Addr)(o:Option U)(v:Option V):Prop:=match o with
 |some x=>∃z,v=some z/\RU A α x z
 |none=>v=none
def Qfs{k:U}{k':Key}(hk:RK k k'){kvs:List (U×U)}{kv:List (Key×V)}(h:RD A α kvs kv):QoN A α (Qck kvs k) (ZM kv k'):=by
 unfold RD at h
 induction h with
 |nil=>rfl
 | @cons p q ps qs h t ih=>
  obtain⟨p1,p2⟩:=p;obtain⟨h1,h2⟩:=h;have e:=RK.eq h1 hk;show QoN A α (if p1=k then some p2 else Qck ps k) (ZM (q::qs) k');by_cases c:p1=k
  ·rw[if_pos c];exact⟨_,Z5 (e.mp c),h2⟩
  ·rw[if_neg c,Z6 λz=>c (e.mpr z)];exact ih
def QcC:BmS X T A .setdef "dict.setdefault":=by
 refine⟨_,QdN,?_⟩;intro α o u' us hs hs' x vs H Q h ro r R k
 cases o with
 |ref n=>
  simp only[bmU]at h;split at h
  ·simp[bmL]at h
  case h_3=>cases h
  rename_i kvs e;obtain⟨a,ha,rfl⟩:=ro;simp only[bmD]at h;split at h
  case h_2=>cases h
  rename_i ku u;split at h
  case isFalse=>cases h
  rename_i ck;obtain⟨vk,ws,rfl,rk,rn⟩:=Qi r;obtain⟨vy,ws,rfl,ry,rn⟩:=Qi rn;cases Qo rn;obtain⟨k',hk',rfl⟩:=Qh7 ck.1 rk;obtain⟨kv,q,rr⟩:=R.h.ob n a _ ha e;have lk:=Qfs hk' rr;split at h
  ·rename_i x' ex;cases h;rw[ex]at lk;obtain⟨z,ez,rz⟩:=lk;refine⟨a,k',vy,kv,rfl,rfl,q,?_,λz' ez'=>?_,λen=>?_⟩
   ·rw[<-Wj rr];exact Xs ck.2 big
   ·rw[ez]at ez';cases ez';exact k α _ H Ext.refl R rz
   ·rw[ez]at en;cases en
  ·rename_i ex;cases h;rw[ex]at lk;have lk:ZM kv k'=none:=lk;refine⟨a,k',vy,kv,rfl,rfl,q,?_,λz' ez'=>?_,λy=>?_⟩
   ·rw[<-Wj rr];exact Xs ck.2 big
   ·rw[lk]at ez';cases ez'
   ·obtain⟨R',E'⟩:=R.put (o:=.dic (kvs++[_])) ha ⟨_,Qf,Paired.snoc rr (show RK (Prod.fst (_,u')) (Prod.fst (k',vy))/\RU A α (Prod.snd (_,u')) (Prod.snd (k',vy))from⟨hk',ry⟩)⟩;exact k _ _ _ E' R' ry
 |_=>first|(simp[bmU,bmS]at h;done)|(simp[bmU]at h;done)
def Qiw(hu:X.A.units+1<cLine):BmS X T A .get "dict.get":=by
 refine⟨_,QhY hu,?_⟩;intro α o u' us hs hs' x vs H Q h ro r R k
 cases o with
 |ref n=>
  simp only[bmU]at h;split at h
  ·simp[bmL]at h
  case h_3=>cases h
  rename_i kvs e;obtain⟨a,ha,rfl⟩:=ro;simp only[bmD]at h;split at h
  case h_2=>cases h
  rename_i ku u;split at h
  case isFalse=>cases h
  rename_i ck;cases h;obtain⟨vk,ws,rfl,rk,rn⟩:=Qi r;obtain⟨vy,ws,rfl,ry,rn⟩:=Qi rn;cases Qo rn
  have g:=Qbj (o:=.dic kvs) (w:=ku) (r:=Z3 kvs ku) R e ha (by simp only[JG];rw[if_pos ck]) rk
  rcases g with⟨h1,g⟩|⟨u1,v1,h1,g,rv⟩
  ·exact⟨a,vk,vy,none,rfl,rfl,g,k α vy H Ext.refl R (by rw[h1];exact ry)⟩
  ·exact⟨a,vk,vy,some v1,rfl,rfl,g,k α v1 H Ext.refl R (by rw[h1];exact rv)⟩
 |_=>first|(simp[bmU,bmS]at h;done)|(simp[bmU]at h;done)
def QcB:BmS X T A .update "dict.update":=by
 refine⟨_,QdM,?_⟩;intro α o u' us hs hs' x vs H Q h ro r R k
 cases o with
 |ref n=>
  simp only[bmU]at h;split at h
  ·simp[bmL]at h
  case h_3=>cases h
  rename_i kvs e;obtain⟨a,ha,rfl⟩:=ro;simp only[bmD]at h;split at h
  case h_2=>cases h
  rename_i m;split at h
  case h_2=>cases h
  rename_i more e2;split at h
  case isFalse=>cases h
  rename_i c;cases h;obtain⟨vy,ws,rfl,ry,rn⟩:=Qi r;cases Qo rn;obtain⟨b,hb,rfl⟩:=ry;obtain⟨kv,q,rr⟩:=R.h.ob n a _ ha e;obtain⟨mv,q2,rr2⟩:=R.h.ob m b _ hb e2;have l1:=RG.length rr;have l2:=RG.length rr2
  have ne:a≠b:=λz=>by
   rcases R.h.nd n m a ha (z▸hb)with w|⟨vs,w⟩
   ·exact c.1 w
   ·rw[q]at w;cases w
  refine⟨a,b,kv,mv,rfl,rfl,q,q2,ne,X6 (by omega) big,?_⟩
  obtain⟨R',E'⟩:=R.put (o:=.dic (Ym kvs more)) (ho:=.dK (Q3 kv mv)) ha ⟨_,Qf,RG.merge Qau rr2 rr⟩;exact k α .non _ E' R' rfl
 |_=>first|(simp[bmU,bmS]at h;done)|(simp[bmU]at h;done)
end
end
section
variable {ir:E}{a e:Expr}{d:Nat}{p:Pos}
def TIO(T:Tbl)(A:Adr)(K:W.Frag)(f:Rho->Hs->Option (Option Int×Hs)):TO:=λY H Q=>∃α Z hs u hs',RS A α Z Y/\Rep T A K α hs H/\f Z hs=some (u,hs') /\
 ∀α' H',Ext α α' H H'->Rep T A K α' hs' H'->Q u H'
structure Fc(X:Cx)(T:Tbl)(A:Adr)(cf:Cf)(k:Nat):Prop where
 ok:∀f F,T.fns[f]?=some F->∃fd,FnOk X.prog X.w X.K X.mg X.base CX0 k (A.f f) fd F.ps (spC T A X.K cf f)/\Binds X.K fd F.ps []/\W.keepIn X.K (.ref (A.f f))=true
 some:∀f us hs r,cf f us hs=some r->∃F,T.fns[f]?=some F/\us.length=F.np
 df:∀i D F,T.dfl.lookup i=Option.some D->T.fns[i]?=Option.some F->∃fd,FnOk X.prog X.w X.K X.mg X.base CX0 k (A.f i) fd D.ps (spC T A X.K cf i)/\W.keepIn X.K (.ref (A.f i))=true/\QiQ A X.K fd D
 xf:∀f F,T.fns[f]?=Option.some F->∃fd,FnOk X.prog X.w X.K X.mg X.base (CXw X.prog X.w) k (A.f f) fd F.ps (spX T A X.K T.xf f)/\Binds X.K fd F.ps []/\W.keepIn X.K (.ref (A.f f))=true
structure Snd(T:Tbl)(A:Adr)(C:Ctx)(X:Cx)(cf:Cf)(m:Nat):Prop where
 e:∀d e ir,Qe m C e=some ir->PE X e (TI T A X.K (ev T cf d ir))
 t:∀d e ir,compT m C e=some ir->PT X e (TIT T A X.K (evT T cf d ir))/\PE X e (TI T A X.K (ev T cf d ir))
 an:∀d a r p ir,compAnd m C a r p=some ir->PW X (.BoolOp .And (a::r) p) (TIT T A X.K (evT T cf d ir))/\PE X (.BoolOp .And (a::r) p) (TI T A X.K (ev T cf d ir))
 orr:∀d a r p ir,compOr m C a r p=some ir->PW X (.BoolOp .Or (a::r) p) (TIT T A X.K (evT T cf d ir))/\PE X (.BoolOp .Or (a::r) p) (TI T A X.K (ev T cf d ir))
 a:∀d es irs,compA m C es=some irs->PA X es (TIA T A X.K (λZ hs=>evs (ev T cf d) Z irs hs))
 o:∀d e ir,compO m C e=some ir->PO X e (TIO T A X.K (λZ hs=>evO (ev T cf d) Z ir hs))
section
variable {X:Cx}{T:Tbl}{A:Adr}{C:Ctx}{cf:Cf}{m:Nat}
def Qbn{t:TT}(h:∀Y H Q,¬t Y H Q):PT X e t:=λz z Y H Q z q=>(h Y H Q q).elim
def QiD{t:TT}(h:∀Y H Q,¬t Y H Q):PW X e t:=λz z z Y H Q z q=>(h Y H Q q).elim
def QmT{K:W.Frag}:∀Y H Q,¬TI T A K (ev T cf 0 ir) Y H Q:=λz z z y=>by obtain⟨_,_,_,_,_,_,_,h,_⟩:=y;exact nomatch h
def QdH{K:W.Frag}:∀Y H Q,¬TIT T A K (evT T cf 0 ir) Y H Q:=λz z z y=>by obtain⟨_,_,_,_,_,_,_,h,_⟩:=y;exact nomatch h
def Qx(h:∀d',PE X e (TI T A X.K (ev T cf (d'+1) ir))):PE X e (TI T A X.K (ev T cf d ir)):=by
 cases d with
 |zero=>exact ZU QmT
 |succ d=>exact h d
def Qha{c:Const}{k:Nat}(h:Qe (m+1) C (.Constant c k p)=some ir):PE X (.Constant c k p) (TI T A X.K (ev T cf d ir)):=by
 refine Qx λd=>?_
 cases c with
 |int i=>cases h;exact QL Qke λY H Q z=>by obtain⟨α,Z,hs,u,hs',rs,R,e,q⟩:=z;cases e;exact q α _ H Ext.refl R ⟨i,rfl,Cg.refl _ _⟩
 |bool b=>cases h;exact QL QmG λY H Q y=>by obtain⟨α,Z,hs,u,hs',rs,R,e,q⟩:=y;cases e;exact q α _ H Ext.refl R rfl
 |none=>cases h;exact QL Qkc λY H Q w=>by obtain⟨α,Z,hs,u,hs',rs,R,e,q⟩:=w;cases e;exact q α _ H Ext.refl R rfl
 |str x=>cases h;exact QL Qgm λY H Q v=>by obtain⟨α,Z,hs,u,hs',rs,R,e,q⟩:=v;cases e;exact q α _ H Ext.refl R rfl
 |_=>first|exact Znn h|simp[Qe]at h
def QjH{x:Str}(g:GX T A C X)(h:Qe (m+1) C (.Name x p)=some ir):PE X (.Name x p) (TI T A X.K (ev T cf d ir)):=by
 refine Qx λd=>?_;simp only[cE4]at h;split at h
 ·cases h
 ·rename_i hn;have n1:(x==("__debug__":Str))=false:=QP λz=>hn (.inl z);have n2:(x==("__classdict__":Str))=false:=QP λz=>hn (.inr z);split at h
  ·rename_i hv;simp only[Xd]at h;obtain⟨i,hi,rfl⟩:=h
   refine QL (Qdu (i:=i) (by rw[g.N];exact QX hi) (Qi4 g hv) n1 n2) ?_
   rintro Y H Q ⟨α,Z,hs,u,hs',rs,R,e,q⟩;simp only[ev]at e;split at e
   ·rename_i w e';cases e;obtain⟨v,h1,h2⟩:=rs.get e';exact⟨v,h1,q α v H Ext.refl R h2⟩
   ·cases e
  ·split at h
   ·rename_i hg;split at h
    ·rename_i k hk;cases h;refine QL (Qa1 (QR g hg) (g.gco x k hk) (v:=.ref (A.k k)) rfl n1) ?_;rintro Y H Q ⟨α,Z,hs,u,hs',rs,R,e,q⟩;cases e;exact q α _ H Ext.refl R rfl
    ·rename_i t hk;cases h;obtain⟨k,hm⟩:=g.gtx x t hk;refine QL (Qa1 (QR g hg) hm (v:=.str ⟨t.toArray⟩) ⟨_,rfl⟩ n1) ?_;rintro Y H Q ⟨α,Z,hs,u,hs',rs,R,e,q⟩;simp only[ev]at e;cases e;exact q α _ H Ext.refl R rfl
    ·cases h
   ·cases h
def Qmp{b:Expr}{o:Operator}(S:Snd T A C X cf m)(h:Qe (m+1) C (.BinOp a o b p)=some ir):PE X (.BinOp a o b p) (TI T A X.K (ev T cf d ir)):=by
 refine Qx λd=>?_;simp only[cE5,Xc]at h;obtain⟨a',ha,b',hb,h⟩:=h;cases h;obtain⟨r,ho,hr⟩:=opS (X:=X) (T:=T) (A:=A) o;refine QL (QmD ho (S.e d a a' ha) (S.e d b b' hb)) ?_;rintro Y H Q ⟨α,Z,hs,u,hs',rs,R,e,q⟩;simp only[ev]at e;obtain⟨u1,h1,e1,e⟩:=Qc e;obtain⟨u2,h2,e2,e⟩:=Qc e;refine TI.run rs R e1 λα1 x H1 E1 R1 r1 rs1=>?_;refine TI.run rs1 R1 e2 λα2 y H2 E2 R2 r2 rs2=>?_;exact hr e (r1.mono E2.pre) r2 R2 λα3 v H3 E3 R3 r3=>q α3 v H3 ((E1.trans E2 R2.h).trans E3 R3.h) R3 r3
def Qmn(S:Snd T A C X cf m)(h:Qe (m+1) C (.UnaryOp .USub a p)=some ir):PE X (.UnaryOp .USub a p) (TI T A X.K (ev T cf d ir)):=by
 refine Qx λd=>?_;simp only[cE6,Xc]at h;obtain⟨a',ha,h⟩:=h;cases h;refine QL (QmB Qjf (S.e d a a' ha)) ?_;rintro Y H Q ⟨α,Z,hs,u,hs',rs,R,e,q⟩;simp only[ev]at e;obtain⟨u1,h1,e1,e⟩:=Qc e;refine TI.run rs R e1 λα1 x H1 E1 R1 r1 rs1=>?_;split at e
 ·cases e;obtain⟨i,rfl,c⟩:=r1;exact⟨i,rfl,q α1 _ H1 E1 R1 ⟨_,rfl,QgG c⟩⟩
 ·cases e
def QjG(tx:Txt T A X.K X.mg)(S:Snd T A C X cf m)(h:Qe (m+1) C (.UnaryOp .Not a p)=some ir):PE X (.UnaryOp .Not a p) (TI T A X.K (ev T cf d ir))/\PT X (.UnaryOp .Not a p) (TIT T A X.K (evT T cf d ir)):=by
 simp only[cE7,Xc]at h;obtain⟨a',ha,h⟩:=h;cases h;constructor
 ·refine Qx λd=>?_;intro pins s Y H Q I hw;obtain⟨α,Z,hs,u,hs',rs,R,e,q⟩:=hw;simp only[ev]at e;obtain⟨u1,h1,e1,e⟩:=Qc e;simp only[Xd]at e;obtain⟨c,e2,e⟩:=e;cases e;refine UnaryOp_ (thn ((S.t d a a' ha).2 pins s Y H (λv H'=>Qly X.K v H' c/\Q (.bl (!c)) H') I ⟨α,Z,hs,u1,_,rs,R,e1,λα' v H' E' R' r'=>⟨QcZ tx R' e2 r',q α' _ H' E' R' rfl⟩⟩) λv s1 z=>?_);obtain⟨x,H1,I1,r1,q1,q2⟩:=z
  exact not_of (thn (Qf6 pins s1 Y H1 x v (λb H'=>b=c/\H'=H1) I1 r1 ⟨c,q1,rfl,rfl⟩) λb s2 y=>by obtain⟨H2,I2,eb,eH⟩:=y;exact⟨.bl (!c),H2,I2,by rw[eb];rfl,by rw[eH];exact q2⟩)
 ·cases d with
  |zero=>exact Qbn QdH
  |succ d=>
   refine QiE (QjY (S.t d a a' ha).1) ?_;rintro Y H Q ⟨α,Z,hs,u,hs',rs,R,e,q⟩;simp only[evT]at e;obtain⟨c,h1,e1,e⟩:=Qc e;cases e;exact TIT.run rs R e1 λα1 H1 E1 R1 rs1=>q α1 H1 E1 R1
end
end
section
variable {ir:E}{a e:Expr}{d:Nat}{p:Pos}
section
variable {X:Cx}{T:Tbl}{A:Adr}{C:Ctx}{cf:Cf}{m:Nat}
def QbC(h:∀d',PT X e (TIT T A X.K (evT T cf (d'+1) ir))):PT X e (TIT T A X.K (evT T cf d ir)):=by
 cases d with
 |zero=>exact Qbn QdH
 |succ d=>exact h d
def QbB(h:∀d',PW X e (TIT T A X.K (evT T cf (d'+1) ir))):PW X e (TIT T A X.K (evT T cf d ir)):=by
 cases d with
 |zero=>exact QiD QdH
 |succ d=>exact h d
def QjP(S:Snd T A C X cf m)(d:Nat)(a:Expr)(r:List Expr)(p:Pos)(ir:E)(h:compAnd (m+1) C a r p=some ir):
  PW X (.BoolOp .And (a::r) p) (TIT T A X.K (evT T cf d ir))/\PE X (.BoolOp .And (a::r) p) (TI T A X.K (ev T cf d ir)):=by
 cases r with
 |nil=>exact⟨Qhj (S.t d a ir h).1,Qgn (S.t d a ir h).2⟩
 |cons b r=>
  simp only[compAnd,Xc]at h;obtain⟨a',ha,b',hb,h⟩:=h;cases h;constructor
  ·refine QbB λd=>?_;refine Qlz (QjW (S.t d a a' ha).1 (S.an d b r p b' hb).1) ?_;rintro Y H Q ⟨α,Z,hs,u,hs',rs,R,e,q⟩;simp only[evT]at e;obtain⟨c,h1,e1,e⟩:=Qc e;refine TIT.run rs R e1 λα1 H1 E1 R1 rs1=>?_
   cases c with
   |true=>exact TIT.run rs1 R1 e λα2 H2 E2 R2 rs2=>q α2 H2 (E1.trans E2 R2.h) R2
   |false=>cases e;exact q α1 H1 E1 R1
  ·refine Qx λd=>?_;refine QL (Qki (S.t d a a' ha).2 (S.an d b r p b' hb).2) ?_;rintro Y H Q ⟨α,Z,hs,u,hs',rs,R,e,q⟩;simp only[ev]at e;obtain⟨u1,h1,e1,e⟩:=Qc e;refine TI.run rs R e1 λα1 x H1 E1 R1 r1 rs1=>?_;split at e
   ·cases(show x=_ from r1);exact⟨true,rfl,TI.run rs1 R1 e λα2 v H2 E2 R2 r2 rs2=>q α2 v H2 (E1.trans E2 R2.h) R2 r2⟩
   ·cases(show x=_ from r1);cases e;exact⟨false,rfl,q α1 _ H1 E1 R1 rfl⟩
   ·cases e
def Qoq(S:Snd T A C X cf m)(d:Nat)(a:Expr)(r:List Expr)(p:Pos)(ir:E)(h:compOr (m+1) C a r p=some ir):
  PW X (.BoolOp .Or (a::r) p) (TIT T A X.K (evT T cf d ir))/\PE X (.BoolOp .Or (a::r) p) (TI T A X.K (ev T cf d ir)):=by
 cases r with
 |nil=>exact⟨QjV (S.t d a ir h).1,Qgn (S.t d a ir h).2⟩
 |cons b r=>
  simp only[compOr,Xc]at h;obtain⟨a',ha,b',hb,h⟩:=h;cases h;constructor
  ·refine QbB λd=>?_;refine Qlz (QmA (S.t d a a' ha).1 (S.orr d b r p b' hb).1) ?_;rintro Y H Q ⟨α,Z,hs,u,hs',rs,R,e,q⟩;simp only[evT]at e;obtain⟨c,h1,e1,e⟩:=Qc e;refine TIT.run rs R e1 λα1 H1 E1 R1 rs1=>?_
   cases c with
   |false=>exact TIT.run rs1 R1 e λα2 H2 E2 R2 rs2=>q α2 H2 (E1.trans E2 R2.h) R2
   |true=>cases e;exact q α1 H1 E1 R1
  ·refine Qx λd=>?_;refine QL (QmC (S.t d a a' ha).2 (S.orr d b r p b' hb).2) ?_;rintro Y H Q ⟨α,Z,hs,u,hs',rs,R,e,q⟩;simp only[ev]at e;obtain⟨u1,h1,e1,e⟩:=Qc e;refine TI.run rs R e1 λα1 x H1 E1 R1 r1 rs1=>?_;split at e
   ·cases(show x=_ from r1);cases e;exact⟨true,rfl,q α1 _ H1 E1 R1 rfl⟩
   ·cases(show x=_ from r1);exact⟨false,rfl,TI.run rs1 R1 e λα2 v H2 E2 R2 r2 rs2=>q α2 v H2 (E1.trans E2 R2.h) R2 r2⟩
   ·cases e
def Qkw{b:Expr}{b':E}{o:CmpOp}(h:Qe m C b=some b'):behindInMarks o b=false:=by
 cases b<;>first|rfl|skip
 cases m<;>first|exact Znn h|simp[Qe]at h
def QjN{b:Expr}{o:CmpOp}(tx:Txt T A X.K X.mg)(tab:JO X.prog X.w T A X.K)(hu:X.A.units+64<cLine)(S:Snd T A C X cf m)(h:Qe (m+1) C (.Compare a [o] [b] p)=some ir):
  PE X (.Compare a [o] [b] p) (TI T A X.K (ev T cf d ir))/\PT X (.Compare a [o] [b] p) (TIT T A X.K (evT T cf d ir)):=by
 simp only[QpY,Xc]at h;obtain⟨a',ha,b',hb,h⟩:=h;cases h;obtain⟨r,ho,hr⟩:=QpO (X:=X) (T:=T) (A:=A) tx tab hu o
 have key:∀(d:Nat) (Y:St) (H:Hp) (Q:VK) (α:List Addr) (Z:Rho) (hs hs':Hs) (u:U),RS A α Z Y->Rep T A X.K α hs H->ev T cf (d+1) (.cmp o a' b') Z hs=some (u,hs') ->
   (∀α' c H',u=.bl c->Ext α α' H H'->Rep T A X.K α' hs' H'->Q (.bl c) H')->tOp r (TI T A X.K (ev T cf d a')) (TI T A X.K (ev T cf d b')) Y H Q:=by
  intro d Y H Q α Z hs hs' u rs R e q;simp only[ev]at e;obtain⟨u1,h1,e1,e⟩:=Qc e;obtain⟨u2,h2,e2,e⟩:=Qc e;simp only[Xd]at e;obtain⟨c,e3,e⟩:=e;cases e;refine TI.run rs R e1 λα1 x H1 E1 R1 r1 rs1=>?_;refine TI.run rs1 R1 e2 λα2 y H2 E2 R2 r2 rs2=>?_;exact hr e3 (r1.mono E2.pre) r2 R2 (q α2 c H2 rfl (E1.trans E2 R2.h) R2)
 constructor
 ·refine Qx λd=>?_;refine QL (QhG ho (S.e d a a' ha) (S.e d b b' hb) (Qkw hb)) ?_;rintro Y H Q ⟨α,Z,hs,u,hs',rs,R,e,q⟩
  exact key d Y H Q α Z hs hs' u rs R e λα' c H' eu E' R'=>q α' _ H' E' R' (by rw[eu];rfl)
 ·refine QbC λd=>?_
  cases d with
  |zero=>exact Qbn λz z z v=>by obtain⟨_,_,_,_,_,_,_,h,_⟩:=v;simp[evT,ev,bd]at h
  |succ d=>
   refine QiE (Qhl ho (S.e d a a' ha) (S.e d b b' hb) (Qkw hb)) ?_;rintro Y H Q ⟨α,Z,hs,u,hs',rs,R,e,q⟩;simp only[evT]at e;obtain⟨u1,h1,e1,e⟩:=Qc e;simp only[Xd]at e;obtain⟨c,e3,e⟩:=e;cases e;refine key d Y H _ α Z hs _ u1 rs R e1 λα' c' H' eu E' R'=>⟨c',rfl,?_⟩;rw[eu]at e3;cases e3;exact q α' H' E' R'
def Qg8{t b:Expr}(S:Snd T A C X cf m)(h:Qe (m+1) C (.IfExp t a b p)=some ir):PE X (.IfExp t a b p) (TI T A X.K (ev T cf d ir)):=by
 refine Qx λd=>?_;simp only[QpX,Xc]at h;obtain⟨t',ht,a',ha,b',hb,h⟩:=h;cases h;refine QL (Qfe (S.t d t t' ht).1 (S.e d a a' ha) (S.e d b b' hb)) ?_;rintro Y H Q ⟨α,Z,hs,u,hs',rs,R,e,q⟩;simp only[ev]at e;obtain⟨c,h1,e1,e⟩:=Qc e;refine TIT.run rs R e1 λα1 H1 E1 R1 rs1=>?_
 cases c with
 |true=>exact TI.run rs1 R1 e λα2 v H2 E2 R2 r2 rs2=>q α2 v H2 (E1.trans E2 R2.h) R2 r2
 |false=>exact TI.run rs1 R1 e λα2 v H2 E2 R2 r2 rs2=>q α2 v H2 (E1.trans E2 R2.h) R2 r2
theorem Ys{f:Ev}{Z:Rho}:∀{es:List E} {hs hs':Hs} {us:List U},evs f Z es hs=some (us,hs')->us.length=es.length
 |[],_,_,_,h=>by cases h;rfl
 |e::r,hs,hs',us,h=>by
  simp only[evs]at h;obtain⟨u,h1,e1,h⟩:=Qc h;obtain⟨ws,h2,e2,h⟩:=Qc h;cases h;simp[Ys e2]
theorem QH{C:Ctx}:∀{m:Nat} {es:List Expr} {irs:List E},compA m C es=some irs->irs.length=es.length
 |0,_,_,h=>by simp[compA]at h
 |m+1,[],_,h=>by cases h;rfl
 |m+1,e::r,irs,h=>by
  simp only[compA,Xc]at h;obtain⟨e',he,r',hr,h⟩:=h;cases h;simp[QH hr]
def Qgc(S:Snd T A C X cf m)(d:Nat)(es:List Expr)(irs:List E)(h:compA (m+1) C es=some irs):PA X es (TIA T A X.K (λZ hs=>evs (ev T cf d) Z irs hs)):=by
 cases es with
 |nil=>
  cases h;refine QlD YZ ?_;rintro Y H Q ⟨α,Z,hs,u,hs',rs,R,e,q⟩;cases e;exact q α [] H Ext.refl R .nil
 |cons e r=>
  simp only[compA,Xc]at h;obtain⟨e',he,r',hr,h⟩:=h;cases h;refine QlD (Q7 (S.e d e e' he) (S.a d r r' hr) (Qj (Qs he))) ?_;rintro Y H Q ⟨α,Z,hs,u,hs',rs,R,e,q⟩;simp only[evs]at e;obtain⟨u1,h1,e1,e⟩:=Qc e;obtain⟨us,h2,e2,e⟩:=Qc e;cases e;refine TI.run rs R e1 λα1 x H1 E1 R1 r1 rs1=>?_;exact TIA.run rs1 R1 e2 λα2 xs H2 E2 R2 r2 rs2=>q α2 _ H2 (E1.trans E2 R2.h) R2 (.cons (r1.mono E2.pre) r2)
def QjF(S:Snd T A C X cf m)(d:Nat)(e:Option Expr)(ir:Option E)(h:compO (m+1) C e=some ir):PO X e (TIO T A X.K (λZ hs=>evO (ev T cf d) Z ir hs)):=by
 cases e with
 |none=>
  cases h;intro pins s Y H Q I hw;refine Qhu pins s Y H Q I ?_;obtain⟨α,Z,hs,u,hs',rs,R,e,q⟩:=hw;cases e;exact q α H Ext.refl R
 |some e=>
  simp only[compO,Xc]at h;obtain⟨e',he,h⟩:=h;cases h;intro pins s Y H Q I hw;refine Qht (S.e d e e' he) pins s Y H Q I ?_;obtain⟨α,Z,hs,u,hs',rs,R,e,q⟩:=hw;simp only[evO]at e;obtain⟨u1,h1,e1,e⟩:=Qc e;refine TI.run rs R e1 λα1 x H1 E1 R1 r1 rs1=>?_;split at e
  ·cases e;obtain⟨i,rfl,c⟩:=r1;cases c.exact;exact⟨_,rfl,q α1 H1 E1 R1⟩
  ·cases e
def TIO.run{T:Tbl}{A:Adr}{K:W.Frag}{α:List Addr}{Z:Rho}{Y:St}{hs h1:Hs}{H:Hp}{f:Rho->Hs->Option (Option Int×Hs)}{u:Option Int}{Q:Option Int->Hp->Prop}(rs:RS A α Z Y)(rp:Rep T A K α hs H)(h:f Z hs=some (u,h1))
  (k:∀α1 H1,Ext α α1 H H1->Rep T A K α1 h1 H1->RS A α1 Z Y->Q u H1):TIO T A K f Y H Q :=
 ⟨α,Z,hs,u,h1,rs,rp,h,λα1 H1 e r=>k α1 H1 e r (rs.mono e.pre)⟩
def Qg5{es:List Expr}{k:Nat}(S:Snd T A C X cf m)(h:Qe (m+1) C (.Tuple es k p)=some ir):PE X (.Tuple es k p) (TI T A X.K (ev T cf d ir)):=by
 refine Qx λd=>?_;simp only[QpW]at h;split at h
 case isFalse=>cases h
 rename_i hz;simp only[Xc]at h;obtain⟨es',he,h⟩:=h;cases h;refine QL (Qkb (S.a d es es' he)) ?_;rintro Y H Q ⟨α,Z,hs,u,hs',rs,R,e,q⟩;simp only[ev]at e;obtain⟨us,h1,e1,e⟩:=Qc e;cases e;refine TIA.run rs R e1 λα1 vs H1 E1 R1 r1 rs1=>⟨?_,λp hp=>?_⟩
 ·rw[<-r1.length,Ys e1,QH he];exact X6 hz big
 ·obtain⟨R',E'⟩:=R1.new (o:=.tup us) hp ⟨_,Qf,RUs.mono Qw r1⟩
  exact q _ _ _ (E1.trans E' R'.h) R' ⟨p,by rw[<-R1.h.len];exact QD,rfl⟩
def QjM{es:List Expr}(S:Snd T A C X cf m)(h:Qe (m+1) C (.List es p)=some ir):PE X (.List es p) (TI T A X.K (ev T cf d ir)):=by
 refine Qx λd=>?_;simp only[QpV]at h;split at h
 case isFalse=>cases h
 rename_i hz;simp only[Xc]at h;obtain⟨es',he,h⟩:=h;cases h;refine QL (Qkd (S.a d es es' he)) ?_;rintro Y H Q ⟨α,Z,hs,u,hs',rs,R,e,q⟩;simp only[ev]at e;obtain⟨us,h1,e1,e⟩:=Qc e;cases e;refine TIA.run rs R e1 λα1 vs H1 E1 R1 r1 rs1=>⟨?_,λp hp=>?_⟩
 ·rw[<-r1.length,Ys e1,QH he];exact X6 hz big
 ·obtain⟨R',E'⟩:=R1.new (o:=.lst us) hp ⟨_,Qf,RUs.mono Qw r1⟩
  exact q _ _ _ (E1.trans E' R'.h) R' ⟨p,by rw[<-R1.h.len];exact QD,rfl⟩
def Qg7{lo hi:Option Expr}{p2:Pos}(S:Snd T A C X cf m)(h:((Qe m C a).bind λa'=>(compO m C lo).bind λl=>(compO m C hi).bind λh=>some (E.sl a' l h))=some ir):PE X (.Subscript a (.Slice lo hi none p2) p) (TI T A X.K (ev T cf d ir)):=by
 refine Qx λd=>?_;simp only[Xc]at h;obtain⟨a',ha,l',hl,h',hh,h⟩:=h;cases h;refine QL (Qfc Qg3 (S.e d a a' ha) (S.o d lo l' hl) (S.o d hi h' hh)) ?_;rintro Y H Q ⟨α,Z,hs,u,hs',rs,R,e,q⟩;simp only[ev]at e;obtain⟨u1,h1,e1,e⟩:=Qc e;obtain⟨u2,h2,e2,e⟩:=Qc e;obtain⟨u3,h3,e3,e⟩:=Qc e;refine TI.run rs R e1 λα1 x H1 E1 R1 r1 rs1=>?_;refine TIO.run rs1 R1 e2 λα2 H2 E2 R2 rs2=>?_;refine TIO.run rs2 R2 e3 λα3 H3 E3 R3 rs3=>?_;exact Qjy e ((r1.mono E2.pre).mono E3.pre) R3 λα4 z H4 E4 R4 r4=>q α4 z H4 (((E1.trans E2 R2.h).trans E3 R3.h).trans E4 R4.h) R4 r4
def Qh9{b:Expr}{a' b':E}(hu:X.A.units+1<cLine)(tx:Txt T A X.K X.mg)(ha:PE X a (TI T A X.K (ev T cf d a')))(hb:PE X b (TI T A X.K (ev T cf d b')))(hs:ZD b=true):PE X (.Subscript a b p) (TI T A X.K (ev T cf (d+1) (.ix a' b'))):=by
 refine QL (QmE (ix_seq.or (Qh8 hu)) ha hb (Qcd hs)) ?_;rintro Y H Q ⟨α,Z,hs,u,hs',rs,R,e,q⟩;simp only[ev]at e;obtain⟨u1,h1,e1,e⟩:=Qc e;obtain⟨u2,h2,e2,e⟩:=Qc e;simp only[Xd]at e;obtain⟨x,e3,e⟩:=e;cases e;refine TI.run rs R e1 λα1 x H1 E1 R1 r1 rs1=>?_;refine TI.run rs1 R1 e2 λα2 y H2 E2 R2 r2 rs2=>?_;exact Qg0 tx e3 (r1.mono E2.pre) r2 R2 λz rz=>q α2 z H2 (E1.trans E2 R2.h) R2 rz
theorem RF.look{α:List Addr}{x:Str}{k:Nat}{u:U}(hk:T.fns'[k]?=some x)(nd:T.fns'.Nodup):∀{fs:List (Nat×U)} {fv:List (Str×V)},RF T A α fs fv->fs.lookup k=some u->∃v,fv.lookup x=some v/\RU A α u v
 |_,_,.nil,h=>by cases h
 |_,_,.cons (a:=p) (b:=q) r t,h=>by
  obtain⟨pk,pu⟩:=p;obtain⟨qx,qv⟩:=q;rw[W3]at h ⊢;by_cases e:k=pk
  ·subst e;rw[beq_self_eq_true]at h;cases h;have e2:x=qx:=X3 (hk.symm.trans r.1);subst e2;rw[beq_self_eq_true];exact⟨qv,rfl,r.2⟩
  ·have n1:(k==pk)=false:=by simpa using e
   rw[n1]at h
   have n2:(x==qx)=false:=by
    rw[Wm];rintro rfl;obtain⟨l1,q1⟩:=Xe.mp hk;obtain⟨l2,q2⟩:=Xe.mp r.1;exact e ((Uy nd).mp (q1.trans q2.symm))
   rw[n2];exact RF.look hk nd t h
def Qp4{t t':TE}(h:PE X e t)(h':PE X e t'):PE X e (λY H Q=>t Y H Q\/t' Y H Q):=λpins s Y H Q I z=>z.elim (h pins s Y H Q I) (h' pins s Y H Q I)
def QjO{f:Str}(g:GX T A C X)(S:Snd T A C X cf m)(h:Qe (m+1) C (.Attribute a f p)=some ir):PE X (.Attribute a f p) (TI T A X.K (ev T cf d ir)):=by
 refine Qx λd=>?_;simp only[QpT]at h;split at h
 ·rename_i hn;simp only[Xc]at h;obtain⟨a',ha,k,hk,h⟩:=h;cases h
  have hk':T.fns'[k]?=some f:=by rw[<-g.CT];exact QX hk
  refine QL (Qp4 (Qkg (S.e d a a' ha) (QU hn)) (QhF (S.e d a a' ha) (QU hn))) ?_;rintro Y H Q ⟨α,Z,hs,u,hs',rs,R,e,q⟩;simp only[ev]at e;obtain⟨u1,h1,e1,e⟩:=Qc e;split at e
  ·rename_i n;split at e
   ·rename_i c fs eo;refine .inl (TI.run rs R e1 λα1 x H1 E1 R1 r1 rs1=>?_);obtain⟨pa,hpa,rfl⟩:=r1;simp only[Xd]at e;obtain⟨w,el,e⟩:=e;cases e;obtain⟨dx,fv,q1,rf,lc⟩:=R1.h.ob n pa _ hpa eo;obtain⟨v,l1,rv⟩:=RF.look hk' g.txt.fd rf el;have cl:=g.txt.cl c _ (Xj lc);exact⟨pa,A.c c,dx,fv,v,rfl,q1,cl.cls,cl.nf f (Xr hk'),l1,q α1 v H1 E1 R1 rv⟩
   ·rename_i c w eo;rw[W9]at e;obtain⟨hc,e⟩:=e;cases e;refine .inr (TI.run rs R e1 λα1 x H1 E1 R1 r1 rs1=>?_);obtain⟨pa,hpa,rfl⟩:=r1;obtain⟨dd,q1,l,ef⟩:=R1.h.ob n pa _ hpa eo;obtain⟨Yyy,z⟩:=g.txt.er c l;obtain⟨z1,od,y,v,rfl,hy,hd,rv⟩:=ef k hc;obtain rfl:y=f:=X3 (hy.symm.trans hk');obtain⟨k',y',_,uq,hy',hh,hf,_⟩:=z;cases uq k hc;obtain rfl:y'=y:=X3 (hy'.symm.trans hk')
    exact⟨pa,A.c c,z1,od,_,v,rfl,q1,hd,Yyy,hh,hf,V7,q α1 v H1 E1 R1 (RU.mono (α:=[]) (λt t z=>by simp at z) (rv A))⟩
   ·cases e
  ·cases e
 ·cases h
end
end
section
variable {α:List Addr}{es:List E}{args:List Expr}{us:List U}{vs:List V}{d i:Nat}{p pos:Pos}{x:Str}
section
variable {X:Cx}{T:Tbl}{A:Adr}{C:Ctx}{cf:Cf}{m k:Nat}
def Qc2{hs hs':Hs}{H:Hp}{u:U}{f:Nat}{Q:VK}{E:XK}(F:Fc X T A cf k)(r:RUs A α us vs)(R:Rep T A X.K α hs H)(e:cf f us hs=some (u,hs'))
  (q:∀α' v H',Ext α α' H H'->Rep T A X.K α' hs' H'->RU A α' u v->Q v H'):spC T A X.K cf f vs H Q E:=⟨α,us,hs,u,hs',r,R,e,F.some f us hs _ e,q⟩
def Qgb(g:GX T A C X)(F:Fc X T A cf k)(hr:Room k X.A)(S:Snd T A C X cf m)(hg:ZG C x=true)(hn:x≠"__debug__")(hx:C.gl.lookup x=some (.fn i))(ha:compA m C args=some es):
  PE X (.Call (.Name x p) args [] pos) (TI T A X.K (ev T cf (d+1) (.call i es))):=by
 cases hF:T.fns[i]? with
 |none=>
  refine ZU ?_;rintro Y H Q ⟨α,Z,hs,u,hs',rs,R,e,q⟩;simp only[ev]at e;obtain⟨us,h1,e1,e⟩:=Qc e;obtain⟨F',h,_⟩:=F.some _ _ _ _ e;rw[hF]at h;cases h
 |some Fn=>
  obtain⟨fd,G,b,kp⟩:=F.ok i Fn hF;have pa:=S.a d args es ha
  have key:∀Y H Q,TI T A X.K (ev T cf (d+1) (.call i es)) Y H Q->QgY (spC T A X.K cf i) [] E0 (TIA T A X.K (λZ hs=>evs (ev T cf d) Z es hs)) Y H Q:=by
   rintro Y H Q ⟨α,Z,hs,u,hs',rs,R,e,q⟩;simp only[ev]at e;obtain⟨us,h1,e1,e⟩:=Qc e;refine TIA.run rs R e1 λα1 vs H1 E1 R1 r1 rs1=>?_;rw[Wd];exact Qc2 F r1 R1 e λα2 v H2 E2 R2 r2=>q α2 v H2 (E1.trans E2 R2.h) R2 r2
  cases args with
  |nil=>
   have ee:es=[]:=by
    have:=QH ha;simpa using this
   subst ee;refine QL (Qfg G hr (QR g hg) (g.gfn x i hx) kp b .nil Qce (QP hn)) λY H Q h=>?_;have h2:=key Y H Q h;obtain⟨α,Z,hs,us,hs',rs,R,e,q⟩:=h2;cases e;exact q α [] H Ext.refl R .nil
  |cons a r=>exact QL (QhH G hr (QR g hg) (g.gfn x i hx) kp b .nil Qce pa (QP hn) (Qj (Qn ha a (Xw ..))) (QZ λz hz=>Qn ha z (Xp _ hz))) key
def RUs.app{ws:List U}{zs:List V}(a:RUs A α us vs)(b:RUs A α ws zs):RUs A α (us++ws) (vs++zs):=a.append b
def Vals.dropN{us:List Value}(r:Vals vs us):∀n,Vals (vs.drop n) (us.drop n):=λn=>by
 induction r generalizing n with
 |nil=>simp;exact .nil
 |cons a t ih=>
  cases n with
  |zero=>exact .cons a t
  |succ n=>exact ih n
def Qhb{ir:E}(g:GX T A C X)(F:Fc X T A cf k)(hr:Room k X.A)(S:Snd T A C X cf m)(hg:ZG C x=true)(hn:x≠"__debug__")(hx:C.gl.lookup x=some (.fn i))(ha:compA m C args=some es)(h:QlK C i es=some ir):
  PE X (.Call (.Name x p) args [] pos) (TI T A X.K (ev T cf (d+1) ir)):=by
 unfold QlK at h;rw[g.CT]at h;split at h
 ·cases h;exact Qgb g F hr S hg hn hx ha
 cases h
def RUs.nilA(r:RUs A [] us vs):RUs A α us vs:=RUs.mono (λn a e=>by simp at e) r
def Qgx(F:Fc X T A cf k){f n:Nat}{Fn:Fn}(hF:T.fns[f]?=some Fn):∃fd ps ds dvs,FnOk X.prog X.w X.K X.mg X.base CX0 k (A.f f) fd ps (spC T A X.K cf f)/\W.keepIn X.K (.ref (A.f f))=true/\Binds X.K fd ps ds/\Vals dvs ds/\RUs A [] (QcI T f n) dvs:=by
 unfold QcI
 cases hD:T.dfl.lookup f with
 |none=>
  obtain⟨fd,G,b,kp⟩:=F.ok f Fn hF;exact⟨fd,_,[],[],G,kp,b,.nil,.nil⟩
 |some D=>
  obtain⟨fd,G,kp,ds,dvs,rd,vd,hb⟩:=F.df f D Fn hD hF;exact⟨fd,_,_,_,G,kp,hb (D.ds.length-(D.np-n)),Vals.dropN vd _,RUs.drop (D.ds.length-(D.np-n)) rd⟩
def QjJ(g:GX T A C X)(F:Fc X T A cf k)(hr:Room (k+1) X.A)(S:Snd T A C X cf m)(hg:ZG C x=true)(hn:x≠"__debug__")(hx:C.gl.lookup x=some (.cls i))(ha:compA m C args=some es):
  PE X (.Call (.Name x p) args [] pos) (TI T A X.K (ev T cf (d+1) (.make i es))):=by
 cases hC:T.cls[i]? with
 |none=>
  refine ZU ?_;rintro Y H Q ⟨α,Z,hs,u,hs',rs,R,e,q⟩;simp only[ev]at e;obtain⟨us,h1,e1,e⟩:=Qc e;simp[Qaj,hC]at e
 |some Cl=>
  have cl:=g.txt.cl i Cl hC;have li:i<T.cls.length:=(Xe.mp hC).1;have pa:=S.a d args es ha
  have new:∀{α:List Addr} {hs:Hs} {H:Hp} (R:Rep T A X.K α hs H) (x dx:Addr),H x=none->H dx=none->dx≠x ->
    Rep T A X.K (α++[x]) (hs++[.ins i []]) (upd (upd H dx (.own x)) x (.ins (A.c i) dx []))/\Ext α (α++[x]) H (upd (upd H dx (.own x)) x (.ins (A.c i) dx [])):=by
   intro α hs H R x dx hx hd hne
   have ne:∀b y,H b=some y->b≠dx:=λb y e z=>by rw[z,hd]at e;cases e
   have R0:Rep T A X.K α hs (upd H dx (.own x)):=⟨⟨R.h.len,R.h.nd_keep λb x w e=>by rw[Qb (ne _ _ e)];exact e,λn a o e1 e2=>RO.keep (R.h.ob n a o e1 e2) (λw w e=>e) λw y e w=>by rw[Qb (ne _ _ e)];exact e⟩,R.s.keep λy e w=>by rw[Qb (ne _ _ e)];exact e⟩
   obtain⟨R1,E1⟩:=R0.new (p:=x) (o:=.ins i []) (ho:=.ins (A.c i) dx []) (by rw[Qb (X9 hne)];exact hx) ⟨dx,[],Qf,.nil,li⟩
   refine⟨R1,⟨E1.pre,λn a e l=>?_,λb o e hb=>E1.keep b o (by rw[Qb (ne _ _ e)];exact e) hb,λb o kv e=>E1.fz b o kv (by rw[Qb (ne _ _ e)];exact e),λb o e=>E1.tr b o (by rw[Qb (ne _ _ e)];exact e)⟩⟩
   rcases QI e with z|⟨_,z⟩
   ·have:=getElem?_lt z;omega
   ·rw[z];exact .inl hx
  cases hi:Cl.init with
  |none=>
   have ini:=cl.ini;rw[hi]at ini
   cases args with
   |cons a r=>
    refine ZU ?_;rintro Y H Q ⟨α,Z,hs,u,hs',rs,R,e,q⟩;simp only[ev]at e;obtain⟨us,h1,e1,e⟩:=Qc e;have l1:=Ys e1;rw[QH ha]at l1;simp only[Qaj,hC,hi]at e;split at e
    ·rename_i z;rw[z]at l1;simp at l1
    ·cases e
   |nil=>
    refine QL (Qdv (C:=A.c i) ⟨cl.mks,ini,cl.kp⟩ (QR g hg) (g.gcl x i hx) (QP hn)) ?_;rintro Y H Q ⟨α,Z,hs,u,hs',rs,R,e,q⟩
    have ee:es=[]:=by
     have:=QH ha;simpa using this
    subst ee;simp only[ev,evs,bd,Qaj,hC,hi,Wa]at e;cases e;intro y dx h1 h2 h3;obtain⟨R1,E1⟩:=new R y dx h1 h2 h3
    exact q _ _ _ E1 R1 ⟨y,by rw[<-R.h.len];exact QD,rfl⟩
  |some f=>
   have ini:=cl.ini;rw[hi]at ini
   have key:∀dvs:List V,RUs A [] (QcI T f (es.length+1)) dvs->∀Y H Q,TI T A X.K (ev T cf (d+1) (.make i es)) Y H Q->TIA T A X.K (λZ hs=>evs (ev T cf d) Z es hs) Y H λvs H1=>∀x dx,H1 x=none->H1 dx=none->dx≠x ->
     spC T A X.K cf f (.ref x::(vs++dvs)) (upd (upd H1 dx (.own x)) x (.ins (A.c i) dx [])) (λv H2=>v=.non/\Q (.ref x) H2) E0:=by
    rintro dvs rdv Y H Q ⟨α,Z,hs,u,hs',rs,R,e,q⟩;simp only[ev]at e;obtain⟨us,h1,e1,e⟩:=Qc e;simp only[Qaj,hC,hi]at e;rw[Ys e1]at e;split at e
    case h_2=>cases e
    rename_i h2 e2;cases e;refine TIA.run rs R e1 λα1 vs H1 E1 R1 r1 rs1=>?_;intro y dx g1 g2 g3;obtain⟨R2,E2⟩:=new R1 y dx g1 g2 g3
    have at1:(α1++[y])[h1.length]?=some y:=by rw[<-R1.h.len];exact QD
    refine Qc2 F (us:=.ref h1.length::(us++QcI T f (es.length+1))) (.cons ⟨y,at1,rfl⟩ ((RUs.mono E2.pre r1).app (RUs.nilA rdv))) R2 e2 λα3 v H3 E3 R3 r3=>⟨r3,?_⟩;exact q α3 _ H3 (((E1.trans E2 R2.h)).trans E3 R3.h) R3 ⟨y,E3.pre _ _ at1,rfl⟩
   cases hF:T.fns[f]? with
   |none=>
    refine ZU ?_;rintro Y H Q ⟨α,Z,hs,u,hs',rs,R,e,q⟩;simp only[ev]at e;obtain⟨us,h1,e1,e⟩:=Qc e;simp only[Qaj,hC,hi]at e;split at e
    case h_2=>cases e
    rename_i h2 e2;obtain⟨F',h,_⟩:=F.some _ _ _ _ e2;rw[hF]at h;cases h
   |some Fn=>
    obtain⟨fd,ps,ds,dvs,G,kp,b,vd,rdv⟩:=Qgx F (n:=es.length+1) hF;have M:Mk X.K (A.c i) (A.f f):=⟨cl.mks,ini.1,ini.2,cl.kp⟩
    cases args with
    |nil=>
     have ee:es=[]:=by
      have:=QH ha;simpa using this
     subst ee;refine QL (Qfd M G hr (QR g hg) (g.gcl x i hx) b vd Qce (QP hn)) λY H Q h=>?_;obtain⟨α,Z,hs,us,hs',rs,R,e,q⟩:=key dvs rdv Y H Q h;cases e;exact q α [] H Ext.refl R .nil
    |cons a r=>exact QL (QhB M G hr (QR g hg) (g.gcl x i hx) b vd Qce pa (QP hn) (Qj (Qn ha a (Xw ..))) (QZ λz hz=>Qn ha z (Xp _ hz))) (key dvs rdv)
end
end
section
variable {o':E}{env:Env}{o:Expr}{hs:Hs}{es:List E}{args:List Expr}{d:Nat}{p pos q:Pos}{x:Str}
section
variable {X:Cx}{T:Tbl}{A:Adr}{C:Ctx}{cf:Cf}{m k:Nat}
theorem Jn{env:Env}{pos:Pos}:∀{es:List Expr},YC es->(backTo pos (starEach es env)).all (λx=>!x.1)=true
 |[],_=>rfl
 |e::r,h=>by
  rw[Qj (h e (Xw ..))];have ih:=Jn (env:=env) (pos:=pos) (es:=r) λx hx=>h x (Xp _ hx);unfold backTo at ih ⊢;rw[X0,Uk,ih];rfl
def Qif(hn:YC args)(hl:args.length<29):methodCallForm (args.length+([]:List Keyword).length) (backTo pos (starEach args env)) (backToKw pos (keywordEach [] env))=true:=by
 unfold methodCallForm;rw[Jn hn]
 have:(args.length+([]:List Keyword).length+(if(backToKw pos (keywordEach [] env)).isEmpty then 0 else 1) < 30):=by
  simp only[Vj];split<;>omega
 simp only[X4 this,Bool.and_true,Bool.true_and];rfl
def QhZ(h1:Q8 o=true)(h2:(p.endLine==q.line)=true)(h3:args.length<29)(h4:YC args):
  eval (.Call (.Attribute o x p) args [] q) env=(do
   let ov <-eval o env
   standAt p.atName
   let (f,first) <-holding [ov] (getMethod ov x (do return (<-importBound o env).getD true))
   callWith q f first (backTo q (starEach args env)) (backToKw q (keywordEach [] env))):=by
 rw[PySem.arm_eval_Call,QU h1];unfold methodCall;rw[Qif h4 h3];unfold calleeOf methodCallPos;rw[h2];rfl
theorem RF.none_of{α:List Addr}{x:Str}(hx:x∉T.fns'):∀{fs:List (Nat×U)} {fv:List (Str×V)},RF T A α fs fv->fv.lookup x=none
 |_,_,.nil=>rfl
 |_,_,.cons (a:=p) (b:=q) r t=>by
  obtain⟨qx,qv⟩:=q;rw[W3]
  have n2:(x==qx)=false:=by
   rw[Wm];rintro rfl;exact hx (Xr r.1)
  rw[n2];exact RF.none_of hx t
def Qcf{i f:Nat}{u:U}(h:Qa9 T i u hs=some f):∃n c fs Cl,u=.ref n/\hs[n]?=some (.ins c fs)/\T.cls[c]?=some Cl/\Cl.meths.lookup i=some f:=by
 cases u with
 |ref n=>
  simp only[Qa9]at h;split at h
  ·rename_i c fs e;split at h
   ·rename_i Cl e2;exact⟨n,c,fs,Cl,rfl,e,e2,h⟩
   ·cases h
  ·cases h
 |_=>simp[Qa9]at h
def QjI{i:Nat}(g:GX T A C X)(F:Fc X T A cf k)(hr:Room k X.A)(S:Snd T A C X cf m)(h1:Q8 o=true)(h2:(p.endLine==q.line)=true)(h3:args.length<29)
  (hx:idx x C.T.mns=some i) (ho:Qe m C o=some o') (ha:compA m C args=some es):PE X (.Call (.Attribute o x p) args [] q) (TI T A X.K (ev T cf (d+1) (.meth i o' es))):=by
 intro pins s Y H Q I hw;obtain⟨α,Z,hs,u,hs',rs,R,e,q'⟩:=hw;simp only[ev]at e;obtain⟨u1,h1',e1,e⟩:=Qc e;split at e
 case h_2=>cases e
 rename_i f hf;obtain⟨us,h2',e2,e⟩:=Qc e
 have hx':T.mns[i]?=some x:=by rw[<-g.CT];exact QX hx
 have hns:=Qn ha;refine W.methodCall_KW (thn (S.e d o o' ho pins s Y H (λv H1=>∃α1,Ext α α1 H H1/\Rep T A X.K α1 h1' H1/\RU A α1 u1 v/\RS A α1 Z Y) I (TI.run rs R e1 λα1 v H1 E1 R1 r1 rs1=>⟨α1,E1,R1,r1,rs1⟩)) λov s1 y=>?_) (QhZ h1 h2 h3 hns);obtain⟨v,H1,I1,rv,α1,E1,R1,r1,rs1⟩:=y;obtain⟨n,c,fs,Cl,rfl,eo,hC,hf⟩:=Qcf hf;obtain⟨pa',hpa,rfl⟩:=r1;cases(show ov=_ from rv);obtain⟨dx,fv,q1,rf,lc⟩:=R1.h.ob n pa' _ hpa eo;have cl:=g.txt.cl c Cl hC;obtain⟨x',hx2,hm⟩:=cl.me i f hf;have ex:x=x':=X3 (hx'.symm.trans hx2);subst ex;have nx:x∉T.fns':=λz=>g.txt.fm x z (Xr hx');obtain⟨Fn,hF,_⟩:=F.some _ _ _ _ e;obtain⟨fd,ps,ds,dvs,G,kp,b,vd,rdv⟩:=Qgx F (n:=us.length+1) hF;refine Qcn I1 q1 cl.cls hm (RF.none_of nx rf) ?_
 have fin:∀(s2:Shared) (H2:Hp) (α2:List Addr) (vs:List V) (ws:List Value),Inv X pins Y H2 s2->Ext α1 α2 H1 H2->Rep T A X.K α2 h2' H2->RUs A α2 us vs->Vals vs ws ->
   wpAny (model X.prog X.w) X.A (call (.ref (A.f f)) (.ref pa'::ws)) (EP X pins Y Q) X.xe s2:=by
  intro s2 H2 α2 vs ws I2 E2 R2 r2 rw';refine Qda (us:=.ref pa'::ws) (vs:=.ref pa'::vs) G hr b vd Qce I2 (.cons rfl rw') ?_;exact Qc2 F (us:=.ref n::(us++QcI T f (us.length+1))) (.cons ⟨pa',E2.pre _ _ hpa,rfl⟩ (r2.app (RUs.nilA rdv))) R2 e λα3 v H3 E3 R3 r3=>q' α3 v H3 ((E1.trans E2 R2.h).trans E3 R3.h) R3 r3
 cases args with
 |nil=>
  have ee:es=[]:=by
   have:=QH ha;simpa using this
  subst ee;cases e2
  exact W.callWith_K0 (first:=[.ref pa']) I1.kIn hm.kp (fin s1 H1 α1 [] [] I1 Ext.refl R1 .nil .nil)
 |cons a r=>
  refine W.callWith_K (first:=[.ref pa']) (h₀:=X.base) I.ok.mod.kin hm.kp (thn (S.a d (a::r) es ha q pins s1 Y H1 (λvs H2=>∃α2,Ext α1 α2 H1 H2/\Rep T A X.K α2 h2' H2/\RUs A α2 us vs) I1 (TIA.run rs1 R1 e2 λα2 vs H2 E2 R2 r2 rs2=>⟨α2,E2,R2,r2⟩)) λws s2 ⟨vs,H2,I2,rw',α2,E2,R2,r2⟩=>⟨I2.kIn,?_⟩)
   (Qj (hns a (Xw ..))) (QZ λz hz=>hns z (Xp _ hz))
  exact fin s2 H2 α2 vs ws I2 E2 R2 r2 rw'
def Qk1{e:Expr}{es:List Expr}(hn:YC (e::es))(hl:(e::es).length<29):((backTo pos (starEach (e::es) env)).all (λx=>!x.1)&&(backToKw pos (keywordEach [] env)).all (λx=>x.1.isSome)
   && decide ((e::es).length+([]:List Keyword).length+(if([]:List Keyword).isEmpty then 0 else 1) < 30))=true:=by
 rw[Jn hn]
 have:(e::es).length+([]:List Keyword).length+(if([]:List Keyword).isEmpty then 0 else 1) < 30:=by
  simp only[Vj,List.isEmpty_nil,Wa];omega
 rw[X4 this];rfl
def Yz{b:Bm}{id ty:String}(S:Snd T A C X cf m)(B:BmS X T A b id)(pa:PlainAttrs ty)(slot:Slot ty x id)(hty:typeOf (.builtin id)=pure (.type "method_descriptor"))
  (ty:∀{u:U} {hs:Hs} {α:List Addr} {v:V} {H:Hp},Qe7 b u hs=true->RU A α u v->Rep T A X.K α hs H->L2.tyV X.K ty v H) (h1:Q8 o=true) (h2:(p.endLine==q.line)=true) (h3:args.length<29)
  (ho:Qe m C o=some o') (ha:compA m C args=some es):PE X (.Call (.Attribute o x p) args [] q) (TI T A X.K (ev T cf (d+1) (.bm b o' es))):=by
 obtain⟨r,hm,hB⟩:=B;have hns:=Qn ha
 cases args with
 |nil=>
  have ee:es=[]:=by
   have:=QH ha;simpa using this
  subst ee;refine QL (Qkh pa slot hty hm (S.e d o o' ho) (QU h1) h2) ?_;rintro Y H Q ⟨α,Z,hs,u,hs',rs,R,e,q⟩;simp only[ev,evs]at e;obtain⟨u1,h1',e1,e⟩:=Qc e;split at e
  case isFalse=>cases e
  rename_i il;obtain⟨us,h2',e2,e⟩:=Qc e;cases e2;exact TI.run rs R e1 λα1 v H1 E1 R1 r1 rs1=>⟨ty il r1 R1,hB e r1 .nil R1 λα2 v2 H2 E2 R2 r2=>q α2 v2 H2 (E1.trans E2 R2.h) R2 r2⟩
 |cons a t=>
  refine QL (QmF pa slot hty hm (S.e d o o' ho) (S.a d (a::t) es ha) (QU h1) (Qk1 hns h3) h2 (Qj (hns a (Xw ..))) (QZ λz hz=>hns z (Xp _ hz))) ?_;rintro Y H Q ⟨α,Z,hs,u,hs',rs,R,e,q⟩;simp only[ev]at e;obtain⟨u1,h1',e1,e⟩:=Qc e;split at e
  case isFalse=>cases e
  rename_i il;obtain⟨us,h2',e2,e⟩:=Qc e;exact TI.run rs R e1 λα1 v H1 E1 R1 r1 rs1=>⟨ty il r1 R1,TIA.run rs1 R1 e2 λα2 vs H2 E2 R2 r2 rs2=>hB e (r1.mono E2.pre) r2 R2 λα3 v2 H3 E3 R3 r3=>q α3 v2 H3 ((E1.trans E2 R2.h).trans E3 R3.h) R3 r3⟩
noncomputable def kdB:Bm->String
 |.setdef=>"dict"
 |.get=>"dict"
 |.update=>"dict"
 |.join=>"str"
 |.split=>"str"
 |.find=>"str"
 |.index=>"str"
 |_=>"list"
def Qaa{b:Bm}{u:U}{α:List Addr}{v:V}{H:Hp}(e:Qe7 b u hs=true)(r:RU A α u v)(R:Rep T A X.K α hs H):L2.tyV X.K (kdB b) v H:=by
 cases u with
 |ref n=>
  obtain⟨a,ha,rfl⟩:=r;simp only[Qe7]at e;split at e
  ·rename_i xs eo;obtain⟨vs,q,_⟩:=R.h.ob n a _ ha eo
   have:kdB b="list":=by cases b<;>first|rfl|cases e
   rw[this];exact .inl ⟨rfl,vs,SqL.of q⟩
  ·rename_i kvs eo;obtain⟨kv,q,_⟩:=R.h.ob n a _ ha eo
   have:kdB b="dict":=by cases b<;>first|rfl|cases e
   rw[this];exact .inr (.inr (.inl ⟨rfl,.inl ⟨kv,q⟩⟩))
  ·cases e
 |str x=>
  cases(show v=_ from r)
  have:kdB b="str":=by cases b<;>first|rfl|cases e
  exact this
 |_=>cases e
def Qph{b:Bm}(hu:X.A.units+1<cLine)(tx:Txt T A X.K X.mg)(S:Snd T A C X cf m)(hb:QlP x=some b)(h1:Q8 o=true)(h2:(p.endLine==q.line)=true)(h3:args.length<29)
  (ho:Qe m C o=some o') (ha:compA m C args=some es):PE X (.Call (.Attribute o x p) args [] q) (TI T A X.K (ev T cf (d+1) (.bm b o' es))):=by
 unfold QlP at hb;split at hb
 ·rename_i e;subst e;cases hb;exact Yz S QcD PySem.F.plainAttrs_list PySem.F.slot_list_append PySem.F.type_list_append (λe r R=>Qaa e r R) h1 h2 h3 ho ha
 split at hb
 ·rename_i e;subst e;cases hb;exact Yz S Qiv PySem.F.plainAttrs_list PySem.F.slot_list_pop PySem.F.type_list_pop (λe r R=>Qaa e r R) h1 h2 h3 ho ha
 split at hb
 ·rename_i e;subst e;cases hb;exact Yz S QcC Ti PySem.F.slot_dict_setdefault PySem.F.type_dict_setdefault (λe r R=>Qaa e r R) h1 h2 h3 ho ha
 unfold Qlm at hb;split at hb
 ·rename_i e;subst e;cases hb;exact Yz S (Qiw hu) Ti Tw PySem.F.type_dict_get (λe r R=>Qaa e r R) h1 h2 h3 ho ha
 split at hb
 ·rename_i e;subst e;cases hb;exact Yz S QcB Ti PySem.F.slot_dict_update PySem.F.type_dict_update (λe r R=>Qaa e r R) h1 h2 h3 ho ha
 ·cases hb
def Zu{args:List Expr}{b:Bi}{fv:Value}{r:List V->Hp->VK->Prop}{e0:Expr}(hB:∀{α:List Addr} {us:List U} {u':U} {hs hs':Hs} {vs:List V} {H:Hp} {Q:VK},biU T b us hs=some (u',hs')->RUs A α us vs->Rep T A X.K α hs H ->
   (∀α' v' H',Ext α α' H H'->Rep T A X.K α' hs' H'->RU A α' u' v'->Q v' H')->r vs H Q)
  (h:PE X e0 (tCB r (TIA T A X.K (λZ hs=>evs (ev T cf d) Z es hs)))):PE X e0 (TI T A X.K (ev T cf (d+1) (.bi b es))):=by
 refine QL h ?_;rintro Y H Q ⟨α,Z,hs,u,hs',rs,R,e,q⟩;simp only[ev]at e;obtain⟨us,h1,e1,e⟩:=Qc e;exact TIA.run rs R e1 λα1 vs H1 E1 R1 r1 rs1=>hB e r1 R1 λα2 v2 H2 E2 R2 r2=>q α2 v2 H2 (E1.trans E2 R2.h) R2 r2
def Qix{b:Bi}:biU T b [] hs=none:=by cases b<;>rfl
def Qpi{b:Bi}(g:GX T A C X)(hh:hdC C=false)(hu:X.A.units+2<cLine)(S:Snd T A C X cf m)(hg:ZG C x=true)(hn:x≠"__debug__")(hn2:x≠"__name__")(hx:QlR C x=some b)(ha:compA m C args=some es):
  PE X (.Call (.Name x p) args [] pos) (TI T A X.K (ev T cf (d+1) (.bi b es))):=by
 have hns:=Qn ha
 cases args with
 |nil=>
  refine ZU ?_;rintro Y H Q ⟨α,Z,hs,u,hs',rs,R,e,q⟩
  have ee:es=[]:=by
   have:=QH ha;simpa using this
  subst ee;simp[ev,evs,bd,Qix]at e
 |cons a t=>
  unfold QlR at hx;split at hx
  ·cases hx
  split at hx
  ·cases hx
  rename_i hl;have hm:X.mg x=none:=g.blt x hl;have pa:=S.a d (a::t) es ha;have st:=Qj (env:=X.env) (es:=t) (hns a (Xw ..));have sa:=QZ (env:=X.env) (pos:=pos) (es:=t) λz hz=>hns z (Xp _ hz);split at hx
  ·rename_i e;subst e;cases hx;obtain⟨r,hc,hB⟩:=Qiy (X:=X) (A:=A) g.txt
   exact Zu (fv:=.builtin "len") (args:=[]) hB (ZC hc (QR g hg) hm (by decide +kernel) pa hn2 (QP hn) st sa)
  split at hx
  ·rename_i e;subst e;cases hx;obtain⟨r,hc,hB⟩:=Qev (X:=X) (A:=A) (T:=T)
   exact Zu (fv:=.none) (args:=[]) hB (Yl hc (QR g hg) hm (by decide +kernel) pa hn2 (QP hn) st sa)
  split at hx
  ·rename_i e;subst e;cases hx;obtain⟨r,hc,hB⟩:=QfW (X:=X) (A:=A) g.txt (g.calm hh)
   exact Zu (fv:=.none) (args:=[]) hB (Yl hc (QR g hg) hm (by decide +kernel) pa hn2 (QP hn) st sa)
  split at hx
  ·rename_i e;subst e;cases hx;obtain⟨r,hc,hB⟩:=Qiz (X:=X) (A:=A) g.txt (g.calm hh)
   exact Zu (fv:=.builtin "any") (args:=[]) hB (ZC hc (QR g hg) hm (by decide +kernel) pa hn2 (QP hn) st sa)
  split at hx
  ·rename_i e;subst e;cases hx;obtain⟨r,hc,hB⟩:=QiA (X:=X) (A:=A) g.txt (g.calm hh)
   exact Zu (fv:=.builtin "all") (args:=[]) hB (ZC hc (QR g hg) hm (by decide +kernel) pa hn2 (QP hn) st sa)
  unfold Qln at hx;split at hx
  ·rename_i e;subst e;cases hx;obtain⟨r,hc,hB⟩:=QcE (X:=X) (A:=A) (g.calm hh) g.txt
   exact Zu (fv:=.builtin "sorted") (args:=[]) hB (ZC hc (QR g hg) hm (by decide +kernel) pa hn2 (QP hn) st sa)
  split at hx
  ·rename_i e;subst e;split at hx
   ·cases hx;obtain⟨r,hc,hB⟩:=Qew (X:=X) (A:=A) (T:=T) (g.calm hh)
    exact Zu (fv:=.none) (args:=[]) hB (Yl hc (QR g hg) hm (by decide +kernel) pa hn2 (QP hn) st sa)
   ·cases hx
  ·cases hx
def Qpg{t:Str}{ty:Ty}(g:GX T A C X)(hg:ZG C t=true)(hn:t≠"__debug__")(hn2:t≠"__name__")(h:Qjg C t=some ty): ∃v,PE X (.Name t p) (tC v)/\QoI v=some (tyW A ty):= by
 unfold Qjg at h;split at h
 ·rename_i i e;cases h;exact⟨.ref (A.c i),Qa1 (QR g hg) (g.gcl t i e) rfl (QP hn),rfl⟩
 ·cases h
 ·split at h
  ·cases h
  rename_i e;have hm:X.mg t=none:=g.blt t e;have fin:∀n:String,bootBuiltins t=some (.type n)->PE X (.Name t p) (tC (.ty n)):=λn hb=>QhI (QR g hg) hm hb rfl hn2 (QP hn);split at h
  ·rename_i e;subst e;cases h;exact⟨_,fin "int" (by decide +kernel),rfl⟩
  split at h
  ·rename_i e;subst e;cases h;exact⟨_,fin "str" (by decide +kernel),rfl⟩
  split at h
  ·rename_i e;subst e;cases h;exact⟨_,fin "bool" (by decide +kernel),rfl⟩
  split at h
  ·rename_i e;subst e;cases h;exact⟨_,fin "list" (by decide +kernel),rfl⟩
  split at h
  ·rename_i e;subst e;cases h;exact⟨_,fin "tuple" (by decide +kernel),rfl⟩
  split at h
  ·rename_i e;subst e;cases h;exact⟨_,fin "dict" (by decide +kernel),rfl⟩
  split at h
  ·rename_i e;subst e;cases h;exact⟨_,fin "ValueError" (by decide +kernel),rfl⟩
  ·cases h
def Qmo{a:Expr}{t:Str}{ty:Ty}{a':E}{p1:Pos}(g:GX T A C X)(S:Snd T A C X cf m)(hi:ZG C "isinstance"=true)(hl:¬C.bl.contains ("isinstance":Str)=false)(hg:ZG C t=true)(hn:t≠"__debug__")(hn2:t≠"__name__")(h:Qjg C t=some ty)(ha:Qe m C a=some a'):
  PE X (.Call (.Name "isinstance" p) [a,.Name t p1] [] pos) (TI T A X.K (ev T cf (d+1) (.isi a' ty))):=by
 obtain⟨v,hv,hc⟩:=Qpg (p:=p1) g hg hn hn2 h;have s1:starEach [a,.Name t p1] X.env=(false,eval a X.env)::starEach [.Name t p1] X.env:=Qj (Qs ha)
 refine QL (ZC QfV (QR g hi) (g.blt _ hl) (by decide +kernel) (Q7 (S.e d a a' ha) (Q7 hv YZ) s1) (by decide) (by decide) s1 rfl) ?_
 rintro Y H Q ⟨α,Z,hs,u,hs',rs,R,e,q⟩;simp only[ev]at e;obtain⟨u1,h1,e1,e⟩:=Qc e;simp only[Xd]at e;obtain⟨b,e2,e⟩:=e;cases e;refine TI.run rs R e1 λα1 x H1 E1 R1 r1 rs1=>?_;obtain⟨tv,h1,h2⟩:=QkQ g.txt e2 r1 R1;exact⟨x,v,_,tv,b,rfl,hc,h1,h2,q α1 _ H1 E1 R1 rfl⟩
end
end
end Iv
namespace L2
open PySem PySem.Spec PyProof.Rows
section
open Sem (wp)
variable {xs ys:Array Value}{k1 k2:Nat}{a x:Value}{Q:Value->Shared->Prop}
structure Nx(prog:Program)(w:World)(it l:Addr)(P:Nat->Heap->Prop)(L:Array Value->Heap->Prop):Prop where
 item:∀(A:Around) (E:Value->Shared->Prop) (s:Shared) (k:Nat) (xs:Array Value) (x:Value) (Q:Value->Shared->Prop),P k s.heap->L xs s.heap->xs[k]?=some x->(∀h',P (k+1) h'->Heap.SameBut it s.heap h'->Q x {s with heap:=h'}) ->
  wpAny (model prog w) A (Builtin.SmallTypes.nextOf (.ref it)) Q E s
 done:∀(A:Around) (E:Value->Shared->Prop) (s:Shared) (k:Nat) (xs:Array Value) (Q:Value->Shared->Prop),A.handled=none->P k s.heap->L xs s.heap->xs[k]?=none ->
  (∀h' e,Heap.ExtBut it s.heap h'->(∃o,h'.get? e=some o/\o.cls=.type "StopIteration")->E (.ref e) {s with heap:=h'})->wpAny (model prog w) A (Builtin.SmallTypes.nextOf (.ref it)) Q E s
 keepP:∀k h h',P k h->(∀o,h.get? it=some o->h'.get? it=some o)->P k h'
 keepL:∀xs h h',L xs h->(∀o,h.get? l=some o->h'.get? l=some o)->L xs h'
 obj:∀k h,P k h->∃o vs,h.get? it=some o/\o.data=.fields vs
def QhT(prog:Program)(w:World)(it l:Addr):Nx prog w it l (λk h=>h.IsListIter it l k) (λxs h=>h.IsList l xs) where
 item:=λA E s k xs x Q p q e h=>wpAny_nextOf_list_item p q e h
 done:=λA E s k xs Q hh p q e h=>wpAny_nextOf_list_end hh p q e h
 keepP:=λk h h' p f=>p.at λo e=>f o e
 keepL:=λxs h h' p f=>p.at λo e=>f o e
 obj:=λk h z=>by obtain⟨o,e,_,d⟩:=z;exact⟨o,_,e,d⟩
section
variable {prog:Program}{w:World}{A:Around}{E:Value->Shared->Prop}{s:Shared}
def ZR{it t:Addr}{i:Nat}{items:Array Value}(hit:s.heap.IsTupleIter it t i)
  (ht:s.heap.IsTuple t items) (hx:items[i]?=some x) (hQ:∀h',h'.IsTupleIter it t (i+1)->Heap.SameBut it s.heap h'->Q x {s with heap:=h'}):
  wpAny (model prog w) A (Builtin.SmallTypes.nextOf (.ref it)) Q E s:=by
 obtain⟨o,ho,hc,hd⟩:=id hit;obtain⟨ol,hol,_,nl,hdl⟩:=ht;unfold Builtin.SmallTypes.nextOf
 refine Xa (Ve (name:=Str.ofString "__next__") hit.typeIs Ua
  (Vm Ua hit.typeIs F.entry_tuple_iterator_next ?_ (F.args_tuple_iterator_next_1 _)))
 show wpAny _ _ (field (.ref it) 0 >>= _) _ _ s;refine Xa (W8 ho hd (x:=.ref t) rfl ?_);show wpAny _ _ (if(Value.ref t==Value.none)=true then _ else _) _ _ s;rw[if_neg (show ¬((Value.ref t==Value.none)=true)from Xh)];show wpAny _ _ (field (.ref it) 1 >>= _) _ _ s;refine Xa (W8 ho hd (x:=.int i 0) rfl ?_);show wpAny _ _ (seqItems? (.ref t) >>= _) _ _ s;refine Xa (Vb hol hdl ?_);simp only[Ue,hx]
 refine Xa (Te ho hd (by simp) (Xf ⟨x,rfl,Xf (hQ _ ?_ (U6 ..))⟩))
 exact⟨_,Wv _ ho (Tx (Up hd _)),(Obj.cls_mapFields ..).trans hc,by
  rw[Up hd];simp[rawInt]⟩
def Z2{it t:Addr}{i:Nat}{items:Array Value}(hh:A.handled=none)
  (hit:s.heap.IsTupleIter it t i) (ht:s.heap.IsTuple t items) (hx:items[i]?=none)
  (hE:∀h' e,Heap.ExtBut it s.heap h'->(∃o,h'.get? e=some o/\o.cls=.type "StopIteration")->E (.ref e) {s with heap:=h'}):
  wpAny (model prog w) A (Builtin.SmallTypes.nextOf (.ref it)) Q E s:=by
 obtain⟨o,ho,hc,hd⟩:=id hit;obtain⟨ol,hol,_,nl,hdl⟩:=ht;unfold Builtin.SmallTypes.nextOf
 refine Xa (Ve (name:=Str.ofString "__next__") hit.typeIs Ua
  (Vm Ua hit.typeIs F.entry_tuple_iterator_next ?_ (F.args_tuple_iterator_next_1 _)))
 show wpAny _ _ (field (.ref it) 0 >>= _) _ _ s;refine Xa (W8 ho hd (x:=.ref t) rfl ?_);show wpAny _ _ (if(Value.ref t==Value.none)=true then _ else _) _ _ s;rw[if_neg (show ¬((Value.ref t==Value.none)=true)from Xh)];show wpAny _ _ (field (.ref it) 1 >>= _) _ _ s;refine Xa (W8 ho hd (x:=.int i 0) rfl ?_);show wpAny _ _ (seqItems? (.ref t) >>= _) _ _ s;refine Xa (Vb hol hdl ?_);simp only[Ue,hx]
 refine Xa (wpAny_rule (Xa (Te ho hd (by simp) ?_)))
 show wpAny _ _ (newExc (.type "StopIteration") [] >>= _) _ _ _;refine Xa ?_;simp only[newExc,newTuple]
 refine Xa (Uf ?_ (by size_fits))
 refine Xa (m:=firstArgMember _ _) (wpAny_of_eq (a:=Value.none) (by first|rfl|(simp only[firstArgMember];rfl)) ?_)
 refine Uf ?_ (by size_fits)
 simp only[raiseNew];refine Xa (wpAny_handled ?_)
 first|rw[show A.in1.handled=none from hh]|rw[hh]
 refine Xa (Xf (wpAny_throw ?_));exact hE _ _ (((U6 ..).extBut.push _).push _) ⟨_,Xo _ rfl,rfl⟩
end
def Qfl(prog:Program)(w:World)(it l:Addr):Nx prog w it l (λk h=>h.IsTupleIter it l k) (λxs h=>h.IsTuple l xs) where
 item:=λA E s k xs x Q p q e h=>ZR p q e h
 done:=λA E s k xs Q hh p q e h=>Z2 hh p q e h
 keepP:=λk h h' p f=>p.at λo e=>f o e
 keepL:=λxs h h' p f=>p.at λo e=>f o e
 obj:=λk h z=>by obtain⟨o,e,_,d⟩:=z;exact⟨o,_,e,d⟩
section
variable {prog:Program}{w:World}{A:Around}{E:Value->Shared->Prop}{s:Shared}{z TI TO i1 i2 l1 l2:Addr}{P1 P2:Nat->Heap->Prop}{L1 L2:Array Value->Heap->Prop}
def QcM{y b:Value}(N1:Nx prog w i1 l1 P1 L1)(N2:Nx prog w i2 l2 P2 L2)(D:ZipApart z TI TO i1 i2 l1 l2)
  (hz:IsZip s.heap z TI TO .none) (hTI:IsPair s.heap TI (.ref i1) (.ref i2)) (hTO:IsPair s.heap TO a b)
  (h1:P1 k1 s.heap) (h2:P2 k2 s.heap) (hl1:L1 xs s.heap) (hl2:L2 ys s.heap) (hx:xs[k1]?=some x) (hy:ys[k2]?=some y)
  (hQ:∀h',IsZip h' z TI TO (rawInt s.heap.objs.size)->IsPair h' TO x y->P1 (k1+1) h'->P2 (k2+1) h'->IsPair h' s.heap.objs.size x y->h'.objs.size=s.heap.objs.size+1 ->
   (∀c o,c≠z->c≠TO->c≠i1->c≠i2->s.heap.get? c=some o->h'.get? c=some o)->Q (.ref s.heap.objs.size) {s with heap:=h'}):
  wpAny (model prog w) A (Builtin.«zip.__next__» ⟨[.ref z],[]⟩) (λfin s'=>∃v,fin=.done (.ret v)/\Q v s') E s:=by
 have kP1:∀{k:Nat} {h h':Heap} {c:Addr},P1 k h->Heap.SameBut c h h'->i1≠c->P1 k h':=λ{k h h' c} p sb ne=>N1.keepP k h h' p λo e=>(sb.2 i1 ne).trans e;have kP2:∀{k:Nat} {h h':Heap} {c:Addr},P2 k h->Heap.SameBut c h h'->i2≠c->P2 k h':=λ{k h h' c} p sb ne=>N2.keepP k h h' p λo e=>(sb.2 i2 ne).trans e;have kL1:∀{h h':Heap} {c:Addr},L1 xs h->Heap.SameBut c h h'->l1≠c->L1 xs h':=λ{h h' c} p sb ne=>N1.keepL xs h h' p λo e=>(sb.2 l1 ne).trans e;have kL2:∀{h h':Heap} {c:Addr},L2 ys h->Heap.SameBut c h h'->l2≠c->L2 ys h':=λ{h h' c} p sb ne=>N2.keepL ys h h' p λo e=>(sb.2 l2 ne).trans e;show wpAny _ _ (field (.ref z) 2 >>= _) _ _ _;refine Xa (W8 hz rfl (x:=.bool false) rfl ?_);show wpAny _ _ (field (.ref z) 3 >>= _) _ _ _;refine Xa (W8 hz rfl (x:=.ref TI) rfl ?_);refine Xa (Vb hTI rfl ?_);show wpAny _ _ (Builtin.SmallTypes.ownedTupleIsFree (.ref z) >>= _) _ _ _;refine Xa ?_;unfold Builtin.SmallTypes.ownedTupleIsFree;refine Xa (W8 hz rfl (x:=.none) rfl (Xf ?_));simp only[Wa];refine Xa (wpAny_rule ?_);refine Xa (W8 hz rfl (x:=.ref TO) rfl ?_)
 refine Xa (V0 hz (by simp) λh₁ hz₁ hs₁=>?_)
 replace hz₁:IsZip h₁ z TI TO .ellipsis:=hz₁;refine Xa ?_;simp only[List.zipIdx_cons,List.zipIdx_nil,List.forIn_cons,List.forIn_nil];refine Xa (Xa (wpAny_onRaise ?_));show wpAny _ _ (Builtin.SmallTypes.nextOf (.ref i1) >>= _) _ _ _;refine Xa (N1.item _ _ _ _ _ _ _ (kP1 h1 hs₁ D.i1z) (kL1 hl1 hs₁ D.l1z) hx λh₂ h1₂ hs₂=>Xf ?_);have hTO₂:IsPair h₂ TO a b:=hs₂.extBut _ _ D.TOi1 (hs₁.extBut _ _ D.TOz hTO);refine Xa (Vb hTO₂ rfl ?_);refine Xa (wpAny_updateSeq_pair hTO₂ λh₃ hTO₃ hs₃=>?_);replace hTO₃:IsPair h₃ TO x b:=hTO₃;refine Xa (wpAny_letGo (Xf ?_));refine Xa (Xa (wpAny_onRaise ?_));show wpAny _ _ (Builtin.SmallTypes.nextOf (.ref i2) >>= _) _ _ _;refine Xa (N2.item _ _ _ _ _ _ _ (kP2 (kP2 (kP2 h2 hs₁ D.i2z) hs₂ D.i12.symm) hs₃ D.TOi2.symm) (kL2 (kL2 (kL2 hl2 hs₁ D.l2z) hs₂ D.l2i1) hs₃ D.l2TO) hy λh₄ h2₄ hs₄=>Xf ?_);have hTO₄:IsPair h₄ TO x b:=hs₄.extBut _ _ D.TOi2 hTO₃;refine Xa (Vb hTO₄ rfl ?_);refine Xa (wpAny_updateSeq_pair hTO₄ λh₅ hTO₅ hs₅=>?_);replace hTO₅:IsPair h₅ TO x y:=hTO₅;refine Xa (wpAny_letGo (Xf (Xf ?_)));refine Xa (Vb hTO₅ rfl ?_);refine Xa (wpAny_newTuple ?_)
 have hsz:h₅.objs.size=s.heap.objs.size:=by rw[hs₅.1,hs₄.1,hs₃.1,hs₂.1,hs₁.1]
 have hz₅:IsZip h₅ z TI TO .ellipsis:=hs₅.extBut _ _ D.TOz.symm (hs₄.extBut _ _ D.i2z.symm (hs₃.extBut _ _ D.TOz.symm (hs₂.extBut _ _ D.i1z.symm hz₁)))
 have hk₅:∀c o,c≠z->c≠TO->c≠i1->c≠i2->s.heap.get? c=some o->h₅.get? c=some o:=λc o c1 c2 c3 c4 e=>
  hs₅.extBut _ _ c2 (hs₄.extBut _ _ c4 (hs₃.extBut _ _ c2 (hs₂.extBut _ _ c3 (hs₁.extBut _ _ c1 e))))
 have h1₅:P1 (k1+1) h₅:=kP1 (kP1 (kP1 h1₂ hs₃ D.TOi1.symm) hs₄ D.i12) hs₅ D.TOi1.symm;have h2₅:P2 (k2+1) h₅:=kP2 h2₄ hs₅ D.TOi2.symm;have hzlt:z<h₅.objs.size:=Xg hz₅;show wpAny _ _ (Builtin.SmallTypes.ownedTupleHandOut (.ref z) (.ref h₅.objs.size) >>= _) _ _ _;refine Xa ?_;unfold Builtin.SmallTypes.ownedTupleHandOut;have hz₆:IsZip (h₅.push {cls:=.type "tuple",data:=.seq #[x,y]}) z TI TO .ellipsis:=Xb _ hz₅
 refine Xa (V0 hz₆ (by simp) λh₇ hz₇ hs₇=>?_)
 replace hz₇:IsZip h₇ z TI TO (rawInt h₅.objs.size):=hz₇
 refine V0 hz₇ (by simp) λh₈ hz₈ hs₈=>?_
 replace hz₈:IsZip h₈ z TI TO (rawInt h₅.objs.size):=hz₈;have up:∀c o,c≠z->h₅.get? c=some o->h₈.get? c=some o:=λc o c1 e=>hs₈.extBut _ _ c1 (hs₇.extBut _ _ c1 (Xb _ e));have hT₈:IsPair h₈ h₅.objs.size x y:=hs₈.extBut _ _ (Ta hzlt) (hs₇.extBut _ _ (Ta hzlt) (Xo _ rfl))
 have hz8:h₈.objs.size=h₅.objs.size+1:=by rw[hs₈.1,hs₇.1,Va]
 rw[hsz]at hz₈ hT₈ hz8;refine Xf ⟨_,rfl,?_⟩;show Q (.ref h₅.objs.size) _;rw[hsz];exact hQ h₈ hz₈ (up _ _ D.TOz hTO₅) (N1.keepP _ _ _ h1₅ λo e=>up _ o D.i1z e) (N2.keepP _ _ _ h2₅ λo e=>up _ o D.i2z e) hT₈ hz8 λc o c1 c2 c3 c4 e=>up c o c1 (hk₅ c o c1 c2 c3 c4 e)
def QeG{b:Value}{Q:Fin->Shared->Prop}(N1:Nx prog w i1 l1 P1 L1)(N2:Nx prog w i2 l2 P2 L2)(hh:A.handled=none)(D:ZipApart z TI TO i1 i2 l1 l2)
  (hz:IsZip s.heap z TI TO .none) (hTI:IsPair s.heap TI (.ref i1) (.ref i2)) (hTO:IsPair s.heap TO a b)
  (h1:P1 k1 s.heap) (h2:P2 k2 s.heap) (hl1:L1 xs s.heap) (hl2:L2 ys s.heap) (hend:xs[k1]?=none\/ys[k2]?=none)
  (hE:∀h' e,(∀c o,c≠z->c≠TO->c≠i1->c≠i2->s.heap.get? c=some o->h'.get? c=some o)->(∃o,h'.get? e=some o/\o.cls=.type "StopIteration")->E (.ref e) {s with heap:=h'}):
  wpAny (model prog w) A (Builtin.«zip.__next__» ⟨[.ref z],[]⟩) Q E s:=by
 have kP1:∀{k:Nat} {h h':Heap} {c:Addr},P1 k h->Heap.SameBut c h h'->i1≠c->P1 k h':=λ{k h h' c} p sb ne=>N1.keepP k h h' p λo e=>(sb.2 i1 ne).trans e;have kP2:∀{k:Nat} {h h':Heap} {c:Addr},P2 k h->Heap.SameBut c h h'->i2≠c->P2 k h':=λ{k h h' c} p sb ne=>N2.keepP k h h' p λo e=>(sb.2 i2 ne).trans e;have kL1:∀{h h':Heap} {c:Addr},L1 xs h->Heap.SameBut c h h'->l1≠c->L1 xs h':=λ{h h' c} p sb ne=>N1.keepL xs h h' p λo e=>(sb.2 l1 ne).trans e;have kL2:∀{h h':Heap} {c:Addr},L2 ys h->Heap.SameBut c h h'->l2≠c->L2 ys h':=λ{h h' c} p sb ne=>N2.keepL ys h h' p λo e=>(sb.2 l2 ne).trans e;show wpAny _ _ (field (.ref z) 2 >>= _) _ _ _;refine Xa (W8 hz rfl (x:=.bool false) rfl ?_);show wpAny _ _ (field (.ref z) 3 >>= _) _ _ _;refine Xa (W8 hz rfl (x:=.ref TI) rfl ?_);refine Xa (Vb hTI rfl ?_);show wpAny _ _ (Builtin.SmallTypes.ownedTupleIsFree (.ref z) >>= _) _ _ _;refine Xa ?_;unfold Builtin.SmallTypes.ownedTupleIsFree;refine Xa (W8 hz rfl (x:=.none) rfl (Xf ?_));simp only[Wa];refine Xa (wpAny_rule ?_);refine Xa (W8 hz rfl (x:=.ref TO) rfl ?_)
 refine Xa (V0 hz (by simp) λh₁ hz₁ hs₁=>?_)
 replace hz₁:IsZip h₁ z TI TO .ellipsis:=hz₁;refine Xa ?_;simp only[List.zipIdx_cons,List.zipIdx_nil,List.forIn_cons,List.forIn_nil];refine Xa (Xa (wpAny_onRaise ?_));show wpAny _ _ (Builtin.SmallTypes.nextOf (.ref i1) >>= _) _ _ _
 cases hx:xs[k1]? with
 |none=>
  refine Xa (N1.done _ _ _ _ _ _ hh (kP1 h1 hs₁ D.i1z) (kL1 hl1 hs₁ D.l1z) hx λh₂ e hs₂ he=>?_);obtain⟨oe,hoe,hce⟩:=he;have hz₂:IsZip h₂ z TI TO .ellipsis:=hs₂ _ _ D.i1z.symm hz₁
  have hez:e≠z:=λx=>by subst x;rw[hz₂]at hoe;cases hoe;simp at hce
  refine V0 hz₂ (by simp) λh₃ y hs₃=>hE h₃ e (λc o c1 y c3 y x=>hs₃.extBut _ _ c1 (hs₂ _ _ c3 (hs₁.extBut _ _ c1 x))) ⟨oe,hs₃.extBut _ _ hez hoe,hce⟩
 |some x=>
  have hy:ys[k2]?=none:=by rcases hend with h|h;rw[hx]at h;cases h;exact h
  refine Xa (N1.item _ _ _ _ _ _ _ (kP1 h1 hs₁ D.i1z) (kL1 hl1 hs₁ D.l1z) hx λh₂ h1₂ hs₂=>Xf ?_);have hTO₂:IsPair h₂ TO a b:=hs₂.extBut _ _ D.TOi1 (hs₁.extBut _ _ D.TOz hTO);refine Xa (Vb hTO₂ rfl ?_);refine Xa (wpAny_updateSeq_pair hTO₂ λh₃ hTO₃ hs₃=>?_);refine Xa (wpAny_letGo (Xf ?_));refine Xa (Xa (wpAny_onRaise ?_));show wpAny _ _ (Builtin.SmallTypes.nextOf (.ref i2) >>= _) _ _ _;refine Xa (N2.done _ _ _ _ _ _ hh (kP2 (kP2 (kP2 h2 hs₁ D.i2z) hs₂ D.i12.symm) hs₃ D.TOi2.symm) (kL2 (kL2 (kL2 hl2 hs₁ D.l2z) hs₂ D.l2i1) hs₃ D.l2TO) hy λh₄ e hs₄ he=>?_);obtain⟨oe,hoe,hce⟩:=he;have hz₄:IsZip h₄ z TI TO .ellipsis:=hs₄ _ _ D.i2z.symm (hs₃.extBut _ _ D.TOz.symm (hs₂.extBut _ _ D.i1z.symm hz₁))
  have hez:e≠z:=λx=>by subst x;rw[hz₄]at hoe;cases hoe;simp at hce
  refine V0 hz₄ (by simp) λh₅ y hs₅=>hE h₅ e (λc o c1 c2 c3 c4 x=>hs₅.extBut _ _ c1 (hs₄ _ _ c4 (hs₃.extBut _ _ c2 (hs₂.extBut _ _ c3 (hs₁.extBut _ _ c1 x))))) ⟨oe,hs₅.extBut _ _ hez hoe,hce⟩
def Z1{y b:Value}{Q:Option Value->Shared->Prop}(N1:Nx prog w i1 l1 P1 L1)(N2:Nx prog w i2 l2 P2 L2)(D:ZipApart z TI TO i1 i2 l1 l2)
  (hz:IsZip s.heap z TI TO .none) (hTI:IsPair s.heap TI (.ref i1) (.ref i2)) (hTO:IsPair s.heap TO a b)
  (h1:P1 k1 s.heap) (h2:P2 k2 s.heap) (hl1:L1 xs s.heap) (hl2:L2 ys s.heap) (hx:xs[k1]?=some x) (hy:ys[k2]?=some y)
  (hQ:∀h',IsZip h' z TI TO (rawInt s.heap.objs.size)->IsPair h' TO x y->P1 (k1+1) h'->P2 (k2+1) h'->IsPair h' s.heap.objs.size x y->h'.objs.size=s.heap.objs.size+1 ->
   (∀c o,c≠z->c≠TO->c≠i1->c≠i2->s.heap.get? c=some o->h'.get? c=some o)->Q (some (.ref s.heap.objs.size)) {s with heap:=h'}):
  wpAny (model prog w) A (pyNext (.ref z)) Q E s:=by
 have hT:s.TypeIs (.ref z) "zip":=⟨_,hz,rfl⟩;unfold pyNext
 exact Xa (Tq (Ve (name:=Str.ofString "__next__") hT T4
  (Vm T4 hT F.entry_zip_next
   (QcM N1 N2 D hz hTI hTO h1 h2 hl1 hl2 hx hy λh' a1 a2 a3 a4 a5 a6 a7=>Xf (hQ h' a1 a2 a3 a4 a5 a6 a7)) (F.args_zip_next_1 _))))
def Yi{b:Value}{Q:Option Value->Shared->Prop}(N1:Nx prog w i1 l1 P1 L1)(N2:Nx prog w i2 l2 P2 L2)(hh:A.handled=none)(D:ZipApart z TI TO i1 i2 l1 l2)
  (hz:IsZip s.heap z TI TO .none) (hTI:IsPair s.heap TI (.ref i1) (.ref i2)) (hTO:IsPair s.heap TO a b)
  (h1:P1 k1 s.heap) (h2:P2 k2 s.heap) (hl1:L1 xs s.heap) (hl2:L2 ys s.heap) (hend:xs[k1]?=none\/ys[k2]?=none)
  (hQ:∀h',(∀c o,c≠z->c≠TO->c≠i1->c≠i2->s.heap.get? c=some o->h'.get? c=some o)->Q none {s with heap:=h'}):wpAny (model prog w) A (pyNext (.ref z)) Q E s:=by
 have hT:s.TypeIs (.ref z) "zip":=⟨_,hz,rfl⟩;unfold pyNext
 refine Xa (Tq (Ve (name:=Str.ofString "__next__") hT T4
  (Vm T4 hT F.entry_zip_next (QeG N1 N2 hh D hz hTI hTO h1 h2 hl1 hl2 hend λh' e hk he=>?_) (F.args_zip_next_1 _))))
 obtain⟨o,ho,hc⟩:=he;refine Xa (Tt (T:="StopIteration") (b:=true) ⟨o,ho,hc⟩ isSubtype_stop ?_);exact Xf (hQ _ hk)
end
end
section
variable {X:Cx}{H:Hp}{pins:List (Addr×Obj)}{s:Shared}{Y:St}
section
variable {h':Heap}
def Inv.turnedLay{t':Nat}{ch:List Addr}{p:Addr}{vs:List V}{its:List Value}(I:Inv X pins Y H s)(hf:∀b∈ch,Qbo X pins H b)(k:∀b o,b∉ch->s.heap.get? b=some o->h'.get? b=some o)
  (there:∀b o,b∈ch->s.heap.get? b=some o->∃o',h'.get? b=some o')
  (hp:s.heap.objs.size<=p) (hv:Vals vs its) (ht:IsTup h' p its.toArray) (hz:vs.length<=sizeLine):Inv X pins Y (upd H p (.tup vs)) {s with heap:=h',toks:=t'}:=by
 have hn:H p=none:=I.hok.fresh hp
 have ne:∀b o,s.heap.get? b=some o->b≠p:=λb o e z=>by
  have:=Xg e;rw[z]at this;exact absurd (Xs this hp) (W5 _)
 have nch:∀b u,H b=some u->b∉ch:=λb u e z=>by rw[(hf b z).1]at e;cases e
 have up:∀b u,H b=some u->upd H p (.tup vs) b=some u:=λb u e=>by rw[Qb (Q0 e hn)];exact e
 refine I.step (g':=s.gens) (d':=s.drawn) (ch:=ch) (λb hb=>?_) (λb o y y hc e y=>k b o hc e) (λb o y y hc e y=>⟨o.slots,k b o hc e⟩) (λb o y e n=>by rw[Qb (ne b o e)];exact n)
  (λb o hc e=>⟨o,k b o hc e⟩) (λb xs e=>up b _ e) (λb o u e=>up b _ e) (λb ps e=>⟨#[],by rw[up b _ e];simp⟩) (λm hm=>?_) (λb u e=>?_) I.bare
 ·obtain⟨_,f1,_,f3,f4,f5⟩:=hf b hb;exact⟨f3,f1,f4,f5⟩
 ·obtain⟨o,es,ep,ho,r⟩:=hm;refine⟨o,es,ep,k _ o (λz=>(hf _ z).2.1 rfl) ho,r⟩
 ·by_cases hb:b=p
  ·subst hb;rw[Qf]at e;cases e;exact⟨hz,its,hv,ht⟩
  ·rw[Qb hb]at e;refine(I.hok b u e).stay (λc v hc q=>k c v ?_ q) (λc q=>up c _ q) λc xs q=>up c _ q
   rcases hc with z|z
   ·rw[z];exact nch b u e
   ·exact nch c _ z
def Inv.turnedL{t':Nat}{ch:List Addr}(I:Inv X pins Y H s)(hf:∀b∈ch,Qbo X pins H b)(k:∀b o,b∉ch->s.heap.get? b=some o->h'.get? b=some o):Inv X pins Y H {s with heap:=h',toks:=t'}:=by
 have nch:∀b u,H b=some u->b∉ch:=λb u e z=>by rw[(hf b z).1]at e;cases e
 refine I.step (g':=s.gens) (d':=s.drawn) (ch:=ch) (λb hb=>?_) (λb o y y hc e y=>k b o hc e) (λb o y y hc e y=>⟨o.slots,k b o hc e⟩) (λb o y e n=>n)
  (λb o hc e=>⟨o,k b o hc e⟩) (λb xs e=>e) (λb o u e=>e) (λb ps e=>⟨#[],by rw[e];simp⟩) (λm hm=>?_) (λb u e=>?_) I.bare
 ·obtain⟨_,f1,_,f3,f4,f5⟩:=hf b hb;exact⟨f3,f1,f4,f5⟩
 ·obtain⟨o,es,ep,ho,r⟩:=hm;exact⟨o,es,ep,k _ o (λz=>(hf _ z).2.1 rfl) ho,r⟩
 ·refine(I.hok b u e).stay (λc v hc q=>k c v ?_ q) (λc q=>q) λc xs q=>q
  rcases hc with z|z
  ·rw[z];exact nch b u e
  ·exact nch c _ z
end
def SqB:Bool->W.Frag->Hp->Addr->List V->Prop
 |true=>SqL
 |false=>SqT
def LB:Bool->Addr->Array Value->Heap->Prop
 |true,l=>λxs h=>h.IsList l xs
 |false,l=>λxs h=>h.IsTuple l xs
def PB:Bool->Addr->Addr->Nat->Heap->Prop
 |true,it,l=>λk h=>h.IsListIter it l k
 |false,it,l=>λk h=>h.IsTupleIter it l k
def nxB(b:Bool)(prog:Program)(w:World)(it l:Addr):Nx prog w it l (PB b it l) (LB b l):=by
 cases b with
 |true=>exact QhT prog w it l
 |false=>exact Qfl prog w it l
def Inv.sqB{b:Bool}{a:Addr}{xs:List V}(I:Inv X pins Y H s)(h:SqB b X.K H a xs):∃its:List Value,Vals xs its/\LB b a its.toArray s.heap/\xs.length<=sizeLine:=by
 cases b with
 |true=>obtain⟨its,r,p,z⟩:=I.list h;exact⟨its,r,p.isList,z⟩
 |false=>obtain⟨its,r,p,z⟩:=I.tuple h;exact⟨its,r,p,z⟩
def Inv.sqB_inj{b:Bool}{a:Addr}{xs ys:List V}(I:Inv X pins Y H s)(h:SqB b X.K H a xs)(h':SqB b X.K H a ys):xs=ys:=by
 cases b with
 |true=>exact I.list_inj h h'
 |false=>exact I.tuple_inj h h'
noncomputable def Itz(b c:Bool)(K:W.Frag)(a1 a2:Addr):It :=
 ⟨λi H=>∃xs ys x y,SqB b K H a1 xs/\SqB c K H a2 ys/\xs[i]?=some x/\ys[i]?=some y,
   λi H x H'=>∃p v w,H p=none/\x=.ref p/\H'=upd H p (.tup [v,w])/\(∀xs,SqB b K H a1 xs->xs[i]?=some v)/\∀ys,SqB c K H a2 ys->ys[i]?=some w,
   λi H=>∃xs ys,SqB b K H a1 xs/\SqB c K H a2 ys/\(xs.length<=i\/ys.length<=i)⟩
def QeL{P:Program}{w:World}{K:W.Frag}{elts:List Expr}{kt:Nat}{pt:Pos}(b b':Bool)(a1 a2 z TI TO i1 i2:Addr)(D:ZipApart z TI TO i1 i2 a1 a2):
  Turn P w K (.Tuple elts kt pt) (Itz b b' K a1 a2) [z,TI,TO,i1,i2] z (λi h=>IsZip h z TI TO .none/\IsPair h TI (.ref i1) (.ref i2)/\(∃a c,IsPair h TO a c)/\PB b i1 a1 i h/\PB b' i2 a2 i h) where
 mem:=by simp
 obj:=λi h st c hc=>by
  obtain⟨hz,hTI,⟨a,c',hTO⟩,p1,p2⟩:=st
  have hc':c=z\/c=TI\/c=TO\/c=i1\/c=i2:=by simpa using hc
  rcases hc' with rfl|rfl|rfl|rfl|rfl
  ·exact⟨_,hz,λv q=>nomatch q⟩
  ·exact⟨_,hTI,λv q=>nomatch q⟩
  ·exact⟨_,hTO,λv q=>nomatch q⟩
  ·obtain⟨o,vs,e,d⟩:=(nxB b P w c a1).obj i h p1
   exact⟨o,e,λv q=>by rw[d]at q;cases q⟩
  ·obtain⟨o,vs,e,d⟩:=(nxB b' P w c a2).obj i h p2
   exact⟨o,e,λv q=>by rw[d]at q;cases q⟩
 keep:=λi h h' st k=>by
  obtain⟨hz,hTI,⟨a,c',hTO⟩,p1,p2⟩:=st
  exact⟨k z (by simp) _ hz,k TI (by simp) _ hTI,⟨a,c',k TO (by simp) _ hTO⟩,(nxB b P w i1 a1).keepP i h h' p1 λo e=>k i1 (by simp) o e,(nxB b' P w i2 a2).keepP i h h' p2 λo e=>k i2 (by simp) o e⟩
 item:=by
  intro X hP hw hK hc i pins s Y H E I hf st hg;subst hP hw hK;obtain⟨hz,hTI,⟨a,c',hTO⟩,p1,p2⟩:=st;obtain⟨xs,ys,x,y,q1,q2,ex,ey⟩:=hg;obtain⟨it1,r1,l1,_⟩:=I.sqB q1;obtain⟨it2,r2,l2,_⟩:=I.sqB q2;obtain⟨u,hu,ru⟩:=r1.get ex;obtain⟨v,hv,rv⟩:=r2.get ey
  have ltz:∀c,c∈[z,TI,TO,i1,i2]->c<s.heap.objs.size:=λc hc=>by
   have hc':c=z\/c=TI\/c=TO\/c=i1\/c=i2:=by simpa using hc
   rcases hc' with rfl|rfl|rfl|rfl|rfl
   ·exact Xg hz
   ·exact Xg hTI
   ·exact Xg hTO
   ·obtain⟨o,vs,e,d⟩:=(nxB b X.prog X.w c a1).obj i _ p1;exact Xg e
   ·obtain⟨o,vs,e,d⟩:=(nxB b' X.prog X.w c a2).obj i _ p2;exact Xg e
  refine Z1 (nxB b X.prog X.w i1 a1) (nxB b' X.prog X.w i2 a2) D hz hTI hTO p1 p2 l1 l2 (x:=u) (y:=v) (by simpa using hu) (by simpa using hv) λh' b1 b2 b3 b4 b5 b6 b7=>?_
  refine⟨_,rfl,?_⟩;refine wpAny_letOwnedTupleGo_zip (s:={s with heap:=h'}) b1 λh2 c1 c2=>?_;have nep:∀c,c∈[z,TI,TO,i1,i2]->c≠s.heap.objs.size:=λc hc=>Xn (ltz c hc);have up:∀c o,c≠z->h'.get? c=some o->h2.get? c=some o:=λc o hc e=>c2.extBut _ _ hc e
  have kp:∀c o,c∉[z,TO,i1,i2]->s.heap.get? c=some o->h2.get? c=some o:=λc o hc e=>by
   have hc':¬(c=z\/c=TO\/c=i1\/c=i2):=by simpa using hc
   exact up c o (λq=>hc' (.inl q)) (b7 c o (λq=>hc' (.inl q)) (λq=>hc' (.inr (.inl q))) (λq=>hc' (.inr (.inr (.inl q)))) (λq=>hc' (.inr (.inr (.inr q)))) e)
  have hf':∀c∈[z,TO,i1,i2],Qbo X pins H c:=λc hc=>hf c (by
   have hc':c=z\/c=TO\/c=i1\/c=i2:=by simpa using hc
   rcases hc' with rfl|rfl|rfl|rfl<;>simp)
  have hT:IsPair h2 s.heap.objs.size u v:=up _ _ (X9 (nep z (by simp))) b5
  have I2:Inv X pins Y (upd H s.heap.objs.size (.tup [x,y])) {s with heap:=h2}:=I.turnedLay (t':=s.toks) (its:=[u,v]) hf' kp (λc o t e=>by
   by_cases hc:c∈[z,TO,i1,i2]
   ·have hc':c=z\/c=TO\/c=i1\/c=i2:=by simpa using hc
    rcases hc' with rfl|rfl|rfl|rfl
    ·exact⟨_,c1⟩
    ·exact⟨_,up _ _ D.TOz b2⟩
    ·obtain⟨o,vs,e,d⟩:=(nxB b X.prog X.w c a1).obj _ _ b3;exact⟨o,up _ _ D.i1z e⟩
    ·obtain⟨o,vs,e,d⟩:=(nxB b' X.prog X.w c a2).obj _ _ b4;exact⟨o,up _ _ D.i2z e⟩
   ·exact⟨o,kp c o hc e⟩) (Xm _) (.cons ru (.cons rv .nil)) ⟨_,hT,rfl,_,rfl⟩ (by show 2<=sizeLine;decide)
  have hn:H s.heap.objs.size=none:=I.hok.fresh (Xm _)
  refine⟨.ref s.heap.objs.size,_,I2,rfl,⟨_,x,y,hn,rfl,rfl,λws hw=>by rw[I.sqB_inj hw q1];exact ex,λws hw=>by rw[I.sqB_inj hw q2];exact ey⟩,⟨c1,?_,⟨_,_,up _ _ D.TOz b2⟩,?_,?_⟩,λc hc=>?_⟩
  ·exact kp _ _ (by
    have d1:=D.TIz;have d2:=D.TITO;have d3:=D.TIi1;have d4:=D.TIi2
    simp[d1,d2,d3,d4]) hTI
  ·exact(nxB b X.prog X.w i1 a1).keepP _ _ _ b3 λo e=>up _ _ D.i1z e
  ·exact(nxB b' X.prog X.w i2 a2).keepP _ _ _ b4 λo e=>up _ _ D.i2z e
  ·rw[Qb (nep c hc)];exact(hf c hc).1
 done:=by
  intro X hP hw hK hc i pins s Y H E I hf st hg;subst hP hw hK;obtain⟨hz,hTI,⟨a,c',hTO⟩,p1,p2⟩:=st;obtain⟨xs,ys,q1,q2,hl⟩:=hg;obtain⟨it1,r1,l1,_⟩:=I.sqB q1;obtain⟨it2,r2,l2,_⟩:=I.sqB q2;have e1:=r1.length;have e2:=r2.length
  refine Yi (nxB b X.prog X.w i1 a1) (nxB b' X.prog X.w i2 a2) (I.ok.hd hc) D hz hTI hTO p1 p2 l1 l2 (by
   rcases hl with q|q
   ·exact .inl (by simp;omega)
   ·exact .inr (by simp;omega)) λh' kp=>⟨rfl,I.turnedL (t':=s.toks) (ch:=[z,TO,i1,i2]) (λc hc=>hf c (by
    have hc':c=z\/c=TO\/c=i1\/c=i2:=by simpa using hc
    rcases hc' with rfl|rfl|rfl|rfl<;>simp)) λc o hc e=>?_⟩
  have hc':¬(c=z\/c=TO\/c=i1\/c=i2):=by simpa using hc
  exact kp c o (λq=>hc' (.inl q)) (λq=>hc' (.inr (.inl q))) (λq=>hc' (.inr (.inr (.inl q)))) (λq=>hc' (.inr (.inr (.inr q)))) e
 self:=λA i s Q E st h=>wpAny_pyIter_zip st.1 h
noncomputable abbrev Qfz(b:Bool)(l:Addr):Obj:={cls:=.type (if b then "list_iterator" else "tuple_iterator"),data:=.fields #[.ref l,.int 0 0]}
noncomputable abbrev zH1(b:Bool)(h:Heap)(l1:Addr):Heap:=h.push (Qfz b l1)
noncomputable abbrev zH2(b b':Bool)(h:Heap)(l1 l2:Addr):Heap:=(zH1 b h l1).push (Qfz b' l2)
noncomputable abbrev zH3(b b':Bool)(h:Heap)(l1 l2:Addr):Heap:=(zH2 b b' h l1 l2).push {cls:=.type "tuple",data:=.seq #[.ref h.objs.size,.ref (zH1 b h l1).objs.size]}
noncomputable abbrev zH4(b b':Bool)(h:Heap)(l1 l2:Addr):Heap:=(zH3 b b' h l1 l2).push {cls:=.type "tuple",data:=.seq #[.none,.none]}
noncomputable abbrev zH5(b b':Bool)(h:Heap)(l1 l2:Addr):Heap:=(zH4 b b' h l1 l2).push {cls:=.type "zip",data:=.fields #[.none,.bool false,.bool false,.ref (zH2 b b' h l1 l2).objs.size,.ref (zH3 b b' h l1 l2).objs.size]}
def Qcg(b b':Bool)(l1 l2:Addr)(xs ys:Array Value):
  Meets (Builtin.«zip.__new__» ⟨[.type "zip",.ref l1,.ref l2],[]⟩) (λz R s=>LB b l1 xs s.heap/\LB b' l2 ys s.heap /\
   R (.ok (.ret (.ref (zH4 b b' s.heap l1 l2).objs.size))) {s with heap:=zH5 b b' s.heap l1 l2}):=by
 refine .of_wp λprog w A R s h=>?_;obtain⟨hp,g,d,tk,os⟩:=s;obtain⟨hl1,hl2,h⟩:=h;have hsub:=sub_zip
 cases b with
 |true=>
  have hL1:Heap.IsList (Shared.heap ⟨hp,g,d,tk,os⟩) l1 xs:=hl1
  cases b' with
  |true=>
   have hL2:Heap.IsList (Shared.heap ⟨hp.push {cls:=.type "list_iterator",data:=.fields #[.ref l1,.int 0 0]},g,d,tk,os⟩) l2 ys:=Heap.IsList.push hl2 _
   wp_walk using Vf hL1,Vf hL2
   exact⟨_,rfl,h⟩
  |false=>
   have hL2:Heap.IsTuple (Shared.heap ⟨hp.push {cls:=.type "list_iterator",data:=.fields #[.ref l1,.int 0 0]},g,d,tk,os⟩) l2 ys:=Heap.IsTuple.at hl2 λo e=>Xb _ e
   wp_walk using Vf hL1,Ul hL2
   exact⟨_,rfl,h⟩
 |false=>
  have hL1:Heap.IsTuple (Shared.heap ⟨hp,g,d,tk,os⟩) l1 xs:=hl1
  cases b' with
  |true=>
   have hL2:Heap.IsList (Shared.heap ⟨hp.push {cls:=.type "tuple_iterator",data:=.fields #[.ref l1,.int 0 0]},g,d,tk,os⟩) l2 ys:=Heap.IsList.push hl2 _
   wp_walk using Ul hL1,Vf hL2
   exact⟨_,rfl,h⟩
  |false=>
   have hL2:Heap.IsTuple (Shared.heap ⟨hp.push {cls:=.type "tuple_iterator",data:=.fields #[.ref l1,.int 0 0]},g,d,tk,os⟩) l2 ys:=Heap.IsTuple.at hl2 λo e=>Xb _ e
   wp_walk using Ul hL1,Ul hL2
   exact⟨_,rfl,h⟩
section
variable {prog:Program}{w:World}{A:Around}{E:Value->Shared->Prop}
def Qek{b b':Bool}{l1 l2:Addr}{xs ys:Array Value}{Q:Value->Shared->Prop}(hl1:LB b l1 xs s.heap)(hl2:LB b' l2 ys s.heap)
  (h:∀h',IsZip h' (s.heap.objs.size+4) (s.heap.objs.size+2) (s.heap.objs.size+3) .none->IsPair h' (s.heap.objs.size+2) (.ref s.heap.objs.size) (.ref (s.heap.objs.size+1)) ->
   IsPair h' (s.heap.objs.size+3) .none .none->PB b s.heap.objs.size l1 0 h'->PB b' (s.heap.objs.size+1) l2 0 h'->h'.objs.size=s.heap.objs.size+5 ->
   (∀c o,s.heap.get? c=some o->h'.get? c=some o)->Q (.ref (s.heap.objs.size+4)) {s with heap:=h'}):
  wpAny (model prog w) A (call (.type "zip") [.ref l1,.ref l2]) Q E s:=by
 refine callType_new F.called_zip (by decide) (F.typeCall_zip_2 _ _) (F.newCall_zip_2 _ _) (λobj=>F.args_object_init_3 obj _ _) F.entry_zip_new
  (Qcg b b' l1 l2 xs ys) ⟨hl1,hl2,?_⟩
 have z1:(zH1 b s.heap l1).objs.size=s.heap.objs.size+1:=Va ..
 have z2:(zH2 b b' s.heap l1 l2).objs.size=s.heap.objs.size+2:=by rw[Va,z1]
 have z3:(zH3 b b' s.heap l1 l2).objs.size=s.heap.objs.size+3:=by rw[Va,z2]
 have z4:(zH4 b b' s.heap l1 l2).objs.size=s.heap.objs.size+4:=by rw[Va,z3]
 have z5:(zH5 b b' s.heap l1 l2).objs.size=s.heap.objs.size+5:=by rw[Va,z4]
 have g5:(zH5 b b' s.heap l1 l2).get? (zH4 b b' s.heap l1 l2).objs.size=some _:=Xo _ rfl;have g4:(zH5 b b' s.heap l1 l2).get? (zH3 b b' s.heap l1 l2).objs.size=some _:=Xb _ (Xo _ rfl);have g3:(zH5 b b' s.heap l1 l2).get? (zH2 b b' s.heap l1 l2).objs.size=some _:=Xb _ (Xb _ (Xo _ rfl));have g2:(zH5 b b' s.heap l1 l2).get? (zH1 b s.heap l1).objs.size=some (Qfz b' l2):=Xb _ (Xb _ (Xb _ (Xo _ rfl)));have g1:(zH5 b b' s.heap l1 l2).get? s.heap.objs.size=some (Qfz b l1):=Xb _ (Xb _ (Xb _ (Xb _ (Xo _ rfl))));show _/\_;rw[z2,z3,z4]at g5;rw[z1,z2]at g3;rw[z3]at g4;rw[z1]at g2;rw[z4];refine⟨⟨_,g5,rfl⟩,h _ g5 g3 g4 ?_ ?_ z5 λc o x=>Xb _ (Xb _ (Xb _ (Xb _ (Xb _ x))))⟩
 ·cases b<;>exact⟨_,g1,rfl,rfl⟩
 ·cases b'<;>exact⟨_,g2,rfl,rfl⟩
end
section

def QoB(b b':Bool)(K:W.Frag)(ta:TA):TI:=λY H R=>ta Y H λvs H1=>∃a1 a2,vs=[.ref a1,.ref a2]/\(∃xs,SqB b K H1 a1 xs)/\(∃ys,SqB b' K H1 a2 ys)/\R (Itz b b' K a1 a2) H1
def QbF{b b':Bool}{e1 e2:Expr}{ta:TA}{elts:List Expr}{kt:Nat}{pt p pos:Pos}(hg:Gl X "zip")(hm:X.mg "zip"=none)(ha:PA X [e1,e2] ta)(hs:starEach [e1,e2] X.env=[(false,eval e1 X.env),(false,eval e2 X.env)])(hs2:starEach [e2] X.env=[(false,eval e2 X.env)]):
  PI X (.Tuple elts kt pt) (.Call (.Name "zip" p) [e1,e2] [] pos) (QoB b b' X.K ta):=by
 intro pins s Y H R I h
 refine Call_ (Zl I hg hm PyProof.Rows.boot_zip (Wf (thn (ha pos pins s Y H _ I h) λus s1 z=>?_) (by rw[hs,hs2]) (by rw[hs2];rfl)));obtain⟨vs,H1,I1,r1,q1⟩:=z
 obtain⟨a1,a2,e,⟨xs,q1⟩,⟨ys,q2⟩,q⟩:=q1;subst e;obtain⟨u,w',rfl,ru,rw'⟩:=Qb2 r1;cases(show u=_ from ru);cases(show w'=_ from rw');obtain⟨it1,v1,l1,_⟩:=I1.sqB q1;obtain⟨it2,v2,l2,_⟩:=I1.sqB q2
 have hlt1:a1<s1.heap.objs.size:=by
  cases b with
  |true=>obtain⟨o,e,_⟩:=l1;exact Xg e
  |false=>obtain⟨o,e,_⟩:=l1;exact Xg e
 have hlt2:a2<s1.heap.objs.size:=by
  cases b' with
  |true=>obtain⟨o,e,_⟩:=l2;exact Xg e
  |false=>obtain⟨o,e,_⟩:=l2;exact Xg e
 refine Qek l1 l2 λh' b1 b2 b3 b4 b5 b6 b7=>?_;refine wpAny_pyIter_zip b1 ?_;have I2:Inv X pins Y H1 {s1 with heap:=h'}:=I1.kept (t':=s1.toks) b7;refine⟨_,[s1.heap.objs.size+4,s1.heap.objs.size+2,s1.heap.objs.size+3,s1.heap.objs.size,s1.heap.objs.size+1],_,_,H1,rfl,I2,QeL b b' a1 a2 _ _ _ _ _ (W.ktu_apart _ _ _ hlt1 hlt2),⟨b1,b2,⟨_,_,b3⟩,b4,b5⟩,λc hc=>?_,q⟩
 have hc':c=s1.heap.objs.size+4\/c=s1.heap.objs.size+2\/c=s1.heap.objs.size+3\/c=s1.heap.objs.size\/c=s1.heap.objs.size+1:=by simpa using hc
 have le:s1.heap.objs.size<=c:=by rcases hc' with rfl|rfl|rfl|rfl|rfl<;>omega
 exact I1.fpOk le (I1.hok.fresh le)
end
end
section
noncomputable def Ite(K:W.Frag)(a:Addr):It :=
 ⟨λi H=>∃xs x,SqL K H a xs/\xs[i]?=some x,
   λi H x H'=>∃p v,H p=none/\x=.ref p/\H'=upd H p (.tup [.int i,v])/\∀xs,SqL K H a xs->xs[i]?=some v,
   λi H=>∃xs,SqL K H a xs/\xs.length<=i⟩
def QcX{P:Program}{w:World}{K:W.Frag}{elts:List Expr}{kt:Nat}{pt:Pos}(a e it:Addr)(hne:e≠it):
  Turn P w K (.Tuple elts kt pt) (Ite K a) [e,it] e (λi h=>(∃old,IsEnum h e it (i:Nat) old)/\h.IsListIter it a i) where
 mem:=by simp
 obj:=λi h st c hc=>by
  obtain⟨⟨old,he⟩,o,hi,_,hd⟩:=st
  have hc':c=e\/c=it:=by simpa using hc
  rcases hc' with rfl|rfl
  ·exact⟨_,he,λv q=>nomatch q⟩
  ·exact⟨o,hi,λv q=>by rw[hd]at q;cases q⟩
 keep:=λi h h' st k=>by
  obtain⟨⟨old,he⟩,hi⟩:=st
  exact⟨⟨old,k e (by simp) _ he⟩,hi.at λo q=>k it (by simp) o q⟩
 item:=by
  intro X hP hw hK hc i pins s Y H E I hf st hg;subst hP hw hK;obtain⟨⟨old,he⟩,hi⟩:=st;obtain⟨xs,x,q1,ex⟩:=hg;obtain⟨its,r1,pl,_⟩:=I.list q1;obtain⟨u,hu,ru⟩:=r1.get ex;have lte:e<s.heap.objs.size:=Xg he
  have lti:it<s.heap.objs.size:=by obtain⟨o,q,_⟩:=hi;exact Xg q
  refine wpAny_pyNext_enum_item he hi pl.isList (x:=u) (by simpa using hu) hne λh' b1 b2 b3 b4 b5=>?_
  refine⟨_,rfl,?_⟩;refine wpAny_letOwnedTupleGo_enum (s:={s with heap:=h',toks:=s.toks+1}) b1 λh2 c1 c2=>?_;have up:∀c o,c≠e->h'.get? c=some o->h2.get? c=some o:=λc o hc q=>c2.extBut _ _ hc q
  have kp:∀c o,c∉[e,it]->s.heap.get? c=some o->h2.get? c=some o:=λc o hc q=>by
   have hc':¬(c=e\/c=it):=by simpa using hc
   exact up c o (λz=>hc' (.inl z)) (b5 c o (λz=>hc' (.inl z)) (λz=>hc' (.inr z)) q)
  have hT:h2.get? s.heap.objs.size=some {cls:=.type "tuple",data:=.seq #[.int i s.toks,u]}:=up _ _ (Ta lte) b3;have hi2:h2.IsListIter it a (i+1):=b2.at λo q=>up it o hne.symm q
  have I2:Inv X pins Y (upd H s.heap.objs.size (.tup [.int i,x])) {s with heap:=h2,toks:=s.toks+1}:=I.turnedLay (t':=s.toks+1) (its:=[.int i s.toks,u]) hf kp (λc o hc q=>by
   have hc':c=e\/c=it:=by simpa using hc
   rcases hc' with rfl|rfl
   ·exact⟨_,c1⟩
   ·obtain⟨o2,q2,_⟩:=hi2;exact⟨o2,q2⟩) (Xm _) (.cons ⟨_,rfl⟩ (.cons ru .nil)) ⟨_,hT,rfl,_,rfl⟩ (by show 2<=sizeLine;decide)
  have hn:H s.heap.objs.size=none:=I.hok.fresh (Xm _)
  have cast:((i+1:Nat):Int)=(i:Int)+1:=by push_cast;rfl
  refine⟨.ref s.heap.objs.size,_,I2,rfl,⟨_,x,hn,rfl,rfl,λws hw=>by rw[I.list_inj hw q1];exact ex⟩,⟨⟨_,by rw[cast];exact c1⟩,hi2⟩,λc hc=>?_⟩
  have hc':c=e\/c=it:=by simpa using hc
  have ne:c≠s.heap.objs.size:=by
   rcases hc' with rfl|rfl
   ·exact Xn lte
   ·exact Xn lti
  rw[Qb ne];exact(hf c hc).1
 done:=by
  intro X hP hw hK hc i pins s Y H E I hf st hg;subst hP hw hK;obtain⟨⟨old,he⟩,hi⟩:=st;obtain⟨xs,q1,hl⟩:=hg;obtain⟨its,r1,pl,_⟩:=I.list q1;have e1:=r1.length
  refine wpAny_pyNext_enum_end (I.ok.hd hc) he hi pl.isList (by simp;omega) λh' kp=>⟨rfl,I.turnedL (t':=s.toks) (ch:=[e,it]) hf λc o hc q=>?_⟩
  have hc':¬(c=e\/c=it):=by simpa using hc
  exact kp c o (λz=>hc' (.inr z)) q
 self:=λA i s Q E st h=>by
  obtain⟨⟨old,he⟩,_⟩:=st;exact wpAny_pyIter_enum he h
section
variable {X:Cx}
def Qne(K:W.Frag)(tl:TE):TI:=λY H R=>tl Y H λx H1=>∃a xs,x=.ref a/\SqL K H1 a xs/\R (Ite K a) H1
def Qhz{e:Expr}{te:TE}{elts:List Expr}{kt:Nat}{pt p pos:Pos}(hg:Gl X "enumerate")(hm:X.mg "enumerate"=none)(he:PE X e te)(hs:starEach [e] X.env=[(false,eval e X.env)]):
  PI X (.Tuple elts kt pt) (.Call (.Name "enumerate" p) [e] [] pos) (Qne X.K te):=by
 intro pins s Y H R I h;refine Call_ (Zl I hg hm PyProof.Rows.boot_enumerate (Wf (e:=e) (rest:=[]) ?_ hs rfl));rw[hs];show wpAny _ _ (spliced ((false,eval e X.env)::backTo pos (starEach [] X.env))) _ _ s;refine Um (thn (he pins s Y H _ I h) λu s1 z=>?_);obtain⟨x,H1,I1,rx,q1⟩:=z;refine Us ?_;obtain⟨a,xs,ev,hq,q⟩:=q1;subst ev;cases rx;obtain⟨its,rv,pl,hz⟩:=I1.list hq;refine call_enumerate_list pl.isList λh' b1 b2 b3 b4=>?_;refine wpAny_pyIter_enum b1 ?_;have I2:Inv X pins Y H1 {s1 with heap:=h'}:=I1.kept (t':=s1.toks) b4;refine⟨_,[s1.heap.objs.size+1,s1.heap.objs.size],_,_,H1,rfl,I2,QcX a _ _ (Nat.succ_ne_self _),⟨⟨_,b1⟩,b2⟩,λc hc=>?_,q⟩
 have hc':c=s1.heap.objs.size+1\/c=s1.heap.objs.size:=by simpa using hc
 have le:s1.heap.objs.size<=c:=by rcases hc' with rfl|rfl<;>omega
 exact I1.fpOk le (I1.hok.fresh le)
end
end
section
variable {elt iter tg:Expr}{n:Nat}{pos:Pos}{y:Str}{te:TE}{g:TG}{tt:TT}
noncomputable def Cx.block(X:Cx)(xs:List Str)(scope:Scope)(C:Addr)(s:Shared)(H:Hp)(fp:List Addr):Cx :=
 {X with N:=hideN xs X.N++xs,s₀:=s,H₀:=H,env:=compEnvC scope (Qcx X.env.cells scope.names []) C X.env,outer:=X.stack,ex:=fp,fn:=λz=>false,pn:=[],xe:=λz z=>False}
structure CompOk(X:Cx)(xs:List Str)(scope:Scope):Prop where
 kind:scope.kind=.function
 loc:∀x∈xs,scope.names.lookup x=some .local
 all:∀y∈scope.names,(y.2=.local->(y.1∈xs\/y.1=".0")/\scope.names.lookup y.1=some .local)/\y.2≠.cell/\(y.2=.free->X.env.scope.names.lookup y.1=some .cell\/X.env.scope.names.lookup y.1=some .free)
 hid:∀x∈xs,scope.names.lookup (mang x)=none
 nd:xs.Nodup
 dot:(".0":Str)∉X.N
section
variable {X:Cx}{xs:List Str}{scope:Scope}{pins:List (Addr×Obj)}{Y:St}{H:Hp}{s:Shared}{fp:List Addr}
def CompOk.free_of(k:CompOk X xs scope)(hk:X.env.scope.kind=.function)(h:(relabel scope X.env).names.lookup y=some .cell\/(relabel scope X.env).names.lookup y=some .free):(y,NameKind.free)∈scope.names:=by
 rw[QM hk,Zk]at h
 cases q:scope.names.lookup y with
 |none=>rw[q]at h;simp at h
 |some kd=>
  rw[q]at h;have m:=Zo q
  cases kd with
  |free=>exact m
  |cell=>exact absurd rfl (k.all _ m).2.1
  |_=>simp at h
def CompOk.local_of(k:CompOk X xs scope)(hk:X.env.scope.kind=.function)(h:(relabel scope X.env).names.lookup y=some .local): y∈xs\/y=".0":=by
 rw[QM hk,Zk]at h
 cases q:scope.names.lookup y with
 |none=>rw[q]at h;simp at h
 |some kd=>
  rw[q]at h;have m:=Zo q
  cases kd with
  | «local»=>exact((k.all _ m).1 rfl).1
  |free=>
   simp only[Option.map_some]at h;split at h<;>cases h
  |_=>simp at h
def Q1{cells:List (Str×Addr)}{l:List (Str×NameKind)}{c:Addr}(e:(Qcx cells l []).lookup y=some c):cells.lookup y=some c:=by
 rcases QaB e with z|z
 ·simp at z
 ·exact z
def QhJ{Y:St}{i:Nat}{v:V}(e:(Y++List.replicate n none)[i]?=some (some v)):Y[i]?=some (some v):=by
 by_cases h:i < Y.length
 ·rw[Xu h]at e;exact e
 ·rw[Xv (by omega),Th]at e
  split at e<;>cases e
theorem Inv.block{h₁:Heap}{m:Str->Option Value}{tk:Nat}(I:Inv X pins Y H s)(k:CompOk X xs scope)(hf:∀b∈fp,Qbo X pins H b)(hfs:∀b∈fp,b<s.heap.objs.size)
  (hn:h₁.Ns s.heap.objs.size m) (kp:∀b o,s.heap.get? b=some o->h₁.get? b=some o):Inv (X.block xs scope s.heap.objs.size s H fp) [] (Y++List.replicate xs.length none) H {s with heap:=h₁,toks:=tk}:=by
 have hk:X.env.scope.kind=.function:=I.ok.kind
 have fsub:∀b∈fp,b∉frs X.stack:=λb hb z=>by
  rcases X5.mp (I.stkSub b z)with e|e
  ·exact(hf b hb).2.1 e
  ·exact(hf b hb).2.2.1 e
 have okB:(X.block xs scope s.heap.objs.size s H fp).Ok:={
  mod:=I.ok.mod
  kind:=k.kind
  glob:=I.ok.glob
  blt:=I.ok.blt
  above:=Xm _
  inj:=λy z c e1 e2=>I.ok.inj y z c (Q1 e1) (Q1 e2)
  has:=λy h=>by
   have m:=k.free_of hk h;obtain⟨c,hc⟩:=I.ok.has y ((k.all _ m).2.2 rfl);exact⟨c,JJ hc (.inl m)⟩
  cab:=λy c h=>nomatch h
  hd:=I.ok.hd
  frames:=I.ok.frames
  stk:=.inl rfl
  exf:=λb hb=>⟨Xn (hfs b hb),λy c e=>(hf b hb).2.2.2.2.1 y c (Q1 e)⟩
  bs:=I.bs
  bsz:=X6 I.ok.bsz I.sz
  noex:=λb o e hb=>by
   rcases (hf b hb).2.2.2.1 with z|z
   ·exact I.ok.noex b o e z
   ·exact absurd (Xs (Xg e) (X6 I.ok.bsz z)) (W5 _)
  exfs:=λb hb z=>fsub b hb z
  funs:=I.stack
  frf:=λb hb=>I.stkFree b hb}
 refine⟨okB,rfl,I.bare,Un.kept kp,⟨m,hn,λi y v e1 e2 e3=>?_⟩,λy c e=>?_,I.hok.fresh (Xm _),λy c e=>I.freeC y c (Q1 e),(λp hp=>by cases hp),I.hok.kept kp,?_⟩
 ·have e1:(hideN xs X.N++xs)[i]?=some y:=e1;have e3:Vis (relabel scope X.env) y:=e3;have q2:Y[i]?=some (some v):=QhJ e2
  have q0:(hideN xs X.N)[i]?=some y:=by
   have:=(Xe.mp q2).1;rw[I.len,<-ZH (xs:=xs)]at this;rw[Xu this]at e1;exact e1
  obtain⟨z,q1,⟨zm,rfl⟩|⟨zn,rfl⟩⟩:=QfE q0
  ·have no:=k.hid z zm
   have no':(relabel scope X.env).names.lookup (mang z)=none:=by rw[QM hk,Zk,no];rfl
   rcases e3 with w|w|w<;>(rw[no']at w;cases w)
  have ym:y∈X.N:=Xr q1
  have hcf:(relabel scope X.env).names.lookup y=some .cell\/(relabel scope X.env).names.lookup y=some .free:=by
   rcases e3 with z|z
   ·rcases k.local_of hk z with q|q
    ·exact absurd q zn
    ·exact absurd (q▸ym) k.dot
   ·exact z
  have m':=k.free_of hk hcf;have xk:=(k.all _ m').2.2 rfl;obtain⟨mm,hnn,hl⟩:=I.loc;obtain⟨u,r,l⟩:=hl i y v q1 q2 (.inr xk);refine⟨u,r,.inr ⟨hcf,?_⟩⟩
  rcases l with⟨l,_⟩|⟨_,c,e,o,ho,hd⟩
  ·have l:X.env.scope.names.lookup y=some .local:=l
   rcases xk with z|z<;>(rw[l]at z;cases z)
  ·exact⟨c,JJ e (.inl m'),o,kp c o ho,hd⟩
 ·obtain⟨v,o,ho,hd⟩:=I.cell y c (Q1 e);exact⟨v,o,kp c o ho,hd⟩
 ·show(Y++List.replicate xs.length none).length=(hideN xs X.N++xs).length;simp[I.len,ZH]
def PTO(X:Cx)(tl:Option Expr)(tt:TT):Prop:=match tl with
 |none=>∀Y H Q,tt Y H Q->Q true H
 |some c=>PT X c tt
def QaR(wi:TI)(n:Nat)(g:TG)(tt:TT)(te:TE):TE:=λY H Q=>wi Y H λJ H1=>∀D,H1 D=none->∃W:Nat->Nat->List V->Hp->Prop,(∃m,W 0 m [] (upd H1 D (.lst [])))/\∀i m ys H2,W i m ys H2->H2 D=some (.lst ys) /\
 ((J.stop i H2/\Q (.ref D) H2)\/(J.go i H2/\ys.length<sizeLine/\∀x H3 os,os.length=n->J.yld i H2 x H3->g x (Y++os) H3 λY' H4=>(∃os',os'.length=n/\Y'=Y++os')/\tt Y' H4 λb H5=>if b=true then te Y' H5 λy H6=>H6 D=some (.lst ys)/\∃m',m'<m/\W (i+1) m' (ys++[y]) (upd H6 D (.lst (ys++[y])))else ∃m',m'<m/\W (i+1) m' ys H5))
def Y9{tl:Option Expr}{Q:VK}{it:Addr}{tn:Nat->Heap->Prop}{J:It}{E:Value->Shared->Prop}{RR:Value->Addr->Result->Shared->Prop}(hc:X.calm=true)(k:CompOk X xs scope)
  (hn:xs.length=n) (hg:∀C s H fp,PG (X.block xs scope C s H fp) tg g) (ht:∀C s H fp,PTO (X.block xs scope C s H fp) tl tt) (he:∀C s H fp,PE (X.block xs scope C s H fp) elt te)
  (I2:Inv X pins Y H s) (T:Turn X.prog X.w X.K tg J fp it tn) (st2:tn 0 s.heap) (f2:∀b∈fp,Qbo X pins H b)
  (q:∀D,H D=none->∃W:Nat->Nat->List V->Hp->Prop,(∃m,W 0 m [] (upd H D (.lst [])))/\∀i m ys H2,W i m ys H2->H2 D=some (.lst ys) /\
   ((J.stop i H2/\Q (.ref D) H2)\/(J.go i H2/\ys.length<sizeLine/\∀x H3 os,os.length=n->J.yld i H2 x H3->g x (Y++os) H3 λY' H4=>(∃os',os'.length=n/\Y'=Y++os')/\tt Y' H4 λb H5=>if b=true then te Y' H5 λy H6=>H6 D=some (.lst ys)/\∃m',m'<m/\W (i+1) m' (ys++[y]) (upd H6 D (.lst (ys++[y])))else ∃m',m'<m/\W (i+1) m' ys H5)))
  (hRR:∀D C s' H' m,Inv X pins Y H' s'->s'.heap.Ns C m->Qbo X pins H' C->Q (.ref D) H'->RR (.ref D) C (.ok .next) s'):
  wpAny (model X.prog X.w) X.A (newList []) (λacc s₃=>wpAny (model X.prog X.w) X.A (newFunctionEnv scope X.env.globals (Qcx X.env.cells scope.names []) [] X.env.qual none .none (some X.env)) (λcenv s₄=>
   codeAny (model X.prog X.w) X.A (.compStart (.ListComp elt [⟨tg,iter,tl.toList,0⟩] scope pos) 0 (.ref it) acc {cenv with scope:=relabel scope X.env}) (RR acc cenv.locals) s₄) E s₃) E s:=by
 have hk:X.env.scope.kind=.function:=I2.ok.kind
 refine Uf (wpAny_newFunctionEnv (λy hy=>(k.all y hy).2.1) (by intro y hy;simp at hy) (λh₁ hns₁ hsb₁=>?_) k.kind)
 dsimp only at hns₁ hsb₁ ⊢;have hD:H s.heap.objs.size=none:=I2.hok.fresh (Xm _);obtain⟨W,⟨m0,w0⟩,turn⟩:=q s.heap.objs.size hD
 have I3:Inv X pins Y (upd H s.heap.objs.size (.lst [])) {s with heap:=s.heap.push {cls:=.type "list",dict:=none,data:=.seq ([]:List Value).toArray} }:=
  I2.laid (t':=s.toks) (λb o e=>Xb _ e) (Xm _) (show ObjOk X.prog X.w _ _ _ (.lst [])from⟨Vy _,[],_,.nil,Xo _ rfl⟩)
 have lt2:∀b∈fp,b<s.heap.objs.size:=λb hb=>by
  obtain⟨o,e,_⟩:=T.obj 0 _ st2 b hb;exact Xg e
 have f3:∀b∈fp,Qbo X pins (upd H s.heap.objs.size (.lst [])) b:=λb hb=>⟨by rw[Qb (Xn (lt2 b hb))];exact(f2 b hb).1,(f2 b hb).2⟩
 have lt3:∀b∈fp,b<(s.heap.push {cls:=.type "list",dict:=none,data:=.seq ([]:List Value).toArray}).objs.size:=λb hb=>by
  rw[Va];exact Nat.lt_succ_of_lt (lt2 b hb)
 generalize hs3:({s with heap:=s.heap.push {cls:=.type "list",dict:=none,data:=.seq ([]:List Value).toArray} }:Shared)=s3 at I3
 have e3:s3.heap=s.heap.push {cls:=.type "list",dict:=none,data:=.seq ([]:List Value).toArray}:=by rw[<-hs3]
 rw[<-e3]at hns₁ hsb₁ lt3 ⊢;have kp:∀b o,s3.heap.get? b=some o->h₁.get? b=some o:=λb o e=>hsb₁.extBut b o (Xn (Xg e)) (Xb _ e);have IB:=I3.block (tk:=s.toks+([]:List (Str×Value)).length) k f3 lt3 hns₁ kp
 have es:({s3 with heap:=h₁,toks:=s.toks+([]:List (Str×Value)).length}:Shared)={s with heap:=h₁,toks:=s.toks+([]:List (Str×Value)).length}:=by rw[<-hs3]
 rw[es]at IB;generalize hX:X.block xs scope s3.heap.objs.size s3 (upd H s.heap.objs.size (.lst [])) fp=Yyy at IB;have HE:PE Yyy elt te:=hX▸he _ _ _ _;have HT:PTO Yyy tl tt:=hX▸ht _ _ _ _;have HG:PG Yyy tg g:=hX▸hg _ _ _ _
 have hP:Yyy.prog=X.prog:=by rw[<-hX];rfl
 have hw:Yyy.w=X.w:=by rw[<-hX];rfl
 have hK:Yyy.K=X.K:=by rw[<-hX];rfl
 have hA:Yyy.A=X.A:=by rw[<-hX];rfl
 have hcY:Yyy.calm=true:=by rw[<-hX];exact hc
 have hxe:Yyy.xe=λt t=>False:=by rw[<-hX];rfl
 have henv:Yyy.env=compEnvC scope (Qcx X.env.cells scope.names []) s3.heap.objs.size X.env:=by rw[<-hX];rfl
 have fpY:∀{H':Hp},(∀b∈fp,H' b=none)->∀b∈fp,Qbo Yyy [] H' b:=λhn b hb=>by
  have hb1:=(f2 b hb).2;rw[<-hX]
  refine⟨hn b hb,?_,λz=>?_,.inl hb,λy c e=>hb1.2.2.2.1 y c (Q1 e),(λp hp=>by cases hp)⟩
  ·exact Xn (lt3 b hb)
  ·rcases X5.mp (I3.stkSub b z)with e|e
   ·exact hb1.1 e
   ·exact hb1.2.1 e
 have back:∀{Y':St} {H':Hp} {s':Shared},Inv Yyy [] Y' H' s'->Inv X pins Y H' s'/\(∃m,s'.heap.Ns s3.heap.objs.size m)/\Qbo X pins H' s3.heap.objs.size:=λ{Y' H' s'} J'=>by
  have u:=J'.base;have os:=J'.os;have hok:=J'.hok;have bare:=J'.bare;obtain⟨mm,hnn,_⟩:=J'.loc;have fr:=J'.free;rw[henv]at hnn fr;rw[<-hX]at u os hok;refine⟨I3.call' os u hok bare λb hb=>?_,⟨mm,hnn⟩,I3.fpOk (Xm _) fr⟩;exact⟨(f2 b hb).2.2.2.1,(f2 b hb).2.1,(f2 b hb).2.2.2.2.1,(f2 b hb).2.2.2.2.2⟩
 have loop:∀s₃:Shared,Inv Yyy [] (Y++List.replicate xs.length none) (upd H s.heap.objs.size (.lst [])) s₃->tn 0 s₃.heap ->
   codeAny (model X.prog X.w) X.A (.compLoop (.ListComp elt [⟨tg,iter,tl.toList,0⟩] scope pos) 0 (.ref it) (.ref s.heap.objs.size) Yyy.env) (RR (.ref s.heap.objs.size) s3.heap.objs.size) s₃:=by
  intro s₃ J3 t3
  refine Qbl (λm s'=>∃i os H' ys,os.length=n/\Inv Yyy [] (Y++os) H' s'/\tn i s'.heap/\(∀b∈fp,H' b=none)/\W i m ys H') ?_ m0 ⟨0,_,_,[],by rw[List.length_replicate];exact hn,J3,t3,λb hb=>(f3 b hb).1,w0⟩
  rintro m s4 ⟨i,os,H4,ys,lo,J4,st4,fr4,w4⟩;obtain⟨hDl,tr⟩:=turn i m ys H4 w4
  rcases tr with⟨stop,qn⟩|⟨go,hz,step⟩
  ·have dn:=T.done Yyy hP hw hK hcY i [] s4 (Y++os) H4 (notedBy (model X.prog X.w) X.A Yyy.env λe s'=>RR (.ref s.heap.objs.size) s3.heap.objs.size (.error e) s') J4 (fpY fr4) st4 stop;rw[hA]at dn;refine thn dn λr s5 l=>?_;obtain⟨hr,J5⟩:=l;subst hr;obtain⟨I5,⟨m5,n5⟩,f5⟩:=back J5;exact hRR _ _ _ _ _ I5 n5 f5 qn
  ·have im:=T.item Yyy hP hw hK hcY i [] s4 (Y++os) H4 (notedBy (model X.prog X.w) X.A Yyy.env λe s'=>RR (.ref s.heap.objs.size) s3.heap.objs.size (.error e) s') J4 (fpY fr4) st4 go;rw[hA]at im;refine thn im λr s5 j=>?_;obtain⟨u,hr,h5⟩:=j;subst hr;refine thn h5 λt s6 f=>?_;obtain⟨v,H6,J6,rv,y6,st6,fr6⟩:=f;have J6':=J6.pinned (fpY fr6) (T.obj _ _ st6)
   have noE:∀{EE:Value->Shared->Prop},∀e s',Yyy.xe e s'->EE e s':=λ{EE} e s' z=>by rw[hxe]at z;exact z.elim
   have asg:=HG _ s6 (Y++os) H6 v u _ J6' rv (step v H6 os lo y6);rw[hP,hw,hA]at asg;refine X2 asg (λt s7 a=>?_) noE;obtain⟨σ7,H7,J7,⟨os',lo',e7⟩,q7⟩:=a;subst e7
   have fin:∀{s9:Shared} {H9:Hp} {m':Nat} {zs:List V},Inv Yyy ([]++Yk fp s6.heap) (Y++os') H9 s9->m'<m->W (i+1) m' zs H9->∃m',m'<m/\∃i os H' ys,os.length=n/\Inv Yyy [] (Y++os) H' s9/\tn i s9.heap/\(∀b∈fp,H' b=none)/\W i m' ys H':=λ{s9 H9 m' zs} J9 hm' w9=>by
    refine⟨m',hm',i+1,os',H9,zs,lo',J9.unpinned,T.keep _ _ _ st6 λb hb ob e=>(J9.pin (b,ob) (We _ (We _ (Za hb e)))).1,λb hb=>?_,w9⟩;obtain⟨ob,e,d⟩:=T.obj _ _ st6 b hb;exact(J9.pin (b,ob) (We _ (We _ (Za hb e)))).2.1
   have tst:wpAny (model X.prog X.w) X.A (forIn tl.toList true λc r=>if r=true then do let ok <-isTrue c Yyy.env (eval c Yyy.env);pure (ForInStep.yield ok)else pure (ForInStep.yield r)) (TP Yyy ([]++Yk fp s6.heap) (Y++os') λb H5=>if b=true then te (Y++os') H5 λy H6=>H6 s.heap.objs.size=some (.lst ys)/\∃m',m'<m/\W (i+1) m' (ys++[y]) (upd H6 s.heap.objs.size (.lst (ys++[y])))else ∃m',m'<m/\W (i+1) m' ys H5) (notedBy (model X.prog X.w) X.A Yyy.env λe s'=>RR (.ref s.heap.objs.size) s3.heap.objs.size (.error e) s') s7:=by
    refine QeJ ?_
    cases tl with
    |none=>exact⟨H7,J7,HT _ _ _ q7⟩
    |some c=>
     have z:=(show PT Yyy c tt from HT) _ s7 _ _ _ J7 q7;rw[hP,hw,hA]at z;exact X2 z (λt t h=>h) noE
   refine X2 tst (λb s8 Z=>?_) λt t e=>e;obtain⟨H8,J8,q8⟩:=Z
   cases b with
   |false=>
    rw[if_neg Xh]at q8 ⊢;obtain⟨m',hm',w8⟩:=q8;exact fin J8 hm' w8
   |true=>
    rw[if_pos rfl]at q8 ⊢;have ev:=HE _ s8 _ _ _ J8 q8;rw[hP,hw,hA]at ev;refine X2 ev (λy s8 U=>?_) noE;obtain⟨yv,H8,J8,ry,hD8,m',hm',w8⟩:=U;have ap:=Qai (X:=Yyy) _ s8 _ H8 (.ref s.heap.objs.size) [yv] (.ref s.heap.objs.size) [y] (λt H'=>H'=upd H8 s.heap.objs.size (.lst (ys++[yv]))) J8 rfl (.cons ry .nil) ⟨_,ys,yv,rfl,rfl,hD8,hz,rfl⟩;rw[hP,hw,hA]at ap;refine X2 ap (λt s9 S=>?_) noE;obtain⟨_,H9,J9,_,e9⟩:=S;subst e9;exact fin J9 hm' w8
 have t1:tn 0 h₁:=T.keep 0 _ _ st2 λb hb o e=>kp b o (by rw[e3];exact Xb _ e)
 have go:=loop _ IB t1;rw[henv]at go;refine codeAny_compStart_list ?_ ?_
 ·exact go
 ·exact T.self X.A 0 _ _ _ t1 go
def Qa2{tl:Option Expr}{wi:TI}(hc:X.calm=true)(k:CompOk X xs scope)(hi:PI X tg iter wi)(hn:xs.length=n)(hg:∀C s H fp,PG (X.block xs scope C s H fp) tg g)(ht:∀C s H fp,PTO (X.block xs scope C s H fp) tl tt)(he:∀C s H fp,PE (X.block xs scope C s H fp) elt te)
  (hs:∀v,foldedSetIterable iter X.env v=pure v):PE X (.ListComp elt [⟨tg,iter,tl.toList,0⟩] scope pos) (QaR wi n g tt te):=by
 intro pins s Y H Q I h;rw[eval_ListComp];refine wpAny_comprehension_free (use:=none) rfl hs (Jc λy hy hf=>I.ok.has y.1 ((k.all y hy).2.2 hf)) k.kind (λy hy hl=>((k.all y hy).1 hl).2) ?_;refine thn (hi pins s Y H _ I h) λv s1 h1=>thn h1 λitv s2 h2=>?_;obtain⟨it,fp,tn,J,H2,e,I2,T,st2,f2,q⟩:=h2;subst e;refine Y9 (RR:=λacc C=>compPost (model X.prog X.w) X.A X.xe none (EP X pins Y Q) acc C) hc k hn hg ht he I2 T st2 f2 q ?_;intro D C s' H' m I' n' f' q';refine⟨m,n',λh' sb=>?_⟩;exact⟨.ref D,H',I'.turned (t':=s'.toks) (λb o hb e=>sb.extBut b o hb e) f'.1 f'.2.1 f'.2.2.2.1 f'.2.2.2.2.1 f'.2.2.2.2.2,rfl,q'⟩
def Qdh{py spos:Pos}{tl:Option Expr}{wi:TI}{j:Nat}(hc:X.calm=true)(hN:X.N.Nodup)(k:CompOk X xs scope)(hi:PI X tg iter wi)(hn:xs.length=n)(hg:∀C s H fp,PG (X.block xs scope C s H fp) tg g)(ht:∀C s H fp,PTO (X.block xs scope C s H fp) tl tt)(he:∀C s H fp,PE (X.block xs scope C s H fp) elt te)
  (hs:∀v,foldedSetIterable iter X.env v=pure v) (hj:X.N[j]?=some y) (hy:Loc X.env.scope y) (hfn:X.fn y=true\/X.env.scope.names.lookup y=some .local):
  PS X (.Assign [.Name y py] (.ListComp elt [⟨tg,iter,tl.toList,0⟩] scope pos) spos) (λD Y H=>QaR wi n g tt te Y H λv H1=>D.nx (Y.set j (some v)) H1):=by
 have hsw:∃b,swapsWith (.ListComp elt [⟨tg,iter,tl.toList,0⟩] scope pos) (some (.Name y py)) spos.line X.env=pure b:=⟨_,rfl⟩;obtain⟨b,hsw⟩:=hsw
 cases b with
 |false=>exact Qdf hN hj hy (Qa2 hc k hi hn hg ht he hs) hsw hfn
 |true=>
  intro pins s Y H D I h;rw[exec_Assign_Name_used _ _ _ _ hsw];refine Xa (Tp (Xa ?_))
  show wpAny _ _ (do let _ <-comprehension (.ListComp elt [⟨tg,iter,tl.toList,0⟩] scope pos) scope X.env _ (newList []) false (eval iter X.env) (some (assign (.Name y py) X.env))) _ _ s
  refine Xa (X2 (wpAny_comprehension_free (use:=some (assign (.Name y py) X.env)) (Q:=λx s'=>SP X pins D .next s') rfl hs (Jc λy hy hf=>I.ok.has y.1 ((k.all y hy).2.2 hf)) k.kind (λy hy hl=>((k.all y hy).1 hl).2) ?_)
   (λx s' hq=>Xf (Xf hq)) λx x e=>e)
  refine thn (hi pins s Y H _ I h) λv s1 h1=>thn h1 λitv s2 h2=>?_;obtain⟨it,fp,tn,J,H2,e,I2,T,st2,f2,q⟩:=h2;subst e;refine Y9 (Q:=λv H1=>D.nx (Y.set j (some v)) H1) (RR:=λacc C=>compPost (model X.prog X.w) X.A X.xe (some (assign (.Name y py) X.env)) (λx s'=>SP X pins D .next s') acc C) hc k hn hg ht he I2 T st2 f2 q ?_;intro Da C s' H' m I' n' f' q';obtain⟨o,es,ep,ho,hd,r⟩:=id n'
  have Ip:Inv X (pins++Yk [C] s'.heap) Y H' s':=I'.pinned (λb hb=>by
   have e:b=C:=by simpa using hb
   subst e
   exact f') λb hb=>by
    have e:b=C:=by simpa using hb
    subst e
    exact⟨o,ho,λv z=>by rw[hd]at z;cases z⟩
  refine thn (Jw (i:=j) hN hj hy hfn _ s' Y H' (.ref Da) (.ref Da) _ Ip rfl q') λx s'' u=>?_;obtain⟨σ2,H2',J2,q2⟩:=u
  have pc:=J2.pin (C,o) (We _ (We _ (Za (by simp) ho)))
  refine⟨m,⟨o,es,ep,pc.1,hd,r⟩,λh' sb=>?_⟩;exact⟨σ2,H2',J2.unpinned.turned (t':=s''.toks) (λb ob hb e=>sb.extBut b ob hb e) pc.2.1 f'.2.1 f'.2.2.2.1 f'.2.2.2.2.1 f'.2.2.2.2.2,q2⟩
end
end
end L2
namespace Iv
open PySem PySem.Spec PyProof.Rows L2
section
variable {D:Addr}{a':E}{a it tg:Expr}{J:It}{d:Nat}{p q:Pos}{w:Wk}
section
variable {X:Cx}{T:Tbl}{A:Adr}{cf:Cf}{m k:Nat}{α:List Addr}{hs:Hs}{H:Hp}{u:U}{v:V}{Z:Rho}{Y:St}
def WJ(A:Adr)(K:W.Frag)(α:List Addr)(J:It)(H:Hp):Wk->Prop
 |.seqL u=>∃a,RU A α u (.ref a)/\J=Itl K a
 |.seqT u=>∃a,RU A α u (.ref a)/\J=Itt K a
 |.rng lo n=>J=Itr lo n
 |.zipB p q x y=>∃a b,RU A α x (.ref a)/\RU A α y (.ref b)/\J=Itz p q K a b
 |.revL _ _=>False
 |.rngC _ _ _=>False
 |.enmL u=>∃a,RU A α u (.ref a)/\J=Ite K a
 |.strW _=>False
 |.keyD n=>∃a o kv,α[n]?=some a/\J=Itk a o kv/\H a=some (.frz o (.dK kv))
theorem WJ.mono{K:W.Frag}{α':List Addr}{H':Hp}(p:∀(n:Nat) a,α[n]?=some a->α'[n]?=some a)(f:∀b o u,H b=some (.frz o u)->H' b=some (.frz o u))(h:WJ A K α J H w):WJ A K α' J H' w:=by
 cases w with
 |seqL u=>obtain⟨a,r,e⟩:=h;exact⟨a,r.mono p,e⟩
 |seqT u=>obtain⟨a,r,e⟩:=h;exact⟨a,r.mono p,e⟩
 |rng lo n=>exact h
 |zipB b c x y=>obtain⟨a,b,r,r',e⟩:=h;exact⟨a,b,r.mono p,r'.mono p,e⟩
 |revL u n=>exact False.elim h
 |rngC lo c n=>exact False.elim h
 |enmL u=>obtain⟨a,r,e⟩:=h;exact⟨a,r.mono p,e⟩
 |strW x=>exact False.elim h
 |keyD n=>obtain⟨a,o,kv,e1,e2,e3⟩:=h;exact⟨a,o,kv,p _ _ e1,e2,f _ _ _ e3⟩
noncomputable def gT(K:W.Frag):Tg->TG
 |.name i=>Qaw i
 |.pair i j=>QoD K 2 (QfL (Qaw i) (QfL (Qaw j) Qnm))
def YV{b:Bool}{xs:List U}(tx:Txt T A X.K X.mg)(R:Rep T A X.K α hs H)(h:sqU T b u hs=some xs)(r:RU A α u v):∃a vs,v=.ref a/\RUs A α xs vs/\SqB b X.K H a vs:=by
 cases b with
 |true=>exact QK tx R h r
 |false=>exact Jj tx R h r
def QbN{i:Nat}(tx:Txt T A X.K X.mg)(R:Rep T A X.K α hs H)(W:WJ A X.K α J H w)(h:itm T w i hs=some none):J.stop i H:=by
 cases w with
 |seqL u=>
  obtain⟨a,r,rfl⟩:=W;simp only[itm,Xd,Ur]at h;obtain⟨xs,e,h⟩:=h;obtain⟨a',vs,ea,rr,q⟩:=QK tx R e r;cases ea
  exact⟨vs,q,by rw[<-rr.length];exact Wi.mp h⟩
 |seqT u=>
  obtain⟨a,r,rfl⟩:=W;simp only[itm,Xd,Ur]at h;obtain⟨xs,e,h⟩:=h;obtain⟨a',vs,ea,rr,q⟩:=Jj tx R e r;cases ea
  exact⟨vs,q,by rw[<-rr.length];exact Wi.mp h⟩
 |rng lo n=>
  cases(show J=_ from W);simp only[itm,Vi]at h;split at h
  ·cases h
  ·rename_i l;show n<=i;omega
 |zipB p q x y=>
  obtain⟨a,b,r1,r2,rfl⟩:=W;simp only[itm]at h;split at h
  case h_2=>cases h
  rename_i xs ys e1 e2;obtain⟨a',vs,ea,rr,q⟩:=YV tx R e1 r1;cases ea;obtain⟨b',ws,eb,rr',q'⟩:=YV tx R e2 r2;cases eb;refine⟨vs,ws,q,q',?_⟩;unfold two at h;rw[<-rr.length,<-rr'.length];by_cases l1:i<xs.length
  ·by_cases l2:i<ys.length
   ·rw[Xj l1,Xj l2]at h;cases h
   ·exact .inr (by omega)
  ·exact .inl (by omega)
 |revL u n=>exact False.elim W
 |rngC lo c n=>exact False.elim W
 |enmL u=>
  obtain⟨a,r,rfl⟩:=W;simp only[itm,Xd,Ur]at h;obtain⟨xs,e,h⟩:=h;obtain⟨a',vs,ea,rr,q⟩:=QK tx R e r;cases ea
  exact⟨vs,q,by rw[<-rr.length];exact Wi.mp h⟩
 |strW x=>exact False.elim W
 |keyD n=>
  obtain⟨a,o,kv,ha,rfl,hz⟩:=W;simp only[itm]at h;split at h
  case h_2=>cases h
  rename_i kvs hn;obtain⟨kv',ob,e,rd⟩:=R.h.ob n a _ ha hn;rw[hz]at e;cases e;simp only[Vi,Ur]at h
  exact⟨hz,by rw[<-Wj rd];exact Wi.mp h⟩
def Jk{t:Tg}{ρ':Rho}{Q:St->Hp->Prop}(R:Rep T A X.K α hs H)(rs:RS A α Z Y)(r:RU A α u v)(h:tgt t (.one u) Z hs=some ρ')(k:∀σ2,RS A α ρ' σ2->Q σ2 H):gT X.K t v Y H Q:=by
 cases t with
 |name i=>cases h;exact k _ (rs.set i r)
 |pair i j=>
  cases u with
  |ref n=>
   obtain⟨a,ha,rfl⟩:=r;simp only[tgt]at h;split at h
   case h_2=>cases h
   rename_i x y e;cases h;obtain⟨vs,q,rr⟩:=R.h.ob n a _ ha e;obtain⟨v1,ws,rfl,r1,rr⟩:=Qi rr;obtain⟨v2,ws,rfl,r2,rr⟩:=Qi rr;cases Qo rr;exact⟨a,[v1,v2],rfl,SqT.of q,rfl,v1,[v2],rfl,v2,[],rfl,rfl,k _ ((rs.set i r1).set j r2)⟩
  |_=>simp[tgt]at h
def QbO{i:Nat}{x:Im}{t:Tg}{ρ':Rho}(tx:Txt T A X.K X.mg)(R:Rep T A X.K α hs H)(W:WJ A X.K α J H w)(rs:RS A α Z Y)(h:itm T w i hs=some (some x))(ht:tgt t x Z hs=some ρ'):
  J.go i H/\∀v H' (Q:St->Hp->Prop),J.yld i H v H'->(∀σ2,RS A α ρ' σ2->Rep T A X.K α hs H'->Ext α α H H'->Q σ2 H')->gT X.K t v Y H' Q:=by
 have zip:∀{b c:Bool} {a1 a2:Addr} {xs ys:List U} {vs ws:List V},SqB b X.K H a1 vs->SqB c X.K H a2 ws->RUs A α xs vs->RUs A α ys ws->some (two xs ys i)=some (some x) ->
   (Itz b c X.K a1 a2).go i H/\∀v H' (Q:St->Hp->Prop),(Itz b c X.K a1 a2).yld i H v H'->(∀σ2,RS A α ρ' σ2->Rep T A X.K α hs H'->Ext α α H H'->Q σ2 H')->gT X.K t v Y H' Q:=by
  intro b c a1 a2 xs ys vs ws q1 q2 r1 r2 h;unfold two at h;split at h
  case h_2=>cases h
  rename_i x1 y1 e1 e2;cases h;obtain⟨v1,f1,g1⟩:=r1.get e1;obtain⟨v2,f2,g2⟩:=r2.get e2;refine⟨⟨vs,ws,v1,v2,q1,q2,f1,f2⟩,?_⟩;rintro v H' Q ⟨p,w1,w2,hp,rfl,rfl,k1,k2⟩ k;have n1:w1=v1:=X3 ((k1 vs q1).symm.trans f1);have n2:w2=v2:=X3 ((k2 ws q2).symm.trans f2);subst n1 n2
  have ne:∀b y,H b=some y->b≠p:=λb y e z=>by rw[z,hp]at e;cases e
  have R':Rep T A X.K α hs (upd H p (.tup [w1,w2])):=⟨⟨R.h.len,R.h.nd_keep λb x m e=>by rw[Qb (ne _ _ e)];exact e,λn a o e1 e2=>RO.keep (R.h.ob n a o e1 e2) (λm m e=>e) λm y e m=>by rw[Qb (ne _ _ e)];exact e⟩,R.s.keep λy e m=>by rw[Qb (ne _ _ e)];exact e⟩
  have E':Ext α α H (upd H p (.tup [w1,w2])):=⟨λm m e=>e,λn a e l=>by have:=getElem?_lt e;omega,λb o e m=>by rw[Qb (ne _ _ e)];exact e,λb o kv e=>by rw[Qb (ne _ _ e)];exact e,λb o e=>⟨o,by rw[Qb (ne _ _ e)];exact e,λm=>Iff.rfl⟩⟩
  cases t with
  |name i=>simp[tgt]at ht
  |pair i j=>
   cases ht;exact⟨p,[w1,w2],rfl,SqT.of Qf,rfl,w1,[w2],rfl,w2,[],rfl,rfl,k _ ((rs.set i g1).set j g2) R' E'⟩
 cases w with
 |seqL u=>
  obtain⟨a,r,rfl⟩:=W;simp only[itm,Xd]at h;obtain⟨xs,e,y,h,rfl⟩:=h;obtain⟨a',vs,ea,rr,q⟩:=QK tx R e r;cases ea;obtain⟨v1,f1,g1⟩:=rr.get h;refine⟨⟨vs,v1,q,f1⟩,?_⟩;rintro v H' Q ⟨rfl,k1⟩ k;have n1:v=v1:=X3 ((k1 vs q).symm.trans f1);subst n1;exact Jk R rs g1 ht λσ2 r2=>k σ2 r2 R Ext.refl
 |seqT u=>
  obtain⟨a,r,rfl⟩:=W;simp only[itm,Xd]at h;obtain⟨xs,e,y,h,rfl⟩:=h;obtain⟨a',vs,ea,rr,q⟩:=Jj tx R e r;cases ea;obtain⟨v1,f1,g1⟩:=rr.get h;refine⟨⟨vs,v1,q,f1⟩,?_⟩;rintro v H' Q ⟨rfl,k1⟩ k;have n1:v=v1:=X3 ((k1 vs q).symm.trans f1);subst n1;exact Jk R rs g1 ht λσ2 r2=>k σ2 r2 R Ext.refl
 |rng lo n=>
  cases(show J=_ from W);simp only[itm,Vi]at h;split at h
  case isFalse=>cases h
  rename_i l;cases h;refine⟨l,?_⟩;rintro v H' Q ⟨rfl,rfl⟩ k;exact Jk (u:=.int (lo+i) 0) R rs ⟨_,rfl,Cg.refl _ _⟩ ht λσ2 r2=>k σ2 r2 R Ext.refl
 |zipB p q x1 y1=>
  obtain⟨a,b,r1,r2,rfl⟩:=W;simp only[itm]at h;split at h
  case h_2=>cases h
  rename_i xs ys e1 e2;obtain⟨a',vs,ea,rr,q⟩:=YV tx R e1 r1;cases ea;obtain⟨b',ws,eb,rr',q'⟩:=YV tx R e2 r2;cases eb;exact zip q q' rr rr' h
 |revL u n=>exact False.elim W
 |rngC lo c n=>exact False.elim W
 |enmL u=>
  obtain⟨a,r,rfl⟩:=W;simp only[itm,Xd]at h;obtain⟨xs,e,y,h,rfl⟩:=h;obtain⟨a',vs,ea,rr,q⟩:=QK tx R e r;cases ea;obtain⟨v1,f1,g1⟩:=rr.get h;refine⟨⟨vs,v1,q,f1⟩,?_⟩;rintro v H' Q ⟨p,w1,hp,rfl,rfl,k1⟩ k;have n1:w1=v1:=X3 ((k1 vs q).symm.trans f1);subst n1
  have ne:∀b y,H b=some y->b≠p:=λb y e z=>by rw[z,hp]at e;cases e
  have R':Rep T A X.K α hs (upd H p (.tup [.int i,w1])):=⟨⟨R.h.len,R.h.nd_keep λb x m e=>by rw[Qb (ne _ _ e)];exact e,λn a o e1 e2=>RO.keep (R.h.ob n a o e1 e2) (λm m e=>e) λm y e m=>by rw[Qb (ne _ _ e)];exact e⟩,R.s.keep λy e m=>by rw[Qb (ne _ _ e)];exact e⟩
  have E':Ext α α H (upd H p (.tup [.int i,w1])):=⟨λm m e=>e,λn a e l=>by have:=getElem?_lt e;omega,λb o e m=>by rw[Qb (ne _ _ e)];exact e,λb o kv e=>by rw[Qb (ne _ _ e)];exact e,λb o e=>⟨o,by rw[Qb (ne _ _ e)];exact e,λm=>Iff.rfl⟩⟩
  cases t with
  |name i=>simp[tgt]at ht
  |pair i' j'=>
   cases ht;have g0:RU A α (.int i 0) (.int i):=⟨_,rfl,Cg.refl _ _⟩;exact⟨p,[.int i,w1],rfl,SqT.of Qf,rfl,.int i,[w1],rfl,w1,[],rfl,rfl,k _ ((rs.set i' g0).set j' g1) R' E'⟩
 |strW y=>exact False.elim W
 |keyD n=>
  obtain⟨a,o,kv,ha,rfl,hz⟩:=W;simp only[itm]at h;split at h
  case h_2=>cases h
  rename_i kvs hn;obtain⟨kv',ob,e,rd⟩:=R.h.ob n a _ ha hn;rw[hz]at e;cases e;simp only[Vi,Xd]at h;obtain⟨p,hp,rfl⟩:=h;obtain⟨p',hp',r'⟩:=Qow rd hp;refine⟨⟨hz,(Xe.mp hp').1⟩,?_⟩;rintro v H' Q ⟨rfl,q,hq,rfl⟩ k;rw[hp']at hq;cases hq;exact Jk R rs (Qms r'.1) ht λσ2 r2=>k σ2 r2 R Ext.refl
noncomputable def TIW(T:Tbl)(A:Adr)(K:W.Frag)(f:Rho->Hs->Option (Wk×Hs)):L2.TI:=λY H R=>∃α Z hs w hs',RS A α Z Y/\Rep T A K α hs H/\f Z hs=some (w,hs') /\
 ∀α' J H',Ext α α' H H'->Rep T A K α' hs' H'->WJ A K α' J H' w->R J H'
def QcG{t t':L2.TI}(h:PI X tg it t)(i:∀Y H R,t' Y H R->t Y H R):PI X tg it t':=λpins s Y H R I q=>h pins s Y H R I (i Y H R q)
def QlC{t t':L2.TI}(h:PI X tg it t)(h':PI X tg it t'):PI X tg it (λY H R=>t Y H R\/t' Y H R):=λpins s Y H R I q=>q.elim (h pins s Y H R I) (h' pins s Y H R I)
def QfT{u:U}{hs h1:Hs}{n:Nat}{kvs:List (U×U)}(h:QfU u hs h1=some (n,kvs)):u=.ref n/\(∃k0,hs[n]?=some (.dic k0))/\h1[n]?=some (.dic kvs):=by
 unfold QfU at h;split at h
 ·split at h
  ·rename_i k0 e0;split at h
   ·rename_i e1;cases h;exact⟨rfl,⟨_,e0⟩,e1⟩
   ·cases h
  ·cases h
 ·cases h
def Qij{a:Addr}{o:Obj}{kv:List (Key×V)}(ha:a∈α)(h:H a=some (.dK kv)):Ext α α H (upd H a (.frz o (.dK kv))):=by
 have ne:∀b y,H b=some y->b∉α->b≠a:=λb y x hb z=>hb (z▸ha)
 refine⟨λx x e=>e,λn b e l=>by have:=getElem?_lt e;omega,λb y e hb=>?_,λb y u e=>?_,λb y e=>?_⟩
 ·rw[Qb (ne b y e hb)];exact e
 ·rw[Qb (λz=>by rw[z,h]at e;cases e)];exact e
 ·by_cases hb:b=a
  ·subst hb;rw[h]at e;cases e;exact⟨_,Qf,λx=>⟨λz=>(nomatch z),λz=>(nomatch z)⟩⟩
  ·exact⟨y,by rw[Qb hb];exact e,λx=>Iff.rfl⟩
def Qj9{ir:E}(h:PE X it (Iv.TI T A X.K (ev T cf d ir))):PI X tg it (TIW T A X.K (λZ hs=>Zf T (ev T cf d) Z (.key ir) hs)):=by
 refine QcG (Qhy h) ?_;rintro Y H R ⟨α,Z,hs,w,hs',rs,Rp,e,q⟩;simp only[Zf]at e;obtain⟨u,h1,e1,e⟩:=Qc e;simp only[Xd]at e;obtain⟨⟨n,kvs⟩,ed,e⟩:=e;cases e;obtain⟨rfl,_,hk1⟩:=QfT ed;refine TI.run rs Rp e1 λα1 x H1 E1 R1 r1 rs1=>?_;obtain⟨a1,ha1,rfl⟩:=r1;obtain⟨kv1,hH1,rd1⟩:=R1.h.ob n a1 _ ha1 hk1;refine⟨a1,kv1,rfl,hH1,λob=>?_⟩;have R2:Rep T A X.K α1 (h1.set n (.fzd kvs)) (upd H1 a1 (.frz ob (.dK kv1))):=R1.put0 ha1 ⟨kv1,ob,Qf,rd1⟩;exact q α1 _ _ (E1.trans (Qij (Xr ha1) hH1) R2.h) R2 ⟨a1,ob,kv1,ha1,rfl,Qf⟩
def Qpo:PI X tg it (λz z z=>False):=λpins s Y H R I h=>h.elim
def Qj7{ir:E}(tx:Txt T A X.K X.mg)(h:PE X it (Iv.TI T A X.K (ev T cf d ir))):PI X tg it (TIW T A X.K (λZ hs=>Zf T (ev T cf d) Z (.seq ir) hs)):=by
 refine QcG (QlC (QlC (Qhx h) (Qj6 h)) Qpo) ?_;rintro Y H R ⟨α,Z,hs,w,hs',rs,Rp,e,q⟩;simp only[Zf]at e;obtain⟨u,h1,e1,e⟩:=Qc e;simp only[Xd]at e;obtain⟨w',e2,e⟩:=e;cases e;unfold wkS at e2;split at e2
 ·rename_i xs el;cases e2;refine .inl (.inl (TI.run rs Rp e1 λα1 x H1 E1 R1 r1 rs1=>?_));obtain⟨a,vs,rfl,rr,sq⟩:=QK tx R1 el r1;exact⟨a,rfl,⟨vs,sq⟩,q α1 _ H1 E1 R1 ⟨a,r1,rfl⟩⟩
 ·split at e2
  ·rename_i xs el;cases e2;refine .inl (.inr (TI.run rs Rp e1 λα1 x H1 E1 R1 r1 rs1=>?_));obtain⟨a,vs,rfl,rr,sq⟩:=Jj tx R1 el r1;exact⟨a,rfl,⟨vs,sq⟩,q α1 _ H1 E1 R1 ⟨a,r1,rfl⟩⟩
  ·cases e2
def Yh{i:Int}(h:Qp (i*4)=true):-(2 ^ 62)<=i/\i<2 ^ 62:=by
 obtain⟨h1,h2⟩:=Zn h;constructor<;>omega
def Qj8(hg:Gl X "range")(hm:X.mg "range"=none)(hns:∀x p,a≠.Starred x p)(h:PE X a (Iv.TI T A X.K (ev T cf d a'))):PI X tg (.Call (.Name "range" p) [a] [] q) (TIW T A X.K (λZ hs=>Zf T (ev T cf d) Z (.rng a') hs)):=by
 refine QcG (Qdr hg hm (Q7 h YZ (Qj hns)) (Qj hns)) ?_;rintro Y H R ⟨α,Z,hs,w,hs',rs,Rp,e,q⟩;simp only[Zf]at e;obtain⟨u,h1,e1,e⟩:=Qc e;split at e
 case h_2=>cases e
 split at e
 case isFalse=>cases e
 rename_i i c;cases e;refine TI.run rs Rp e1 λα1 x H1 E1 R1 r1 rs1=>?_;obtain⟨j,rfl,cg⟩:=r1;cases cg.exact;obtain⟨b1,b2⟩:=Yh c;exact⟨_,rfl,b1,b2,q α1 _ H1 E1 R1 rfl⟩
def Qhw{b:Expr}{b':E}(hg:Gl X "range")(hm:X.mg "range"=none)(hna:∀x p,a≠.Starred x p)(hnb:∀x p,b≠.Starred x p)(ha:PE X a (Iv.TI T A X.K (ev T cf d a')))(hb:PE X b (Iv.TI T A X.K (ev T cf d b'))):PI X tg (.Call (.Name "range" p) [a,b] [] q) (TIW T A X.K (λZ hs=>Zf T (ev T cf d) Z (.rng2 a' b') hs)):=by
 have s2:starEach [b] X.env=[(false,eval b X.env)]:=Qj hnb
 have s1:starEach [a,b] X.env=[(false,eval a X.env),(false,eval b X.env)]:=by rw[Qj hna,s2]
 refine QcG (Qdq hg hm (Q7 ha (Q7 hb YZ (Qj hnb)) (Qj hna)) s1 s2) ?_;rintro Y H R ⟨α,Z,hs,w,hs',rs,Rp,e,q⟩;simp only[Zf]at e;obtain⟨u,h1,e1,e⟩:=Qc e;obtain⟨u2,h2,e2,e⟩:=Qc e;split at e
 case h_2=>cases e
 split at e
 case isFalse=>cases e
 rename_i i j c;cases e;rw[Xk]at c;refine TI.run rs Rp e1 λα1 x H1 E1 R1 r1 rs1=>?_;refine TI.run rs1 R1 e2 λα2 y H2 E2 R2 r2 rs2=>?_;obtain⟨i',rfl,cg⟩:=r1;cases cg.exact;obtain⟨j',rfl,cg⟩:=r2;cases cg.exact;obtain⟨b1,b2⟩:=Yh c.1;obtain⟨b3,b4⟩:=Yh c.2;exact⟨_,_,rfl,⟨b1,b2,b3,b4⟩,q α2 _ H2 (E1.trans E2 R2.h) R2 rfl⟩
def Qhv{elts:List Expr}{kt:Nat}{pt:Pos}{b:Expr}{b':E}(tx:Txt T A X.K X.mg)(hg:Gl X "zip")(hm:X.mg "zip"=none)(hna:∀x p,a≠.Starred x p)(hnb:∀x p,b≠.Starred x p)(ha:PE X a (Iv.TI T A X.K (ev T cf d a')))(hb:PE X b (Iv.TI T A X.K (ev T cf d b'))):
  PI X (.Tuple elts kt pt) (.Call (.Name "zip" p) [a,b] [] q) (TIW T A X.K (λZ hs=>Zf T (ev T cf d) Z (.zip a' b') hs)):=by
 have s2:starEach [b] X.env=[(false,eval b X.env)]:=Qj hnb
 have s1:starEach [a,b] X.env=[(false,eval a X.env),(false,eval b X.env)]:=by rw[Qj hna,s2]
 have pa:=Q7 ha (Q7 hb YZ (Qj hnb)) (Qj hna);refine QcG (QlC (QlC (QbF (b:=true) (b':=true) hg hm pa s1 s2) (QbF (b:=true) (b':=false) hg hm pa s1 s2)) (QlC (QbF (b:=false) (b':=true) hg hm pa s1 s2) (QbF (b:=false) (b':=false) hg hm pa s1 s2))) ?_;rintro Y H R ⟨α,Z,hs,w,hs',rs,Rp,e,q⟩;simp only[Zf]at e;obtain⟨u1,h1,e1,e⟩:=Qc e;obtain⟨u2,h2,e2,e⟩:=Qc e;simp only[Xd]at e;obtain⟨w',e3,e⟩:=e;cases e;unfold wkZ at e3;simp only at e3;generalize (QT T u1 hs').isSome=p at e3;generalize (QT T u2 hs').isSome=p' at e3;split at e3
 case isFalse=>cases e3
 rename_i c;simp only[Xk]at c;obtain⟨xs,l1⟩:=Tb.mp c.1;obtain⟨ys,l2⟩:=Tb.mp c.2;cases e3
 have key:QoB p p' X.K (QgX (Iv.TI T A X.K (ev T cf d a')) (QgX (Iv.TI T A X.K (ev T cf d b')) QlF)) Y H R:=by
  refine TI.run rs Rp e1 λα1 x H1 E1 R1 r1 rs1=>TI.run rs1 R1 e2 λα2 y H2 E2 R2 r2 rs2=>?_;obtain⟨a,vs,rfl,rr,sq⟩:=YV tx R2 l1 (r1.mono E2.pre);obtain⟨b,ws,rfl,rr',sq'⟩:=YV tx R2 l2 r2;exact⟨a,b,rfl,⟨vs,sq⟩,⟨ws,sq'⟩,q α2 _ H2 (E1.trans E2 R2.h) R2 ⟨a,b,r1.mono E2.pre,r2,rfl⟩⟩
 cases p<;>cases p'
 ·exact .inr (.inr key)
 ·exact .inr (.inl key)
 ·exact .inl (.inr key)
 ·exact .inl (.inl key)
def QhA{elts:List Expr}{kt:Nat}{pt:Pos}(tx:Txt T A X.K X.mg)(hg:Gl X "enumerate")(hm:X.mg "enumerate"=none)(hns:∀x p,a≠.Starred x p)(h:PE X a (Iv.TI T A X.K (ev T cf d a'))):
  PI X (.Tuple elts kt pt) (.Call (.Name "enumerate" p) [a] [] q) (TIW T A X.K (λZ hs=>Zf T (ev T cf d) Z (.enm a') hs)):=by
 refine QcG (Qhz hg hm h (Qj hns)) ?_;rintro Y H R ⟨α,Z,hs,w,hs',rs,Rp,e,q⟩;simp only[Zf]at e;obtain⟨u,h1,e1,e⟩:=Qc e;split at e
 case h_2=>cases e
 rename_i xs el;cases e;refine TI.run rs Rp e1 λα1 x H1 E1 R1 r1 rs1=>?_;obtain⟨a,vs,rfl,rr,sq⟩:=QK tx R1 el r1;exact⟨a,vs,rfl,sq,q α1 _ H1 E1 R1 ⟨a,r1,rfl⟩⟩
def Rep.aside{ho:HO}(R:Rep T A X.K α hs H)(hn:D∉α)(hs':∀o u,H D≠some (.frz o u)):Rep T A X.K α hs (upd H D ho):=
 ⟨⟨R.h.len,R.h.nd_keep λb x hb e=>by rw[Qb (λ(z:b=D)=>hn (z▸hb))];exact e,λn a o e1 e2=>RO.keep (R.h.ob n a o e1 e2) (λv v e=>e) λc y e w=>by
   rcases w with rfl|⟨oz,fs,rfl⟩
   ·have ne:c≠D:=λz=>hn (z▸Xr e1);rw[Qb ne];exact e
   ·rw[Qb (λz=>hs' _ _ (z▸e))];exact e⟩,
  R.s.keep λy e z=>by
   obtain⟨ob,u,rfl⟩:=z;have ne:A.s≠D:=λz=>hs' ob _ (z▸e);rw[Qb ne]
   exact e⟩
def Rep.adopt{us:List U}{ys:List V}(R:Rep T A X.K α hs H)(hn:D∉α)(hD:H D=some (.lst ys))(r:RUs A α us ys):Rep T A X.K (α++[D]) (hs++[.lst us]) H:=by
 refine⟨⟨by simp[R.h.len],QdL R.h.nd hn,λn a o e1 e2=>?_⟩,R.s⟩
 rcases QI e1 with q|⟨q1,q2⟩
 ·rcases QI e2 with z|⟨z,_⟩
  ·exact RO.keep (R.h.ob n a o q z) Qw λy y e y=>e
  ·have:=getElem?_lt q;rw[R.h.len]at this;omega
 ·subst q2
  rcases QI e2 with z|⟨_,z⟩
  ·have:=(Xe.mp z).1;rw[<-R.h.len]at this;omega
  ·subst z;exact⟨ys,hD,RUs.mono Qw r⟩
def RS.pad{p:Rho}{os:St}(rs:RS A α Z Y)(hl:p.length=os.length)(hp:∀x∈p,x=none):RS A α (Z++p) (Y++os):=by
 refine⟨by simp[rs.len,hl],λi u e=>?_⟩
 by_cases l:i < Z.length
 ·rw[Xu l]at e;obtain⟨v,h1,h2⟩:=rs.val i u e
  exact⟨v,by rw[Xu (Xe.mp h1).1];exact h1,h2⟩
 ·rw[Xv (by omega)]at e
  cases hp _ (Xr e)
noncomputable def nN(b:Bool):Nat:=if b then 2 else 1
def QbG(b:Bool):(QhK b).length=nN b:=by cases b<;>rfl
def Qac(b:Bool):∀x∈QhK b,x=none:=by cases b<;>simp[QhK]
def Qie{K:W.Frag}{b:Bool}{os:St}{Q:St->Hp->Prop}(hl:os.length=nN b)(h:gT K (tgN b Y.length) v (Y++os) H Q):
  gT K (tgN b Y.length) v (Y++os) H λσ2 H2=>(∃os':St,os'.length=nN b/\σ2=Y++os')/\Q σ2 H2:=by
 cases b with
 |false=>
  have h:Q ((Y++os).set Y.length (some v)) H:=h
  exact⟨⟨os.set 0 (some v),by simp[hl],by rw[Vo _ _ (Xm _),V1]⟩,h⟩
 |true=>
  obtain⟨a,xs,rfl,sq,len,v1,r1,rfl,v2,r2,rfl,e,q⟩:=h
  refine⟨a,_,rfl,sq,len,v1,_,rfl,v2,_,rfl,e,⟨(os.set 0 (some v1)).set 1 (some v2),by simp[hl],?_⟩,q⟩
  rw[Vo _ _ (Xm _),V1,Vo _ _ (Vs _)]
  congr 1
  congr 1
  omega
def Qgo{α4:List Addr}{ho:HO}{H4:Hp}(E4:Ext α α4 H H4)(nD:D∉α)(d3:H D=some ho)(hnt:∀vs,ho≠.tup vs:=by intro _ z;cases z):D∉α4:=λz=>by
 obtain⟨n,hn⟩:=Vc z;by_cases l:n < α.length
 ·have e1:α[n]?=some α[n]:=Xj l;have e2:=E4.pre _ _ e1;rw[hn]at e2;cases e2;exact nD (List.getElem_mem l)
 ·rcases E4.new n D hn (by omega)with q|⟨vs,q⟩
  ·rw[d3]at q;cases q
  ·rw[d3]at q;exact hnt vs (X3 q)
def Qaz{src:Src}{b:Bool}{t:Option E}{el:E}{Y:St}{H:Hp}{Q:VK}(tx:Txt T A X.K X.mg)(hl:Y.length=X.N.length)(h:Iv.TI T A X.K (ev T cf (d+1) (.comp src b t el)) Y H Q):
  QaR (TIW T A X.K (λZ hs=>Zf T (ev T cf d) Z src hs)) (nN b) (gT X.K (tgN b X.N.length)) (TIT T A X.K (Qay (evT T cf d) t)) (Iv.TI T A X.K (ev T cf d el)) Y H Q:=by
 rw[<-hl];obtain⟨α,Z,hs,u,hs',rs,R,e,q⟩:=h;simp only[ev]at e;obtain⟨w,h1,e1,e⟩:=Qc e;obtain⟨us,h2,e2,e⟩:=Qc e;cases e;refine⟨α,Z,hs,w,h1,rs,R,e1,λα1 J H1 E1 R1 W1 D hD=>?_⟩;have rs1:=rs.mono E1.pre
 refine⟨λi m ys H2=>∃αc hc acc,RS A αc Z Y/\Rep T A X.K αc hc H2/\D∉αc/\H2 D=some (.lst ys)/\RUs A αc acc ys/\Ext α1 αc H1 H2/\WJ A X.K αc J H2 w/\Yv T (ev T cf d) (Qay (evT T cf d) t) w b el Z m i acc hc=some (us,h2),⟨Q6 T w h1,α1,h1,[],rs1,?_,R1.h.notIn hD,Qf,.nil,?_,W1.mono (λs s e=>e) (λb o u e=>by rw[Qb (λz=>by rw[z,hD]at e;cases e)];exact e),e2⟩,?_⟩
 ·exact R1.aside (R1.h.notIn hD) λo u z=>by rw[hD]at z;cases z
 ·exact⟨λs s e=>e,λn a e l=>by have:=getElem?_lt e;omega,λb o e s=>by rw[Qb (λz=>by rw[z,hD]at e;cases e)];exact e,λb o kv e=>by rw[Qb (λz=>by rw[z,hD]at e;cases e)];exact e,λb o e=>⟨o,by rw[Qb (λz=>by rw[z,hD]at e;cases e)];exact e,λs=>Iff.rfl⟩⟩
 rintro i m ys H2 ⟨αc,hc,acc,rsc,Rc,nD,hDl,rr,Ec,Wc,ec⟩;refine⟨hDl,?_⟩
 cases m with
 |zero=>cases ec
 |succ m=>
  simp only[Yv]at ec;split at ec
  ·cases ec
  ·rename_i ei;cases ec;refine .inl ⟨QbN tx Rc Wc ei,?_⟩;have Ra:=Rc.adopt nD hDl rr
   have Ea:Ext α1 (αc++[D]) H1 H2:=⟨λn a e=>Qw n a (Ec.pre n a e),λn a e l=>by
    rcases QI e with z|⟨_,z⟩
    ·exact Ec.new n a z l
    ·rw[z];exact .inl hD,Ec.keep,Ec.fz,Ec.tr⟩
   exact q _ _ _ (E1.trans Ea Ra.h) Ra ⟨D,by rw[<-Rc.h.len];exact QD,rfl⟩
  ·rename_i x ei;split at ec
   ·cases ec
   rename_i ρ' et;split at ec
   case isFalse=>cases ec
   rename_i small;obtain⟨c,h3,e3,ec⟩:=Qc ec
   have go:J.go i H2:=(QbO tx Rc Wc (rsc.pad (os:=List.replicate (nN b) none) (by rw[QbG];simp) (Qac b)) ei et).1
   refine .inr ⟨go,?_,λv H3 os lo yl=>?_⟩
   ·have:=rr.length;rw[W6];omega
   have rsn:RS A αc (Z++QhK b) (Y++os):=rsc.pad (by rw[QbG,lo]) (Qac b)
   obtain⟨_,stp⟩:=QbO tx Rc Wc rsn ei et;rw[rs.len]at stp;refine Qie lo (stp v H3 _ yl λσ2 rs2 R3 E3=>?_);have d3:H3 D=some (.lst ys):=E3.keep D _ hDl nD;refine TIT.run rs2 R3 e3 λα4 H4 E4 R4 rs4=>?_;have d4:H4 D=some (.lst ys):=E4.keep D _ d3 nD;have nD4:=Qgo E4 nD d3;have Et4:=(Ec.trans E3 R3.h).trans E4 R4.h
   cases c with
   |false=>
    rw[if_neg Xh]at ec ⊢;exact⟨m,Wz _,α4,h3,acc,rsc.mono E4.pre,R4,nD4,d4,RUs.mono E4.pre rr,Et4,Wc.mono E4.pre λb o u e=>E4.fz _ _ _ (E3.fz _ _ _ e),ec⟩
   |true=>
    rw[if_pos rfl]at ec ⊢;obtain⟨u',h5,e5,ec⟩:=Qc ec;refine TI.run rs4 R4 e5 λα5 y H5 E5 R5 r5 rs5=>?_;have d5:H5 D=some (.lst ys):=E5.keep D _ d4 nD4;have nD5:=Qgo E5 nD4 d4
    refine⟨d5,m,Wz _,α5,h5,acc++[u'],(rsc.mono E4.pre).mono E5.pre,R5.aside nD5 (λo u z=>by rw[d5]at z;cases z),nD5,Qf,?_,?_,(Wc.mono (λn a e=>E5.pre n a (E4.pre n a e)) λb o u e=>by rw[Qb (λz=>by rw[z,hDl]at e;cases e)];exact E5.fz _ _ _ (E4.fz _ _ _ (E3.fz _ _ _ e))),ec⟩
    ·exact Paired.snoc (RUs.mono E5.pre (RUs.mono E4.pre rr)) r5
    ·have Et:=Et4.trans E5 R5.h
     exact⟨Et.pre,Et.new,λb o e hb=>by rw[Qb (λz=>by rw[z,hD]at e;cases e)];exact Et.keep b o e hb,λb o kv e=>by rw[Qb (λz=>by rw[z,hD]at e;cases e)];exact Et.fz b o kv e,λb o e=>by
      obtain⟨o',q1,q2⟩:=Et.tr b o e
      exact⟨o',by rw[Qb (λz=>by rw[z,hD]at e;cases e)];exact q1,q2⟩⟩
end
end
section
variable {d:Nat}{pos:Pos}{scope:Scope}
section
variable {X:Cx}{T:Tbl}{A:Adr}{C:Ctx}{cf:Cf}{m k:Nat}
def QjL{f:Str}{args:List Expr}{a:Expr}{a':E}{p:Pos}(g:GX T A C X)(hh:hdC C=false)(hg:ZG C f=true)(hx:¬C.bl.contains f=false)(hra:JA C f args=some a)(h:PE X a (TI T A X.K (ev T cf d a')))(hns:∀x p,a≠.Starred x p):
  PE X (.Call (.Name f p) args [] pos) (TI T A X.K (ev T cf (d+1) (.rev a'))):=by
 unfold JA at hra;split at hra
 case isFalse=>cases hra
 rename_i ef;subst ef;split at hra
 case h_2=>cases hra
 rename_i r pr a0 p2;split at hra
 case isFalse=>cases hra
 rename_i c;cases hra;simp only[Xk,Xy]at c;obtain⟨⟨⟨c1,c2⟩,c3⟩,c4⟩:=c
 have e1:r=Str.ofString "reversed":=by simpa using c1
 subst e1
 refine QL (QhD (g.calm hh) (QR g hg) (g.blt _ hx) (QR g c2) (g.blt _ (by rw[c4];simp)) h (Qj hns)) ?_
 rintro Y H Q ⟨α,Z,hs,u,hs',rs,R,e,q⟩;simp only[ev]at e;obtain⟨u1,h1,e1,e⟩:=Qc e;split at e
 case h_2=>cases e
 rename_i xs el;cases e;refine TI.run rs R e1 λα1 x H1 E1 R1 r1 rs1=>?_;obtain⟨b,vs,rfl,rr,sq⟩:=QK g.txt R1 el r1;refine⟨b,vs,rfl,sq,λp hp=>?_⟩;obtain⟨R2,E2⟩:=R1.new (p:=p) (o:=.lst xs.reverse) (ho:=.lst vs.reverse) hp ⟨_,Qf,RUs.mono Qw rr.reverse⟩
 exact q _ _ _ (E1.trans E2 R2.h) R2 ⟨p,by rw[<-R1.h.len];exact QD,rfl⟩
def Qhc{α:List Addr}{us xs:List U}{vs:List V}(h:QiH us=some xs)(r:RUs A α us vs):∃a b c:Int,rngA vs=some (a,b,c)/\(-(2 ^ 62)<=a/\a<2 ^ 62/\-(2 ^ 62)<=b/\b<2 ^ 62)/\(c=1\/c=-1) /\
  QaL a b c<=sizeLine/\QaL a b c<=2 ^ 24/\∀α',RUs A α' xs (QeC a (QaL a b c) c):=by
 have one:∀{i:Int} {v:V},RU A α (.int i 0) v->v=.int i:=λz=>by obtain⟨j,e,c⟩:=z;cases c.exact;exact e
 have core:∀{a b c:Int},QiI a b c=some xs->(-(2 ^ 62)<=a/\a<2 ^ 62/\-(2 ^ 62)<=b/\b<2 ^ 62)/\(c=1\/c=-1)/\QaL a b c<=sizeLine/\QaL a b c<=2 ^ 24/\∀α',RUs A α' xs (QeC a (QaL a b c) c):=by
  intro a b c h;unfold QiI at h;split at h
  case isFalse=>cases h
  rename_i cc;simp only[Xk,Uq,Xy]at cc;obtain⟨⟨c1,c2⟩,c3⟩:=cc;obtain⟨b1,b2⟩:=Yh c1;obtain⟨b3,b4⟩:=Yh c2;have h:(if QaL a b c<=1000000 then some ((List.range (QaL a b c)).map λi:Nat=>U.int (a+(i:Int)*c) 0)else none)=some xs:=h;split at h
  case isFalse=>cases h
  rename_i hn;cases h
  refine⟨⟨b1,b2,b3,b4⟩,c3,by rw[W6];omega,by omega,λα'=>?_⟩
  unfold QeC;generalize List.range (QaL a b c)=l
  induction l with
  |nil=>exact .nil
  |cons x r ih=>exact .cons ⟨_,rfl,Cg.refl _ _⟩ ih
 unfold QiH at h;split at h
 ·obtain⟨v,ws,rfl,r1,rr⟩:=Qi r;cases Qo rr;cases one r1;exact⟨_,_,_,rfl,core h⟩
 ·obtain⟨v,ws,rfl,r1,rr⟩:=Qi r;obtain⟨v2,ws,rfl,r2,rr⟩:=Qi rr;cases Qo rr;cases one r1;cases one r2;exact⟨_,_,_,rfl,core h⟩
 ·obtain⟨v,ws,rfl,r1,rr⟩:=Qi r;obtain⟨v2,ws,rfl,r2,rr⟩:=Qi rr;obtain⟨v3,ws,rfl,r3,rr⟩:=Qi rr;cases Qo rr;cases one r1;cases one r2;cases one r3;exact⟨_,_,_,rfl,core h⟩
 ·cases h
def QjK{f:Str}{args ra:List Expr}{es:List E}{p:Pos}(g:GX T A C X)(hh:hdC C=false)(hg:ZG C f=true)(hx:¬C.bl.contains f=false)(hra:Jq C f args=some ra)(ha:PA X ra (TIA T A X.K (λZ hs=>evs (ev T cf d) Z es hs)))(hns:YC ra):
  PE X (.Call (.Name f p) args [] pos) (TI T A X.K (ev T cf (d+1) (.lstR es))):=by
 unfold Jq at hra;split at hra
 case isFalse=>cases hra
 rename_i ef;subst ef;split at hra
 case h_2=>cases hra
 rename_i r pr ra' pc;split at hra
 case isFalse=>cases hra
 rename_i c;simp only[Xk,Xy]at c;obtain⟨⟨⟨⟨⟨c1,c2⟩,c3⟩,c4⟩,c5⟩,c6⟩:=c;cases hra;subst c1
 cases ra with
 |nil=>simp at c6
 |cons a0 args=>
  refine QL (QhC (g.calm hh) (QR g hg) (g.blt _ hx) (QR g c2) (g.blt _ (by rw[c4];simp)) ha (Qj (hns a0 (Xw ..))) (QZ λz hz=>hns z (Xp _ hz))) ?_
  rintro Y H Q ⟨α,Z,hs,u,hs',rs,R,e,q⟩;simp only[ev]at e;obtain⟨us,h1,e1,e⟩:=Qc e;split at e
  case h_2=>cases e
  rename_i xs er;cases e;refine TIA.run rs R e1 λα1 vs H1 E1 R1 r1 rs1=>?_;obtain⟨a,b,c,h1,h2,h3,h4,h5,h6⟩:=Qhc er r1;refine⟨a,b,c,h1,h2,h3,h4,h5,λp hp=>?_⟩;obtain⟨R2,E2⟩:=R1.new (p:=p) (o:=.lst xs) (ho:=.lst (QeC a (QaL a b c) c)) hp ⟨_,Qf,h6 _⟩
  exact q _ _ _ (E1.trans E2 R2.h) R2 ⟨p,by rw[<-R1.h.len];exact QD,rfl⟩
def QjD{tg it:Expr}{src:Src}(g:GX T A C X)(S:Snd T A C X cf m)(h:compSrc (m+1) C it=some src)(hz:QlM src=true->∃elts kt pt,tg=.Tuple elts kt pt):PI X tg it (TIW T A X.K (λZ hs=>Zf T (ev T cf d) Z src hs)):=by
 have seq:∀{it:Expr} {src:Src},(Qe m C it).map Src.seq=some src->PI X tg it (TIW T A X.K (λZ hs=>Zf T (ev T cf d) Z src hs)):=by
  intro it src h;simp only[Xd]at h;obtain⟨ir,hi,rfl⟩:=h;exact Qj7 g.txt (S.e d it ir hi)
 simp only[compSrc]at h;split at h
 ·rename_i f p args q;split at h
  case isFalse=>cases h
  rename_i hg;split at h
  ·exact seq h
  ·split at h
   ·cases h
   rename_i hx;split at h
   ·rename_i e;subst e;split at h
    ·rename_i a;simp only[Xd]at h;obtain⟨a',ha,rfl⟩:=h;exact Qj8 (QR g hg) (g.blt _ hx) (Qs ha) (S.e d a a' ha)
    ·rename_i a b;simp only[Xc,Xd]at h;obtain⟨a',ha,b',hb,rfl⟩:=h;exact Qhw (QR g hg) (g.blt _ hx) (Qs ha) (Qs hb) (S.e d a a' ha) (S.e d b b' hb)
    ·cases h
   ·split at h
    ·rename_i e;subst e;split at h
     ·rename_i a b;simp only[Xc,Xd]at h;obtain⟨a',ha,b',hb,rfl⟩:=h;obtain⟨elts,kt,pt,rfl⟩:=hz rfl;exact Qhv g.txt (QR g hg) (g.blt _ hx) (Qs ha) (Qs hb) (S.e d a a' ha) (S.e d b b' hb)
     ·cases h
    ·split at h
     ·rename_i e;subst e;split at h
      ·rename_i a;simp only[Xd]at h;obtain⟨a',ha,rfl⟩:=h;obtain⟨elts,kt,pt,rfl⟩:=hz rfl;exact QhA g.txt (QR g hg) (g.blt _ hx) (Qs ha) (S.e d a a' ha)
      ·cases h
     ·exact seq h
 ·exact seq h
def QbH{it:Expr}{src:Src}{env:Env}(h:compSrc m C it=some src):∀x,foldedSetIterable it env x=pure x:=by
 intro x
 cases it<;>first|rfl|skip
 cases m with
 |zero=>simp[compSrc]at h
 |succ m=>
  simp only[compSrc,Xd]at h;obtain⟨_,h,_⟩:=h
  cases m<;>first|exact Znn h|simp[Qe]at h
def Zm{xs:List Str}(g:GX T A C X)(h:Ja C xs scope=true):CompOk X xs scope/\∀C0 s H fp,GX T A (C.inner xs scope) (X.block xs scope C0 s H fp):=by
 unfold Ja at h;simp only[Xk,Wn,Wl,Uc,Xy]at h;obtain⟨⟨⟨⟨h1,h2⟩,hd⟩,h3⟩,h5⟩:=h
 have nd:(".0":Str)∉X.N:=λz=>by
  rw[g.N]at z;rw[Vn.mpr z]at h5;cases h5
 refine⟨⟨h1,λx hx=>(h2 x hx).1,λy hy=>?_,λx hx=>(h2 x hx).2,(Uu.mp hd).2.1,nd⟩,λC0 s H fp=>?_⟩
 ·have:=h3 y hy;obtain⟨n,kd⟩:=y
  cases kd with
  | «local»=>
   simp only[Xk,Uq,Xy,Wn,Vn]at this;exact⟨λw=>this,(λz=>nomatch z),λz=>nomatch z⟩
  |cell=>cases this
  |free=>
   simp only[Uq,Wn]at this;rw[<-g.sc]at this;exact⟨(λz=>nomatch z),(λz=>nomatch z),λw=>this⟩
  |_=>exact⟨(λz=>nomatch z),(λz=>nomatch z),λz=>nomatch z⟩
 ·refine⟨g.CT,?_,?_,?_,g.calm,h1,rfl,g.gfn,g.gcl,g.gco,g.gtx,g.blt,g.txt,g.tab⟩
  ·show hideN xs X.N++xs=hideN xs C.N++xs;rw[g.N]
  ·show(hideN xs X.N++xs).Nodup;rw[g.N];exact hd
  ·show(relabel scope X.env).names=relN C.names scope.names;rw[QM g.kind,g.sc]
def Jx{tg:Expr}{b:Bool}{xs:List Str}{C0:Addr}{s:Shared}{H:Hp}{fp:List Addr}(g:GX T A C X)(hh:hdC C=false)(k:CompOk X xs scope)(gb:GX T A (C.inner xs scope) (X.block xs scope C0 s H fp))(h:QlS tg b xs):PG (X.block xs scope C0 s H fp) tg (gT X.K (tgN b X.N.length)):=by
 have nm:∀{x:Str} {p:Pos} {i:Nat},x∈xs->(hideN xs X.N++xs)[i]?=some x->PG (X.block xs scope C0 s H fp) (.Name x p) (Qaw i):=λ{x p i} hx hi=>by
  have loc:(X.block xs scope C0 s H fp).env.scope.names.lookup x=some .local:=by
   show(relabel scope X.env).names.lookup x=some .local;rw[QM g.kind,Zk,k.loc x hx];rfl
  exact Jw gb.nd hi (.inl loc) (.inr loc)
 rcases h with⟨rfl,x,p,rfl,rfl⟩|⟨rfl,x,p,y,q,kt,pt,rfl,rfl⟩
 ·exact nm (by simp) (by rw[<-ZH (xs:=[x])];simp)
 ·refine Qdt (gb.calm hh) (ZB (nm (by simp) (by rw[<-ZH (xs:=[x,y])];simp)) (ZB (nm (by simp) ?_) Qa0))
  rw[<-ZH (xs:=[x,y]),Xv (by omega)]
  simp
def CompParts(X:Cx)(elt:Expr)(gens:List Comprehension)(scope:Scope)(t:TE):Prop:=∃tg iter tl xs n wi g tt te,gens=[⟨tg,iter,Option.toList tl,0⟩]/\CompOk X xs scope/\PI X tg iter wi/\xs.length=n/\(∀C s H fp,PG (X.block xs scope C s H fp) tg g)/\(∀C s H fp,PTO (X.block xs scope C s H fp) tl tt)/\(∀C s H fp,PE (X.block xs scope C s H fp) elt te) /\
 (∀v,foldedSetIterable iter X.env v=pure v)/\∀Y H Q,Y.length=X.N.length->t Y H Q->QaR wi n g tt te Y H Q\/∃a kv,H a=some (.dK kv)/\QaR wi n g tt te Y H λv H'=>Qb5 a H (Q v) H'
def CompParts.pe{elt:Expr}{gens:List Comprehension}{t:TE}(hc:X.calm=true)(h:CompParts X elt gens scope t):PE X (.ListComp elt gens scope pos) t:=by
 obtain⟨tg,iter,tl,xs,n,wi,gg,tt,te,rfl,ok,hi,hn,hg,ht,he,hf,imp⟩:=h;intro pins s Y H Q I q
 rcases imp Y H Q I.len q with q|⟨a,kv,ha,q⟩
 ·exact Qa2 hc ok hi hn hg ht he hf pins s Y H Q I q
 ·have h0:∀o' u',X.H₀ a≠some (.frz o' u'):=λo' u' z=>by
   have:=I.base.frzs a o' u' z;rw[ha]at this;cases this
  exact thn (Qa2 hc ok hi hn hg ht he hf pins s Y H _ I q) λv s' y=>by obtain⟨x,H',I',rx,o,kv',e,p⟩:=y;exact⟨x,_,I'.thaw e h0,rx,p⟩
end
end
section
variable {ir:E}{d:Nat}{p:Pos}
section
variable {X:Cx}{T:Tbl}{A:Adr}{C:Ctx}{cf:Cf}{m k:Nat}
def Qc5{b:Expr}(h:QiG b=none):ZD b=true:=by
 cases b with
 |Slice lo hi st p=>
  cases st with
  |none=>cases h
  |some e=>
   cases h
 |_=>rfl
def QeX{b:Expr}{lo hi:Option Expr}(h:QiG b=some (.cut lo hi)):∃p,b=.Slice lo hi none p:=by
 cases b with
 |Slice lo' hi' st p=>
  cases st with
  |none=>cases h;exact⟨p,rfl⟩
  |some e=>
   cases h
 |_=>cases h
def Qb7{b:Expr}:QiG b≠some .rev:=λh=>by
 unfold QiG at h;split at h
 ·split at h<;>cases h
 ·cases h
def QaU{a b:Expr}(g:GX T A C X)(hu:X.A.units+1<cLine)(S:Snd T A C X cf m)(h:Qe (m+1) C (.Subscript a b p)=some ir):PE X (.Subscript a b p) (TI T A X.K (ev T cf d ir)):=by
 simp only[QpU]at h;split at h
 ·rename_i lo hi hb;obtain⟨p2,rfl⟩:=QeX hb;exact Qg7 S h
 ·rename_i hb;exact absurd hb Qb7
 ·cases h
 ·rename_i hb;have hs:=Qc5 hb;refine Qx λd=>?_;simp only[Xc]at h;obtain⟨b',hb',h⟩:=h
  have gen:((Qe m C a).bind λa'=>some (E.ix a' b'))=some ir->PE X (.Subscript a b p) (TI T A X.K (ev T cf (d+1) ir)):=λh=>by
   simp only[Xc]at h;obtain⟨a',ha,h⟩:=h;cases h;exact Qh9 hu g.txt (S.e d a a' ha) (S.e d b b' hb') hs
  split at h
  ·rename_i ks vs hh
   exact absurd hh (by cases a<;>simp[Qnj])
  ·rename_i x hh;split at h
   ·rename_i k ht;exact nomatch ht
   ·exact gen h
  ·exact gen h
def hd0{C:Ctx}(h:¬hdC C=true):hdC C=false:=by
 cases q:hdC C with
 |true=>exact absurd q h
 |false=>rfl
def QkB{elt:Expr}{gens:List Comprehension}{scope:Scope}(h:Qe (m+1) C (.ListComp elt gens scope p)=some ir):hdC C=false:=by
 simp only[QoK]at h;split at h
 case h_2=>cases h
 split at h
 case isFalse=>cases h
 rename_i ok;simp only[Xk,Uc]at ok;exact ok.2
def Qca{f:Expr}{args:List Expr}{kws:List Keyword}(g:GX T A C X)(F:Fc X T A cf k)(hr:hdC C=false->Room (k+1) X.A)(hu:X.A.units+64<cLine)(S:Snd T A C X cf m)(h:Qe (m+1) C (.Call f args kws p)=some ir):PE X (.Call f args kws p) (TI T A X.K (ev T cf d ir)):=by
 refine Qx λd=>?_
 cases kws with
 |cons kw kws=>cases f<;>exact Znn h
 |nil=>
  cases f with
  |Name x px=>
   simp only[QpS]at h;split at h
   ·cases h
   rename_i hn;have n1:x≠"__debug__":=λz=>hn (.inl z);have n2:x≠"__name__":=λz=>hn (.inr (.inl z))
   have hg:ZG C x=true:=by
    cases q:ZG C x with
    |true=>rfl
    |false=>exact absurd (.inr (.inr q)) hn
   split at h
   ·rename_i i hx;split at h
    ·cases h
    rename_i hh;simp only[Xc]at h;obtain⟨es,ha,h⟩:=h;exact Qhb g F ((hr (hd0 hh)).mono (Vs _)) S hg n1 hx ha h
   ·rename_i i hx;split at h
    ·cases h
    rename_i hh;simp only[Xc]at h;obtain⟨es,ha,h⟩:=h;cases h;exact QjJ g F (hr (hd0 hh)) S hg n1 hx ha
   ·cases h
   ·cases h
   ·split at h
    ·cases h
    rename_i hx;split at h
    ·rename_i e;subst e;split at h
     ·rename_i a t pt;split at h
      ·rename_i c;simp only[Xc]at h;obtain⟨a',ha,ty,ht,h⟩:=h;cases h;exact Qmo g S hg hx c.1 c.2.1 c.2.2 ht ha
      ·cases h
     ·cases h
    ·split at h
     ·cases h
     rename_i hh;have hh:=hd0 hh;split at h
     ·rename_i ra hra;simp only[Xc]at h;obtain⟨es,ha,h⟩:=h;cases h;exact nomatch hra
     ·split at h
      ·rename_i ra hra;simp only[Xc]at h;obtain⟨es,ha,h⟩:=h;cases h;exact QjK g hh hg hx hra (S.a d ra es ha) (Qn ha)
      split at h
      ·rename_i a hra;simp only[Xc]at h;obtain⟨a',ha,h⟩:=h;cases h;exact QjL g hh hg hx hra (S.e d a a' ha) (Qs ha)
      ·simp only[Xc]at h;obtain⟨b,hb,es,ha,h⟩:=h;cases h
       exact Qpi g hh (by omega) S hg n1 n2 hb ha
  |Attribute o x pa=>
   simp only[QpR]at h;split at h
   case isFalse=>cases h
   rename_i c;simp only[Xk,Xy]at c;split at h
   ·rename_i i hx;split at h
    ·cases h
    rename_i hh;simp only[Xc]at h;obtain⟨o',ho,es,ha,h⟩:=h;cases h;exact QjI g F ((hr (hd0 hh)).mono (Vs _)) S c.1.1 c.1.2 c.2 hx ho ha
   ·simp only[Xc]at h;obtain⟨b,hb,o',ho,es,ha,h⟩:=h;cases h
    exact Qph (by omega) g.txt S hb c.1.1 c.1.2 c.2 ho ha
  |_=>exact Znn h
def Qc8(g:GX T A C X)(F:Fc X T A cf k)(hr:hdC C=false->Room (k+1) X.A)(hu:X.A.units+64<cLine)(S:Snd T A C X cf m)(cp:∀d elt gens scope p ir,Qe (m+1) C (.ListComp elt gens scope p)=some ir->CompParts X elt gens scope (TI T A X.K (ev T cf d ir)))(d:Nat)(e:Expr)(ir:E)(h:Qe (m+1) C e=some ir):PE X e (TI T A X.K (ev T cf d ir)):=by
 cases e with
 |Constant c j p=>exact Qha h
 |Name x p=>exact QjH g h
 |BinOp a o b p=>exact Qmp S h
 |UnaryOp o a p=>
  cases o with
  |USub=>exact Qmn S h
  |Not=>exact(QjG g.txt S h).1
  |_=>exact Znn h
 |BoolOp o vs p=>
  cases vs with
  |nil=>cases o<;>first|exact Znn h|simp[Qe]at h
  |cons a r=>
   cases o with
   |And=>exact(S.an d a r p ir h).2
   |Or=>exact(S.orr d a r p ir h).2
 |Compare a os bs p=>
  match os,bs,h with
  |[o],[b],h=>exact(QjN g.txt g.tab hu S h).1
  |[_,_],[_,_],h=>exact Znn h
  |[],_,h=>exact Znn h
  |[_],[],h=>exact Znn h
  |[_],_::_::_,h=>exact Znn h
  |[_,_],[],h=>exact Znn h
  |[_,_],[_],h=>exact Znn h
  |[_,_],_::_::_::_,h=>exact Znn h
  |_::_::_::_,_,h=>exact Znn h
 |IfExp t a b p=>exact Qg8 S h
 |Tuple es j p=>exact Qg5 S h
 |List es p=>exact QjM S h
 |Subscript a b p=>exact QaU g (by omega) S h
 |ListComp elt gens scope p=>exact(cp d elt gens scope p ir h).pe (g.calm (QkB h))
 |Dict ks vs p=>
  cases ks with
  |cons k0 ks=>exact Znn h
  |nil=>
   cases vs with
   |cons v0 vs=>exact Znn h
   |nil=>
    simp only[QpQ]at h;cases h;refine Qx λd=>QL Qff ?_;rintro Y H Q ⟨α,Z,hs,u,hs',rs,R,e,q⟩;simp only[ev]at e;cases e;intro p hp;obtain⟨R',E'⟩:=R.new (o:=.dic []) hp ⟨[],Qf,.nil⟩
    exact q _ _ _ E' R' ⟨p,by rw[<-R.h.len];exact QD,rfl⟩
 |Attribute a f p=>exact QjO g S h
 |Call f args kws p=>exact Qca g F hr hu S h
 |_=>exact Znn h
def QN{e:Expr}(g:GX T A C X)(he:∀whole,isTrue e X.env whole=(do let v <-whole;standAt e.pos;holding [v] (truthy v)))(h:∀d,PE X e (TI T A X.K (ev T cf d ir)))(hir:∀d Z hs,evT T cf (d+1) ir Z hs=bd (ev T cf d ir Z hs) λu h1=>(YJ T u h1).map λb=>(b,h1)):
  PT X e (TIT T A X.K (evT T cf d ir)):=by
 refine QbC λd=>?_;refine QiE (Qe9 (h d) he) ?_;rintro Y H Q ⟨α,Z,hs,u,hs',rs,R,e,q⟩;rw[hir]at e;obtain⟨u1,h1,e1,e⟩:=Qc e;simp only[Xd]at e;obtain⟨b,e2,e⟩:=e;cases e;exact TI.run rs R e1 λα1 x H1 E1 R1 r1 rs1=>⟨_,QcZ g.txt R1 e2 r1,q α1 H1 E1 R1⟩
def QG(h:Qdn ir=true):∀d Z hs,evT T cf (d+1) ir Z hs=bd (ev T cf d ir Z hs) λu h1=>(YJ T u h1).map λb=>(b,h1):=by
 intro d Z hs
 cases ir<;>first|rfl|cases h
def QjB(g:GX T A C X)(F:Fc X T A cf k)(hr:hdC C=false->Room (k+1) X.A)(hu:X.A.units+64<cLine)(S:Snd T A C X cf m)(cp:∀d elt gens scope p ir,Qe (m+1) C (.ListComp elt gens scope p)=some ir->CompParts X elt gens scope (TI T A X.K (ev T cf d ir)))(d:Nat)(e:Expr)(ir:E)(hne:∀t a b p,e≠.IfExp t a b p)(ok:okT e ir=true)(h:Qe (m+1) C e=some ir):PT X e (TIT T A X.K (evT T cf d ir)):=by
 have all:=λd=>Qc8 g F hr hu S cp d e ir h
 cases e with
 |Constant c j p=>exact QN g (λz=>rfl) all (QG ok)
 |Name x p=>exact QN g (λz=>rfl) all (QG ok)
 |BinOp a o b p=>exact QN g (λz=>rfl) all (QG ok)
 |UnaryOp o a p=>
  cases o with
  |USub=>exact QN g (λz=>rfl) all (QG ok)
  |Not=>exact(QjG g.txt S h).2
  |_=>exact Znn h
 |BoolOp o vs p=>
  cases vs with
  |nil=>cases o<;>first|exact Znn h|simp[Qe]at h
  |cons a r=>
   cases o with
   |And=>exact(S.an d a r p ir h).1.pt
   |Or=>exact(S.orr d a r p ir h).1.pt
 |Compare a os bs p=>
  match os,bs,h with
  |[o],[b],h=>exact(QjN g.txt g.tab hu S h).2
  |[_,_],[_,_],h=>exact Znn h
  |[],_,h=>exact Znn h
  |[_],[],h=>exact Znn h
  |[_],_::_::_,h=>exact Znn h
  |[_,_],[],h=>exact Znn h
  |[_,_],[_],h=>exact Znn h
  |[_,_],_::_::_::_,h=>exact Znn h
  |_::_::_::_,_,h=>exact Znn h
 |IfExp t a b p=>exact absurd rfl (hne t a b p)
 |Tuple es j p=>exact QN g (λz=>rfl) all (QG ok)
 |List es p=>exact QN g (λz=>rfl) all (QG ok)
 |Subscript a b p=>exact QN g (λz=>rfl) all (QG ok)
 |ListComp elt gens scope p=>exact QN g (λz=>rfl) all (QG ok)
 |Dict ks vs p=>exact QN g (λz=>rfl) all (QG ok)
 |Attribute a f p=>exact QN g (λz=>rfl) all (QG ok)
 |Call f args kws p=>exact QN g (λz=>rfl) all (QG ok)
 |_=>exact Znn h
def Qpd:Snd T A C X cf 0 where
 e:=λd e ir h=>by first|exact Znn h|simp[Qe]at h
 t:=λd e ir h=>by simp[compT]at h
 an:=λd a r p ir h=>by simp[compAnd]at h
 orr:=λd a r p ir h=>by simp[compOr]at h
 a:=λd es irs h=>by simp[compA]at h
 o:=λd e ir h=>by simp[compO]at h
structure Snd2(T:Tbl)(A:Adr)(C:Ctx)(X:Cx)(cf:Cf)(m:Nat):Prop where
 s:Snd T A C X cf m
 w:∀d it src tg,compSrc m C it=some src->(QlM src=true->∃elts kt pt,tg=.Tuple elts kt pt)->PI X tg it (TIW T A X.K (λZ hs=>Zf T (ev T cf d) Z src hs))
 c:∀d elt gens scope p ir,Qe m C (.ListComp elt gens scope p)=some ir->CompParts X elt gens scope (TI T A X.K (ev T cf d ir))
def QjX{tl:Option Expr}{t:Option E}{Yyy:Cx}{C':Ctx}(S:Snd T A C' Yyy cf m)(h:compTO (m+1) C' tl=some t):PTO Yyy tl (TIT T A Yyy.K (Qay (evT T cf d) t)):=by
 cases tl with
 |none=>
  simp only[compTO]at h;cases h;rintro Y H Q ⟨α,Z,hs,u,hs',rs,R,e,q⟩;simp only[Qay]at e;cases e;exact q α H Ext.refl R
 |some e=>
  simp only[compTO,Xc]at h;obtain⟨e',he,h⟩:=h;cases h;exact(S.t d e e' he).1
def Qc0{tg:Expr}{b:Bool}{xs:List Str}{src:Src}(ht:QlS tg b xs)(ok:Qa3 src (tgN b 0)=true):QlM src=true->∃elts kt pt,tg=.Tuple elts kt pt:=by
 intro hp
 rcases ht with⟨rfl,_⟩|⟨rfl,x,p,y,q,k,pt,rfl,_⟩
 ·cases src<;>first|(cases hp;done)|(cases ok;done)
 ·exact⟨_,_,_,rfl⟩
def Qbt{a0 e0:E}{Z:Rho}{hs hs':Hs}{u:U}(h:ev T cf (d+1) (.thw a0 e0) Z hs=some (u,hs')):∃n k0 h2 kvs,hs[n]?=some (.dic k0)/\ev T cf d e0 Z hs=some (u,h2)/\h2[n]?=some (.fzd kvs)/\hs'=h2.set n (.dic kvs):=by
 simp only[ev]at h;split at h
 case h_2=>cases h
 rename_i n _ _;split at h
 case h_2=>cases h
 rename_i k0 e1;split at h
 case h_2=>cases h
 rename_i u2 h2 e2;split at h
 case h_2=>cases h
 rename_i kvs e3;cases h;exact⟨n,k0,h2,kvs,e1,e2,e3,rfl⟩
def Qio{it:Expr}(h:QlO C it=true):(∃y p,it=.Name y p)\/∃y p f q,it=.Attribute (.Name y p) f q:=by
 unfold QlO at h;split at h
 ·exact .inl ⟨_,_,rfl⟩
 ·exact .inr ⟨_,_,_,_,rfl⟩
 ·cases h
def Y8(g:GX T A C X)(S:Snd2 T A C X cf m)(SB:∀xs scope C0 s H fp,Ja C xs scope=true->Snd2 T A (C.inner xs scope) (X.block xs scope C0 s H fp) cf m)(ST:∀xs scope C0 s H fp tl t d,Ja C xs scope=true->compTO m (C.inner xs scope) tl=some t->PTO (X.block xs scope C0 s H fp) tl (TIT T A X.K (Qay (evT T cf d) t)))(d:Nat)(elt:Expr)(gens:List Comprehension)(scope:Scope)(p:Pos)(ir:E)
  (h:Qe (m+1) C (.ListComp elt gens scope p)=some ir):CompParts X elt gens scope (TI T A X.K (ev T cf d ir)):=by
 simp only[QoK]at h;split at h
 case h_2=>cases h
 rename_i gn hgen;split at h
 case isFalse=>cases h
 rename_i ok;simp only[Xk,Uc]at ok;obtain⟨ok,hh⟩:=ok;split at h
 ·rename_i hdk;split at h
  ·cases h
  rename_i hb;simp only[Xc]at h;obtain⟨e',he,t,ht,el,hel,h⟩:=h;cases h;have hit:=Qio hdk;obtain⟨tg,rfl,htg⟩:=Y7 hgen;obtain⟨ck,gb⟩:=Zm g ok
  have hb0:gn.b=false:=by simpa using hb
  rw[hb0]at htg
  have hn:gn.xs.length=nN false:=by
   rcases htg with⟨e,x,p,_,e'⟩|⟨e,_⟩
   ·rw[e'];rfl
   ·cases e
  have mk:∀(d:Nat) (t':TE),(∀Y H Q,Y.length=X.N.length->t' Y H Q->QaR (TIW T A X.K (λZ hs=>Zf T (ev T cf d) Z (.key e') hs)) (nN false) (gT X.K (tgN false X.N.length)) (TIT T A X.K (Qay (evT T cf d) t)) (TI T A X.K (ev T cf d el)) Y H Q\/∃a kv,H a=some (.dK kv)/\QaR (TIW T A X.K (λZ hs=>Zf T (ev T cf d) Z (.key e') hs)) (nN false) (gT X.K (tgN false X.N.length)) (TIT T A X.K (Qay (evT T cf d) t)) (TI T A X.K (ev T cf d el)) Y H λv H'=>Qb5 a H (Q v) H')->CompParts X elt [⟨tg,gn.iter,gn.tl.toList,0⟩] scope t':=λd t' imp=>
   ⟨tg,gn.iter,gn.tl,gn.xs,nN false,_,_,TIT T A X.K (Qay (evT T cf d) t),TI T A X.K (ev T cf d el),rfl,ck,Qj9 (S.s.e d gn.iter e' he),hn,(λC0 s H fp=>Jx g hh ck (gb C0 s H fp) htg),(λC0 s H fp=>ST _ _ C0 s H fp _ _ d ok ht),(λC0 s H fp=>show PE _ elt (TI T A X.K (ev T cf d el))from(SB _ scope C0 s H fp ok).s.e d elt el hel),(by rcases hit with⟨y,py,hit⟩|⟨y,py,f,q,hit⟩<;>(rw[hit];exact λv=>rfl)),imp⟩
  cases d with
  |zero=>exact mk 0 _ λY H Q r ⟨_,_,_,_,_,_,_,e,_⟩=>nomatch e
  |succ d=>
   cases d with
   |zero=>
    refine mk 0 _ λY H Q r l=>?_;obtain⟨α,Z,hs,u,hs',rs,R,e,q⟩:=l;obtain⟨_,_,_,_,_,e2,_⟩:=Qbt e;exact nomatch e2
   |succ d=>
    refine mk d _ λY H Q hl ⟨α,Z,hs,u,hs',rs,R,e,q⟩=>.inr ?_;obtain⟨n,k0,h2,kvs,hk0,e2,hk2,rfl⟩:=Qbt e;obtain⟨a0,ha0,kv0,hH0,rd0⟩:=R.h.adr hk0;refine⟨a0,kv0,hH0,Qaz g.txt hl ⟨α,Z,hs,u,h2,rs,R,e2,λα3 v H3 E3 R3 r3=>?_⟩⟩;have ha3:=E3.pre n a0 ha0;obtain⟨kv3,ob3,hH3,rd3⟩:=R3.h.ob n a0 _ ha3 hk2;refine⟨ob3,kv3,hH3,q α3 v _ ?_ (R3.put0 ha3 ⟨kv3,Qf,rd3⟩) r3⟩;refine⟨E3.pre,E3.new,λb o e hb=>?_,λb o u e=>?_,λb o e=>?_⟩
    ·rw[Qb (λz:b=a0=>hb (z▸Xr ha0))];exact E3.keep b o e hb
    ·rw[Qb (λz=>by rw[z,hH0]at e;cases e)]
     exact E3.fz b o u e
    ·by_cases hb':b=a0
     ·subst hb';rw[hH0]at e;cases e;exact⟨_,Qf,λr=>⟨λz=>(nomatch z),λz=>(nomatch z)⟩⟩
     ·rw[Qb hb'];exact E3.tr b o e
 simp only[Xc]at h;obtain⟨src,hsrc,h⟩:=h;split at h
 case isFalse=>cases h
 rename_i oks;simp only[Xc]at h;obtain⟨t,ht,el,hel,h⟩:=h;cases h;obtain⟨tg,rfl,htg⟩:=Y7 hgen;obtain⟨ck,gb⟩:=Zm g ok
 have hn:gn.xs.length=nN gn.b:=by
  rcases htg with⟨e,x,p,_,e'⟩|⟨e,x,p,y,q,k,pt,_,e'⟩<;>rw[e,e']<;>rfl
 cases d with
 |zero=>
  exact⟨tg,gn.iter,gn.tl,gn.xs,nN gn.b,_,_,TIT T A X.K (Qay (evT T cf 0) t),TI T A X.K (ev T cf 0 el),rfl,ck,S.w 0 gn.iter src tg hsrc (Qc0 htg oks),hn,(λC0 s H fp=>Jx g hh ck (gb C0 s H fp) htg),(λC0 s H fp=>ST _ _ C0 s H fp _ _ 0 ok ht),(λC0 s H fp=>show PE _ elt (TI T A X.K (ev T cf 0 el))from(SB _ scope C0 s H fp ok).s.e 0 elt el hel),QbH hsrc,λY H Q r j=>by obtain⟨_,_,_,_,_,_,_,e,_⟩:=j;exact nomatch e⟩
 |succ d=>
  exact⟨tg,gn.iter,gn.tl,gn.xs,nN gn.b,_,_,TIT T A X.K (Qay (evT T cf d) t),TI T A X.K (ev T cf d el),rfl,ck,S.w d gn.iter src tg hsrc (Qc0 htg oks),hn,(λC0 s H fp=>Jx g hh ck (gb C0 s H fp) htg),(λC0 s H fp=>ST _ _ C0 s H fp _ _ d ok ht),(λC0 s H fp=>show PE _ elt (TI T A X.K (ev T cf d el))from(SB _ scope C0 s H fp ok).s.e d elt el hel),QbH hsrc,λY H Q hl hq=>.inl (Qaz g.txt hl hq)⟩
theorem QeV:∀(m:Nat) {C:Ctx} {X:Cx},GX T A C X->Fc X T A cf k->(hdC C=false->Room (k+1) X.A)->X.A.units+64<cLine->Snd2 T A C X cf m
 |0,C,X,g,F,hr,hu=>⟨Qpd,λd it src tg h=>by simp[compSrc]at h,λd elt gens scope p ir h=>by first|exact Znn h|simp[Qe]at h⟩
 |1,C,X,g,F,hr,hu=>by
  have S0:=QeV 0 g F hr hu;have S:=S0.s
  have cp:=Y8 g S0 (λx scope C0 s H fp ok=>QeV 0 ((Zm g ok).2 C0 s H fp) ⟨F.ok,F.some,F.df,F.xf⟩ hr hu) (λxs scope C0 s H fp tl t d ok h=>by simp[compTO]at h)
  refine⟨⟨Qc8 g F hr hu S cp,λd e ir h=>?_,QjP S,Qoq S,Qgc S,QjF S⟩,λd it src tg h hz=>QjD g S h hz,cp⟩;cases e<;>exact Znn h
 |m+2,C,X,g,F,hr,hu=>by
  have S1:=QeV (m+1) g F hr hu;have S:=S1.s;have S':=QeV m g F hr hu;have cp:=Y8 g S1 (λx scope C0 s H fp ok=>QeV (m+1) ((Zm g ok).2 C0 s H fp) ⟨F.ok,F.some,F.df,F.xf⟩ hr hu) (λxs scope C0 s H fp tl t d ok h=>QjX (QeV m ((Zm g ok).2 C0 s H fp) ⟨F.ok,F.some,F.df,F.xf⟩ hr hu).s h);refine⟨⟨Qc8 g F hr hu S cp,λd e ir h=>?_,QjP S,Qoq S,Qgc S,QjF S⟩,λd it src tg h hz=>QjD g S h hz,cp⟩
  have hne:∀t a b p,e≠.IfExp t a b p:=by
   rintro t a b p rfl;simp[compT]at h
  have h':((Qe (m+1) C e).bind λir=>if okT e ir=true then some ir else none)=some ir:=by
   cases e<;>first|exact h|(simp[compT]at h;done)
  simp only[Xc]at h';obtain⟨ir',he,h'⟩:=h';split at h'
  ·rename_i ok;cases h';exact⟨QjB g F hr hu S'.s S1.c d e ir hne ok he,S.e d e ir he⟩
  ·cases h'
end
end
section
variable {ir:E}{D:Ends}{env:Env}{e i o:Expr}{fl:Fl}{α:List Addr}{es ts:List Expr}{d l:Nat}{p:Pos}{ρ':Rho}{st:Stmt}{x:Str}{t:Tg}
section
variable {X:Cx}{T:Tbl}{A:Adr}{C:Ctx}{cf:Cf}{m k:Nat}
def ZT{t:TS}(h:∀D Y H,¬t D Y H):PS X st t:=λz z Y H D z q=>(h D Y H q).elim
def ZL{st:List Stmt}{t:TS}(h:∀D Y H,¬t D Y H):PSs X st t:=λz z Y H D z q=>(h D Y H q).elim
def QdI{tg:Option Expr}(h:Qe m C e=some ir)(hn:∀elt gens scope p,e≠.ListComp elt gens scope p):swapsWith e tg l env=pure false:=by
 cases e<;>first|rfl|exact absurd rfl (hn _ _ _ _)|(cases m<;>exact Znn h)
def QhW{f:Str}(h:Qe m C e=some ir):swapsWith e (some (.Attribute o f p)) l env=pure false:=by
 cases e<;>first|rfl|(cases m<;>exact Znn h)
def Qop{tg:Expr}(hc:X.calm=true)(g:GX T A C X)(fl:∀x,X.fn x=true\/X.env.scope.names.lookup x=some .local)(h:ZX C tg=some t):PG X tg (gT X.K t):=by
 have nm:∀{x:Str} {p:Pos} {i:Nat},JC C x=true->idx x C.N=some i->PG X (.Name x p) (Qaw i):=λ{x p i} h1 h2=>Jw g.nd (by rw[g.N];exact QX h2) (Qam g h1) (fl x)
 unfold ZX at h;split at h
 ·split at h
  ·rename_i hl;simp only[Xd]at h;obtain⟨i,hi,rfl⟩:=h;exact nm hl hi
  ·cases h
 ·split at h
  ·rename_i c;simp only[Xk]at c;simp only[Xc,Xd]at h;obtain⟨i,hi,j,hj,rfl⟩:=h;exact Qdt hc (ZB (nm c.1.1 hi) (ZB (nm c.1.2 hj) Qa0))
  ·cases h
 ·cases h
def QcF{pos:Pos}(h:ZD i=true):∀v,assign (.Subscript o i pos) env v=(do
   let ov <-holding [v] (eval o env);let iv <-holding [v,ov] (eval i env)
   standAt pos
   holding [v,ov,iv] (setItem ov iv v)
   release [v,ov,iv] []):=by
 intro v
 cases i<;>first|rfl|cases h
def QhV(h:Qe m C e=some ir):swapsWithSole [.Subscript o i p] e l env=pure false:=by
 cases e<;>first|rfl|(cases m<;>exact Znn h)
def QhU{kt:Nat}(h:Qe m C e=some ir):swapsWithSole [.Tuple es kt p] e l env=pure false:=by
 cases e<;>first|rfl|(cases m<;>exact Znn h)
def Qah{kt:Nat}(h:Qgp e=true):swappedStores [.Tuple es kt p] e env=pure none:=by
 cases e<;>first|rfl|cases h
def QfN(h:Qnp e=some true):∃x j q,e=.Constant (.str x) j q:=by
 cases e with
 |Constant c j q=>cases c<;>first|exact⟨_,_,_,rfl⟩|cases h
 |_=>cases h
def JN{a:As}(h:QfZ ts=some a):∃t,ts=[t]/\as1 t=some a:=by
 match ts,h with
 |[t],h=>exact⟨t,rfl,h⟩
def Qey(h:QfZ ts=some (.nm x)):∃p,ts=[.Name x p]:=by
 obtain⟨t,rfl,h'⟩:=JN h;clear h;have h:=h';clear h';unfold as1 at h;split at h
 ·cases h;exact⟨_,rfl⟩
 ·cases h
 ·cases h
 ·split at h
  ·unfold QcU at h;split at h<;>cases h
  all_goals cases h
 ·cases h
def QiC{f:Str}(h:QfZ ts=some (.at o f)):∃p,ts=[.Attribute o f p]:=by
 obtain⟨t,rfl,h'⟩:=JN h;clear h;have h:=h';clear h';unfold as1 at h;split at h
 ·cases h
 ·cases h;exact⟨_,rfl⟩
 ·cases h
 ·split at h
  ·unfold QcU at h;split at h<;>cases h
  all_goals cases h
 ·cases h
def QfY(h:QfZ ts=some (.sub o i)):∃p,ts=[.Subscript o i p]:=by
 obtain⟨t,rfl,h'⟩:=JN h;clear h;have h:=h';clear h';unfold as1 at h;split at h
 ·cases h
 ·cases h
 ·cases h;exact⟨_,rfl⟩
 ·split at h
  ·unfold QcU at h;split at h<;>cases h
  all_goals cases h
 ·cases h
def Qez(h:QfZ ts=some (.many es)):∃kt pt,ts=[.Tuple es kt pt]:=by
 unfold QfZ at h;split at h
 ·rename_i t;unfold as1 at h;split at h
  ·cases h
  ·cases h
  ·cases h
  ·rename_i es' kt pt;split at h
   ·unfold QcU at h;split at h<;>cases h
   ·cases h;exact⟨kt,pt,rfl⟩
   ·cases h;exact⟨kt,pt,rfl⟩
   ·cases h
  ·cases h
 ·cases h
def Qat(h:Y5 C x=true):C.names.lookup x=some .local:=by
 unfold Y5 at h;split at h
 ·rename_i e;exact e
 ·cases h
noncomputable def Qnl:List Nat->TGs
 |[]=>Qnm
 |i::is=>QfL (Qaw i) (Qnl is)
def Y0{r:List Expr}{is:List Nat}(h:Qa5 C (e::r)=some is):∃x p i is',e=.Name x p/\JC C x=true/\idx x C.N=some i/\Qa5 C r=some is'/\is=i::is':=by
 unfold Qa5 at h;split at h
 ·rename_i x p;split at h
  ·rename_i l;simp only[Xc,Xd]at h;obtain⟨i,hi,is',h1,rfl⟩:=h;exact⟨x,p,i,is',rfl,l,hi,h1,rfl⟩
  ·cases h
 ·cases h
theorem Qds(g:GX T A C X)(fl:∀x,X.fn x=true\/X.env.scope.names.lookup x=some .local):∀{es:List Expr} {is:List Nat},Qa5 C es=some is->PGs X es (Qnl is)
 |[],_,h=>by cases h;exact Qa0
 |e::r,is,h=>by
  obtain⟨x,p,i,is',rfl,l,hi,h1,rfl⟩:=Y0 h
  have ix:X.N[i]?=some x:=by rw[g.N];exact QX hi
  exact ZB (Jw g.nd ix (Qam g l) (fl x)) (Qds g fl h1)
theorem QbI{env:Env}:∀{es:List Expr} {is:List Nat},Qa5 C es=some is->(assignEach es env).length=is.length/\(assignEach es env).findIdx? (·.1)=none
 |[],_,h=>by cases h;exact⟨rfl,rfl⟩
 |e::r,is,h=>by
  obtain⟨x,p,i,is',rfl,l,hi,h1,rfl⟩:=Y0 h;obtain⟨a,b⟩:=QbI (env:=env) h1;have e:assignEach (.Name x p::r) env=(false,assign (.Name x p) env)::assignEach r env:=rfl;rw[e]
  exact⟨congrArg (· + 1) a,by rw[List.findIdx?_cons,b];rfl⟩
theorem Qgr{α:List Addr}{H:Hp}{Q:St->Hp->Prop}:∀{is:List Nat} {us:List U} {vs:List V} {Z ρ':Rho} {Y:St},QlJ is us Z=some ρ'->RUs A α us vs->RS A α Z Y->(∀σ2,RS A α ρ' σ2->Q σ2 H)->Qnl is vs Y H Q/\vs.length=is.length
 |[],[],_,_,_,_,h,.nil,rs,k=>by cases h;exact⟨⟨rfl,k _ rs⟩,rfl⟩
 |i::is,u::us,v::vs,_,_,_,h,.cons r t,rs,k=>by
  obtain⟨w,l⟩:=Qgr (is:=is) (us:=us) h t (rs.set i r) k;exact⟨⟨v,vs,rfl,w⟩,congrArg (· + 1) l⟩
 |[],_::_,_,_,_,_,h,_,_,_=>nomatch (show none=some _ from h)
 |_::_,[],_,_,_,_,h,_,_,_=>nomatch (show none=some _ from h)
def Qf7{tg:Expr}{src:Src}(ht:ZX C tg=some t)(ok:Qa3 src t=true):QlM src=true->∃elts kt pt,tg=.Tuple elts kt pt:=by
 intro hp
 cases tg with
 |Tuple elts kt pt=>exact⟨_,_,_,rfl⟩
 |Name x p=>
  simp only[ZX]at ht;split at ht
  ·simp only[Xd]at ht;obtain⟨i,_,rfl⟩:=ht
   cases src<;>first|(cases hp;done)|(cases ok;done)
  ·cases ht
 |_=>simp[ZX]at ht
structure SndS(T:Tbl)(A:Adr)(C:Ctx)(X:Cx)(cf:Cf)(m:Nat):Prop where
 s:∀d st ir,QQ m C st=some ir->PS X st (TIS T A X.K (ex T cf d ir))
 ss:∀d sts irs,compSs m C sts=some irs->PSs X sts (TIS T A X.K (exs T cf d irs))
def QmS{K:W.Frag}{ir:S}:∀D Y H,¬TIS T A K (ex T cf 0 ir) D Y H:=λz z z y=>by obtain⟨_,_,_,_,_,_,_,_,h,_⟩:=y;exact nomatch h
def Qgq{K:W.Frag}{irs:List S}:∀D Y H,¬TIS T A K (exs T cf 0 irs) D Y H:=λz z z y=>by obtain⟨_,_,_,_,_,_,_,_,h,_⟩:=y;exact nomatch h
def QbD{ir:S}(h:∀d',PS X st (TIS T A X.K (ex T cf (d'+1) ir))):PS X st (TIS T A X.K (ex T cf d ir)):=by
 cases d with
 |zero=>exact ZT QmS
 |succ d=>exact h d
def TIS.run{K:W.Frag}{Z:Rho}{Y:St}{hs h1:Hs}{H:Hp}{f:Ex}(rs:RS A α Z Y)(rp:Rep T A K α hs H)(h:f Z hs=some (fl,ρ',h1))
  (k:∀α1 σ1 H1,Ext α α1 H H1->Rep T A K α1 h1 H1->RS A α1 ρ' σ1->flE A α1 D σ1 H1 fl):TIS T A K f D Y H:=⟨α,Z,hs,fl,ρ',h1,rs,rp,h,k⟩
def QfM{body:List S}{w:Wk}{J:It}{K:PySem.W.Frag}{α0:List Addr}{H0:Hp}{σ0:St}{ρ0:Rho}{h0 hs':Hs}{n:Nat}(hK:K=X.K)(tx:Txt T A X.K X.mg)(rs0:RS A α0 ρ0 σ0)(R0:Rep T A X.K α0 h0 H0)(W0:WJ A X.K α0 J H0 w)
  (e0:YQ T w t (exs T cf d body) n 0 ρ0 h0=some (fl,ρ',hs'))
  (q:∀α' Y' H',Ext α0 α' H0 H'->Rep T A X.K α' hs' H'->RS A α' ρ' Y'->flE A α' D Y' H' fl):
  ∃W:Nat->Nat->St->Hp->Prop,(∃m,W 0 m σ0 H0)/\∀i m Y H,W i m Y H->(J.stop i H/\D.nx Y H)\/(J.go i H/\∃N:St->Hp->Prop,(∀Y' H',N Y' H'->∃m',m'<m/\W (i+1) m' Y' H') /\
   ∀x H',J.yld i H x H'->gT X.K t x Y H' λσ2 H2=>TIS T A X.K (exs T cf d body) {D with nx:=N,ct:=N,bk:=D.nx} σ2 H2):=by
 refine⟨λi m Y H=>∃α Z hs,RS A α Z Y/\Rep T A X.K α hs H/\Ext α0 α H0 H/\YQ T w t (exs T cf d body) m i Z hs=some (fl,ρ',hs'),⟨n,α0,ρ0,h0,rs0,R0,Ext.refl,e0⟩,?_⟩;rintro i m Y H ⟨α,Z,hs,rs,R,E,e⟩
 cases m with
 |zero=>cases e
 |succ m=>
  have W:=W0.mono E.pre E.fz;simp only[YQ]at e;split at e
  ·cases e
  ·rename_i ei;cases e;exact .inl ⟨QbN tx R W ei,q α Y H E R rs⟩
  ·rename_i x ei;split at e
   ·cases e
   ·rename_i ρ1 et;obtain⟨go,yl⟩:=QbO tx R W rs ei et;refine .inr ⟨go,λY' H'=>∃α Z hs,RS A α Z Y'/\Rep T A X.K α hs H'/\Ext α0 α H0 H'/\YQ T w t (exs T cf d body) m (i+1) Z hs=some (fl,ρ',hs'),λY' H' z=>⟨m,Wz _,z⟩,?_⟩;intro v H' hy;refine yl v H' _ hy λσ2 rs2 R2 E2=>?_;have E02:Ext α0 α H0 H':=E.trans E2 R2.h;split at e
    ·rename_i ρ2 h2 eb;exact TIS.run rs2 R2 eb λα3 σ3 H3 E3 R3 rs3=>⟨α3,ρ2,h2,rs3,R3,E02.trans E3 R3.h,e⟩
    ·rename_i ρ2 h2 eb;exact TIS.run rs2 R2 eb λα3 σ3 H3 E3 R3 rs3=>⟨α3,ρ2,h2,rs3,R3,E02.trans E3 R3.h,e⟩
    ·rename_i ρ2 h2 eb;cases e;exact TIS.run rs2 R2 eb λα3 σ3 H3 E3 R3 rs3=>q α3 σ3 H3 (E02.trans E3 R3.h) R3 rs3
    ·rename_i n1 n2 n3
     cases fl with
     |next=>exact absurd e (n1 _ _)
     |cont=>exact absurd e (n2 _ _)
     |brk=>exact absurd e (n3 _ _)
     |ret u=>exact TIS.run rs2 R2 e λα3 σ3 H3 E3 R3 rs3=>q α3 σ3 H3 (E02.trans E3 R3.h) R3 rs3
def Qb1{tir:E}{body:List S}{α0:List Addr}{H0:Hp}{σ0:St}{ρ0:Rho}{h0 hs':Hs}{n:Nat}(rs0:RS A α0 ρ0 σ0)(R0:Rep T A X.K α0 h0 H0)
  (e0:Zi (evT T cf d tir) (exs T cf d body) n ρ0 h0=some (fl,ρ',hs'))
  (q:∀α' Y' H',Ext α0 α' H0 H'->Rep T A X.K α' hs' H'->RS A α' ρ' Y'->flE A α' D Y' H' fl):Qf8 (TIT T A X.K (evT T cf d tir)) (TIS T A X.K (exs T cf d body)) D σ0 H0:=by
 refine⟨λm Y H=>∃α Z hs,RS A α Z Y/\Rep T A X.K α hs H/\Ext α0 α H0 H/\Zi (evT T cf d tir) (exs T cf d body) m Z hs=some (fl,ρ',hs'),⟨n,α0,ρ0,h0,rs0,R0,Ext.refl,e0⟩,?_⟩;rintro m Y H ⟨α,Z,hs,rs,R,E,e⟩
 cases m with
 |zero=>cases e
 |succ m=>
  simp only[Zi]at e;split at e
  ·cases e
  ·rename_i h1 et;cases e;exact TIT.run rs R et λα1 H1 E1 R1 rs1=>q α1 Y H1 (E.trans E1 R1.h) R1 rs1
  ·rename_i h1 et;refine TIT.run rs R et λα1 H1 E1 R1 rs1=>?_;rw[if_pos rfl];refine⟨λY' H'=>∃α Z hs,RS A α Z Y'/\Rep T A X.K α hs H'/\Ext α0 α H0 H'/\Zi (evT T cf d tir) (exs T cf d body) m Z hs=some (fl,ρ',hs'),λY' H' z=>⟨m,Wz _,z⟩,?_⟩;have E01:=E.trans E1 R1.h;split at e
   ·rename_i ρ2 h2 eb;exact TIS.run rs1 R1 eb λα3 σ3 H3 E3 R3 rs3=>⟨α3,ρ2,h2,rs3,R3,E01.trans E3 R3.h,e⟩
   ·rename_i ρ2 h2 eb;exact TIS.run rs1 R1 eb λα3 σ3 H3 E3 R3 rs3=>⟨α3,ρ2,h2,rs3,R3,E01.trans E3 R3.h,e⟩
   ·rename_i ρ2 h2 eb;cases e;exact TIS.run rs1 R1 eb λα3 σ3 H3 E3 R3 rs3=>q α3 σ3 H3 (E01.trans E3 R3.h) R3 rs3
   ·rename_i n1 n2 n3
    cases fl with
    |next=>exact absurd e (n1 _ _)
    |cont=>exact absurd e (n2 _ _)
    |brk=>exact absurd e (n3 _ _)
    |ret u=>exact TIS.run rs1 R1 e λα3 σ3 H3 E3 R3 rs3=>q α3 σ3 H3 (E01.trans E3 R3.h) R3 rs3
theorem RF.put{α:List Addr}{x:Str}{i:Nat}{u:U}{v:V}(hk:T.fns'[i]?=some x)(nd:T.fns'.Nodup)(r:RU A α u v):∀{fs:List (Nat×U)} {fv:List (Str×V)},RF T A α fs fv->RF T A α (Zq i u fs) (Ju x v fv)
 |_,_,.nil=>.cons ⟨hk,r⟩ .nil
 |_,_,.cons (a:=p) (b:=q) h t=>by
  obtain⟨pk,pu⟩:=p;obtain⟨qx,qv⟩:=q;simp only[Zq,Ju];by_cases e:pk=i
  ·subst e;have e2:qx=x:=X3 (h.1.symm.trans hk);subst e2;rw[if_pos rfl,if_pos rfl];exact .cons ⟨hk,r⟩ t
  ·have n2:¬qx=x:=λz=>by
    subst z;obtain⟨l1,q1⟩:=Xe.mp hk;obtain⟨l2,q2⟩:=Xe.mp h.1;exact e ((Uy nd).mp (q2.trans q1.symm))
   rw[if_neg e,if_neg n2];exact .cons h (RF.put hk nd r t)
theorem RF.length{fs:List (Nat×U)}{fv:List (Str×V)}(r:RF T A α fs fv):fs.length=fv.length:=Wj r
def QeM{b:List Stmt}{hs:List ExceptHandler}{o fn:List Stmt}{t:Tr}(h:QeN C b hs o fn=some t):∃f pf a args q1 q2 x px n b0 body ph,b=[.Expr (.Call (.Name f pf) (a::args) [] q1) q2] /\
  hs=[.ExceptHandler (some (.Name x px)) n (b0::body) ph]/\o=[]/\fn=[]/\QeP C n=some t.j/\QeT C x=some t.c/\QeR C f=some t.f/\t.args=a::args/\t.body=b0::body:=by
 unfold QeN at h;split at h
 ·simp only[Xc]at h;obtain⟨p,hp,c,hc,k,hk,h⟩:=h;cases h;exact⟨_,_,_,_,_,_,_,_,_,_,_,_,rfl,rfl,rfl,rfl,hp,hc,hk,rfl,rfl⟩
 ·cases h
def QeO{n:Str}{j:Option Nat}(h:QeP C (some n)= some j): ∃i,j=some i/\Y5 C n=true/\n≠"__debug__"/\idx n C.N=some i:=by
 simp only[QeP]at h;split at h
 ·rename_i c;simp only[Xk,Xy]at c;simp only[Xd]at h;obtain⟨i,hi,h⟩:=h;exact⟨i,h.symm,c.1,c.2,hi⟩
 ·cases h
def QeS{c:Nat}(h:QeT C x=some c): ZG C x=true/\x≠"__debug__"/\C.gl.lookup x=some (.cls c):= by
 unfold QeT at h;split at h
 ·rename_i q;simp only[Xk,Xy]at q;split at h
  ·rename_i z;cases h;exact⟨q.1,q.2,z⟩
  ·cases h
 ·cases h
def QeQ{c:Nat}(h:QeR C x=some c): ZG C x=true/\x≠"__debug__"/\C.gl.lookup x=some (.fn c):= by
 unfold QeR at h;split at h
 ·rename_i q;simp only[Xk,Xy]at q;split at h
  ·rename_i z;cases h;exact⟨q.1,q.2,z⟩
  ·cases h
 ·cases h
structure Bd(X:Cx):Prop where
 stk:X.stack=X.env::X.outer
 frm:X.env.frame=some X.env.locals
 ex:X.ex=[]
 cm:X.calm=true
def Qd4:hdC (hdX C)=true:=by simp[hdC,hdX]
def QfX{p:Nat×Expr}(h:QiB C st=some p):∃y py pos,st=.Assign [.Name y py] p.2 pos/\Y5 C y=true/\idx y C.N=some p.1:=by
 cases st with
 |Assign ts e pos=>
  simp only[QiB]at h;split at h
  ·rename_i y hy;obtain⟨py,rfl⟩:=Qey hy;split at h
   ·rename_i hl;simp only[Xd]at h;obtain⟨i,hi,rfl⟩:=h;exact⟨y,py,pos,rfl,hl,hi⟩
   ·cases h
  ·cases h
 |_=>cases h
theorem Qc7(g:GX T A (hdX C) X)(fl:∀x,X.fn x=true\/X.env.scope.names.lookup x=some .local)(S:Snd T A (hdX C) X cf m):∀(sts:List Stmt) (d:Nat) (irs:List Iv.S),Qei m C sts=some irs->PSs X sts (TIS T A X.K (exs T cf d irs))
 |_,0,_,_=>ZL Qgq
 |[],d+1,irs,h=>by
  cases h
  exact Qb0 Qde λD Y H v=>by obtain⟨α,Z,hs,fl,ρ',hs',rs,R,e,q⟩:=v;cases e;exact q α Y H Ext.refl R rs
 |st::r,d+1,irs,h=>by
  simp only[Qei,Xc]at h;obtain⟨p,hp,e',he,r',hr,h⟩:=h;cases h;obtain⟨y,py,pos,rfl,hl,hi⟩:=QfX hp
  have ly:X.env.scope.names.lookup y=some .local:=by rw[g.sc];exact Qat hl
  have P:∀d,PS X (.Assign [.Name y py] p.2 pos) (TIS T A X.K (ex T cf d (.set p.1 e'))):=λd=>by
   refine QbD (λd=>?_) (d:=d)
   refine Zh (Qdf (i:=p.1) g.nd (by rw[g.N];exact QX hi) (.inl ly) (S.e d p.2 e' he) (QdI he λelt gens scope q z=>?_) (fl y)) ?_
   ·rw[z]at he
    cases m with
    |zero=>cases he
    |succ m=>
     have:=QkB he;rw[Qd4]at this;cases this
   ·rintro D Y H ⟨α,Z,hs,fl,ρ',hs',rs,R,e,q⟩;simp only[ex]at e;obtain⟨u,h1,e1,e⟩:=Qc e;cases e;exact TI.run rs R e1 λα1 x H1 E1 R1 r1 rs1=>q α1 _ H1 E1 R1 (rs1.set p.1 r1)
  refine Qb0 (ZA (P d) (Qc7 g fl S r d r' hr)) ?_;rintro D Y H ⟨α,Z,hs,fl,ρ',hs',rs,R,e,q⟩;simp only[exs]at e;split at e
  ·rename_i ρ1 h1 e1;exact TIS.run rs R e1 λα1 σ1 H1 E1 R1 rs1=>TIS.run rs1 R1 e λα2 σ2 H2 E2 R2 rs2=>q α2 σ2 H2 (E1.trans E2 R2.h) R2 rs2
  ·rename_i n1;exfalso
   cases d with
   |zero=>cases e
   |succ d=>
    simp only[ex]at e n1
    cases z:ev T cf d e' Z hs with
    |none=>rw[z]at e;cases e
    |some w=>rw[z]at n1;exact n1 _ _ rfl
def QfH{Z:Rho}{Y:St}{j:Nat}(r:RS A α Z Y):RS A α (Z.set j none) (Y.set j none):=by
 refine⟨by simpa using r.len,λk u e=>?_⟩
 have hk:k≠j:=λz=>by
  subst z
  have l:k < Z.length:=(Xe.mp e).1 |> λz=>by simpa using z
  rw[Wh l]at e;cases e
 rw[X8 (X9 hk)]at e;rw[X8 (X9 hk)];exact r.val k u e
def Qmm{b:List Stmt}{hs:List ExceptHandler}{o fn:List Stmt}{t:Tr}{es:List E}{sb:List Iv.S}(bX:Bd X)(g:GX T A C X)(fl:∀x,X.fn x=true\/X.env.scope.names.lookup x=some .local)(F:Fc X T A cf k)(hr:Room k X.A)(S:Snd T A C X cf m)(hbl:C.bl.contains ("isinstance":Str)= true)(ht:QeN C b hs o fn=some t)(ha:compA m C t.args=some es)(hb:Qei m C t.body=some sb):
  PS X (.Try b hs o fn p) (TIS T A X.K (ex T cf (d+1) (.tryS t.j t.f es t.c sb))):=by
 obtain⟨f,pf,a,args,q1,q2,x,px,n,b0,body,ph,rfl,rfl,rfl,rfl,t1,t2,t3,t4,t5⟩:=QeM ht;obtain⟨gx,dx,lx⟩:=QeS t2;obtain⟨gf,df,lf⟩:=QeQ t3;rw[t4]at ha;rw[t5]at hb;have hns:=Qn ha;have st:starEach (a::args) X.env=(false,eval a X.env)::starEach args X.env:=Qj (hns a (Xw ..));have sa:(backTo q1 (starEach args X.env)).any (·.1)=false:=QZ λz hz=>hns z (Xp _ hz);intro pins s Y H D I q;obtain⟨α,Z,hs0,fw,ρ',hs',rs,R,e,q⟩:=q;simp only[Iv.ex]at e;obtain⟨us,hh1,e1,e⟩:=Qc e;refine wpAny_Try_except ?_
 have sw:swapsWith (.Call (.Name f pf) (a::args) [] q1) none q2.line X.env=pure false:=by rfl
 split at e
 ·rename_i u0 h2 ec;cases e;have P1:PS X (.Expr (.Call (.Name f pf) (a::args) [] q1) q2) _:=QaX (Qgb (d:=d) g F hr S gf df lf ha) sw;have P2:=Qdd P1
  have r:=P2 pins s Y H D I (TI.run rs R (u:=u0) (h1:=_) (by simp only[ev,e1,Iv.bd];exact ec) λα1 v H1 E1 R1 r1 rs1=>q α1 Y H1 E1 R1 rs1)
  rw[g.xe]at r ⊢;refine X2 r (λfl' s1 z=>?_) λy y z=>z.elim
  cases fl' with
  |next=>exact U8 z
  |ret v=>exact z
  |brk=>exact z
  |cont=>exact z
 ·rename_i ec;split at e
  case h_2=>cases e
  rename_i c' h2 ex';rw[W9]at e;obtain⟨⟨c1,c2,c3⟩,e⟩:=e;split at e
  case h_2=>cases e
  rename_i ρ2 h3 eb;cases e
  cases hF:T.fns[t.f]? with
  |none=>rw[hF]at c3;cases c3
  |some Fn=>
  rw[hF]at c3;have c3:us.length=Fn.np:=Wo c3;obtain⟨fd,G,bb,kp⟩:=F.xf t.f Fn hF;refine wpAny_execs_cons (wpAny_Expr_any ?_ I.quiet sw);refine Wg (Zc I (QR g gf) (g.gfn f t.f lf) ?_ (QP df));have pa0:=S.a d (a::args) es ha q1 pins s Y H (λvs H1=>∃α1,Ext α α1 H H1/\Rep T A X.K α1 hh1 H1/\RUs A α1 us vs) I ⟨α,Z,hs0,us,hh1,rs,R,e1,λα' vs H' E' R' r'=>⟨α',E',R',r'⟩⟩;rw[g.xe]at pa0;refine PySem.W.callWith_K (h₀:=X.base) I.ok.mod.kin kp (X2 pa0 (λus1 s1 ⟨vs,H1,I1,r,α1,E1,R1,ru⟩=>⟨I1.kIn,?_⟩) λy y z=>z.elim) st sa
  have ll:us1.length=Fn.ps.length:=by
   obtain⟨fd',fn',_,_,lp,_⟩:=g.txt.fn t.f Fn hF;rw[lp,<-c3,ru.length,r.length]
  have hsp:spX T A X.K T.xf t.f vs H1 (λy y=>False) (λCv o H'=>Cv=.ref (A.c c'.1)/\EF T H' c' o/\∃α',Ext α1 α' H1 H'/\Rep T A X.K α' h2 H'):=
   ⟨α1,us,hh1,c',h2,ru,R1,ex',⟨Fn,hF,c3⟩,λα' H' dd E' R' ef=>⟨rfl,ef,α',E',R'⟩⟩
  refine Uz (Uv (G.run X.A X.stack s1 H1 ⟨us1,[]⟩ us1 vs _ _ hr I1.env0 (by have:=bb s1 us1 I1.kIn (by rw[Wd];exact ll);rw[Wd]at this;exact this) r hsp) λrr s' hq=>?_)
  cases rr with
  |ok fl=>
   cases fl with
   |ret u=>
    obtain⟨_,_,_,_,_,_,_,z⟩:=hq;exact z.elim
   |next=>exact False.elim hq
   |brk=>exact False.elim hq
   |cont=>exact False.elim hq
  |error ev=>
   obtain⟨e0,C0,H',B,a0,dd,rfl,os,bare,un,hok,flw,cv,hn,hs0',da,⟨hC,ef,α2,E2,R2⟩⟩:=hq;cases hC
   have h00:X.s₀.heap.get? e0=none:=by
    cases q:X.s₀.heap.get? e0 with
    |none=>rfl
    |some ob=>
     obtain⟨o',ho⟩:=I1.base.there e0 ob q (by rw[bX.ex];simp)
     rw[hs0']at ho;cases ho
   have M:Met X pins Y H1 H' s1 s' e0 (A.c c'.1) dd B a0:=⟨I1,os,bare,un,hok,flw,cv,hn,hs0',h00,da⟩
   have gh:GX T A (hdX C) (X.hd (.ref e0)):=⟨g.CT,g.N,g.nd,g.sc,(λz=>by rw[Qd4]at z;cases z),g.kind,g.xe,g.gfn,g.gcl,g.gco,g.gtx,(λz hz=>by
    refine g.blt z λw=>hz ?_;by_cases e:z=("isinstance":Str)
    ·rw[e,hbl]at w;cases w
    ·refine Bool.eq_false_iff.mpr λh=>?_
     rcases X5.mp (Vn.mp h)with h|h
     ·exact e h
     ·rw[Vn.mpr (U7.mp h).1]at w
      cases w),g.txt,g.tab⟩
   have Sh:=(QeV (k:=k) m gh (⟨F.ok,F.some,F.df,F.xf⟩:Fc (X.hd (.ref e0)) T A cf k) (λz=>by rw[Qd4]at z;cases z) hr.units).s
   have rs2:=(rs.mono E1.pre).mono E2.pre;have xeh:(X.hd (.ref e0)).xe=λy y=>False:=g.xe
   cases n with
   |none=>cases t1
   |some n=>
    obtain⟨j,hj,ln,nd,hi⟩:=QeO t1;rw[hj]at eb q;have PP:=Qc7 gh fl Sh (b0::body) d sb hb
    obtain⟨R3,E3⟩:=R2.new (p:=e0) (o:=.err c'.1 c'.2) (ho:=QfO e0 (A.c c'.1) dd) hn ⟨dd,Qf,c1,ef.fz λb o fs e=>by rw[Qb (λz=>by rw[z,hn]at e;cases e)];exact e⟩
    have at3:(α2++[e0])[h2.length]?=some e0:=by rw[<-R2.h.len];exact QD
    have rs4:=(rs2.mono E3.pre).set j (u:=.ref h2.length) (v:=.ref e0) ⟨e0,at3,rfl⟩
    refine Qis (W:=λσ8 H8=>∃α8,Ext (α2++[e0]) α8 (upd H' e0 (QfO e0 (A.c c'.1) dd)) H8/\Rep T A X.K α8 hs' H8/\RS A α8 ρ2 σ8) bX.stk bX.frm g.nd M (QR g gx) (g.gcl x t.c lx) (g.txt.es c'.1 t.c c2) (QP dx) (by rw[g.N];exact QX hi) (by rw[g.sc];exact Qat ln) (λs7 J7=>?_) (λσ8 H8 s'' ⟨α8,E8,R8,r8⟩ J=>?_)
    ·have r:=PP pins s7 _ _ ⟨λσ8 H8=>∃α8,Ext (α2++[e0]) α8 (upd H' e0 (QfO e0 (A.c c'.1) dd)) H8/\Rep T A X.K α8 hs' H8/\RS A α8 ρ2 σ8,λy y=>False,λy y=>False,λy y=>False⟩ J7 ⟨α2++[e0],Z.set j (some (.ref h2.length)),h2++[O.err c'.1 c'.2],.next,ρ2,hs',rs4,R3,eb,λα' Y' H' E' R' r'=>⟨α',E',R',r'⟩⟩;rw[xeh]at r;refine X2 r (λf8 s8 z=>?_) λy y z=>z
     cases f8 with
     |next=>exact⟨rfl,z⟩
     |brk=>obtain⟨_,_,_,z⟩:=z;exact z.elim
     |cont=>obtain⟨_,_,_,z⟩:=z;exact z.elim
     |ret u=>obtain⟨_,_,_,_,_,z⟩:=z;exact z.elim
    ·exact⟨_,_,J,q _ _ _ (((E1.trans E2 R2.h).trans E3 R3.h).trans E8 R8.h) R8 (QfH r8)⟩
def QjC(bX:Bd X)(F:Fc X T A cf k)(hr:Room k X.A)(hu:X.A.units+1<cLine)(g:GX T A C X)(fl:∀x,X.fn x=true\/X.env.scope.names.lookup x=some .local)(S2:Snd2 T A C X cf m)(SS:SndS T A C X cf m)(d:Nat)(st:Stmt)(ir:Iv.S)(h:QQ (m+1) C st=some ir):PS X st (TIS T A X.K (ex T cf d ir)):=by
 have S:=S2.s;refine QbD λd=>?_
 cases st with
 |Pass p=>cases h;exact Zh Qho λD Y H r=>by obtain⟨α,Z,hs,fl,ρ',hs',rs,R,e,q⟩:=r;cases e;exact q α Y H Ext.refl R rs
 |Break p=>cases h;exact Zh Qfb λD Y H W=>by obtain⟨α,Z,hs,fl,ρ',hs',rs,R,e,q⟩:=W;cases e;exact q α Y H Ext.refl R rs
 |Continue p=>cases h;exact Zh QaY λD Y H V=>by obtain⟨α,Z,hs,fl,ρ',hs',rs,R,e,q⟩:=V;cases e;exact q α Y H Ext.refl R rs
 |Expr e p=>
  unfold QQ at h;try dsimp only at h;split at h
  ·rename_i hd;obtain⟨x,j,q,rfl⟩:=QfN hd;cases h
   exact Zh Qj2 λD Y H U=>by obtain⟨α,Z,hs,fl,ρ',hs',rs,R,e,q⟩:=U;cases e;exact q α Y H Ext.refl R rs
  ·cases h
  ·rename_i hn;simp only[Xd]at h;obtain⟨e',he,rfl⟩:=h
   refine Zh (QaX (S.e d e e' he) (QdI he λelt gens scope q z=>by subst z;cases hn)) ?_
   rintro D Y H ⟨α,Z,hs,fl,ρ',hs',rs,R,e,q⟩;simp only[ex]at e;obtain⟨u,h1,e1,e⟩:=Qc e;cases e;exact TI.run rs R e1 λα1 x H1 E1 R1 r1 rs1=>q α1 Y H1 E1 R1 rs1
 |Return v p=>
  cases v with
  |none=>
   cases h
   exact Zh Qhn λD Y H P=>by obtain⟨α,Z,hs,fl,ρ',hs',rs,R,e,q⟩:=P;cases e;exact q α Y H Ext.refl R rs .non rfl
  |some e=>
   unfold QQ at h;simp only[Xd]at h;obtain⟨e',he,rfl⟩:=h;refine Zh (QjZ (S.e d e e' he)) ?_;rintro D Y H ⟨α,Z,hs,fl,ρ',hs',rs,R,e,q⟩;simp only[ex]at e;obtain⟨u,h1,e1,e⟩:=Qc e;cases e;exact TI.run rs R e1 λα1 x H1 E1 R1 r1 rs1=>q α1 Y H1 E1 R1 rs1 x r1
 |Raise x c p=>
  unfold QQ at h;try dsimp only at h;split at h
  ·simp only[Xc]at h;obtain⟨es,_,h⟩:=h;cases h
   exact ZT λD Y H M=>by obtain⟨_,_,_,_,_,_,_,_,e,_⟩:=M;simp[ex]at e
  ·cases h
   exact ZT λD Y H L=>by obtain⟨_,_,_,_,_,_,_,_,e,_⟩:=L;simp[ex]at e
 |Try b hs o fn p=>
  unfold QQ at h;try dsimp only at h;split at h
  case isFalse=>cases h
  rename_i hbl;simp only[Xc]at h;obtain⟨t,ht,es,hes,sb,hsb,h⟩:=h;cases h;exact Qmm bX g fl F hr S hbl ht hes hsb
 |AugAssign t o e p=>first|exact Znn h|simp[QQ]at h
 |If t a b p=>
  unfold QQ at h;simp only[Xc]at h;obtain⟨t',ht,a',ha,b',hb,h⟩:=h;cases h;refine Zh (Qj0 (S.t d t t' ht).1 (SS.ss d a a' ha) (SS.ss d b b' hb)) ?_;rintro D Y H ⟨α,Z,hs,fl,ρ',hs',rs,R,e,q⟩;simp only[ex]at e;split at e
  ·rename_i h1 e1;refine TIT.run rs R e1 λα1 H1 E1 R1 rs1=>?_;rw[if_pos rfl];exact TIS.run rs1 R1 e λα2 σ2 H2 E2 R2 rs2=>q α2 σ2 H2 (E1.trans E2 R2.h) R2 rs2
  ·rename_i h1 e1;refine TIT.run rs R e1 λα1 H1 E1 R1 rs1=>?_;rw[if_neg Xh];exact TIS.run rs1 R1 e λα2 σ2 H2 E2 R2 rs2=>q α2 σ2 H2 (E1.trans E2 R2.h) R2 rs2
  ·cases e
 |While t a b p=>
  cases b with
  |cons _ _=>first|exact Znn h|simp[QQ]at h
  |nil=>
   unfold QQ at h;simp only[Xc]at h;obtain⟨t',ht,a',ha,h⟩:=h;cases h
   refine Zh (Qfa (by rw[g.xe];exact PassesOwn.never) (S.t d t t' ht).1 (SS.ss d a a' ha)) ?_
   rintro D Y H ⟨α,Z,hs,fl,ρ',hs',rs,R,e,q⟩;simp only[ex]at e;exact Qb1 rs R e q
 |For tg it a b p=>
  cases b with
  |cons _ _=>first|exact Znn h|simp[QQ]at h
  |nil=>
   unfold QQ at h;simp only[Xc]at h;obtain⟨tg',ht,it',hi,h⟩:=h;split at h
   case isFalse=>cases h
   rename_i ok;simp only[Xc]at h;obtain⟨a',ha,h⟩:=h;cases h
   refine Zh (Qgh (by rw[g.xe];exact PassesOwn.never) bX.cm (S2.w d it _ tg hi (Qf7 ht ok)) (Qop bX.cm g fl ht) (SS.ss d a a' ha) (QbH hi)) ?_
   rintro D Y H ⟨α,Z,hs,fl,ρ',hs',rs,R,e,q⟩;simp only[ex]at e;obtain⟨w,h1,e1,e⟩:=Qc e;refine⟨α,Z,hs,w,h1,rs,R,e1,λα1 J H1 E1 R1 W1=>?_⟩;exact QfM rfl g.txt (rs.mono E1.pre) R1 W1 e λα2 σ2 H2 E2 R2 rs2=>q α2 σ2 H2 (E1.trans E2 R2.h) R2 rs2
 |Assign ts e p=>
  unfold QQ at h;try dsimp only at h;split at h
  ·rename_i x ht;obtain⟨px,rfl⟩:=Qey ht;split at h
   case isFalse=>cases h
   rename_i hl;simp only[Xc]at h;obtain⟨i,hi,e',he,h⟩:=h;cases h
   have fin:∀e' D Y H,TIS T A X.K (ex T cf (d+1) (.set i e')) D Y H->TI T A X.K (ev T cf d e') Y H λv H1=>D.nx (Y.set i (some v)) H1:=by
    intro e';rintro D Y H ⟨α,Z,hs,fl,ρ',hs',rs,R,e,q⟩;simp only[ex]at e;obtain⟨u,h1,e1,e⟩:=Qc e;cases e;exact TI.run rs R e1 λα1 x H1 E1 R1 r1 rs1=>q α1 _ H1 E1 R1 (rs1.set i r1)
   by_cases hc:∃elt gens scope q,e=.ListComp elt gens scope q
   ·obtain⟨elt,gens,scope,pc,rfl⟩:=hc;obtain⟨tg,iter,tl,xs,n,wi,gg,tt,te,rfl,ok,hi',hn',hg',ht',he',hf,imp⟩:=S2.c d elt gens scope pc e' he;intro pins s Y H D I hq
    rcases imp Y H _ I.len (fin _ D Y H hq)with w|⟨a,kv,ha,w⟩
    ·exact Qdh bX.cm g.nd ok hi' hn' hg' ht' he' hf (by rw[g.N];exact QX hi) (Qam g hl) (fl x) pins s Y H D I w
    ·exact Qhm (Qdh bX.cm g.nd ok hi' hn' hg' ht' he' hf (by rw[g.N];exact QX hi) (Qam g hl) (fl x)) pins s Y H D I ⟨a,kv,ha,w⟩
   ·exact Zh (Qdf (i:=i) g.nd (by rw[g.N];exact QX hi) (Qam g hl) (S.e d e e' he) (QdI he λelt gens scope q z=>hc ⟨elt,gens,scope,q,z⟩) (fl x)) (fin _)
  ·rename_i o f ht;obtain⟨pa,rfl⟩:=QiC ht;split at h
   case isFalse=>cases h
   rename_i hn;simp only[Xc]at h;obtain⟨e',he,o',ho,i,hi,h⟩:=h;cases h
   have hk':T.fns'[i]?=some f:=by rw[<-g.CT];exact QX hi
   refine Zh (Qj1 (S.e d o o' ho) (S.e d e e' he) (QhW he)) ?_;rintro D Y H ⟨α,Z,hs,fl,ρ',hs',rs,R,e,q⟩;simp only[ex]at e;obtain⟨u,h1,e1,e⟩:=Qc e;obtain⟨u2,h2,e2,e⟩:=Qc e;refine TI.run rs R e1 λα1 x H1 E1 R1 r1 rs1=>TI.run rs1 R1 e2 λα2 y H2 E2 R2 r2 rs2=>?_;split at e
   case h_2=>cases e
   rename_i n;split at e
   case h_2=>cases e
   rename_i c fs eo;split at e
   case isFalse=>cases e
   rename_i l;cases e;obtain⟨a,ha,rfl⟩:=r2;obtain⟨dx,fv,q1,rf,lc⟩:=R2.h.ob n a _ ha eo;have cl:=g.txt.cl c _ (Xj lc)
   refine⟨a,A.c c,dx,fv,rfl,q1,cl.cls,cl.nf f (Xr hk'),by rw[<-RF.length rf];omega,?_⟩
   obtain⟨R',E'⟩:=R2.put (o:=.ins c (Zq i u fs)) (ho:=.ins (A.c c) dx (Ju f x fv)) ha ⟨dx,_,Qf,RF.put hk' g.txt.fd (r1.mono E2.pre) rf,lc⟩;exact q α2 Y _ ((E1.trans E2 R2.h).trans E' R'.h) R' rs2
  ·rename_i o i ht;obtain⟨ps,rfl⟩:=QfY ht;split at h
   case isFalse=>cases h
   rename_i nsl;simp only[Xc]at h;obtain⟨e',he,o',ho,i',hi,h⟩:=h;cases h;refine Zh (Qgi (S.e d e e' he) (Qka (S.e d o o' ho) (S.e d i i' hi) (Qe0 hu) (QcF nsl)) (QhV he) rfl rfl) ?_;rintro D Y H ⟨α,Z,hs,fl,ρ',hs',rs,R,e,q⟩;simp only[ex]at e;obtain⟨u,h1,e1,e⟩:=Qc e;obtain⟨x,h2,e2,e⟩:=Qc e;obtain⟨k,h3,e3,e⟩:=Qc e;simp only[Xd]at e;obtain⟨h4,e4,e⟩:=e;cases e;refine TI.run rs R e1 λα1 v H1 E1 R1 r1 rs1=>TI.run rs1 R1 e2 λα2 y H2 E2 R2 r2 rs2=>TI.run rs2 R2 e3 λα3 z H3 E3 R3 r3 rs3=>?_;unfold QiL at e4;split at e4
   case h_2=>cases e4
   rename_i n;split at e4
   case h_2=>cases e4
   rename_i oo eo;obtain⟨a,ha,rfl⟩:=r2.mono E3.pre;obtain⟨H',g',R',E'⟩:=Qin R3 eo ha e4 r3 (r1.mono λn a e=>E3.pre n a (E2.pre n a e));exact⟨a,H',rfl,g',q α3 Y _ (((E1.trans E2 R2.h).trans E3 R3.h).trans E' R'.h) R' rs3⟩
  ·cases h
  ·rename_i es ht;obtain⟨kt,pt,rfl⟩:=Qez ht;simp only[Xc]at h;obtain⟨is,his,h⟩:=h;split at h
   case isFalse=>cases h
   rename_i nt;simp only[Xd]at h;obtain⟨e',he,rfl⟩:=h;obtain⟨a1,a2⟩:=QbI (C:=C) (env:=X.env) his;refine Zh (Qgi (S.e d e e' he) (Qdt bX.cm (Qds g fl his) a1 a2) (QhU he) (Qah nt) rfl) ?_;rintro D Y H ⟨α,Z,hs,fl,ρ',hs',rs,R,e,q⟩;simp only[ex]at e;obtain⟨u,h1,e1,e⟩:=Qc e;simp only[Xc,Xd]at e;obtain⟨us,et,ρ2,e2,e⟩:=e;cases e;refine TI.run rs R e1 λα1 v H1 E1 R1 r1 rs1=>?_
   cases u with
   |ref n=>
    simp only[QlE]at et;split at et
    case h_2=>cases et
    rename_i eo;cases et;obtain⟨a,ha,rfl⟩:=r1;obtain⟨vs,qv,rr⟩:=R1.h.ob n a _ ha eo;obtain⟨w,l⟩:=Qgr (Q:=λσ2 H2=>D.nx σ2 H2) e2 rr rs1 (λσ2 r2=>q α1 σ2 H1 E1 R1 r2);exact⟨a,vs,rfl,SqT.of qv,l,w⟩
   |_=>exact nomatch (show none=some _ from et)
  ·cases h
 |_=>exact Znn h
def QgJ{s0 s':S}(hs:QoJ m C st s0=some s')(h:∀d,PS X st (TIS T A X.K (ex T cf d s0)))(d:Nat):PS X st (TIS T A X.K (ex T cf d s')):=by
 cases hs;exact h d
def Qg6(SS:SndS T A C X cf m)(d:Nat)(sts:List Stmt)(irs:List S)(h:compSs (m+1) C sts=some irs):PSs X sts (TIS T A X.K (exs T cf d irs)):=by
 cases d with
 |zero=>exact ZL Qgq
 |succ d=>
  cases sts with
  |nil=>
   cases h
   exact Qb0 Qde λD Y H z=>by obtain⟨α,Z,hs,fl,ρ',hs',rs,R,e,q⟩:=z;cases e;exact q α Y H Ext.refl R rs
  |cons st r=>
   simp only[compSs,Xc]at h;obtain⟨s0,hs0,s',hs,r',hr,h⟩:=h;cases h;refine Qb0 (ZA (QgJ hs (λd=>SS.s d st s0 hs0) d) (SS.ss d r r' hr)) ?_;rintro D Y H ⟨α,Z,hs,fl,ρ',hs',rs,R,e,q⟩;simp only[exs]at e;split at e
   ·rename_i ρ1 h1 e1;exact TIS.run rs R e1 λα1 σ1 H1 E1 R1 rs1=>TIS.run rs1 R1 e λα2 σ2 H2 E2 R2 rs2=>q α2 σ2 H2 (E1.trans E2 R2.h) R2 rs2
   ·rename_i n1;refine TIS.run rs R e λα1 σ1 H1 E1 R1 rs1=>?_
    cases fl with
    |next=>exact absurd e (n1 _ _)
    |cont=>exact q α1 σ1 H1 E1 R1 rs1
    |brk=>exact q α1 σ1 H1 E1 R1 rs1
    |ret u=>exact q α1 σ1 H1 E1 R1 rs1
theorem Qmg(bX:Bd X)(g:GX T A C X)(fl:∀x,X.fn x=true\/X.env.scope.names.lookup x=some .local)(F:Fc X T A cf k)(hr:Room (k+1) X.A):∀m,SndS T A C X cf m
 |0=>⟨λd st ir h=>by first|exact Znn h|simp[QQ]at h,λd sts irs h=>by exact Znn h⟩
 |m+1=>by
  have SS:=Qmg bX g fl F hr m;exact⟨QjC bX F (hr.mono (Vs k)) (Qnf hr) g fl (QeV m g F (λz=>hr) hr.units) SS,Qg6 SS⟩
end
end
section
structure Top(T:Tbl)(A:Adr)(K:W.Frag)(mg:Str->Option Value)(gl:List (Str×G))(bl:List Str):Prop where
 txt:Txt T A K mg
 gfn:∀x i,gl.lookup x=some (.fn i)->mg x=some (.ref (A.f i))
 gcl:∀x i,gl.lookup x=some (.cls i)->mg x=some (.ref (A.c i))
 gco:∀x k,gl.lookup x=some (.con k)->mg x=some (.ref (A.k k))
 gtx:∀x t,gl.lookup x=some (.txt t)->∃k,mg x=some (.str ⟨t.toArray⟩ k)
 blt:∀x,¬bl.contains x=false->mg x=none
def YD(T:Tbl)(gl:List (Str×G))(bl:List Str):Prop:=∀(i:Nat) (F:Fn),T.fns[i]?=some F->∃m,compSs m ⟨T,F.N,(Qh F.st).names,gl,bl,F.lc⟩ (QY F.st)=some F.body
section
variable {P:Program}{w:World}{K:W.Frag}{mg:Str->Option Value}{base:Heap}{T:Tbl}{A:Adr}{gl:List (Str×G)}{bl:List Str}
def Jm{α:List Addr}{us:List U}{vs:List V}{N:List Str}{n:Nat}(r:RUs A α us vs)(hn:N.length=n):RS A α (QiJ us n) (L2.start N vs):=by
 unfold QiJ L2.start;have l:=r.length
 refine⟨by simp[l,hn],λi u e=>?_⟩
 by_cases hi:i<us.length
 ·rw[Xu (by simpa using hi),Vg]at e
  rw[Xu (by simpa[<-l]using hi),Vg]
  cases q:us[i]? with
  |none=>rw[q]at e;cases e
  |some x=>
   rw[q]at e;cases e;obtain⟨v,h1,h2⟩:=r.get q
   exact⟨v,by rw[h1];rfl,h2⟩
 ·rw[Xv (by simpa using Ts hi),Th]at e
  split at e<;>cases e
def Jd{n:Nat}:∀f us hs r,Qd T n f us hs=some r->∃F,T.fns[f]?=some F/\us.length=F.np:=by
 intro f us hs r h
 cases n with
 |zero=>cases h
 |succ n=>
  simp only[Qd]at h;split at h
  ·cases h
  ·rename_i F e;split at h
   ·rename_i l;exact⟨F,e,l⟩
   ·cases h
def XOk(P:Program)(w:World)(K:W.Frag)(mg:Str->Option Value)(base:Heap)(T:Tbl)(A:Adr)(r:Nat):Prop:=∀f F,T.fns[f]?=some F->∃fd,FnOk P w K mg base (CXw P w) r (A.f f) fd F.ps (spX T A K T.xf f)/\Binds K fd F.ps []/\W.keepIn K (.ref (A.f f))=true
def Qpp(tp:Top T A K mg gl bl)(h:T.xf=λy y y=>none):XOk P w K mg base T A 0:=λf F hF=>by
 obtain⟨fd,fn,b,_⟩:=tp.txt.fn f F hF
 have no:∀vs H Q E,¬spX T A K T.xf f vs H Q E:=λvs H Q E z=>by
  obtain⟨α,us,hs,u,hs',_,_,e,_⟩:=z;rw[h]at e;cases e
 exact⟨fd,⟨λvs H Q E h=>absurd h (no vs H Q E),λA outer s H args us vs Q E y y y y h=>absurd h (no vs H Q E)⟩,b,fn.kp⟩
theorem Qax{rm:Nat}(tp:Top T A K mg gl bl)(tab:JO P w T A K)(hb:YD T gl bl)(hX:XOk P w K mg base T A rm):∀n f F,T.fns[f]?=some F->∃fd,FnOk P w K mg base CX0 (rm+2*n) (A.f f) fd F.ps (spC T A K (Qd T n) f)/\Binds K fd F.ps []/\W.keepIn K (.ref (A.f f))=true/\FunD K F.name F.qual F.st (A.f f) fd
 |0,f,F,hF=>by
  obtain⟨fd,fn,b,_⟩:=tp.txt.fn f F hF
  have no:∀vs H Q E,¬spC T A K (Qd T 0) f vs H Q E:=λvs H Q E h=>by
   obtain⟨α,us,hs,u,hs',_,_,e,_⟩:=h;cases e
  exact⟨fd,⟨λvs H Q E h=>absurd h (no vs H Q E),λA outer s H args us vs Q E z z z z h=>absurd h (no vs H Q E)⟩,b,fn.kp,fn⟩
 |n+1,f,F,hF=>by
  obtain⟨fd,fn,b,sc,lp,lN⟩:=tp.txt.fn f F hF;obtain⟨m,hm⟩:=hb f F hF;refine⟨fd,?_,b,fn.kp,fn⟩;refine fn.ok (k:=rm+2*n+1) sc (λvs H Q E h=>?_) (λcdv A' outer s H vs Q E hr h=>?_)
  ·obtain⟨α,us,hs,u,hs',r,_,_,⟨F',h1,h2⟩,_⟩:=h;rw[hF]at h1;cases h1;rw[<-r.length,h2,lp]
  ·obtain⟨α,us,hs,u,hs',r,R,e,_,q⟩:=h;refine⟨TIS T A K (exs T (Qd T n) dd F.body),?_,?_⟩
   ·have gx:GX T A ⟨T,F.N,(Qh F.st).names,gl,bl,F.lc⟩ (QcK CX0 P w K mg base F.N F.qual (Qh F.st) (A.f f) cdv A' outer s H E).nox :=
     ⟨rfl,rfl,sc.nd,rfl,λz=>rfl,sc.kind,rfl,tp.gfn,tp.gcl,tp.gco,tp.gtx,tp.blt,tp.txt,tab⟩
    have fc:Fc (QcK CX0 P w K mg base F.N F.qual (Qh F.st) (A.f f) cdv A' outer s H E).nox T A (Qd T n) (rm+2*n):=⟨λf' F' h'=>by
     obtain⟨fd',G,b',kp,_⟩:=Qax tp tab hb hX n f' F' h'
     exact⟨fd',G,b',kp⟩,Jd,λi D F' hD h'=>by
     obtain⟨fd',G,_,kp,fn'⟩:=Qax tp tab hb hX n i F' h';obtain⟨fd2,x,q,st,fn2,dk,hp⟩:=tp.txt.df i D hD;have e:=FunD.same fn2 fn';subst e;rw[(hp F' h').1]at G
     exact⟨fd2,G,kp,dk⟩,λf' F' h'=>by
     obtain⟨fd',G,b',kp⟩:=hX f' F' h'
     exact⟨fd',G.mono (Ui _ _),b',kp⟩⟩
    exact(Qmg ⟨rfl,rfl,rfl,rfl⟩ gx (λz=>.inl rfl) fc hr m).ss dd (QY F.st) F.body hm
   ·simp only[Qd,hF]at e;split at e
    case isFalse=>cases e
    unfold fin at e;split at e
    ·rename_i u' ρ' h1 e1;cases e;exact TIS.run (Jm r lN) R e1 λα1 σ1 H1 E1 R1 rs1 v rv=>q α1 v H1 E1 R1 rv
    ·rename_i ρ' h1 e1;cases e;exact TIS.run (Jm r lN) R e1 λα1 σ1 H1 E1 R1 rs1=>q α1 .non H1 E1 R1 rfl
    ·cases e
end
end
section
variable {n:Nat}{x:Str}
inductive AllI{α:Type}(P:Nat->α->Prop):Nat->List α->Prop where
 |nil {n:Nat}:AllI P n []
 |cons {n:Nat} {a:α} {r:List α}:P n a->AllI P (n+1) r->AllI P n (a::r)
def AllI.get{α:Type}{P:Nat->α->Prop}{l:List α}(h:AllI P n l)(i:Nat)(a:α)(e:l[i]?=some a):P (n+i) a:=by
 induction h generalizing i with
 |nil=>cases e
 |cons h _ ih=>
  cases i with
  |zero=>cases(show some _=some _ from e);exact h
  |succ i=>have:=ih i e;rw[Nat.add_assoc,Nat.add_comm 1 i]at this;exact this
def AllI.mem{α:Type}{P:α->Prop}{l:List α}(h:AllI (λz a=>P a) n l){a:α}(m:a∈l):P a:=by
 obtain⟨i,e⟩:=Vc m;exact AllI.get h i a e
def AllI.look{κ β:Type}[BEq κ][LawfulBEq κ]{P:κ->β->Prop}{l:List (κ×β)}(h:AllI (λz p=>P p.1 p.2) n l){k:κ}{b:β}(e:l.lookup k=some b):P k b:=AllI.mem (P:=λp=>P p.1 p.2) h (Zo e)
def gvP(A:Adr)(mg:Str->Option Value)(x:Str):G->Prop
 |.fn i=>mg x=some (.ref (A.f i))
 |.cls i=>mg x=some (.ref (A.c i))
 |.con k=>mg x=some (.ref (A.k k))
 |.txt t=>∃k,mg x=some (.str ⟨t.toArray⟩ k)
section
variable {P:Program}{w:World}{K:W.Frag}{mg:Str->Option Value}{base:Heap}{T:Tbl}{A:Adr}{gl:List (Str×G)}{bl:List Str}
def QoO(A:Adr)(K:W.Frag)(k:Nat)(c:Co):Prop:=match c with
 |Co.tup xs=>∃vs,RUs A [] xs vs/\∀H,SqT K H (A.k k) vs
 |Co.lst xs=>∃vs,RUs A [] xs vs/\∀H,SqL K H (A.k k) vs
 |Co.tab _=>True
def Qji(fns:AllI (λi (F:Fn)=>∃fd,FunD K F.name F.qual F.st (A.f i) fd/\Binds K fd F.ps []/\FnScope F.N F.ps (Qh F.st)/\F.ps.length=F.np/\F.N.length=F.nN) 0 T.fns)
  (cls:AllI (λi C=>ClOk T A K i C) 0 T.cls)
  (fm:(T.fns'.all λx=>!(T.mns.contains x))=true) (fd:T.fns'.Nodup)
  (isi:AllI (λz p=>W.kitOne K (tyW A p.1.1) (tyW A p.1.2)=some p.2) 0 T.isi)
  (co:AllI (QoO A K) 0 T.cons)
  (dfs:AllI (λz (p:Nat×Df)=>∃fd x q st,FunD K x q st (A.f p.1) fd/\QiQ A K fd p.2/\∀F,T.fns[p.1]?=some F->F.ps=p.2.ps/\F.np=p.2.np) 0 T.dfl)
  (g:AllI (λz (p:Str×G)=>gvP A mg p.1 p.2) 0 gl)
  (b:AllI (λz x=>mg x=none) 0 bl)
  (er:AllI (λz c=>ErrCls K (A.c c)/\∃f x,T.efl.contains (c,f)=true/\(∀f',T.efl.contains (c,f')=true->f'=f)/\T.fns'[f]?=some x/\QaJ K mg (A.c c) x) 0 T.ers)
  (es:AllI (λz (p:Nat×Nat)=>W.exmOne K (.ref (A.c p.1)) (.ref (A.c p.2))=some true) 0 T.esb):Top T A K mg gl bl where
 txt:={
  fn:=λi F e=>by simpa using fns.get i F e
  df:=λi D e=>AllI.look (P:=λi (D:Df)=>∃fd x q st,FunD K x q st (A.f i) fd/\QiQ A K fd D/\∀F,T.fns[i]?=some F->F.ps=D.ps/\F.np=D.np) dfs e
  cl:=λi C e=>by simpa using cls.get i C e
  fm:=λx m n=>by
   have:=Wl.mp fm x m;simp at this;exact this n
  fd:=fd
  isi:=λk t b e=>AllI.look (P:=λ(q:Ty×Ty) b=>W.kitOne K (tyW A q.1) (tyW A q.2)=some b) isi e
  co:=λk c e=>by
   have:=co.get k c e;simp only[Vk]at this;exact this
  er:=λc h=>AllI.mem er (by simpa using h)
  es:=λc c' h=>AllI.mem (P:=λ(p:Nat×Nat)=>W.exmOne K (.ref (A.c p.1)) (.ref (A.c p.2))=some true) es (a:=(c,c')) (by simpa using h)}
 gfn:=λx i e=>AllI.look (P:=λx (q:G)=>gvP A mg x q) g e
 gcl:=λx i e=>AllI.look (P:=λx (q:G)=>gvP A mg x q) g e
 gco:=λx i e=>AllI.look (P:=λx (q:G)=>gvP A mg x q) g e
 gtx:=λx i e=>AllI.look (P:=λx (q:G)=>gvP A mg x q) g e
 blt:=λx h=>by
  have:bl.contains x=true:=by cases q:bl.contains x with|true=>rfl|false=>exact absurd q h
  exact AllI.mem (P:=λx=>mg x=none) b (by simpa using this)
def QfB{C CB fI:Addr}{B sf txt name qual:Str}{st:Stmt}{dV kV doc pm cdv ct oc:Value}{an od:Option Addr}{osl:Array (Option Value)}{p1 p2 p3 p4 p5 p6 p7 p9 p10 p11 p12 p13 p14:Pos}{k7:Nat}
  (lk:K.lookup fI=some ⟨oc,od,.func (W.fnOf name qual (Yt st) (QY st) (Qh st) dV kV doc pm an cdv ct),osl⟩) (hcd:W.codeIn K cdv qual=true) (S:FnScope [sf,x] [sf,x] (Qh st))
  (hbd:QY st=Qiu B sf x txt p1 p2 p3 p4 p5 p6 p7 p9 p10 p11 p12 p13 p14 k7) (M:Exi K C fI) (Yyy:ErrCls K C) (h1:W.specialIn K (.ref CB) "__getattribute__"=some (some (.builtin "type.__getattribute__"))) (h2:W.readsIn K CB (.type "type")=true)
  (h3:W.findCls K (.ref CB) (.type "type") "__init__"=some (.val (.builtin "ValueError.__init__"))) (hm:mg B=some (.ref CB)) (h4:W.findIn K (.ref C) "__setattr__"=some (some (.builtin "object.__setattr__"))) (h5:Qae K C=true) (h6:W.findIn K (.ref C) x=some none) (hh:W.hasDictIn K C=true)
  (hb:Binds K (W.fnOf name qual (Yt st) (QY st) (Qh st) dV kV doc pm an cdv ct) [sf,x] [])
  (hg:∀L a cd,(envOfC qual (Qh st) L a cd).kindOf B=some .globalImplicit) (hdb:([B,sf,x].all λz=>!(z==("__debug__":Str))&&!(z==("__classdict__":Str)))=true) (hz:txt.length<=100000)
  (hst:∀L a cd,starEach [.Name sf p3,.JoinedStr [.Constant (.str txt) k7 p7,.FormattedValue (.Name x p4) (-1) none p5] p6] (envOfC qual (Qh st) L a cd)=[(false,eval (.Name sf p3) (envOfC qual (Qh st) L a cd)),(false,eval (.JoinedStr [.Constant (.str txt) k7 p7,.FormattedValue (.Name x p4) (-1) none p5] p6) (envOfC qual (Qh st) L a cd))])
  (hev:∀L a cd,∃pl:Sem Bool,eval (.Call (.Attribute (.Name B p1) "__init__" p2) [.Name sf p3,.JoinedStr [.Constant (.str txt) k7 p7,.FormattedValue (.Name x p4) (-1) none p5] p6] [] p9) (envOfC qual (Qh st) L a cd)=(do
   let ov <-eval (.Name B p1) (envOfC qual (Qh st) L a cd)
   standAt p2.atName
   let (f,first) <-holding [ov] (getMethod ov "__init__" pl)
   callWith p9 f first (backTo p9 (starEach [.Name sf p3,.JoinedStr [.Constant (.str txt) k7 p7,.FormattedValue (.Name x p4) (-1) none p5] p6] (envOfC qual (Qh st) L a cd))) (backToKw p9 (keywordEach [] (envOfC qual (Qh st) L a cd))))):QaJ K mg C x:=by
 simp only[Uk,List.all_nil,Bool.and_true,Xk,Uc]at hdb;exact⟨hh,h6,fI,_,[sf,x],M,hb,λP w base=>QfC lk hcd S hbd M.q Yyy h1 h2 h3 hm hg hdb.1.1 h4 h5 h6 hdb.2.1.1 hdb.2.1.2 hdb.2.2.1 hdb.2.2.2 hz hst hev⟩
def Qeq(h:AllI (λz (F:Fn)=>compSs 100 ⟨T,F.N,(Qh F.st).names,gl,bl,F.lc⟩ (QY F.st)=some F.body) 0 T.fns):YD T gl bl:=λi F e=>⟨100,h.get i F e⟩
def tv{y:List Nat}{t:Tok}(h:x.cps.toList=y):∃v,RU A [] (.str y) v/\RelV v (.str x t):=by
 subst h;exact⟨.str x,rfl,⟨t,rfl⟩⟩
def tvi{i:Int}{t:Tok}:∃v,RU A [] (.int i 0) v/\RelV v (.int i t):=⟨.int i,⟨i,rfl,Cg.refl i 0⟩,⟨t,rfl⟩⟩
def QeU(K:W.Frag):Sp:=λvs H Q z=>∃(a:Addr) (ns:List Int),vs=[.ref a]/\SqL K H a (ns.map V.int)/\QlT H/\ns.length<=63/\∀H',Q (.bl true) H'
def Abs:U->Int->Prop:=λu i=>∃r m,u=.int r m/\Cg i r m
def Abs.rus{s:List U}{ns:List Int}(h:Paired Abs s ns):RUs A [] s (ns.map V.int):=by
 induction h with
 |nil=>exact .nil
 | @cons _ i _ _ h _ ih=>obtain⟨r,m,e,c⟩:=h;subst e;exact .cons ⟨i,rfl,c⟩ ih
def QkD{tb:List U->Tbl}{adr:Addr->Adr}{L r:Nat}{F:Fn}{fd:FuncData}(hF:∀s,(tb s).fns[L]?=some F)(hs:∀s,(tb s).scr=s)(hps:F.ps=[x])(hnp:F.np=1)
  (hA:∀a,(adr a).s=a) (hf:∀a,(adr a).f=(adr 0).f)
  (tp:∀s a,Top (tb s) (adr a) K mg gl bl) (tab:∀s a,JO P w (tb s) (adr a) K) (hb:∀s,YD (tb s) gl bl) (hX:∀s a,XOk P w K mg base (tb s) (adr a) r)
  (hfun:FunD K F.name F.qual F.st ((adr 0).f L) fd)
  (comp:∀ns:List Int,ns.length<=63->∃s hs',Paired Abs s ns/\Qd (tb s) n L [.scr] []=some (.bl true,hs')):
  FnOk P w K mg base CX0 (r+2*n) ((adr 0).f L) fd [x] (QeU K):=by
 refine⟨λvs H Q E y=>by obtain⟨a,ns,h,_⟩:=y;rw[h];rfl,λA0 outer s H args us vs Q E hr e0 hbd rel ⟨a,ns,h,hS,hO,hl,q⟩=>?_⟩
 obtain⟨sc,hs',pr,hc⟩:=comp ns hl;obtain⟨fd',G,_,_,hfun'⟩:=Qax (base:=base) (tp sc a) (tab sc a) (hb sc) (hX sc a) n L F (hF sc);rw[hf a]at G hfun';have ef:=FunD.same hfun hfun';subst ef;rw[hps]at G;refine G.run A0 outer s H args us vs Q E hr e0 hbd rel ?_;subst h
 refine⟨[],[.scr],[],.bl true,hs',.cons (show V.ref a=V.ref (adr a).s by rw[hA]) .nil,⟨⟨rfl,(λi j a e u=>by simp at e),λn b o e u=>by simp at e⟩,ns.map V.int,by rw[hs];exact Abs.rus pr,?_⟩,hc,⟨F,hF sc,hnp.symm⟩,λα' v H' u u rv=>?_⟩
 ·rw[hA]
  rcases hS with(h|⟨o,h⟩)|h
  ·rcases hO a with z|⟨o,xs,z⟩
   ·rw[h]at z;cases z
   ·rw[h]at z;cases z
  ·exact .inl ⟨o,h⟩
  ·exact .inr h
 ·have:v=.bl true:=rv;subst this;exact q H'
end
end
section
noncomputable def QaN(K:W.Frag)(a:Addr):FuncData:=match K.lookup a with
 |some o=>(match o.data with
  |.func fd=>fd
  |_=>default)
 |none=>default
noncomputable def fnT(F:Fn)(fd:FuncData):FuncData:=W.fnOf F.name F.qual (Yt F.st) (QY F.st) (Qh F.st) fd.defaults fd.kwdefaults fd.doc fd.pyModule fd.annotations fd.code fd.closureTuple
noncomputable def vsN(n:Nat)(v:Nat->Value):List Value:=(List.range n).map v
def QgR(us:List Value):us=vsN us.length λi=>us.getD i .none:=by
 apply Tn;intro i;simp only[vsN,Vg,List.getElem?_range',U2];by_cases h:i<us.length
 ·rw[List.getElem?_range h];simp[Xj h]
 ·rw[Ww (Ts h),Ww (by simpa using Ts h)];rfl
noncomputable def scB(F:Fn)(sc:Scope):Bool:=decide (sc.kind=.function)&&(!sc.isCoroutine&&(!sc.isGenerator&&(decide F.N.Nodup&&(decide (F.N.take F.ps.length=F.ps)&&(F.ps.all (λx=>decide (sc.names.lookup x=some .local)||decide (sc.names.lookup x=some .cell))&&(sc.names.all (λy=>decide (y.2≠.free))&&(decide (F.ps.length=F.np)&&decide (F.N.length=F.nN))))))))
noncomputable def fnB(K:W.Frag)(F:Fn)(a:Addr):Bool:=W.fnIn K a&&(W.codeIn K (QaN K a).code F.qual&&scB F (Qh F.st))
section
variable {P:Program}{w:World}{K:W.Frag}{mg:Str->Option Value}{h:Heap}{T:Tbl}{A:Adr}{gl:List (Str×G)}{bl:List Str}{F:Fn}{a:Addr}
def Qbd(h1:QaN K a=fnT F (QaN K a))(h2:fnB K F a=true):FunD K F.name F.qual F.st a (QaN K a)/\FnScope F.N F.ps (Qh F.st)/\F.ps.length=F.np/\F.N.length=F.nN:=by
 obtain⟨i,c,s⟩:_/\_/\_:=by simpa only[fnB,Xk]using h2
 obtain⟨s1,s2,s3,s4,s5,s6,s7,s8,s9⟩:_/\_/\_/\_/\_/\_/\_/\_/\_:=by simpa only[scB,Xk,Xy,Uc]using s
 have z:∃oc od sl,K.lookup a=some ⟨oc,od,.func (QaN K a),sl⟩:=by
  unfold W.fnIn at i;split at i
  ·rename_i oc od fd sl e
   exact⟨oc,od,sl,by rw[e];simp[QaN,e]⟩
  ·cases i
 obtain⟨oc,od,sl,e⟩:=z
 refine⟨⟨⟨oc,od,_,_,_,_,_,_,_,sl,h1,e,c⟩,by simp only[W.keepIn,e]⟩,⟨s1,s2,s3,s4,s5,λx m=>?_,λy m=>?_⟩,s8,s9⟩
 ·simpa using Wl.mp s6 x m
 ·simpa using Wl.mp s7 y m
def QbZ(n:F.ps.length=F.np)(h3:∀v,bindArgs (QaN K a) ⟨vsN F.np v,[]⟩=pure (F.ps.zip (vsN F.np v))):Binds K (QaN K a) F.ps []:=.all λus l=>by
 have:=h3 λi=>us.getD i .none;rwa [<-n,<-l,<-QgR]at this
noncomputable def QiP{α:Type}(f:Nat->α->Bool):Nat->List α->Bool
 |_,[]=>true
 |n,a::r=>f n a&&QiP f (n+1) r
theorem Z9{α:Type}{f:Nat->α->Bool}{Q:Nat->α->Prop}(q:∀n a,f n a=true->Q n a):∀{n:Nat} {l:List α},QiP f n l=true->AllI Q n l
 |_,[],_=>.nil
 |_,_::_,e=>.cons (q _ _ (Vd.mp e).1) (Z9 q (Vd.mp e).2)
def AllI.imp{α:Type}{Q R:Nat->α->Prop}(q:∀n a,Q n a->R n a){n:Nat}{l:List α}(h:AllI Q n l):AllI R n l:=by
 induction h with
 |nil=>exact .nil
 |cons e _ ih=>exact .cons (q _ _ e) ih
noncomputable def bi(x:String):Option (Option Value):=some (some (.builtin x))
noncomputable def clB(K:W.Frag)(T:Tbl)(A:Adr)(i:Nat)(C:Cl):Bool:=W.plainGet K (A.c i) Str.empty&&(W.hasDictIn K (A.c i)&&(W.plainOver K (A.c i)&&(W.findIn K (.ref (A.c i)) "__setattr__"==bi "object.__setattr__"&&(T.fns'.all (λx=>W.findIn K (.ref (A.c i)) x==some none) &&
 (C.meths.all (λp=>(T.mns[p.1]?).any λx=>W.findIn K (.ref (A.c i)) x==some (some (.ref (A.f p.2)))&&(W.isFn K (.ref (A.f p.2))&&W.keepIn K (.ref (A.f p.2)))) &&
 (W.makesIn K (A.c i)&&(W.keepIn K (.ref (A.c i))&&((match C.init with
  |some f=>W.findIn K (.ref (A.c i)) "__init__"==some (some (.ref (A.f f)))&&W.isFn K (.ref (A.f f))
  |none=>W.findIn K (.ref (A.c i)) "__init__"==bi "object.__init__")&&(W.findIn K (.ref (A.c i)) "__class__"==bi "object.__class__"&&W.mroIn K (A.c i) (.type "object")==some true)))))))))
noncomputable def obB(K:W.Frag):Bool:=W.specialIn K (.builtin "object.__class__") "__get__"==bi "getset_descriptor.__get__"&&W.takesIn K (.builtin "object.__class__")==some true
def QnE{i:Nat}{C:Cl}(o:obB K=true)(e:clB K T A i C=true):ClOk T A K i C:=by
 obtain⟨o1,o2⟩:_/\_:=by simpa only[obB,bi,Xk,Wn]using o
 obtain⟨e1,e2,e3,e4,e5,e6,e7,e8,e9,e10,e11⟩:_/\_/\_/\_/\_/\_/\_/\_/\_/\_/\_:=by simpa only[clB,bi,Xk,Wn]using e
 have c:Cls K (A.c i):=⟨e1,e2,e3,e4⟩;refine⟨c,λx m=>Wn.mp (Wl.mp e5 x m),λm f q=>?_,e7,e8,?_,λH a dx fs e=>.ins e c e10 o1 o2 e11⟩
 ·obtain⟨x,h1,h2⟩:=Option.any_eq_true _ _ |>.mp (Wl.mp e6 _ (Zo q))
  obtain⟨h2,h3,h4⟩:_/\_/\_:=by simpa only[Xk,Wn]using h2
  exact⟨x,h1,h2,h3,h4⟩
 ·revert e9
  cases C.init with
  |none=>exact λe=>by simpa using e
  |some f=>exact λe=>by simpa using e
def QfD{C CB fI:Addr}{B sf x txt:Str}{p1 p2 p3 p4 p5 p6 p7 p9 p10 p11 p12 p13 p14:Pos}{k7:Nat}(q1:QaN K fI=fnT F (QaN K fI))(q2:fnB K F fI=true)(q3:∀v,bindArgs (QaN K fI) ⟨vsN F.np v,[]⟩=pure (F.ps.zip (vsN F.np v)))(hps:F.ps=[sf,x])(hN:F.N=[sf,x])
  (hbd:QY F.st=Qiu B sf x txt p1 p2 p3 p4 p5 p6 p7 p9 p10 p11 p12 p13 p14 k7) (M:Exi K C fI) (Yyy:ErrCls K C) (h1:W.specialIn K (.ref CB) "__getattribute__"=some (some (.builtin "type.__getattribute__"))) (h2:W.readsIn K CB (.type "type")=true)
  (h3:W.findCls K (.ref CB) (.type "type") "__init__"=some (.val (.builtin "ValueError.__init__"))) (hm:mg B=some (.ref CB)) (h4:W.findIn K (.ref C) "__setattr__"=some (some (.builtin "object.__setattr__"))) (h5:Qae K C=true) (h6:W.findIn K (.ref C) x=some none) (hh:W.hasDictIn K C=true)
  (hg:∀L a cd,(envOfC F.qual (Qh F.st) L a cd).kindOf B=some .globalImplicit) (hdb:([B,sf,x].all λz=>!(z==("__debug__":Str))&&!(z==("__classdict__":Str)))=true) (hz:txt.length<=100000)
  (hst:∀L a cd,starEach [.Name sf p3,.JoinedStr [.Constant (.str txt) k7 p7,.FormattedValue (.Name x p4) (-1) none p5] p6] (envOfC F.qual (Qh F.st) L a cd)=[(false,eval (.Name sf p3) (envOfC F.qual (Qh F.st) L a cd)),(false,eval (.JoinedStr [.Constant (.str txt) k7 p7,.FormattedValue (.Name x p4) (-1) none p5] p6) (envOfC F.qual (Qh F.st) L a cd))])
  (hev:∀L a cd,∃pl:Sem Bool,eval (.Call (.Attribute (.Name B p1) "__init__" p2) [.Name sf p3,.JoinedStr [.Constant (.str txt) k7 p7,.FormattedValue (.Name x p4) (-1) none p5] p6] [] p9) (envOfC F.qual (Qh F.st) L a cd)=(do
   let ov <-eval (.Name B p1) (envOfC F.qual (Qh F.st) L a cd)
   standAt p2.atName
   let (f,first) <-holding [ov] (getMethod ov "__init__" pl)
   callWith p9 f first (backTo p9 (starEach [.Name sf p3,.JoinedStr [.Constant (.str txt) k7 p7,.FormattedValue (.Name x p4) (-1) none p5] p6] (envOfC F.qual (Qh F.st) L a cd))) (backToKw p9 (keywordEach [] (envOfC F.qual (Qh F.st) L a cd))))):QaJ K mg C x:=by
 obtain⟨fd,S,n,_⟩:=Qbd q1 q2;have b:=QbZ n q3;obtain⟨oc,od,dV,kV,doc,pm,an,cdv,ct,osl,e,lk,hcd⟩:=fd.ex;rw[hps,hN]at S;rw[hps,e]at b;rw[e]at lk;exact QfB lk hcd S hbd M Yyy h1 h2 h3 hm h4 h5 h6 hh b hg hdb hz hst hev
noncomputable def vB(A:Adr):U->Value->Bool
 |.str x,.str s _=>s.cps.toList==x
 |.int i 0,.int j _=>decide (i=j)
 |_,_=>false
def Qje{u:U}{v:Value}(e:vB A u v=true):∃z,RU A [] u z/\RelV z v:=by
 unfold vB at e;split at e
 ·exact tv (Wn.mp e)
 ·have:=Wo e;subst this;exact tvi
 ·cases e
noncomputable def vsB(A:Adr):List U->List Value->Bool
 |[],[]=>true
 |u::us,v::vs=>vB A u v&&vsB A us vs
 |_,_=>false
theorem Jf:∀{us:List U} {vs:List Value},vsB A us vs=true->∃zs,RUs A [] us zs/\Vals zs vs
 |[],[],_=>⟨[],.nil,.nil⟩
 |_::_,_::_,e=>by
  obtain⟨z,r1,r2⟩:=Qje (Vd.mp e).1;obtain⟨zs,h1,h2⟩:=Jf (Vd.mp e).2;exact⟨z::zs,.cons r1 h1,.cons r2 h2⟩
 |[],_::_,e=>nomatch e
 |_::_,[],e=>nomatch e
noncomputable def QlH(K:W.Frag)(t:String)(a:Addr):Option (List Value):=match K.lookup a with
 |some o=>if o.cls=.type t/\o.dict=none then(match o.data with
  |.seq its _=>if its.size<=sizeLine then some its.toList else none
  |_=>none)else none
 |none=>none
noncomputable def QiN(K:W.Frag)(a:Addr):List DictEntry:=match K.lookup a with
 |some o=>(match o.data with
  |.dict es _=>es.toList
  |_=>[])
 |none=>[]
noncomputable def QiM:Value->Key
 |.str s _=>.inr s
 |.int i _=>.inl i
 |_=>.inl 0
noncomputable def Qm4:Value->Bool
 |.str _ _=>true
 |.int _ _=>true
 |_=>false
def QdT:∀{v:Value},Qm4 v=true->JB (QiM v) v=true
 |.str s t,_=>Qao s t
 |.int i t,_=>Qap i t
noncomputable def keB:U->Key->Bool
 |.int i 0,.inl j=>decide (i=j)
 |.str x,.inr s=>s.cps.toList==x
 |_,_=>false
def QkJ{u:U}{k:Key}(e:keB u k=true):Qm3 u k:=by
 unfold keB at e;split at e
 ·exact congrArg Sum.inl (Wo e).symm
 ·rename_i s;have:=Wn.mp e;subst this;rfl
 ·cases e
noncomputable def kvB(A:Adr):List (U×U)->List DictEntry->Bool
 |[],[]=>true
 |p::ps,e::es=>Qm4 e.key&&(keB p.1 (QiM e.key)&&(vB A p.2 e.val&&kvB A ps es))
 |_,_=>false
noncomputable def exB(K:W.Frag)(a:Addr):Bool:=match K.lookup a with
 |some o=>decide (o.cls=.type "dict")&&(decide (o.dict=none)&&decide (o.slots=#[]))&&(match o.data with
  |.dict _ _=>true
  |_=>false)
 |none=>false
noncomputable def coB(K:W.Frag)(A:Adr)(a:Addr)(c:Co):Bool:=match c with
 |.tup xs=>(QlH K "tuple" a).any (vsB A xs)
 |.lst xs=>(QlH K "list" a).any (vsB A xs)
 |.tab kvs=>exB K a&&(kvB A kvs (QiN K a)&&(decide (((QiN K a).map λe=>QiM e.key).Nodup)&&!(a==sysModules)))
abbrev Qn3(K:W.Frag)(w:World)(a:Addr):Prop:=(QiN K a).map (·.hash)=(QiN K a).map λe=>Qoz w (QiM e.key)
def JY{t:String}{xs:List U}(e:(QlH K t a).any (vsB A xs)=true):∃(o:Obj) (its:Array Value) (n:Nat),K.lookup a=some o/\o.cls=.type t/\o.dict=none/\o.data=.seq its n/\its.size<=sizeLine/\vsB A xs its.toList=true:=by
 unfold QlH at e
 cases ho:K.lookup a with
 |none=>rw[ho]at e;cases e
 |some o=>
  simp only[ho]at e;split at e
  ·rename_i hc;split at e
   ·rename_i its n hd;split at e
    ·rename_i hz;exact⟨o,its,n,rfl,hc.1,hc.2,hd,hz,e⟩
    ·cases e
   ·cases e
  ·cases e
theorem Qgt:∀{kvs:List (U×U)} {es:List DictEntry},kvB A kvs es=true->(∀e∈es,Qm4 e.key=true)/\Paired (λ(p:U×U) (q:Key×Value)=>Qm3 p.1 q.1/\∃v,RU A [] p.2 v/\RelV v q.2) kvs (es.map λe=>(QiM e.key,e.val))/\Pairs (Qq P w) es (es.map λe=>(QiM e.key,e.val))
 |[],[],_=>⟨(λe m=>nomatch m),.nil,.nil⟩
 |_::_,_::_,z=>by
  obtain⟨h1,h2,h3,h4⟩:_/\_/\_/\_:=by simpa only[kvB,Xk]using z
  obtain⟨i1,i2,i3⟩:=Qgt h4;refine⟨λe m=>?_,.cons ⟨QkJ h2,Qje h3⟩ i2,.cons (QdT h1) rfl i3⟩
  rcases X5.mp m with rfl|m
  ·exact h1
  ·exact i1 e m
 |[],_::_,e=>nomatch e
 |_::_,[],e=>nomatch e
def QnD{k:Nat}{c:Co}(e:coB K A (A.k k) c=true):QoO A K k c:=by
 cases c with
 |tup xs=>
  obtain⟨o,its,n,h1,h2,_,h3,h4,h5⟩:=JY e;obtain⟨vs,g1,g2⟩:=Jf h5;exact⟨vs,g1,λH=>.inr ⟨o,its,n,h1,h2,h3,h4,g2⟩⟩
 |lst xs=>
  obtain⟨o,its,n,h1,h2,h0,h3,h4,h5⟩:=JY e;obtain⟨vs,g1,g2⟩:=Jf h5;exact⟨vs,g1,λH=>.inr ⟨o,its,n,h1,h2,h0,h3,h4,g2⟩⟩
 |tab=>trivial
theorem Y2{α β:Type}{f g:α->β}:∀{l:List α},l.map f=l.map g->∀a∈l,f a=g a
 |[],_,a,m=>by cases m
 |x::r,e,a,m=>by
  obtain⟨e1,e2⟩:=List.cons.inj e
  rcases X5.mp m with rfl|m
  ·exact e1
  ·exact Y2 e2 a m
def Qjk(co:QiP (λk c=>coB K A (A.k k) c) 0 T.cons=true)(hs:AllI (λk z=>Qn3 K w (A.k k)) 0 T.cons):JO P w T A K:=λk kvs e=>by
 have c:=(Z9 (Q:=λk c=>coB K A (A.k k) c=true) (λz z q=>q) co).get k _ e;have hh:=hs.get k _ e;simp only[Vk]at c hh
 obtain⟨c1,c2,c3,c4⟩:_/\_/\_/\_:=by simpa only[coB,Xk]using c
 obtain⟨k1,k2,k3⟩:=Qgt (P:=P) (w:=w) c2
 refine⟨_,by simpa using c4,?_,k2⟩
 unfold exB at c1
 cases ho:K.lookup (A.k k)with
 |none=>rw[ho]at c1;cases c1
 |some o=>
  simp only[ho]at c1;obtain⟨d1,d2⟩:=Vd.mp c1;split at d2
  ·rename_i es n hd
   obtain⟨x1,x2,x3⟩:_/\_/\_:=by simpa only[Xk,Xy]using d1
   have de:QiN K (A.k k)=es.toList:=by simp[QiN,ho,hd]
   unfold Qn3 at hh;rw[de]at hh k1 k2 k3 c3 ⊢
   exact λh X=>⟨o,es,n,X _ _ ho,⟨x1,x2,x3⟩,hd,λe m=>⟨_,QdT (k1 e (by simpa using m)),Y2 hh e (by simpa using m)⟩,k3,by rw[T5];exact Wo c3⟩
  ·cases d2
noncomputable def glB(K:W.Frag)(A:Adr)(p:Str×G):Bool:=match p.2 with
 |.fn i=>W.nsIn K mainGlobals p.1==some (some (.ref (A.f i)))
 |.cls i=>W.nsIn K mainGlobals p.1==some (some (.ref (A.c i)))
 |.con i=>W.nsIn K mainGlobals p.1==some (some (.ref (A.k i)))
 |.txt t=>(match W.nsIn K mainGlobals p.1 with
  |some (some (.str s _))=>s.cps.toList==t
  |_=>false)
def Qnk(X:K.In h)(G:h.Ns mainGlobals mg){p:Str×Iv.G}(e:glB K A p=true):gvP A mg p.1 p.2:=by
 obtain⟨x,g⟩:=p
 cases g with
 |fn i=>exact W.mg_of X G (by simpa[glB]using e)
 |cls i=>exact W.mg_of X G (by simpa[glB]using e)
 |con i=>exact W.mg_of X G (by simpa[glB]using e)
 |txt t=>
  simp only[glB]at e;split at e
  ·rename_i s k q;have:=Wn.mp e;subst this;exact⟨k,W.mg_of X G q⟩
  ·cases e
noncomputable def Ql5(K:W.Frag)(T:Tbl)(A:Adr)(gl:List (Str×G))(bl:List Str):Bool:=obB K&&(QiP (clB K T A) 0 T.cls&&(T.fns'.all (λx=>!(T.mns.contains x))&&(decide T.fns'.Nodup&&(T.isi.all (λp=>W.kitOne K (tyW A p.1.1) (tyW A p.1.2)==some p.2)&&(gl.all (glB K A)&&(bl.all (λx=>W.nsIn K mainGlobals x==some none)&&T.esb.all (λp=>W.exmOne K (.ref (A.c p.1)) (.ref (A.c p.2))==some true)))))))
abbrev FnA(K:W.Frag)(A:Adr)(i:Nat)(F:Fn):Prop:=QaN K (A.f i)=fnT F (QaN K (A.f i))/\fnB K F (A.f i)=true/\((∀v,bindArgs (QaN K (A.f i)) ⟨vsN F.np v,[]⟩=pure (F.ps.zip (vsN F.np v)))\/Binds K (QaN K (A.f i)) F.ps [])
theorem YB{α:Type}{Q:α->Prop}:∀{l:List α} {n:Nat},(∀a∈l,Q a)->AllI (λz a=>Q a) n l
 |[],_,_=>.nil
 |_::_,_,q=>.cons (q _ Xw) (YB λa m=>q a (Xp _ m))
def FnA.at{i:Nat}(q:FnA K A i F):∃fd,FunD K F.name F.qual F.st (A.f i) fd/\Binds K fd F.ps []/\FnScope F.N F.ps (Qh F.st)/\F.ps.length=F.np/\F.N.length=F.nN:=by
 obtain⟨d,s,l,n⟩:=Qbd q.1 q.2.1;exact⟨_,d,q.2.2.elim (QbZ l) id,s,l,n⟩
def Qjj(X:K.In h)(G:h.Ns mainGlobals mg)(fns:AllI (FnA K A) 0 T.fns)(co:QiP (λk c=>coB K A (A.k k) c) 0 T.cons=true)(b:Ql5 K T A gl bl=true)
  (dfs:AllI (λz (p:Nat×Df)=>∃fd x q st,FunD K x q st (A.f p.1) fd/\QiQ A K fd p.2/\∀F,T.fns[p.1]?=some F->F.ps=p.2.ps/\F.np=p.2.np) 0 T.dfl)
  (er:AllI (λz c=>ErrCls K (A.c c)/\∃f x,T.efl.contains (c,f)=true/\(∀f',T.efl.contains (c,f')=true->f'=f)/\T.fns'[f]?=some x/\QaJ K mg (A.c c) x) 0 T.ers):Top T A K mg gl bl:=by
 obtain⟨b1,b2,b3,b4,b5,b6,b7,b8⟩:_/\_/\_/\_/\_/\_/\_/\_:=by simpa only[Ql5,Xk]using b
 exact Qji (fns.imp λz z q=>q.at) (Z9 (λz z e=>QnE b1 e) b2) b3 (Wo b4) (YB λp m=>by simpa using Wl.mp b5 p m) (Z9 (λz z e=>QnD e) co) dfs
  (YB λp m=>Qnk X G (Wl.mp b6 p m)) (YB λx m=>W.mg_none_of X G (by simpa using Wl.mp b7 x m)) er (YB λp m=>by simpa using Wl.mp b8 p m)
end
end
end Iv
namespace Iv
open PySem PySem.W PySem.Spec PyProof.Rows
noncomputable def Yd(tb:String->Option Builtin)(p:Program)(w:World)(n₀:Nat)(ann:Option Value):Nat->SharedT->Thread->Option SharedT
 |0,_,_=>none
 |n+1,s,t=>match through t with
  |true=>some s
  |false=>match stepOk n₀ ann t with
   |false=>none
   |true=>match stepT (denote tb) p w s t with
    |some (s',t')=>Yd tb p w n₀ ann n s' t'
    |none=>none
theorem JX{tb:String->Option Builtin}{p:Program}{w:World}{n₀:Nat}{ann:Option Value}:∀{n:Nat} {s s':SharedT} {t:Thread},Yd tb p w n₀ ann n s t=some s'->topRun tb p w n₀ ann n s.abs t=some s'.abs
 |0,_,_,_,h=>by cases h
 |n+1,s,s',t,h=>by
  unfold Yd at h;unfold topRun
  cases he:through t with
  |true=>rw[he]at h;cases h;rfl
  |false=>
   rw[he]at h
   cases hk:stepOk n₀ ann t with
   |false=>rw[hk]at h;cases h
   |true=>
    rw[hk]at h
    cases hs:stepT (denote tb) p w s t with
    |none=>rw[hs]at h;cases h
    |some r=>obtain⟨s₂,t₂⟩:=r;rw[hs]at h;rw[stepT_spec hs];exact JX h
structure BootT where
 t:Params->BT
 n:Nat
 life:Life
noncomputable def BootT.at(B:BootT)(w:World)(os:OsState):SharedT:=⟨B.t w.params,B.n,B.life,Array.mk [],boot_drawn,boot_toks,os⟩
noncomputable abbrev RunT(p q:Program)(loose:List Str)(Xt:Shared->Bool){α:Type}(Yf:Shared->α)(Ya:World->α)(N:Nat)(g0:Bool)(B:BootT)(m₀:Nat)(ann:Option Value)(w:World):Prop :=
 ∀os:OsState,(Yd treeTable p w m₀ ann N (B.at w os) (topStub p)).map (λs=>((staticsOk (importedModules p.main.body) (boot_heap w.params) s.abs.heap&&namesBound p s.abs.heap&&gensDone s.abs&&laidKept (boot_heap w.params) s.abs.heap),openSeen q loose (importedModules p.main.body) Xt g0 s.abs,Yf s.abs))=some (true,openGood q loose,Ya w)
def left_tree{p q:Program}{loose:List Str}{Xt:Shared->Bool}{α:Type}{Yf:Shared->α}{Ya:World->α}{N:Nat}{g0:Bool}{B:BootT}{m₀:Nat}{ann:Option Value}
  (op:opening p=plainProg p.main.scope.names) (hN:Nat.ble 600 N=true) (fm:∀s,fenceModules? p s=some s)
  (hB:∀w:World,absHeap (B.t w.params) B.n B.life=boot_heap w.params)
  (size:∀w:World,((boot_heap w.params).isNs mainGlobals,(boot_heap w.params).objs.size,(boot_heap w.params).nsMap mainGlobals "__annotations__")=(true,m₀,ann))
  (run:∀w,RunT p q loose Xt Yf Ya N g0 B m₀ ann w):LeftO p q loose Xt Yf Ya N g0:=λw=>by
 obtain⟨⟨h,gs,d,k,os⟩,e,e'⟩:=Xd.mp (boot_open (N:=N) op hN fm w)
 obtain⟨rfl,rfl,rfl,rfl⟩:h=boot_heap w.params/\gs=Array.mk []/\d=boot_drawn/\k=boot_toks:=by simpa using e'
 obtain⟨z1,z2,z3⟩:_/\_/\_:=by simpa only[Prod.mk.injEq]using size w
 obtain⟨s1,r,l⟩:=Xd.mp (run w os)
 obtain⟨l1,l2,l3⟩:_/\_/\_:=by simpa only[Prod.mk.injEq]using l
 have r:=JX r
 have ab:(B.at w os).abs=⟨boot_heap w.params,Array.mk [],boot_drawn,boot_toks,os⟩:=by
  unfold BootT.at SharedT.abs;rw[hB w]
 rw[ab]at r
 have t:topFrom treeTable p w N ⟨boot_heap w.params,Array.mk [],boot_drawn,boot_toks,os⟩=some s1.abs:=by
  unfold topFrom;dsimp only;rw[z1,z2,z3,r]
  show(match staticsOk (importedModules p.main.body) (boot_heap w.params) s1.abs.heap&&namesBound p s1.abs.heap&&gensDone s1.abs&&laidKept (boot_heap w.params) s1.abs.heap with|true=>_|false=>_)=_
  rw[l1]
 unfold openEnds;rw[e];show(topFrom treeTable p w N _).map _=_;rw[t];exact congrArg some (Prod.ext l2 l3)
section
variable (p q:Program)(loose:List Str)(Xt:Shared->Bool)(N:Nat)(g0:Bool)(B:BootT)(m₀:Nat)(ann:Option Value)
noncomputable abbrev QnW(w:World)(os:OsState):Option SharedT:=Yd treeTable p w m₀ ann N (B.at w os) (topStub p)
abbrev PC(as:List Addr)(bs:List (Option Obj))(w:World):Prop:=∀os:OsState,(QnW p N B m₀ ann w os).map (λs=>as.map λa=>s.abs.heap.get? a)=some bs
variable {p q loose Xt N g0 B m₀ ann}
abbrev PL(p q:Program)(loose:List Str)(Xt:Shared->Bool)(N:Nat)(g0:Bool)(B:BootT)(m₀:Nat)(ann:Option Value)(w:World):Prop:=∀os:OsState,(QnW p N B m₀ ann w os).map (λs=>((staticsOk (importedModules p.main.body) (boot_heap w.params) s.abs.heap&&namesBound p s.abs.heap&&gensDone s.abs&&laidKept (boot_heap w.params) s.abs.heap),openSeen q loose (importedModules p.main.body) Xt g0 s.abs))=some (true,openGood q loose)
end
abbrev PX(p:Program)(N:Nat)(B:BootT)(m₀:Nat)(ann:Option Value){α:Type}(f:Shared->α)(a:α)(w:World):Prop:=∀os:OsState,(QnW p N B m₀ ann w os).map (λs=>f s.abs)=some a
noncomputable abbrev f1(q:Program)(s:Shared):=seen ((recsOf q).map (·.name)) (ownsOf q) [] {s with gens:=#[]}
noncomputable abbrev f2(s:Shared):=s.heap.bltView
noncomputable abbrev f3(q:Program)(loose:List Str)(s:Shared):Bool:=s.heap.keysOk (looseW q loose) ((recsOf q).map (·.name)) ((litsOf q).map (·.1)) ((clssOf q (looseW q loose)).map (·.name))
noncomputable abbrev f4(q:Program)(mods:List Str)(Xt:Shared->Bool)(g0:Bool)(s:Shared):Bool:=s.heap.accountedOkI mods&&s.heap.isNs mainGlobals&&s.heap.isNs builtinsNs&&tablesOk q s.heap&&Xt s&&(if g0 then s.gens.size==0 else !leftWithCleanup s.gens)
noncomputable abbrev f5(q:Program)(s:Shared):Bool:=tabsOk q s
noncomputable abbrev f6(q:Program)(loose:List Str)(s:Shared):=(pinSeenD q (drecsOf q) s,plainSeenE q (looseW q loose) s,plainSeenD q loose s)
noncomputable abbrev f7(q:Program)(loose:List Str)(s:Shared):=(wideSeen q s,clsSeenW q loose s)
noncomputable abbrev fA(p:Program)(w:World)(s:Shared):Bool:=staticsOk (importedModules p.main.body) (boot_heap w.params) s.heap&&namesBound p s.heap&&gensDone s&&laidKept (boot_heap w.params) s.heap
abbrev Lk1(p q:Program)(N:Nat)(B:BootT)(m₀:Nat)(ann:Option Value)(w:World):Prop:=PX p N B m₀ ann (λs=>(fA p w s,f1 q s,f2 s)) (true,expectedOf q,bltViewBooted) w
abbrev Lk2(p q:Program)(loose:List Str)(Xt:Shared->Bool)(N:Nat)(g0:Bool)(B:BootT)(m₀:Nat)(ann:Option Value)(w:World):Prop:=PX p N B m₀ ann (λs=>(f3 q loose s,f4 q (importedModules p.main.body) Xt g0 s,f5 q s,f6 q loose s,f7 q loose s)) (true,true,true,(pinGoodD (drecsOf q),plainGoodE q (looseW q loose),plainGoodD q loose),(wideGood q,clsGoodW q loose)) w
abbrev Lk3(p q:Program)(loose:List Str)(N:Nat)(B:BootT)(m₀:Nat)(ann:Option Value)(w:World):Prop:=PX p N B m₀ ann (λs=>(f3 q loose s,f5 q s)) (true,true) w
abbrev Lk5(p q:Program)(Xt:Shared->Bool)(N:Nat)(g0:Bool)(B:BootT)(m₀:Nat)(ann:Option Value)(w:World):Prop:=PX p N B m₀ ann (f4 q (importedModules p.main.body) Xt g0) true w
abbrev Lk4(p q:Program)(loose:List Str)(N:Nat)(B:BootT)(m₀:Nat)(ann:Option Value)(w:World):Prop:=PX p N B m₀ ann (λs=>(f6 q loose s,f7 q loose s)) ((pinGoodD (drecsOf q),plainGoodE q (looseW q loose),plainGoodD q loose),(wideGood q,clsGoodW q loose)) w
noncomputable abbrev Qmk(p q:Program)(loose:List Str)(Xt:Shared->Bool){α:Type}(Yf:Shared->α)(g0:Bool)(w:World)(s:Shared):=((staticsOk (importedModules p.main.body) (boot_heap w.params) s.heap&&namesBound p s.heap&&gensDone s&&laidKept (boot_heap w.params) s.heap),openSeen q loose (importedModules p.main.body) Xt g0 s,Yf s)
noncomputable abbrev vF(p q:Program)(w:World)(s:SharedT):=(fA p w s.abs,f1 q s.abs,f2 s.abs)
noncomputable abbrev gF(q:Program):=(true,expectedOf q,bltViewBooted)
noncomputable abbrev vK(p q:Program)(loose:List Str)(Xt:Shared->Bool)(g0:Bool)(s:SharedT):=(f3 q loose s.abs,f4 q (importedModules p.main.body) Xt g0 s.abs,f5 q s.abs)
noncomputable abbrev vL(q:Program)(loose:List Str)(s:SharedT):=(f6 q loose s.abs,f7 q loose s.abs)
noncomputable abbrev gL(q:Program)(loose:List Str):=((pinGoodD (drecsOf q),plainGoodE q (looseW q loose),plainGoodD q loose),(wideGood q,clsGoodW q loose))
end Iv
namespace Iv
open PySem
variable {a e:E}{es:List E}{i:Nat}
section
variable {T:Tbl}{cf:Cf}{d:Nat}{Z:Rho}{hs h1:Hs}{α β:Type}
def Qy{a:α}{f:α->Hs->Option β}:bd (some (a,h1)) f=f a h1:=rfl
def Je:exs T cf (d+1) [] Z hs=some (.next,Z,hs):=rfl
def Q9{s:S}{r:List S}:exs T cf (d+1) (s::r) Z hs=(match ex T cf d s Z hs with
   |some (.next,ρ1,h1)=>exs T cf d r ρ1 h1
   |x=>x):=rfl
def QiU:ex T cf (d+1) (.expr e) Z hs=bd (ev T cf d e Z hs) λz h1=>some (.next,Z,h1):=rfl
def QiR:ex T cf (d+1) (.set i e) Z hs=bd (ev T cf d e Z hs) λu h1=>some (.next,Z.set i (some u),h1):=rfl
def QgL:ex T cf (d+1) (.ret e) Z hs=bd (ev T cf d e Z hs) λu h1=>some (.ret u,Z,h1):=rfl
def QcO{t:E}{a b:List S}:ex T cf (d+1) (.ite t a b) Z hs=bd (evT T cf d t Z hs) λc h1=>if c=true then exs T cf d a Z h1 else exs T cf d b Z h1:=by
 rw[ex]
 cases h:evT T cf d t Z hs with
 |none=>rfl
 |some p=>obtain⟨c,h1⟩:=p;cases c<;>rfl
def QiS{t:Tg}{s:Src}{body:List S}:ex T cf (d+1) (.loop t s body) Z hs=bd (Zf T (ev T cf d) Z s hs) λw h1=>YQ T w t (exs T cf d body) (Q6 T w h1) 0 Z h1:=rfl
def QlX{o i:E}:ex T cf (d+1) (.put o i e) Z hs=bd (ev T cf d e Z hs) λu h1=>bd (ev T cf d o Z h1) λx h2=>bd (ev T cf d i Z h2) λk h3=>(QiL x k u h3).map λh4=>(.next,Z,h4):=rfl
def y_c{u:U}:ev T cf (d+1) (.c u) Z hs=some (u,hs):=rfl
def QlV:ev T cf (d+1) (.var i) Z hs=(match Z[i]? with|some (some u)=>some (u,hs)|_=>none):=rfl
def QoT{o:Operator}{b:E}:ev T cf (d+1) (.op o a b) Z hs=bd (ev T cf d a Z hs) λu h1=>bd (ev T cf d b Z h1) λw h2=>opU o u w h2:=rfl
def Ql0{o:CmpOp}{b:E}:ev T cf (d+1) (.cmp o a b) Z hs=bd (ev T cf d a Z hs) λu h1=>bd (ev T cf d b Z h1) λw h2=>(YH T o u w h2).map λc=>(.bl c,h2):=rfl
def QlY:ev T cf (d+1) (.not a) Z hs=bd (ev T cf d a Z hs) λu h1=>(YJ T u h1).map λc=>(.bl (!c),h1):=rfl
def QlZ{t b:E}:ev T cf (d+1) (.ife t a b) Z hs=bd (evT T cf d t Z hs) λc h1=>if c=true then ev T cf d a Z h1 else ev T cf d b Z h1:=rfl
def QeH:ev T cf (d+1) (.tup es) Z hs=bd (evs (ev T cf d) Z es hs) λus h1=>some (.ref h1.length,h1++[.tup us]):=rfl
def Zs:ev T cf (d+1) (.lst es) Z hs=bd (evs (ev T cf d) Z es hs) λus h1=>some (.ref h1.length,h1++[.lst us]):=rfl
def QoV{b:E}:ev T cf (d+1) (.ix a b) Z hs=bd (ev T cf d a Z hs) λu h1=>bd (ev T cf d b Z h1) λw h2=>(ZZ T u w h2).map λx=>(x,h2):=rfl
def QoR{lo hi:Option E}:ev T cf (d+1) (.sl a lo hi) Z hs=bd (ev T cf d a Z hs) λu h1=>bd (evO (ev T cf d) Z lo h1) λl h2=>bd (evO (ev T cf d) Z hi h2) λr h3=>slU T u l r h3:=rfl
def QiW{f:Nat}:ev T cf (d+1) (.call f es) Z hs=bd (evs (ev T cf d) Z es hs) λus h1=>cf f us h1:=rfl
def Qn5{b:Bi}:ev T cf (d+1) (.bi b es) Z hs=bd (evs (ev T cf d) Z es hs) λus h1=>biU T b us h1:=rfl
def QiT{t:Ty}:ev T cf (d+1) (.isi a t) Z hs=bd (ev T cf d a Z hs) λu h1=>(QbP T t u h1).map λb=>(.bl b,h1):=rfl
def QgN{b:Bm}{o:E}:ev T cf (d+1) (.bm b o es) Z hs=bd (ev T cf d o Z hs) λu h1=>if Qe7 b u h1=true then bd (evs (ev T cf d) Z es h1) λus h2=>bmU T b u us h2 else none:=rfl
def QiV{s:Src}{b:Bool}{t:Option E}{el:E}:ev T cf (d+1) (.comp s b t el) Z hs=bd (Zf T (ev T cf d) Z s hs) λw h1=>bd (Yv T (ev T cf d) (Qay (evT T cf d) t) w b el Z (Q6 T w h1) 0 [] h1) λus h2=>some (.ref h2.length,h2++[.lst us]):=rfl
def QiX{b:E}:ev T cf (d+1) (.and a b) Z hs=bd (ev T cf d a Z hs) λu h1=>(match u with|.bl true=>ev T cf d b Z h1|.bl false=>some (.bl false,h1)|_=>none):=rfl
def QoS{b:E}:ev T cf (d+1) (.or a b) Z hs=bd (ev T cf d a Z hs) λu h1=>(match u with|.bl true=>some (.bl true,h1)|.bl false=>ev T cf d b Z h1|_=>none):=rfl
def Zw:ev T cf (d+1) .dnew Z hs=some (.ref hs.length,hs++[.dic []]):=rfl
def QiZ:evT T cf (d+1) (.not a) Z hs=bd (evT T cf d a Z hs) λc h1=>some (!c,h1):=rfl
def Qf1{b:E}:evT T cf (d+1) (.and a b) Z hs=bd (evT T cf d a Z hs) λc h1=>if c=true then evT T cf d b Z h1 else some (false,h1):=rfl
def Ql1{b:E}:evT T cf (d+1) (.or a b) Z hs=bd (evT T cf d a Z hs) λc h1=>if c=true then some (true,h1)else evT T cf d b Z h1:=rfl
def Qi1{o:CmpOp}{b:E}:evT T cf (d+1) (.cmp o a b) Z hs=bd (ev T cf d (.cmp o a b) Z hs) λu h1=>(YJ T u h1).map λc=>(c,h1):=rfl
def QiY:evT T cf (d+1) (.var i) Z hs=bd (ev T cf d (.var i) Z hs) λu h1=>(YJ T u h1).map λc=>(c,h1):=rfl
def Qi0{t:Ty}:evT T cf (d+1) (.isi a t) Z hs=bd (ev T cf d (.isi a t) Z hs) λu h1=>(YJ T u h1).map λc=>(c,h1):=rfl
def Ql{n f:Nat}{us:List U}(F:Fn)(hF:T.fns[f]?=some F)(hl:us.length=F.np):Qd T (n+1) f us hs=fin (exs T (Qd T n) dd F.body (QiJ us F.nN) hs):=by simp[Qd,hF,hl]
end
end Iv
namespace Iv
open PySem PySem.Spec PyProof.Rows L2
variable {c:Er}{tg:Expr}{H:Hp}{p:Pos}{ir:S}{st:Stmt}{T':Tbl}
def TX(T:Tbl)(A:Adr)(K:W.Frag)(f:Rho->Hs->Option (Er×Hs))(E:XK):TS:=λz Y H=>∃α Z hs c hs',RS A α Z Y/\Rep T A K α hs H/\f Z hs=some (c,hs') /\
 ∀α' H' dd,Ext α α' H H'->Rep T A K α' hs' H'->EF T H' c dd->E (.ref (A.c c.1)) dd H'
section
variable {X:Cx}{T:Tbl}{A:Adr}{C:Ctx}{cf:Cf}{m k:Nat}{E:XK}
def QnZ{t:TS}(h:PS X.nox st t):PS X st t:=λpins s Y H D I hw=>
 X2 (h pins s Y H D (I.wish _) hw) (λy y q=>q.unwish) λy y z=>False.elim z
def Qn2{es:List Expr}{t:TA}(h:PA X.nox es t):PA X es t:=λpos pins s Y H Q I hw=>
 X2 (h pos pins s Y H Q (I.wish _) hw) (λy y x=>by obtain⟨vs,H',I',r,q⟩:=x;exact⟨vs,H',I'.unwish,r,q⟩) λy y z=>False.elim z
def TX.run{K:W.Frag}{α:List Addr}{Z:Rho}{Y:St}{hs h1:Hs}{f:Rho->Hs->Option (Er×Hs)}{D:Ends}(rs:RS A α Z Y)(rp:Rep T A K α hs H)(h:f Z hs=some (c,h1))
  (q:∀α1 H1 dd,Ext α α1 H H1->Rep T A K α1 h1 H1->EF T H1 c dd->E (.ref (A.c c.1)) dd H1):TX T A K f E D Y H:=⟨α,Z,hs,c,h1,rs,rp,h,q⟩
def Qe2{e f:Option Expr}{c:Nat}{args:List Expr}(h:Qe3 C e f=some (c,args)): ∃x px q,e=some (.Call (.Name x px) args [] q)/\f=none/\ZG C x=true/\x≠"__debug__"/\C.gl.lookup x=some (.cls c)/\C.T.ers.contains c=true:=by
 unfold Qe3 at h;split at h
 ·split at h
  ·rename_i q;simp only[Xk,Xy]at q;split at h
   ·rename_i z;split at h
    ·rename_i z2;cases h;exact⟨_,_,_,rfl,rfl,q.1,q.2,z,z2⟩
    ·cases h
   ·cases h
  ·cases h
 ·cases h
structure SndX(T:Tbl)(A:Adr)(C:Ctx)(X:Cx)(cf:Cf)(E:XK)(m:Nat):Prop where
 s:∀d st ir,QQ m C st=some ir->PS X st (TX T A X.K (exX T cf d ir) E)
 ss:∀d sts irs,compSs m C sts=some irs->PSs X sts (TX T A X.K (exsX T cf d irs) E)
noncomputable def kdX:S->Bool
 |.rse ..|.ite ..|.cal ..|.loop ..=>true
 |_=>false
def nx(o:Option S):Prop:=∀ir,o=some ir->kdX ir=false
def QW:nx none:=λz h=>nomatch h
def Q2{s:S}(h:kdX s=false):nx (some s):=λz e=>by cases e;exact h
def QO{α:Type}{o:Option α}{f:α->Option S}(h:∀a,nx (f a)):nx (o.bind f):=by
 cases o with
 |none=>exact QW
 |some a=>exact h a
def QdF{α:Type}{o:Option α}{f:α->S}(h:∀a,kdX (f a)=false):nx (o.map f):=by
 cases o with
 |none=>exact QW
 |some a=>exact Q2 (h a)
def QdG{c:Prop}[Decidable c]{a b:Option S}(ha:nx a)(hb:nx b):nx (if c then a else b):=by
 by_cases h:c
 ·rw[if_pos h];exact ha
 ·rw[if_neg h];exact hb
def Qa4(h1:∀e f p,st≠.Raise e f p)(h2:∀t a b p,st≠.If t a b p)(h3:∀tg it a o p,st≠.For tg it a o p):nx (QQ (m+1) C st):=by
 cases st with
 |Raise e f p=>exact absurd rfl (h1 e f p)
 |If t a b p=>exact absurd rfl (h2 t a b p)
 |Pass=>exact Q2 rfl
 |Break=>exact Q2 rfl
 |Continue=>exact Q2 rfl
 |Expr e p=>
  unfold QQ;dsimp only;generalize Qnp e=z
  rcases z with _|_|_
  ·exact QdF λw=>rfl
  ·exact QW
  ·exact Q2 rfl
 |Return v p=>
  cases v with
  |none=>exact Q2 rfl
  |some e=>exact QdF λw=>rfl
 |Assign ts e p=>
  unfold QQ;dsimp only;generalize QfZ ts=z
  rcases z with _|z
  ·exact QW
  ·cases z with
   |nm x=>exact QdG (QO λw=>QO λw=>Q2 rfl) QW
   | «at» o f=>exact QdG (QO λw=>QO λw=>QO λw=>Q2 rfl) QW
   |sub o i=>exact QdG (QO λw=>QO λw=>QO λw=>Q2 rfl) QW
   |two x p y q=>exact QW
   |many es=>exact QO λw=>QdG (QdF λw=>rfl) QW
 |Try b hs o fn p=>exact QdG (QO λw=>QO λw=>QO λw=>Q2 rfl) QW
 |While t a o p=>
  cases o with
  |cons _ _=>exact QW
  |nil=>exact QO λw=>QO λw=>Q2 rfl
 |For tg it a o p=>exact absurd rfl (h3 tg it a o p)
 |_=>exact QW
def QpA(C:Ctx)(m:Nat)(tg it:Expr)(a:List Stmt):S->Prop
 |.loop t s b=>ZX C tg=some t/\compSrc m C it=some s/\Qa3 s t=true/\compSs m C a=some b
 |.loopK ..=>True
 |.loopC ..=>True
 |.loopD ..=>True
 |_=>False
def Yw{it:Expr}{a o:List Stmt}(h:QQ (m+1) C (.For tg it a o p)=some ir):o=[]/\QpA C m tg it a ir:=by
 cases o with
 |cons _ _=>exact nomatch (show none=some _ from h)
 |nil=>
  unfold QQ at h;simp only[Xc]at h;obtain⟨tg',ht,it',hi,h⟩:=h;split at h
  ·rename_i ok;simp only[Xc]at h;obtain⟨a',ha,h⟩:=h;cases h;exact⟨rfl,ht,hi,ok,ha⟩
  ·cases h
def Qnn(st:Stmt):(∃e f p,st=.Raise e f p)\/(∃t a b p,st=.If t a b p)\/(∃tg it a o p,st=.For tg it a o p)\/((∀e f p,st≠.Raise e f p)/\(∀t a b p,st≠.If t a b p)/\∀tg it a o p,st≠.For tg it a o p):=by
 cases st with
 |Raise e f p=>exact .inl ⟨e,f,p,rfl⟩
 |If t a b p=>exact .inr (.inl ⟨t,a,b,p,rfl⟩)
 |For tg it a o p=>exact .inr (.inr (.inl ⟨tg,it,a,o,p,rfl⟩))
 |_=>exact .inr (.inr (.inr ⟨λy y y z=>(nomatch z),λy y y y z=>(nomatch z),λy y y y y z=>(nomatch z)⟩))
def Zt{e f:Option Expr}(h:QQ (m+1) C (.Raise e f p)=some ir):ir=.bad\/∃c args es,Qe3 C e f=some (c,args)/\compA m C args=some es/\ir=.rse c es:=by
 unfold QQ at h;try dsimp only at h;split at h
 ·rename_i c args hr;simp only[Xc]at h;obtain⟨es,he,h⟩:=h;cases h;exact .inr ⟨c,args,es,hr,he,rfl⟩
 ·cases h;exact .inl rfl
def JI{t0:Expr}{a0 b0:List Stmt}(h:QQ (m+1) C (.If t0 a0 b0 p)=some ir):∃t a b,compT m C t0=some t/\compSs m C a0=some a/\compSs m C b0=some b/\ir=.ite t a b:=by
 unfold QQ at h;simp only[Xc]at h;obtain⟨t',ht,a',ha,b',hb,h⟩:=h;cases h;exact⟨t',a',b',ht,ha,hb,rfl⟩
def Qeg{c:Nat}{es:List Iv.E}(h:QQ (m+1) C st=some (.rse c es)): ∃x px q args p,st=.Raise (some (.Call (.Name x px) args [] q)) none p/\compA m C args=some es/\ZG C x=true/\x≠"__debug__"/\C.gl.lookup x=some (.cls c)/\C.T.ers.contains c=true:=by
 rcases Qnn st with⟨e,f,p,rfl⟩|⟨t,a,b,p,rfl⟩|⟨tg,it,a,o,p,rfl⟩|⟨h1,h2,h3⟩
 ·rcases Zt h with z|⟨c',args,es',hr,he,z⟩
  ·cases z
  ·cases z;obtain⟨x,px,q,rfl,rfl,h1,h2,h3,h4⟩:=Qe2 hr;exact⟨x,px,q,args,p,rfl,he,h1,h2,h3,h4⟩
 ·obtain⟨_,_,_,_,_,_,z⟩:=JI h;cases z
 ·exact(Yw h).2.elim
 ·exact nomatch Qa4 h1 h2 h3 _ h
def Qeh{t:Iv.E}{a b:List S}(h:QQ (m+1) C st=some (.ite t a b)):∃t0 a0 b0 p,st=.If t0 a0 b0 p/\compT m C t0=some t/\compSs m C a0=some a/\compSs m C b0=some b:=by
 rcases Qnn st with⟨e,f,p,rfl⟩|⟨t0,a0,b0,p,rfl⟩|⟨tg,it,a,o,p,rfl⟩|⟨h1,h2,h3⟩
 ·rcases Zt h with z|⟨_,_,_,_,_,z⟩<;>cases z
 ·obtain⟨t',a',b',ht,ha,hb,z⟩:=JI h;cases z;exact⟨t0,a0,b0,p,rfl,ht,ha,hb⟩
 ·exact(Yw h).2.elim
 ·exact nomatch Qa4 h1 h2 h3 _ h
def Qcw{t:Tg}{s:Src}{b:List S}(h:QQ (m+1) C st=some (.loop t s b)):∃tg it a p,st=.For tg it a [] p/\ZX C tg=some t/\compSrc m C it=some s/\Qa3 s t=true/\compSs m C a=some b:=by
 rcases Qnn st with⟨e,f,p,rfl⟩|⟨t0,a0,b0,p,rfl⟩|⟨tg,it,a,o,p,rfl⟩|⟨h1,h2,h3⟩
 ·rcases Zt h with z|⟨_,_,_,_,_,z⟩<;>cases z
 ·obtain⟨_,_,_,_,_,_,z⟩:=JI h;cases z
 ·obtain⟨rfl,q⟩:=Yw h;exact⟨tg,it,a,p,rfl,q⟩
 ·exact nomatch Qa4 h1 h2 h3 _ h
def Qn0{it:Expr}{wi:L2.TI}(h:PI X.nox tg it wi):PI X tg it wi:=λpins s Y H R I hw=>
 X2 (h pins s Y H R (I.wish _) hw) (λv s1 z=>X2 z (λitv s2 y=>by obtain⟨it,fp,tn,J,H2,e,I2,T,st,f2,r⟩:=y;exact⟨it,fp,tn,J,H2,e,I2.unwish,T,st,f2,r⟩) λx x z=>False.elim z) λx x z=>False.elim z
def Qn1{g:TG}(h:PG X.nox tg g):PG X tg g:=λpins s Y H v u Q I r hw=>
 X2 (h pins s Y H v u Q (I.wish _) r hw) (λy s' x=>by obtain⟨Y',H',I',q⟩:=x;exact⟨Y',H',I'.unwish,q⟩) λy y z=>False.elim z
def QlA{st:List Stmt}{t:TS}(h:PSs X.nox st t):PSs X st t:=λpins s Y H D I hw=>
 X2 (h pins s Y H D (I.wish _) hw) (λy y q=>q.unwish) λy y z=>False.elim z
def QlB{b:List Stmt}{t1 t2:TS}(h1:PSs X b t1)(h2:PSs X b t2):PSs X b (λD Y H=>t1 D Y H\/t2 D Y H):=λpins s Y H D I z=>z.elim (h1 pins s Y H D I) (h2 pins s Y H D I)
def Qd5{d:Nat}{body:List S}{w:Wk}{t:Tg}{J:It}{D:Ends}{α0:List Addr}{H0:Hp}{σ0:St}{ρ0:Rho}{h0 hs':Hs}{n:Nat}(tx:Txt T A X.K X.mg)(rs0:RS A α0 ρ0 σ0)(R0:Rep T A X.K α0 h0 H0)(W0:WJ A X.K α0 J H0 w)
  (e0:QcJ T w t (exs T cf d body) (exsX T cf d body) n 0 ρ0 h0=some (c,hs'))
  (q:∀α' H' dd,Ext α0 α' H0 H'->Rep T A X.K α' hs' H'->EF T H' c dd->E (.ref (A.c c.1)) dd H'):
  ∃W:Nat->Nat->St->Hp->Prop,(∃m,W 0 m σ0 H0)/\∀i m Y H,W i m Y H->(J.stop i H/\D.nx Y H)\/(J.go i H/\∃N:St->Hp->Prop,(∀Y' H',N Y' H'->∃m',m'<m/\W (i+1) m' Y' H') /\
   ∀x H',J.yld i H x H'->gT X.K t x Y H' λσ2 H2=>TIS T A X.K (exs T cf d body) {D with nx:=N,ct:=N,bk:=D.nx} σ2 H2\/TX T A X.K (exsX T cf d body) E {D with nx:=N,ct:=N,bk:=D.nx} σ2 H2):=by
 refine⟨λi m Y H=>∃α Z hs,RS A α Z Y/\Rep T A X.K α hs H/\Ext α0 α H0 H/\QcJ T w t (exs T cf d body) (exsX T cf d body) m i Z hs=some (c,hs'),⟨n,α0,ρ0,h0,rs0,R0,Ext.refl,e0⟩,?_⟩;rintro i m Y H ⟨α,Z,hs,rs,R,E0,e⟩
 cases m with
 |zero=>cases e
 |succ m=>
  have W:=W0.mono E0.pre E0.fz;simp only[QcJ]at e;split at e
  ·cases e
  ·cases e
  ·rename_i x ei;split at e
   ·cases e
   ·rename_i ρ1 et;obtain⟨go,yl⟩:=QbO tx R W rs ei et;refine .inr ⟨go,λY' H'=>∃α Z hs,RS A α Z Y'/\Rep T A X.K α hs H'/\Ext α0 α H0 H'/\QcJ T w t (exs T cf d body) (exsX T cf d body) m (i+1) Z hs=some (c,hs'),λY' H' z=>⟨m,Wz _,z⟩,?_⟩;intro v H' hy;refine yl v H' _ hy λσ2 rs2 R2 E2=>?_;have E02:Ext α0 α H0 H':=E0.trans E2 R2.h;split at e
    ·rename_i ρ2 h2 eb;exact .inl (TIS.run rs2 R2 eb λα3 σ3 H3 E3 R3 rs3=>⟨α3,ρ2,h2,rs3,R3,E02.trans E3 R3.h,e⟩)
    ·rename_i ρ2 h2 eb;exact .inl (TIS.run rs2 R2 eb λα3 σ3 H3 E3 R3 rs3=>⟨α3,ρ2,h2,rs3,R3,E02.trans E3 R3.h,e⟩)
    ·cases e
    ·exact .inr (TX.run rs2 R2 e λα3 H3 dd E3 R3 f3=>q α3 H3 dd (E02.trans E3 R3.h) R3 f3)
def Qc4{i:Int}(h:Qp i=true):i.natAbs.log2<1920:=by
 simp only[Qp,Xk,Xy]at h;by_cases z:i.natAbs=0
 ·rw[z];decide
 ·exact Xs ((Nat.log2_lt z).mpr (by omega:i.natAbs<2 ^ 64)) (by decide)
theorem Qon(hxi:∀pins Y H s e oe vs a0 c,Inv X pins Y H s->H e=none->X.s₀.heap.get? e=none->e≠X.env.locals->s.heap.get? e=some oe->oe.cls=.ref (A.c c)->oe.data=.fields vs->vs[0]?=some a0->vs[1]?=some .none->E (.ref (A.c c)) oe.dict H->X.xe (.ref e) s)(hpo:PassesOwn (model X.prog X.w) X.A X.env X.xe)(bX:Bd X)(g:GX T A C X.nox)(fl:∀x,X.fn x=true\/X.env.scope.names.lookup x=some .local)(F:Fc X.nox T A cf k)(hr:Room (k+1) X.A)(hr3:Room 3 X.A):∀m,SndX T A C X cf E m
 |0=>⟨λd st ir h=>by first|exact Znn h|simp[QQ]at h,λd sts irs h=>by exact Znn h⟩
 |m+1=>by
  have IH:=Qon hxi hpo bX g fl F hr hr3 m;have N:Snd2 T A C X.nox cf m:=QeV m g F (λy=>hr) hr.units;have NS:SndS T A C X.nox cf m:=Qmg (X:=X.nox) ⟨bX.stk,bX.frm,bX.ex,bX.cm⟩ g fl F hr m;refine⟨λd st ir h=>?_,λd sts irs h=>?_⟩
  ·cases d with
   |zero=>exact ZT λD Y H u=>by obtain⟨_,_,_,_,_,_,_,e,_⟩:=u;cases e
   |succ d=>
   cases ir with
   |rse c es=>
    obtain⟨x,px,q,args,p,rfl,ha,g1,g2,g3,g4⟩:=Qeg h;have cl:=g.gcl x c g3;rw[g.CT]at g4;obtain⟨f,x1,hf,uq,hx1,hh,hfi,fI,fd,ps,MI,bI,FI⟩:=(g.txt.er c g4).2;have pa:=Qn2 (N.s.a d args es ha);have ln:=QH ha
    cases args with
    |nil=>
     have ee:es=[]:=by simpa using ln
     subst ee;refine ZT λD Y H o=>?_;obtain⟨α,Z,hs,c',hs',rs,R,e,q⟩:=o;simp only[exX,evs,bd,rsv,Option.map_none,ite_self]at e;cases e
    |cons a r=>
     refine Zh (Qdg (W:=λdd H=>E (.ref (A.c c)) dd H) (E0:=λy y y=>True) (dvs:=[]) MI (FI _ _ _) hr3 bI .nil Qce (show Gl X x from QR (X:=X.nox) g g1) cl bX.cm bX.ex pa (λpins Y H s e oe vs a0=>hxi pins Y H s e oe vs a0 c) (QP g2) (Qj (Qn ha a (Xw ..))) (QZ λz hz=>Qn ha z (Xp _ hz))) ?_;rintro D Y H ⟨α,Z,hs,c',hs',rs,R,e,q⟩;simp only[exX]at e;obtain⟨us,h1,e1,e⟩:=Qc e;rw[W9]at e;obtain⟨⟨_,lz⟩,e⟩:=e;simp only[rsv,Xd]at e;obtain⟨w,e2,e'⟩:=e;cases e';split at e2
     case h_2=>cases e2
     rename_i i;rw[W9]at e2;obtain⟨h64,e2⟩:=e2;cases e2;refine TIA.run rs R e1 λα1 vs H1 E1 R1 r1 rs1=>?_;obtain⟨v,ws,rfl,ru,rn⟩:=Qi r1;cases Qo rn;obtain⟨i',rfl,hc'⟩:=ru;cases hc'.exact
     refine⟨show 1<=sizeLine by decide,λe he=>⟨e,i,rfl,Qc4 h64,Qf,λd od hd de=>⟨rfl,some d,upd H1 d (.frz od (.xd [(x1,.int i)])),?_,by rw[Qb (X9 de)];exact he,?_⟩⟩⟩
     ·funext b
      by_cases hb:b=e
      ·subst hb;rw[Qb (X9 de),Qf,Qf]
      ·rw[Qb hb];by_cases hb2:b=d
       ·subst hb2;rw[Qf,Qf]
       ·rw[Qb hb2,Qb hb,Qb hb,Qb hb2]
     ·have hd':H1 d=none:=by rw[Qb de]at hd;exact hd
      obtain⟨R',E'⟩:=R1.side (ho:=.frz od (.xd [(x1,.int i)])) hd';refine q α1 _ (some d) (E1.trans E' R'.h) R' λf' hf'=>?_;cases uq f' hf';exact⟨d,od,x1,.int i,rfl,hx1,Qf,λy=>⟨i,rfl,Cg.refl _ _⟩⟩
   |ite t a b=>
    obtain⟨t0,a0,b0,p,rfl,ht,ha,hb⟩:=Qeh h;refine Zh (Qj0 (PT.nox (N.s.t d t0 t ht).1) (IH.ss d a0 a ha) (IH.ss d b0 b hb)) ?_;rintro D Y H ⟨α,Z,hs,c',hs',rs,R,e,q⟩;simp only[exX]at e;split at e
    ·rename_i h1 e1;refine TIT.run rs R e1 λα1 H1 E1 R1 rs1=>?_;rw[if_pos rfl];exact TX.run rs1 R1 e λα2 H2 dd E2 R2 f2=>q α2 H2 dd (E1.trans E2 R2.h) R2 f2
    ·rename_i h1 e1;refine TIT.run rs R e1 λα1 H1 E1 R1 rs1=>?_;rw[if_neg Xh];exact TX.run rs1 R1 e λα2 H2 dd E2 R2 f2=>q α2 H2 dd (E1.trans E2 R2.h) R2 f2
    ·cases e
   |loop t s b=>
    obtain⟨tg,it,a,p,rfl,ht,hi,ok,ha⟩:=Qcw h;refine Zh (Qgh hpo bX.cm (Qn0 (N.w d it _ tg hi (Qf7 ht ok))) (Qn1 (Qop (X:=X.nox) bX.cm g fl ht)) (QlB (QlA (NS.ss d a b ha)) (IH.ss d a b ha)) (QbH hi)) ?_;rintro D Y H ⟨α,Z,hs,c',hs',rs,R,e,q⟩;simp only[exX]at e;obtain⟨w,h1,e1,e⟩:=Qc e;refine⟨α,Z,hs,w,h1,rs,R,e1,λα1 J H1 E1 R1 W1=>?_⟩;exact Qd5 g.txt (rs.mono E1.pre) R1 W1 e λα2 H2 dd E2 R2 f2=>q α2 H2 dd (E1.trans E2 R2.h) R2 f2
   |_=>exact ZT λD Y H n=>by obtain⟨_,_,_,_,_,_,_,e,_⟩:=n;simp[exX]at e
  ·cases d with
   |zero=>exact ZL λD Y H l=>by obtain⟨_,_,_,_,_,_,_,e,_⟩:=l;cases e
   |succ d=>
   cases sts with
   |nil=>
    cases h
    exact ZL λD Y H j=>by obtain⟨_,_,_,_,_,_,_,e,_⟩:=j;simp[exsX]at e
   |cons st r=>
    simp only[compSs,Xc]at h;obtain⟨s0,hs0,s',hs',r',hr',h⟩:=h;cases h
    have IS:PS X st (TX T A X.K (exX T cf d s') E):=by
     cases(show some s0=some s' from hs');exact IH.s d st s0 hs0
    intro pins s Y H D I z;obtain⟨α,Z,hs,c',hs2,rs,R,e,q⟩:=z;simp only[exsX]at e;split at e
    ·rename_i ρ1 h1 e1;refine ZA (QnZ (QgJ hs' (λd=>NS.s d st s0 hs0) d)) (IH.ss d r r' hr') pins s Y H D I ?_;exact TIS.run rs R e1 λα1 σ1 H1 E1 R1 rs1=>TX.run (D:=D) rs1 R1 e λα2 H2 dd E2 R2 f2=>q α2 H2 dd (E1.trans E2 R2.h) R2 f2
    ·cases e
    ·refine ZA IS (ZL (t:=λy y y=>False) λy y y z=>z) pins s Y H D I ?_;exact TX.run (D:=D) rs R e q
end
section
variable {P:Program}{w:World}{K:W.Frag}{mg:Str->Option Value}{base:Heap}{T:Tbl}{A:Adr}{gl:List (Str×G)}{bl:List Str}
def Qih{rm:Nat}(tp:Top T A K mg gl bl)(tab:JO P w T A K)(hb:YD T gl bl)(hX:XOk P w K mg base T A rm)(m f:Nat)(F:Fn)(hF:T.fns[f]?=some F):∃fd,FnOk P w K mg base (CXw P w) (rm+2+2*m) (A.f f) fd F.ps (spX T A K (QV T m) f)/\Binds K fd F.ps []/\W.keepIn K (.ref (A.f f))=true:=by
 obtain⟨fd,fn,b,sc,lp,lN⟩:=tp.txt.fn f F hF;refine⟨fd,?_,b,fn.kp⟩
 cases m with
 |zero=>
  have no:∀vs H Q E,¬spX T A K (QV T 0) f vs H Q E:=λvs H Q E h=>by
   obtain⟨α,us,hs,u,hs',_,_,e,_⟩:=h;cases e
  exact⟨λvs H Q E h=>absurd h (no vs H Q E),λA outer s H args us vs Q E z z z z h=>absurd h (no vs H Q E)⟩
 |succ n=>
  obtain⟨oc,od,dV,kV,doc,pm,an,cdv,ct,osl,rfl,lk,hcd⟩:=fn.ex;obtain⟨m,hm⟩:=hb f F hF;refine Qig (k:=rm+2+2*n+1) lk hcd sc (λvs H Q E h=>?_) (λA' outer s H vs Q E hr h=>?_)
  ·obtain⟨α,us,hs,u,hs',r,_,_,⟨F',h1,h2⟩,_⟩:=h;rw[hF]at h1;cases h1;rw[<-r.length,h2,lp]
  ·obtain⟨α,us,hs,c,hs',r,R,e,_,q⟩:=h;refine⟨TX T A K (exsX T (Qd T n) dd F.body) E,?_,?_⟩
   ·have gx:GX T A ⟨T,F.N,(Qh F.st).names,gl,bl,F.lc⟩ (QcK (CXw P w) P w K mg base F.N F.qual (Qh F.st) (A.f f) cdv A' outer s H E).nox :=
     ⟨rfl,rfl,sc.nd,rfl,λz=>rfl,sc.kind,rfl,tp.gfn,tp.gcl,tp.gco,tp.gtx,tp.blt,tp.txt,tab⟩
    have fc:Fc (QcK (CXw P w) P w K mg base F.N F.qual (Qh F.st) (A.f f) cdv A' outer s H E).nox T A (Qd T n) (rm+2*n):=⟨λf' F' h'=>by
     obtain⟨fd',G,b',kp,_⟩:=Qax tp tab hb hX n f' F' h'
     exact⟨fd',G,b',kp⟩,Jd,λi D F' hD h'=>by
     obtain⟨fd',G,_,kp,fn'⟩:=Qax tp tab hb hX n i F' h';obtain⟨fd2,x,q,st,fn2,dk,hp⟩:=tp.txt.df i D hD;have e:=FunD.same fn2 fn';subst e;rw[(hp F' h').1]at G
     exact⟨fd2,G,kp,dk⟩,λf' F' h'=>by
     obtain⟨fd',G,b',kp⟩:=hX f' F' h'
     exact⟨fd',G.mono (Ui _ _),b',kp⟩⟩
    refine(Qon (X:=QcK (CXw P w) P w K mg base F.N F.qual (Qh F.st) (A.f f) cdv A' outer s H E) (λpins Y H1 s1 e oe vs a0 c I hn h0 hl he hc hd v0 v1 w=>?_) ?_ ⟨rfl,rfl,rfl,rfl⟩ gx (λz=>.inl rfl) fc (hr.mono (by omega)) (hr.mono (by omega)) m).ss dd (QY F.st) F.body hm
    ·exact Qba (L:=_) rfl rfl rfl I hn h0 hl he hc hd v0 v1 w
    ·exact PassesOwn.leaving
   ·simp only[QV,hF]at e;split at e
    case isFalse=>cases e
    exact TX.run (Jm r lN) R e q
def QoG{dd:Option Addr}(h1:T'.fns'=T.fns')(h5:T'.efl=T.efl)(h:EF T H c dd):EF T' H c dd:=λf q=>by
 rw[h5]at q;rw[h1];exact h f q
def QjQ{α:List Addr}{hs:Hs}(h1:T'.fns'=T.fns')(h2:T'.cls=T.cls)(h3:T'.scr=T.scr)(h4:T'.ers=T.ers)(h5:T'.efl=T.efl)(R:Rep T A K α hs H):Rep T' A K α hs H:=by
 refine⟨⟨R.h.len,R.h.nd,λn a o e1 e2=>?_⟩,?_⟩
 ·have z:=R.h.ob n a o e1 e2
  cases o with
  |ins c fs=>
   obtain⟨dx,fv,q1,q2,q3⟩:=z
   refine⟨dx,fv,q1,?_,by rw[h2];exact q3⟩
   unfold RF at *;rw[h1];exact q2
  |err c w=>
   obtain⟨dd,q1,q2,q3⟩:=z
   exact⟨dd,q1,by rw[h4];exact q2,QoG h1 h5 q3⟩
  |_=>exact z
 ·obtain⟨vs,q1,q2⟩:=R.s
  exact⟨vs,by rw[h3];exact q1,q2⟩
def QoW{rm m:Nat}(hf:T'.fns=T.fns)(h1:T'.fns'=T.fns')(h2:T'.cls=T.cls)(h3:T'.scr=T.scr)(h4:T'.ers=T.ers)(h5:T'.efl=T.efl)(hx:T'.xf=QV T m)(tp:Top T A K mg gl bl)(tab:JO P w T A K)(hb:YD T gl bl)(hX:XOk P w K mg base T A rm):
  XOk P w K mg base T' A (rm+2+2*m):=λf F hF=>by
 rw[hf]at hF;obtain⟨fd,G,b,kp⟩:=Qih tp tab hb hX m f F hF;refine⟨fd,G.imp λvs H Q E h=>?_,b,kp⟩;obtain⟨α,us,hs,c,hs',r,R,e,⟨F',e1,e2⟩,q⟩:=h
 refine⟨α,us,hs,c,hs',r,QjQ h1.symm h2.symm h3.symm h4.symm h5.symm R,by rw[<-hx];exact e,⟨F',by rw[<-hf];exact e1,e2⟩,λα' H' dd E' R' f'=>q α' H' dd E' (QjQ h1 h2 h3 h4 h5 R') (QoG h1 h5 f')⟩
def Ql4{x:Nat->List U->Hs->Option (Er×Hs)}(tp:Top T A K mg gl bl):Top {T with xf:=x} A K mg gl bl :=
 ⟨⟨tp.txt.fn,tp.txt.df,λi C e=>let c:=tp.txt.cl i C e;⟨c.cls,c.nf,c.me,c.mks,c.kp,c.ini,c.ty⟩,tp.txt.fm,tp.txt.fd,tp.txt.isi,tp.txt.co,tp.txt.er,tp.txt.es⟩,tp.gfn,tp.gcl,tp.gco,tp.gtx,tp.blt⟩
end
end Iv
namespace K62
open PySem Iv L2
variable {c:Bool}{cf:Cf}{a e el:E}{h h' h1 h2 h3 hs:Hs}{f j kd x y:Int}{dr:Int->Bool}{pl:Int->List Int}{v:Int->U}{C:List (Nat×O)}{es:List E}{D N cs ks:List Int}{r:List Iv.S}{cus gs s us xs:List U}{L1 cl d g i l m mm n p q t:Nat}{zz:Nat->List U->Hs->Option (Er×Hs)}{o:O}{x4 x6:Option U}{Z ρ1:Rho}{src:Src}{T:Tbl}{α β:Type}{u w:U}{Q:U->Hs->Prop}
noncomputable def top(i:Nat):Stmt:=PySem.Challenge.pw_stitchroom_k62_one_row_of_hooks.main.body.getD i (.Pass ⟨0,0,0,0⟩)
noncomputable def QpC:List Str:=["rows","near","kept","off","far","laid","gone","put","move"]
noncomputable def Qps:List Str:=["begin_row","web","on_far","has_loop","lay","draw","throw_over","cast_off","keep","put_away","fetch","end_row","may_end","is_even","name_on_far"]
noncomputable def glo:List (Str×G):=([("KEEPERS",.con 0),("Bed",.cls 0),("hooked",.fn 16),("is_done",.fn 17),("_law_cell_at",.fn 18),("_law_lays",.fn 19),("_law_same",.fn 20),("_law_drawn",.fn 21),("_law_tangled",.fn 22),("law",.fn 23),("StitchError",.cls 1),("Tangle",.cls 2)]:List (Str×G))
noncomputable def QlQ:List Str:=["len","int","tuple","list","bool","dict","isinstance","range","zip","reversed","enumerate","any","all","sorted","ValueError"]
noncomputable def QpN:List Co:=[.tup [.str [119],.str [120],.str [121],.str [122]]]
noncomputable def QpP:List Cl:=[⟨"Bed",some 0,[(0,1),(1,2),(2,3),(3,4),(4,5),(5,6),(6,7),(7,8),(8,9),(9,10),(10,11),(11,12),(12,13),(13,14),(14,15)],[0]⟩]
noncomputable def Qpu:List ((Ty×Ty)×Bool):=[]
noncomputable abbrev st0:Stmt:=QF (top 5) 0
noncomputable def N0:List Str:=["self","cast"]
noncomputable abbrev st1:Stmt:=QF (top 5) 1
noncomputable def N1:List Str:=["self"]
noncomputable abbrev st2:Stmt:=QF (top 5) 2
noncomputable def N2:List Str:=["self","lying","kept"]
noncomputable abbrev st3:Stmt:=QF (top 5) 3
noncomputable def N3:List Str:=["self","hook"]
noncomputable abbrev st4:Stmt:=QF (top 5) 4
noncomputable def N4:List Str:=["self","hook"]
noncomputable abbrev st5:Stmt:=QF (top 5) 5
noncomputable def N5:List Str:=["self","hook","onto","pile"]
noncomputable abbrev st6:Stmt:=QF (top 5) 6
noncomputable def N6:List Str:=["self","hook","side","lift","parents"]
noncomputable abbrev st7:Stmt:=QF (top 5) 7
noncomputable def N7:List Str:=["self","hook"]
noncomputable abbrev st8:Stmt:=QF (top 5) 8
noncomputable def N8:List Str:=["self","hook"]
noncomputable abbrev st9:Stmt:=QF (top 5) 9
noncomputable def N9:List Str:=["self","hook","keeper"]
noncomputable abbrev Qom:Stmt:=QF (top 5) 10
noncomputable def N10:List Str:=["self","hook","pile"]
noncomputable abbrev Qol:Stmt:=QF (top 5) 11
noncomputable def N11:List Str:=["self","keeper","hook"]
noncomputable abbrev Qok:Stmt:=QF (top 5) 12
noncomputable def N12:List Str:=["self","near","loops","hook"]
noncomputable abbrev Qoj:Stmt:=QF (top 5) 13
noncomputable def N13:List Str:=["self","all_gone","all_even"]
noncomputable abbrev Qoi:Stmt:=QF (top 5) 14
noncomputable def N14:List Str:=["self","hook","pile"]
noncomputable abbrev Qoh:Stmt:=QF (top 5) 15
noncomputable def N15:List Str:=["self","hook","place"]
noncomputable def N16:List Str:=["moves","bed","number","move"]
noncomputable def N17:List Str:=["bed","move","word"]
noncomputable def N18:List Str:=["_law_script","_law_k"]
noncomputable def N19:List Str:=["_law_cells","_law_kind","_law_piles","_law_moves","_law_gone","_law_order","_law_near","_law_far"]
noncomputable def N20:List Str:=["_law_found","_law_due","_law_one","_law_other"]
noncomputable def N21:List Str:=["_law_piles","_law_kind","_law_row","_law_moves","_law_loops","_law_near","_law_far","_law_pile","_law_side"]
noncomputable def N22:List Str:=["_law_moves","_law_told","e"]
noncomputable def N23:List Str:=["_law_script","_law_cells","_law_kind","_law_moves","_law_piles","_law_gone","_law_drawn_here","_law_loops","_law_near","_law_cast","_law_handed","_law_due","_law_gap","_law_later","_law_hook","_law_more","_law_last"]
noncomputable abbrev Qn9:Stmt:=QF (top 2) 0
noncomputable def QpK:List (Nat×Df):=[]
noncomputable def QpG:List Str:=[]
noncomputable def QoQ:List Str:=[]
noncomputable def QpE:List Nat:=[2]
noncomputable def QpD:List (Nat×Nat):=[(2,2),(2,1)]
noncomputable def Qpn:List Nat:=[]
noncomputable def QoF:List (Nat×Nat):=[(2,8)]
noncomputable def QpF:List Nat:=[2]
noncomputable def QpH:List Str:=["near","far","put"]
noncomputable def b0:List S:=[.fld (.var 0) 0 (.lst [.comp (.rng (.var 1)) false none (.tup [.tup [],.c (.int 0 0),.c (.int 0 0)])]),.fld (.var 0) 1 (.bi .dictS [.comp (.rng (.var 1)) false none (.tup [.var 2,.tup [.c (.int 0 0),.var 2]])]),.fld (.var 0) 2 .dnew,.fld (.var 0) 3 (.lst []),.expr (.meth 0 (.var 0) [])]
noncomputable def b1:List S:=[.fld (.var 0) 4 .dnew,.fld (.var 0) 5 .dnew,.fld (.var 0) 6 .dnew,.fld (.var 0) 7 .dnew]
noncomputable def b2:List S:=[.set 1 (.comp (.seq (.bi .sorted [.fld (.var 0) 1])) false none (.ix (.fld (.var 0) 1) (.var 3))),.set 2 (.comp (.seq (.con 0)) false (some (.bm .get (.fld (.var 0) 2) [.var 3,.lst []])) (.tup [.var 3,.bi .list [.ix (.fld (.var 0) 2) (.var 3)]])),.ret (.tup [.comp (.seq (.fld (.var 0) 0)) false none (.bi .list [.var 3]),.var 1,.var 2,.bi .sorted [.fld (.var 0) 3]])]
noncomputable def b3:List S:=[.ret (.ife (.cmp .In (.var 1) (.fld (.var 0) 4)) (.ix (.ix (.fld (.var 0) 4) (.var 1)) (.c (.int 0 0))) (.c .non))]
noncomputable def b4:List S:=[.ret (.and (.cmp .In (.var 1) (.fld (.var 0) 1)) (.cmp .NotIn (.var 1) (.fld (.var 0) 6)))]
noncomputable def b5:List S:=[.ite (.or (.not (.meth 3 (.var 0) [.var 1])) (.cmp .NotIn (.meth 2 (.var 0) [.var 2]) (.tup [.c .non,.c (.str [112,105,108,101])]))) [.ret (.c (.bl false))] [],.set 3 (.ix (.bm .setdef (.fld (.var 0) 4) [.var 2,.tup [.c (.str [112,105,108,101]),.lst []]]) (.c (.int 1 0))),.ite (.cmp .In (.var 1) (.var 3)) [.ret (.c (.bl false))] [],.expr (.bm .append (.var 3) [.var 1]),.put (.fld (.var 0) 5) (.var 1) (.op .Add (.bm .get (.fld (.var 0) 5) [.var 1,.c (.int 0 0)]) (.c (.int 1 0))),.ret (.c (.bl true))]
noncomputable def b6:List S:=[.ite (.cmp .NotEq (.meth 2 (.var 0) [.var 1]) (.c (.str [112,105,108,101]))) [.ret (.c (.bl false))] [],.set 4 (.bi .tuple [.comp (.seq (.ix (.ix (.fld (.var 0) 4) (.var 1)) (.c (.int 1 0)))) false none (.ix (.fld (.var 0) 1) (.var 5))]),.put (.fld (.var 0) 4) (.var 1) (.tup [.c (.str [110,101,119]),.tup [.var 4,.var 2,.var 3]]),.ret (.c (.bl true))]
noncomputable def b7:List S:=[.ite (.cmp .In (.var 1) (.fld (.var 0) 4)) [.ret (.c (.bl false))] [],.put (.fld (.var 0) 4) (.var 1) (.tup [.c (.str [110,101,119]),.tup [.tup [],.c (.int 0 0),.c (.int 0 0)]]),.ret (.c (.bl true))]
noncomputable def b8:List S:=[.ret (.meth 9 (.var 0) [.var 1,.fld (.var 0) 3])]
noncomputable def b9:List S:=[.ret (.meth 9 (.var 0) [.var 1,.bm .setdef (.fld (.var 0) 7) [.var 2,.lst []]])]
noncomputable def b10:List S:=[.ite (.or (.not (.meth 3 (.var 0) [.var 1])) (.cmp .In (.var 1) (.fld (.var 0) 5))) [.ret (.c (.bl false))] [],.put (.fld (.var 0) 6) (.var 1) (.c (.bl true)),.expr (.bm .append (.var 2) [.ix (.fld (.var 0) 1) (.var 1)]),.ret (.c (.bl true))]
noncomputable def b11:List S:=[.ite (.or (.cmp .In (.var 2) (.fld (.var 0) 4)) (.not (.bm .get (.fld (.var 0) 2) [.var 1,.lst []]))) [.ret (.c (.bl false))] [],.put (.fld (.var 0) 4) (.var 2) (.tup [.c (.str [102,101,116,99,104,101,100]),.bm .pop (.ix (.fld (.var 0) 2) (.var 1)) [.c (.int 0 0)]]),.expr (.bm .setdef (.fld (.var 0) 7) [.var 1,.lst []]),.ret (.c (.bl true))]
noncomputable def b12:List S:=[.ite (.not (.meth 12 (.var 0) [])) [.ret (.c (.bl false))] [],.set 1 .dnew,.set 2 (.lst []),.loop (.name 3) (.seq (.bi .sorted [.fld (.var 0) 4])) [.put (.var 1) (.var 3) (.meth 14 (.var 0) [.var 3,.bi .len [.var 2]]),.ite (.cmp .Eq (.meth 2 (.var 0) [.var 3]) (.c (.str [110,101,119]))) [.expr (.bm .append (.var 2) [.ix (.ix (.fld (.var 0) 4) (.var 3)) (.c (.int 1 0))])] []],.fld (.var 0) 1 (.var 1),.expr (.bm .append (.fld (.var 0) 0) [.var 2]),.expr (.bm .update (.fld (.var 0) 2) [.fld (.var 0) 7]),.expr (.meth 0 (.var 0) []),.ret (.c (.bl true))]
noncomputable def b13:List S:=[.set 1 (.bi .all [.thw (.fld (.var 0) 1) (.comp (.key (.fld (.var 0) 1)) false none (.or (.cmp .In (.var 3) (.fld (.var 0) 5)) (.cmp .In (.var 3) (.fld (.var 0) 6))))]),.set 2 (.bi .all [.thw (.fld (.var 0) 4) (.comp (.key (.fld (.var 0) 4)) false none (.meth 13 (.var 0) [.var 3]))]),.ret (.and (.var 1) (.and (.var 2) (.not (.bi .any [.thw (.fld (.var 0) 7) (.comp (.key (.fld (.var 0) 7)) false none (.bm .get (.fld (.var 0) 2) [.var 3,.lst []]))]))))]
noncomputable def b14:List S:=[.ite (.cmp .NotEq (.meth 2 (.var 0) [.var 1]) (.c (.str [112,105,108,101]))) [.ret (.c (.bl true))] [],.set 2 (.ix (.ix (.fld (.var 0) 4) (.var 1)) (.c (.int 1 0))),.ret (.and (.cmp .Eq (.bi .len [.var 2]) (.c (.int 1 0))) (.cmp .Eq (.ix (.fld (.var 0) 5) (.ix (.var 2) (.c (.int 0 0)))) (.c (.int 1 0))))]
noncomputable def b15:List S:=[.ite (.cmp .Eq (.meth 2 (.var 0) [.var 1]) (.c (.str [112,105,108,101]))) [.ret (.ix (.fld (.var 0) 1) (.ix (.ix (.ix (.fld (.var 0) 4) (.var 1)) (.c (.int 1 0))) (.c (.int 0 0))))] [],.ret (.ife (.cmp .Eq (.meth 2 (.var 0) [.var 1]) (.c (.str [110,101,119]))) (.tup [.bi .len [.fld (.var 0) 0],.var 2]) (.ix (.ix (.fld (.var 0) 4) (.var 1)) (.c (.int 1 0))))]
noncomputable def b16:List S:=[.ite (.or (.not (.var 0)) (.cmp .NotEq (.ix (.ix (.var 0) (.c (.int 0 0))) (.c (.int 0 0))) (.c (.str [99,97,115,116])))) [.rse 2 [.c (.int 0 0)]] [],.set 1 (.make 0 [.ix (.ix (.var 0) (.c (.int 0 0))) (.c (.int 1 0))]),.loop (.pair 2 3) (.enm (.var 0)) [.ite (.and (.cmp .Gt (.var 2) (.c (.int 0 0))) (.not (.call 17 [.var 1,.var 3]))) [.rse 2 [.var 2]] []],.ite (.cmp .NotIn (.ix (.ix (.var 0) (.neg (.c (.int 1 0)))) (.c (.int 0 0))) (.tup [.c (.str [99,97,115,116]),.c (.str [101,110,100])])) [.rse 2 [.bi .len [.var 0]]] [],.ret (.meth 1 (.var 1) [])]
noncomputable def b17:List S:=[.set 2 (.ix (.var 1) (.c (.int 0 0))),.ite (.cmp .Eq (.var 2) (.c (.str [108,97,121]))) [.ret (.meth 4 (.var 0) [.ix (.var 1) (.c (.int 1 0)),.ix (.var 1) (.c (.int 2 0))])] [],.ite (.cmp .Eq (.var 2) (.c (.str [100,114,97,119]))) [.ret (.meth 5 (.var 0) [.ix (.var 1) (.c (.int 1 0)),.ix (.var 1) (.c (.int 2 0)),.ix (.var 1) (.c (.int 3 0))])] [],.ite (.cmp .Eq (.var 2) (.c (.str [111,118,101,114]))) [.ret (.meth 6 (.var 0) [.ix (.var 1) (.c (.int 1 0))])] [],.ite (.cmp .Eq (.var 2) (.c (.str [111,102,102]))) [.ret (.meth 7 (.var 0) [.ix (.var 1) (.c (.int 1 0))])] [],.ite (.cmp .Eq (.var 2) (.c (.str [107,101,101,112]))) [.ret (.meth 8 (.var 0) [.ix (.var 1) (.c (.int 1 0)),.ix (.var 1) (.c (.int 2 0))])] [],.ite (.cmp .Eq (.var 2) (.c (.str [102,101,116,99,104]))) [.ret (.meth 10 (.var 0) [.ix (.var 1) (.c (.int 1 0)),.ix (.var 1) (.c (.int 2 0))])] [],.ret (.and (.cmp .Eq (.var 2) (.c (.str [101,110,100]))) (.meth 11 (.var 0) []))]
noncomputable def b18:List S:=[.ite (.cmp .Lt (.var 1) (.bi .len [.var 0])) [.ret (.ix (.var 0) (.var 1))] [],.ret (.c (.int 0 0))]
noncomputable def b19:List S:=[.set 2 .dnew,.set 3 (.lst []),.set 4 (.lst []),.set 5 (.lstR [.bi .len [.var 0]]),.ite (.cmp .Eq (.op .Mod (.var 1) (.c (.int 2 0))) (.c (.int 1 0))) [.set 5 (.rev (.var 5))] [],.loop (.name 6) (.seq (.var 5)) [.ite (.cmp .Eq (.op .Mod (.ix (.var 0) (.var 6)) (.c (.int 13 0))) (.c (.int 12 0))) [.expr (.bm .append (.var 3) [.tup [.c (.str [111,102,102]),.var 6]]),.expr (.bm .append (.var 4) [.tup [.c (.int 0 0),.var 6]])] [.set 7 (.op .Add (.op .Mult (.op .Mod (.ix (.var 0) (.var 6)) (.c (.int 13 0))) (.op .Add (.c (.int 1 0)) (.op .Mod (.op .FloorDiv (.var 1) (.c (.int 2 0))) (.c (.int 5 0))))) (.op .Mod (.op .FloorDiv (.var 1) (.c (.int 10 0))) (.c (.int 7 0)))),.expr (.bm .append (.var 3) [.tup [.c (.str [108,97,121]),.var 6,.var 7]]),.put (.var 2) (.var 7) (.op .Add (.bm .get (.var 2) [.var 7,.lst []]) (.lst [.tup [.c (.int 0 0),.var 6]]))]],.ret (.tup [.var 3,.var 2,.var 4])]
noncomputable def b20:List S:=[.ite (.isi (.var 1) .int) [.ret (.and (.isi (.var 0) .int) (.and (.not (.isi (.var 0) .bool)) (.cmp .Eq (.var 0) (.var 1))))] [],.ite (.isi (.var 1) .tuple) [.ite (.not (.isi (.var 0) .tuple)) [.ret (.c (.bl false))] []] [.ite (.not (.isi (.var 0) .list)) [.ret (.c (.bl false))] []],.ite (.cmp .NotEq (.bi .len [.var 0]) (.bi .len [.var 1])) [.ret (.c (.bl false))] [],.loop (.pair 2 3) (.zip (.var 0) (.var 1)) [.ite (.not (.call 20 [.var 2,.var 3])) [.ret (.c (.bl false))] []],.ret (.c (.bl true))]
noncomputable def b21:List S:=[.set 3 (.lst []),.set 4 (.lst []),.set 5 .dnew,.loop (.name 6) (.seq (.bi .sorted [.var 0])) [.set 7 (.ix (.var 0) (.var 6)),.ite (.or (.cmp .Gt (.bi .len [.var 7]) (.c (.int 1 0))) (.cmp .Gt (.op .Mod (.op .Add (.var 6) (.var 1)) (.c (.int 3 0))) (.c (.int 0 0)))) [.set 8 (.ix (.lst [.c (.int 1 0),.neg (.c (.int 1 0))]) (.op .Mod (.op .Add (.var 6) (.var 1)) (.c (.int 2 0)))),.expr (.bm .append (.var 3) [.tup [.c (.str [100,114,97,119]),.var 6,.var 8,.c (.int 0 0)]]),.put (.var 5) (.var 6) (.tup [.var 2,.bi .len [.var 4]]),.expr (.bm .append (.var 4) [.tup [.bi .tuple [.var 7],.var 8,.c (.int 0 0)]])] [.put (.var 5) (.var 6) (.ix (.var 7) (.c (.int 0 0)))]],.ite (.cmp .Gt (.op .Mod (.var 1) (.c (.int 5 0))) (.c (.int 1 0))) [.set 3 (.rev (.var 3))] [],.ret (.tup [.var 3,.var 4,.var 5])]
noncomputable def b22:List S:=[.set 1 (.c .non),.tryS (some 2) 16 [.var 0] 2 [.set 1 (.fld (.var 2) 8)],.ret (.var 1)]
noncomputable def b23:List S:=[.set 1 (.sl (.var 0) (some (.c (.int 1 0))) (some (.c (.int 41 0)))),.set 2 (.op .Mod (.call 18 [.var 0,.c (.int 0 0)]) (.c (.int 70 0))),.unpN [3,4,5] (.call 19 [.var 1,.var 2]),.unpN [6,7,8] (.call 21 [.var 4,.var 2,.c (.int 1 0)]),.set 3 (.op .Add (.op .Add (.op .Add (.lst [.tup [.c (.str [99,97,115,116]),.bi .len [.var 1]]]) (.var 3)) (.var 6)) (.lst [.tup [.c (.str [101,110,100])]])),.set 9 (.comp (.seq (.var 1)) false none (.tup [.tup [],.c (.int 0 0),.c (.int 0 0)])),.set 10 (.bi .list [.var 3]),.set 11 (.tup [.lst [.var 9,.var 7],.comp (.seq (.bi .sorted [.var 8])) false none (.ix (.var 8) (.var 17)),.lst [],.bi .sorted [.var 5]]),.ite (.or (.not (.call 20 [.call 16 [.var 10],.var 11])) (.cmp .NotEq (.var 10) (.var 3))) [.ret (.c (.bl false))] [],.set 12 (.c (.int 0 0)),.while (.cmp .In (.var 12) (.var 8)) [.set 12 (.op .Add (.var 12) (.c (.int 1 0)))],.ite (.cmp .NotEq (.call 22 [.op .Add (.var 3) (.lst [.tup [.c (.str [108,97,121]),.var 12,.c (.int 0 0)],.tup [.c (.str [101,110,100])]])]) (.bi .len [.var 3])) [.ret (.c (.bl false))] [],.set 13 .dnew,.loop (.name 14) (.seq (.bi .sorted [.var 8])) [.expr (.bm .append (.var 3) [.tup [.c (.str [108,97,121]),.var 14,.op .Add (.c (.int 3 0)) (.op .Mult (.c (.int 2 0)) (.var 14))]]),.put (.var 13) (.op .Add (.c (.int 3 0)) (.op .Mult (.c (.int 2 0)) (.var 14))) (.lst [.ix (.var 8) (.var 14)])],.unpN [6,15,16] (.call 21 [.var 13,.op .Add (.var 2) (.c (.int 1 0)),.c (.int 2 0)]),.set 11 (.tup [.lst [.var 9,.var 7,.var 15],.comp (.seq (.bi .sorted [.var 16])) false none (.ix (.var 16) (.var 17)),.lst [],.bi .sorted [.var 5]]),.ite (.not (.call 20 [.call 16 [.op .Add (.op .Add (.var 3) (.var 6)) (.lst [.tup [.c (.str [101,110,100])]])],.var 11])) [.ret (.c (.bl false))] [],.ret (.call 20 [.call 16 [.lst [.tup [.c (.str [99,97,115,116]),.bi .len [.var 1]]]],.tup [.lst [.var 9],.comp (.rng (.bi .len [.var 1])) false none (.tup [.c (.int 0 0),.var 17]),.lst [],.lst []]])]
noncomputable def fnL:List Fn:=[⟨"__init__","Bed.__init__",st0,["self","cast"],N0,2,2,false,b0⟩,
 ⟨"begin_row","Bed.begin_row",st1,["self"],N1,1,1,false,b1⟩,
 ⟨"web","Bed.web",st2,["self"],N2,1,3,false,b2⟩,
 ⟨"on_far","Bed.on_far",st3,["self","hook"],N3,2,2,false,b3⟩,
 ⟨"has_loop","Bed.has_loop",st4,["self","hook"],N4,2,2,false,b4⟩,
 ⟨"lay","Bed.lay",st5,["self","hook","onto"],N5,3,4,false,b5⟩,
 ⟨"draw","Bed.draw",st6,["self","hook","side","lift"],N6,4,5,false,b6⟩,
 ⟨"throw_over","Bed.throw_over",st7,["self","hook"],N7,2,2,false,b7⟩,
 ⟨"cast_off","Bed.cast_off",st8,["self","hook"],N8,2,2,false,b8⟩,
 ⟨"keep","Bed.keep",st9,["self","hook","keeper"],N9,3,3,false,b9⟩,
 ⟨"put_away","Bed.put_away",Qom,["self","hook","pile"],N10,3,3,false,b10⟩,
 ⟨"fetch","Bed.fetch",Qol,["self","keeper","hook"],N11,3,3,false,b11⟩,
 ⟨"end_row","Bed.end_row",Qok,["self"],N12,1,4,false,b12⟩,
 ⟨"may_end","Bed.may_end",Qoj,["self"],N13,1,3,false,b13⟩,
 ⟨"is_even","Bed.is_even",Qoi,["self","hook"],N14,2,3,false,b14⟩,
 ⟨"name_on_far","Bed.name_on_far",Qoh,["self","hook","place"],N15,3,3,false,b15⟩,
 ⟨"hooked","hooked",(top 6),["moves"],N16,1,4,false,b16⟩,
 ⟨"is_done","is_done",(top 7),["bed","move"],N17,2,3,false,b17⟩,
 ⟨"_law_cell_at","_law_cell_at",(top 9),["_law_script","_law_k"],N18,2,2,false,b18⟩,
 ⟨"_law_lays","_law_lays",(top 10),["_law_cells","_law_kind"],N19,2,8,false,b19⟩,
 ⟨"_law_same","_law_same",(top 11),["_law_found","_law_due"],N20,2,4,false,b20⟩,
 ⟨"_law_drawn","_law_drawn",(top 12),["_law_piles","_law_kind","_law_row"],N21,3,9,false,b21⟩,
 ⟨"_law_tangled","_law_tangled",(top 13),["_law_moves"],N22,1,3,false,b22⟩,
 ⟨"law","law",(top 14),["_law_script"],N23,1,17,true,b23⟩]
noncomputable def tbX(s:List U):Tbl:=⟨fnL,QpP,QpN,QpC,Qps,s,Qpu,QpK,QpG,QoQ,false,QpE,QpD,Qpn,QoF,QpH,QpF,λz z z=>none⟩
noncomputable def tb(s:List U):Tbl:={tbX s with xf:=QV (tbX s) 8}
noncomputable abbrev so(x:String):Str:=Str.ofString x
noncomputable abbrev rf(a:Addr):Value:=.ref a
noncomputable abbrev sv(x:String)(n:Nat):Value:=.str (Str.ofString x) n
noncomputable abbrev dk(P:Params)(x:String)(n:Nat)(v:Value):DictEntry:=DictEntry.mk (PyData.keyHash P (Str.ofString x)) (.str (Str.ofString x) n) v
noncomputable abbrev tu(xs:Array Value)(n:Nat):Obj:=Obj.mk (.type "tuple") none (Data.seq xs n) #[]
noncomputable abbrev ob(c:String)(d:Data):Obj:=Obj.mk (.type c) none d #[]
noncomputable abbrev en(P:Params)(x:Str)(k v:Value):DictEntry:=DictEntry.mk (PyData.keyHash P x) k v
noncomputable abbrev de(P:Params)(x:Str)(n:Nat)(v:Value):DictEntry:=DictEntry.mk (PyData.keyHash P x) (.str x n) v
noncomputable abbrev fo(x q:String)(s:Stmt)(d:Value)(m:String)(n c:Nat):Obj:=⟨.type "function",none,.func (W.fnOf (so x) (so q) (Yt s) (QY s) (Qh s) d .none .none (sv m n) none (rf c) .none),#[]⟩
noncomputable abbrev z0:Value:=.int 0 0
noncomputable abbrev i0(n:Int):Value:=.int n 0
noncomputable abbrev hF:Value:=.bool false
noncomputable abbrev hT:Value:=.bool true
noncomputable abbrev sr(a:Addr):Option Value:=some (.ref a)
noncomputable abbrev hC(n:Nat):Value:=.str (Str.ofString "/claim/cut.py") n
noncomputable abbrev oc(d:Array Value):Obj:=Obj.mk (.type "code") none (Data.fields d) #[]
noncomputable abbrev cO(x q:String)(a l:Nat)(n r s u v y t:Value)(m d:Nat):Obj:=oc (#[sv x a,sv q (a+1),hC (a+2),i0 l,n,z0,z0,i0 3,r,hT,i0 181,s,u,v,y,t,i0 m,i0 l,hC d])
noncomputable abbrev dm(P:Params)(n:Nat)(x:String)(m:Nat):DictEntry:=dk P "__module__" n (sv x m)
noncomputable abbrev dq(P:Params)(n:Nat)(x:String)(m:Nat):DictEntry:=dk P "__qualname__" n (sv x m)
noncomputable abbrev hD(P:Params)(n:Nat):DictEntry:=dk P "__doc__" n .none
noncomputable abbrev dl(P:Params)(n:Nat)(x:Int)(m:Nat):DictEntry:=dk P "__firstlineno__" n (.int x m)
noncomputable abbrev ds(P:Params)(n:Nat)(a:Addr):DictEntry:=dk P "__static_attributes__" n (.ref a)
noncomputable abbrev dR(P:Params)(x:String)(n:Nat)(a:Addr):DictEntry:=dk P x n (.ref a)
noncomputable abbrev hp:Program:=PySem.Challenge.pw_stitchroom_k62_one_row_of_hooks
noncomputable abbrev hr:W.RowW:=(PySem.Challenge.rw_stitchroom_k62_one_row_of_hooks).row.toRowW
noncomputable def hB:Iv.BootT:=⟨λP=>(.node (W.boot_o_0 P) (.node (W.boot_o_1 P) (.node (W.boot_o_3 P) (.node (W.boot_o_7 P) .nil .nil) .nil) (.node (W.boot_o_5 P) (.node (W.boot_o_9 P) .nil .nil) .nil)) (.node (W.boot_o_2 P) (.node (W.boot_o_4 P) (.node (W.boot_o_8 P) .nil .nil) .nil) (.node (W.boot_o_6 P) (.node (W.boot_o_10 P) .nil .nil) .nil))),11,{}⟩
noncomputable def hq:Program:=W.view hp [1,2,3,5,6,7,9,10,11,12,13,14]
noncomputable abbrev hlo:List Str:=[]
noncomputable def K:Params->W.Frag:=λP=>
 (2,(Obj.mk .none none (Data.dict #[] 0) #[]))::
 (3,(ob "dict" (Data.dict #[(dk P "__name__" 165 (sv "law_stitchroom_k62_one_row_of_hooks" 414)),(hD P 166),(dk P "__package__" 167 .none),(dk P "__loader__" 168 (.builtin "__main__.__loader__#opaque")),(dk P "__spec__" 169 .none),(dR P "__annotations__" 170 6),(dR P "__builtins__" 171 4),(dk P "__file__" 173 (hC 172)),(dk P "__cached__" 174 .none),(dR P "StitchError" 206 24),(dR P "Tangle" 231 44),(dR P "KEEPERS" 236 47),(dR P "Bed" 394 161),(dR P "hooked" 404 172),(dR P "is_done" 413 179),(dR P "_law_cell_at" 423 186),(dR P "_law_lays" 437 193),(dR P "_law_same" 447 200),(dR P "_law_drawn" 462 207),(dR P "_law_tangled" 471 214),(dR P "law" 477 219)] 21)))::
 (23,(ob "dict" (Data.dict #[(dm P 196 "stitchroom.errors" 187),(dl P 200 2 199),(ds P 201 22),(dR P "__weakref__" 203 25),(hD P 204)] 3)))::
 (24,(Obj.mk (.type "type") none (Data.cls (ClassData.mk (so "StitchError") [(.type "ValueError")] [(rf 24),(.type "ValueError"),(.type "Exception"),(.type "BaseException"),(.type "object")] 23 (so "StitchError") true [] [(rf 44)] false none false)) #[(sr 15),none,(some (sv "StitchError" 189)),(some (sv "StitchError" 197)),(some (.builtin "ValueError.__new__")),(some hT)]))::
 (25,(ob "getset_descriptor" (Data.fields #[(sv "__weakref__" 202),(rf 24),(.builtin "ExceptionGroup.__weakref__"),.none])))::
 (40,(cO "__init__" "Tangle.__init__" 219 6 (i0 2) (rf 35) (rf 36) .none (rf 37) (rf 38) (rf 39) 224 225))::
 (41,(fo "__init__" "Tangle.__init__" Qn9 .none "stitchroom.errors" 187 40))::
 (43,(ob "dict" (Data.dict #[(dm P 214 "stitchroom.errors" 187),(dl P 218 4 217),(dR P "__init__" 226 41),(ds P 228 42),(hD P 229)] 2)))::
 (44,(Obj.mk (.type "type") none (Data.cls (ClassData.mk (so "Tangle") [(rf 24)] [(rf 44),(rf 24),(.type "ValueError"),(.type "Exception"),(.type "BaseException"),(.type "object")] 43 (so "Tangle") true [] [] false none false)) #[(sr 28),none,(some (sv "Tangle" 207)),(some (sv "Tangle" 215)),(some (.builtin "ValueError.__new__")),(some hT)]))::
 (47,(tu #[(sv "w" 232),(sv "x" 233),(sv "y" 234),(sv "z" 235)] 0))::
 (58,(cO "__init__" "Bed.__init__" 251 13 (i0 2) (rf 55) (rf 56) .none .none .none (rf 57) 254 255))::
 (59,(fo "__init__" "Bed.__init__" st0 .none "stitchroom.bed" 237 58))::
 (65,(cO "begin_row" "Bed.begin_row" 257 20 (i0 1) (rf 60) (rf 61) .none (rf 62) (rf 63) (rf 64) 261 262))::
 (66,(fo "begin_row" "Bed.begin_row" st1 .none "stitchroom.bed" 237 65))::
 (70,(cO "web" "Bed.web" 264 26 (i0 1) (rf 67) (rf 68) .none .none .none (rf 69) 267 268))::
 (71,(fo "web" "Bed.web" st2 .none "stitchroom.bed" 237 70))::
 (77,(cO "on_far" "Bed.on_far" 270 31 (i0 2) (rf 72) (rf 73) .none (rf 74) (rf 75) (rf 76) 275 276))::
 (78,(fo "on_far" "Bed.on_far" st3 .none "stitchroom.bed" 237 77))::
 (84,(cO "has_loop" "Bed.has_loop" 278 34 (i0 2) (rf 79) (rf 80) .none (rf 81) (rf 82) (rf 83) 283 284))::
 (85,(fo "has_loop" "Bed.has_loop" st4 .none "stitchroom.bed" 237 84))::
 (91,(cO "lay" "Bed.lay" 286 37 (i0 3) (rf 86) (rf 87) .none (rf 88) (rf 89) (rf 90) 293 294))::
 (92,(fo "lay" "Bed.lay" st5 .none "stitchroom.bed" 237 91))::
 (96,(cO "draw" "Bed.draw" 296 47 (i0 4) (rf 93) (rf 94) .none .none .none (rf 95) 299 300))::
 (97,(fo "draw" "Bed.draw" st6 .none "stitchroom.bed" 237 96))::
 (103,(cO "throw_over" "Bed.throw_over" 302 54 (i0 2) (rf 98) (rf 99) .none (rf 100) (rf 101) (rf 102) 307 308))::
 (104,(fo "throw_over" "Bed.throw_over" st7 .none "stitchroom.bed" 237 103))::
 (110,(cO "cast_off" "Bed.cast_off" 310 60 (i0 2) (rf 105) (rf 106) .none (rf 107) (rf 108) (rf 109) 315 316))::
 (111,(fo "cast_off" "Bed.cast_off" st8 .none "stitchroom.bed" 237 110))::
 (117,(cO "keep" "Bed.keep" 318 63 (i0 3) (rf 112) (rf 113) .none (rf 114) (rf 115) (rf 116) 324 325))::
 (118,(fo "keep" "Bed.keep" st9 .none "stitchroom.bed" 237 117))::
 (124,(cO "put_away" "Bed.put_away" 327 66 (i0 3) (rf 119) (rf 120) .none (rf 121) (rf 122) (rf 123) 333 334))::
 (125,(fo "put_away" "Bed.put_away" Qom .none "stitchroom.bed" 237 124))::
 (131,(cO "fetch" "Bed.fetch" 336 73 (i0 3) (rf 126) (rf 127) .none (rf 128) (rf 129) (rf 130) 342 343))::
 (132,(fo "fetch" "Bed.fetch" Qol .none "stitchroom.bed" 237 131))::
 (138,(cO "end_row" "Bed.end_row" 345 80 (i0 1) (rf 133) (rf 134) .none (rf 135) (rf 136) (rf 137) 352 353))::
 (139,(fo "end_row" "Bed.end_row" Qok .none "stitchroom.bed" 237 138))::
 (143,(cO "may_end" "Bed.may_end" 355 95 (i0 1) (rf 140) (rf 141) .none .none .none (rf 142) 358 359))::
 (144,(fo "may_end" "Bed.may_end" Qoj .none "stitchroom.bed" 237 143))::
 (150,(cO "is_even" "Bed.is_even" 361 100 (i0 2) (rf 145) (rf 146) .none (rf 147) (rf 148) (rf 149) 367 368))::
 (151,(fo "is_even" "Bed.is_even" Qoi .none "stitchroom.bed" 237 150))::
 (157,(cO "name_on_far" "Bed.name_on_far" 370 106 (i0 3) (rf 152) (rf 153) .none (rf 154) (rf 155) (rf 156) 376 377))::
 (158,(fo "name_on_far" "Bed.name_on_far" Qoh .none "stitchroom.bed" 237 157))::
 (160,(ob "dict" (Data.dict #[(dm P 246 "stitchroom.bed" 237),(dl P 250 11 249),(dR P "__init__" 256 59),(dR P "begin_row" 263 66),(dR P "web" 269 71),(dR P "on_far" 277 78),(dR P "has_loop" 285 85),(dR P "lay" 295 92),(dR P "draw" 301 97),(dR P "throw_over" 309 104),(dR P "cast_off" 317 111),(dR P "keep" 326 118),(dR P "put_away" 335 125),(dR P "fetch" 344 132),(dR P "end_row" 354 139),(dR P "may_end" 360 144),(dR P "is_even" 369 151),(dR P "name_on_far" 378 158),(ds P 387 159),(dR P "__dict__" 389 162),(dR P "__weakref__" 391 163),(hD P 392)] 4)))::
 (161,(Obj.mk (.type "type") none (Data.cls (ClassData.mk (so "Bed") [(.type "object")] [(rf 161),(.type "object")] 160 (so "Bed") true [] [] false none false)) #[none,none,(some (sv "Bed" 239)),(some (sv "Bed" 247)),(some (.builtin "object.__new__")),(some hT)]))::
 (162,(ob "getset_descriptor" (Data.fields #[(sv "__dict__" 388),(rf 161),(.builtin "function.__dict__"),(.builtin "function.__dict__#set")])))::
 (163,(ob "getset_descriptor" (Data.fields #[(sv "__weakref__" 390),(rf 161),(.builtin "ExceptionGroup.__weakref__"),.none])))::
 (171,(cO "hooked" "hooked" 395 110 (i0 1) (rf 166) (rf 167) .none (rf 168) (rf 169) (rf 170) 402 403))::
 (172,(fo "hooked" "hooked" (top 6) .none "stitchroom.bed" 237 171))::
 (178,(cO "is_done" "is_done" 405 120 (i0 2) (rf 173) (rf 174) .none (rf 175) (rf 176) (rf 177) 411 412))::
 (179,(fo "is_done" "is_done" (top 7) .none "stitchroom.bed" 237 178))::
 (185,(cO "_law_cell_at" "_law_cell_at" 416 136 (i0 2) (rf 180) (rf 181) .none (rf 182) (rf 183) (rf 184) 421 422))::
 (186,(fo "_law_cell_at" "_law_cell_at" (top 9) .none "law_stitchroom_k62_one_row_of_hooks" 414 185))::
 (192,(cO "_law_lays" "_law_lays" 424 140 (i0 2) (rf 187) (rf 188) .none (rf 189) (rf 190) (rf 191) 435 436))::
 (193,(fo "_law_lays" "_law_lays" (top 10) .none "law_stitchroom_k62_one_row_of_hooks" 414 192))::
 (199,(cO "_law_same" "_law_same" 438 156 (i0 2) (rf 194) (rf 195) .none (rf 196) (rf 197) (rf 198) 445 446))::
 (200,(fo "_law_same" "_law_same" (top 11) .none "law_stitchroom_k62_one_row_of_hooks" 414 199))::
 (206,(cO "_law_drawn" "_law_drawn" 448 170 (i0 3) (rf 201) (rf 202) .none (rf 203) (rf 204) (rf 205) 460 461))::
 (207,(fo "_law_drawn" "_law_drawn" (top 12) .none "law_stitchroom_k62_one_row_of_hooks" 414 206))::
 (213,(cO "_law_tangled" "_law_tangled" 463 186 (i0 1) (rf 208) (rf 209) .none (rf 210) (rf 211) (rf 212) 469 470))::
 (214,(fo "_law_tangled" "_law_tangled" (top 13) .none "law_stitchroom_k62_one_row_of_hooks" 414 213))::
 (218,(cO "law" "law" 472 193 (i0 1) (rf 215) (rf 216) .none .none .none (rf 217) 475 476))::
 (219,(fo "law" "law" (top 14) .none "law_stitchroom_k62_one_row_of_hooks" 414 218))::[]
noncomputable def KA:List Addr:=[2,3,23,24,25,40,41,43,44,47,58,59,65,66,70,71,77,78,84,85,91,92,96,97,103,104,110,111,117,118,124,125,131,132,138,139,143,144,150,151,157,158,160,161,162,163,171,172,178,179,185,186,192,193,199,200,206,207,213,214,218,219]
def hKA:∀P,KA=(K P).map (·.1):=λz=>by kernel_rfl
noncomputable abbrev hXt:Shared->Bool:=λs=>W.xlAt hq [] s&&W.recOk (W.RowW.records hr) s
def hop:W.opening hp=W.plainProg hp.main.scope.names:=by kernel_rfl
def hfm:∀s,PySem.fenceModules? hp s=some s:=λs=>by kernel_rfl
def hbo:∀w:World,W.absHeap (hB.t w.params) hB.n hB.life=W.boot_heap w.params:=λw=>by kernel_rfl
def hsz:∀w:World,((W.boot_heap w.params).isNs mainGlobals,(W.boot_heap w.params).objs.size,(W.boot_heap w.params).nsMap mainGlobals "__annotations__")=(true,11,some (.ref 6)):=λw=>by kernel_rfl
noncomputable abbrev hYf:Shared->List (Option Obj):=λs=>KA.map s.heap.get?
noncomputable abbrev hYa:World->List (Option Obj):=λw=>(K w.params).map λp=>some p.2
noncomputable abbrev hN:Nat:=2982
noncomputable abbrev hn6:Option Value:=some (.ref 6)
abbrev hS(w:World):Prop:=Iv.RunT hp hq hlo hXt hYf hYa 2982 true hB 11 (some (.ref 6)) w
def Qpy(w:World):hS w:=λos=>by kernel_rfl
def hleft:W.LeftO hp hq hlo hXt hYf hYa 2982 true:=Iv.left_tree hop (by decide) hfm hbo hsz Qpy
noncomputable abbrev sR(n:Nat):Option U:=some (.ref n)
noncomputable abbrev sI(n:Int):Option U:=some (.int n 0)
noncomputable def tbG(x:Nat->List U->Hs->Option (Er×Hs))(s:List U):Tbl:={tbX s with xf:=x}
variable {xx:Nat->List U->Hs->Option (Er×Hs)}
def at0{a:O}{r:Hs}:(hs++a::r)[hs.length]?=some a:=by rw[Xv (Xm _),V1];rfl
def Zd{r:Hs}(h:hs[p]?=some o):(hs++r)[p]?=some o:=by
 rw[Xu (Xe.mp h).1];exact h
def Kp(hs hs':Hs):Prop:=∀(p:Nat) o,hs[p]?=some o->hs'[p]?=some o
def Kp.refl(hs:Hs):Kp hs hs:=λz z h=>h
def Kp.app(hs r:Hs):Kp hs (hs++r):=λz z h=>Zd h
def Kp.trans{a b c:Hs}(h:Kp a b)(h':Kp b c):Kp a c:=λp o e=>h' p o (h p o e)
def Kp.len{a b:Hs}(h:Kp a b):a.length<=b.length:=by
 cases ha:a.length with
 |zero=>lia
 |succ k=>
  have lt:k<a.length:=by lia
  have:=(Xe.mp (h k a[k] (by simp[lt]))).1
  lia
def Kp.put{a b:Hs}{j:Nat}(h:Kp a b)(hj:a.length<=j):Kp a (b.set j o):=λp x e=>by
 have lt:=(Xe.mp e).1
 rw[X8 (by lia)]
 exact h p x e
section

def JR{r:List S}{st:S}{ρ':Rho}(e:ex T cf d st Z hs=some (.next,ρ',h1)):exs T cf (d+1) (st::r) Z hs=exs T cf d r ρ' h1:=by
 rw[Q9,e]
def QgQ{t:E}{a:List S}(e:evT T cf (d+1) t Z hs=some (false,h1)):ex T cf (d+2) (.ite t a []) Z hs=some (.next,Z,h1):=by
 rw[QcO,e,Qy,if_neg (by decide),Je]
def Ji{b:E}{o:CmpOp}(ea:ev T cf d a Z hs=some (u,h1))(eb:ev T cf d b Z h1=some (w,h2))(ec:YH T o u w h2=some c):ev T cf (d+1) (.cmp o a b) Z hs=some (.bl c,h2):=by
 rw[Ql0,ea,Qy,eb,Qy,ec];rfl
def QC{b:E}{o:CmpOp}(ea:ev T cf d a Z hs=some (u,h1))(eb:ev T cf d b Z h1=some (w,h2))(ec:YH T o u w h2=some c):evT T cf (d+2) (.cmp o a b) Z hs=some (c,h2):=by
 rw[Qi1,Ji ea eb ec,Qy];rfl
end
def Qh1(h:hs[p]?=some (.lst xs)):biU T .len [.ref p] hs=some (.int xs.length 0,hs):=by unfold biU;simp only[Zp,h]
def Qjh(h:hs[p]?=some (.lst xs)):biU T .tuple [.ref p] hs=some (.ref hs.length,hs++[.tup xs]):=by unfold biU;simp only[h]
def QnV(h:hs[p]?=some (.lst xs))(hl:xs.length<1000000):bmU T .append (.ref p) [u] hs=some (.non,hs.set p (.lst (xs++[u]))):=by
 simp only[bmU,h,bmL,hl];rfl
def Qmv(h:hs[p]?=some (.lst xs)):Qe7 .append (.ref p) hs=true:=by simp only[Qe7,h];rfl
def Qpr:QhX (.int 2 0) (.int x 0)=sI (2*x):=by
 have h:Qp 2=true:=by decide
 simp only[QhX,h,Bool.true_or,Wa]
def md(h:0<j):QkA (.int x 0) (.int j 0)=sI (x % j):=by simp only[QkA];rw[if_pos h]
def TK(hs hs':Hs):Prop:=∀(i:Nat) us,hs[i]?=some (.tup us)->hs'[i]?=some (.tup us)
def TK.refl:TK hs hs:=λz z h=>h
def TK.trans{a b c:Hs}(h:TK a b)(h':TK b c):TK a c:=λi us e=>h' i us (h i us e)
def TK.app{r:Hs}:TK hs (hs++r):=λi us h=>Zd h
theorem TK.set{x y:O}(h:hs[i]?=some x)(n:∀us,x≠.tup us):TK hs (hs.set i y):=λj us e=>by
 have ne:i≠j:=λz=>by rw[z,e]at h;cases h;exact n us rfl
 rw[X8 ne];exact e
abbrev Nm:=Int×Int
structure Lp where
 ps:List Nm
 sd:Int
 lf:Int
def DN(hs:Hs)(u:U)(a:Nm):Prop:=∃i,u=.ref i/\hs[i]?=some (.tup [.int a.1 0,.int a.2 0])
def DL(hs:Hs)(u:U)(a:Lp):Prop:=∃i j us,u=.ref i/\hs[i]?=some (.tup [.ref j,.int a.sd 0,.int a.lf 0])/\hs[j]?=some (.tup us)/\Paired (DN hs) us a.ps
def DN.mono{hs':Hs}(t:TK hs hs'){a:Nm}(h:DN hs u a):DN hs' u a:=by obtain⟨i,e,h⟩:=h;exact⟨i,e,t _ _ h⟩
def Qg{P Q:α->β->Prop}(f:∀a b,P a b->Q a b){l:List α}{r:List β}(h:Paired P l r):Paired Q l r:=Paired.mono f h
def Qv{P:α->β->Prop}{l:List α}{r:List β}(h:Paired P l r):l.length=r.length:=h.length
theorem DL.mono{hs':Hs}(t:TK hs hs'){a:Lp}(h:DL hs u a):DL hs' u a:=by obtain⟨i,j,us,e,h1,h2,h3⟩:=h;exact⟨i,j,us,e,t _ _ h1,t _ _ h2,Qg (λz z=>DN.mono t) h3⟩
noncomputable def nmK(a:Nm):List U:=[.int a.1 0,.int a.2 0]
def QA{P:α->β->Prop}{l l':List α}{r r':List β}(h:Paired P l r)(h':Paired P l' r'):Paired P (l++l') (r++r'):=QbE h h'
def Qoo(h:n<=1000000):Qp ((n:Int)*4)=true:=by
 simp only[Qp,Xk,Xy];lia
def QnS{xs:List α}{x:α}(h:xs[i]?=some x):atU xs (i:Int)=some x:=by
 have l:=(Xe.mp h).1
 have e:ixU xs.length (i:Int)=some i:=by
  unfold ixU
  rw[if_pos (by lia),if_pos (by lia)]
  simp
 simp only[atU,e,h]
def Ql2{TT:Tbl}(e:ev TT cf d a Z h=some (u,h1)):ex TT cf (d+1) (.set i a) Z h=some (.next,Z.set i (some u),h1):=by
 rw[QiR,e,Qy]
def Qbs{TT:Tbl}{t:Option E}{w:Wk}(es:Zf TT (ev TT cf d) Z src h=some (w,h1))(ec:Yv TT (ev TT cf d) (Qay (evT TT cf d) t) w false el Z (Q6 TT w h1) 0 [] h1=some (us,h2)):ev TT cf (d+1) (.comp src false t el) Z h=some (.ref h2.length,h2++[.lst us]):=by
 rw[QiV,es,Qy,ec,Qy]
def Qbr{TT:Tbl}{o:Operator}{b:E}{r:Option (U×Hs)}(ea:ev TT cf d a Z h=some (u,h1))(eb:ev TT cf d b Z h1=some (w,h2))(eo:opU o u w h2=r):ev TT cf (d+1) (.op o a b) Z h=r:=by
 rw[QoT,ea,Qy,eb,Qy,eo]
def Qa{TT:Tbl}(e:Z[i]?=some (some u)):ev TT cf (d+1) (.var i) Z h=some (u,h):=by
 rw[QlV,e]
def QjE{f:Ev}{i:Int}(e:f a Z h=some (.int i 0,h1)):Zf T f Z (.rng a) h=if Qp (i*4)=true then some (.rng 0 i.toNat,h1)else none:=by
 simp only[Zf,e,Qy]
def Qi5{TT:Tbl}(e:ev TT cf d a Z h=some (.int (n:Int) 0,h1))(l:n<=1000000):Zf TT (ev TT cf d) Z (.rng a) h=some (.rng 0 n,h1):=by
 rw[QjE e,if_pos (Qoo l),Ue]
def QeY{l:List α}{x:α}(h:l[i]?=some x):l.set i x=l:=by
 obtain⟨lt,e⟩:=Xe.mp h;rw[<-e];exact List.set_getElem_self lt
def Qbp{t:Tg}{body:List S}{w:Wk}{r:Option (Fl×Rho×Hs)}(es:Zf T (ev T cf d) Z src hs=some (w,h1))(ef:YQ T w t (exs T cf d body) (Q6 T w h1) 0 Z h1=r):ex T cf (d+1) (.loop t src body) Z hs=r:=by
 rw[QiS,es,Qy,ef]
def dvj(h:(decide ((0:Int) < j)&&decide (j<1606938044258990275541962092341162602522202993782792835301376))=true):Qk5 (.int x 0) (.int j 0)=sI (x / j):=by
 simp only[Qk5];rw[if_pos h]
section

end
def Qns{j:Nat}:eqS (.ref i) (.ref j)=none:=rfl
section

end
def Qhr{P:α->β->Prop}{l:List α}{r:List β}(h:Paired P l r):Paired P l.reverse r.reverse:=Qgk h
def QlW:ev T cf (d+1) (.rev a) Z hs=bd (ev T cf d a Z hs) λu h1=>(match QT T u h1 with|some xs=>some (.ref h1.length,h1++[.lst xs.reverse])|none=>none):=by rw[ev]<;>rfl
instance:DecidableEq Nm:=inferInstanceAs (DecidableEq (Int×Int))
noncomputable def nmL(a:Nm):List Int:=[a.1,a.2]
noncomputable def QaT(off:List Nm):List Nm:=(L2.permK (if off.length<2 then []else off.map nmL) off.length).map λi=>off.getD i (0,0)
def Qhs{P:α->β->Prop}{x:α}{y:β}{l:List α}{r:List β}(h:Paired P l r)(i:Nat)(li:i<l.length):P (l.getD i x) (r.getD i y):=by
 obtain⟨b,e,q⟩:=Qab h (Xj li);rw[U2,U2,e,Xj li];exact q
theorem Qgj{α β:Type}{P:α->β->Prop}{x:α}{y:β}{l:List α}{r:List β}(h:Paired P l r):∀{is:List Nat},(∀i∈is,i<l.length)->Paired P (is.map λi=>l.getD i x) (is.map λi=>r.getD i y)
 |[],_=>.nil
 |i::is,m=>.cons (Qhs h i (m i Xw)) (Qgj h λj mj=>m j (Xp _ mj))
def QkO{nms:List Nm}(h:Paired (DN hs) us nms):Qib hs us=some (nms.map nmL):=by
 induction h with
 |nil=>rfl
 |cons h _ ih=>
  obtain⟨i,rfl,e⟩:=h;simp only[Qib,itU,e,Z4,ih,Option.map,Option.bind,X0,nmL]
def Qiq{f:α->β}{xs:List α}{a b:Option Int}:Qcv (xs.map f) a b=(Qcv xs a b).map f:=by
 unfold Qcv;rw[Xl,List.map_take,List.map_drop]
def Qlu{a b:Nat}{ys:List U}(ha:hs[a]?=some (.lst xs))(hb:hs[b]?=some (.lst ys))(l:xs.length+ys.length<=1000000):Qlv (.ref a) (.ref b) hs=some (.ref hs.length,hs++[.lst (xs++ys)]):=by
 simp only[Qlv,ha,hb,QnF,l,Wa]
def Qbq{b c:E}{h0 h4:Hs}{v x:U}(ea:ev T cf d a Z h0=some (u,h1))(eb:ev T cf d b Z h1=some (v,h2))(ec:ev T cf d c Z h2=some (w,h3))(ee:ev T cf d e Z h3=some (x,h4)):ev T cf (d+1) (.tup [a,b,c,e]) Z h0=some (.ref h4.length,h4++[.tup [u,v,w,x]]):=by
 simp only[QeH,evs,ea,eb,ec,ee,Qy]
def YI{TT:Tbl}(e:ev TT cf d a Z h=some (u,h1)):fin (exs TT cf (d+2) [.ret a] Z h)=some (u,h1):=by
 rw[Q9,QgL,e];rfl
section

def Rr(T:Tbl)(cf:Cf)(d:Nat)(e:E)(Z:Rho)(h:Hs)(Q:U->Hs->Prop):Prop:=∃u h1,ev T cf d e Z h=some (u,h1)/\Q u h1
def Xx(T:Tbl)(cf:Cf)(d:Nat)(ss:List S)(Z:Rho)(h:Hs)(Q:Fl->Rho->Hs->Prop):Prop:=∃f ρ1 h1,exs T cf d ss Z h=some (f,ρ1,h1)/\Q f ρ1 h1
def Cc(T:Tbl)(m f:Nat)(us:List U)(h:Hs)(Q:U->Hs->Prop):Prop:=∃u h1,Qd T m f us h=some (u,h1)/\Q u h1
def Fq(Q:U->Hs->Prop):Fl->Rho->Hs->Prop:=λf z h=>match f with
 |.next=>Q .non h
 |.ret u=>Q u h
 |_=>False
def Nq(T:Tbl)(cf:Cf)(d:Nat)(r:List S)(Q:Fl->Rho->Hs->Prop):Fl->Rho->Hs->Prop:=λf Z h=>match f with
 |.next=>Xx T cf d r Z h Q
 |f=>Q f Z h
def QcL{f:Nat}{b:List S}(e:Qd T (m+1) f us h=fin (exs T (Qd T m) dd b Z h))(x:Xx T (Qd T m) 100 b Z h (Fq Q)):Cc T (m+1) f us h Q:=by
 obtain⟨f,ρ1,h1,a,q⟩:=x
 cases f with
 |next=>exact⟨_,_,by rw[e,show dd=100 from rfl,a];rfl,q⟩
 |ret u=>exact⟨_,_,by rw[e,show dd=100 from rfl,a];rfl,q⟩
 |brk=>exact q.elim
 |cont=>exact q.elim
def Cc.mono{f:Nat}{Q':U->Hs->Prop}(c:Cc T m f us h Q)(k:∀u h1,Q u h1->Q' u h1):Cc T m f us h Q':=by obtain⟨u,h1,a,b⟩:=c;exact⟨u,h1,a,k u h1 b⟩
variable {r:List S}{Q:Fl->Rho->Hs->Prop}{G:U->Hs->Prop}
def Zb(q:Q .next Z h):Xx T cf (d+1) [] Z h Q:=⟨_,_,_,Je,q⟩
def QcH{st:S}(e:ex T cf d st Z h=some (.next,ρ1,h1))(q:Xx T cf d r ρ1 h1 Q):Xx T cf (d+1) (st::r) Z h Q:=by obtain⟨f,a,b,c,x⟩:=q;exact⟨f,a,b,by rw[Q9,e];exact c,x⟩
def ZP(q:Rr T cf d e Z h λz h1=>Xx T cf (d+1) r Z h1 Q):Xx T cf (d+2) (.expr e::r) Z h Q:=by obtain⟨u,h1,a,b⟩:=q;exact QcH (by rw[QiU,a,Qy]) b
def YN(q:Rr T cf d e Z h λu h1=>Q (.ret u) Z h1):Xx T cf (d+2) (.ret e::r) Z h Q:=by obtain⟨u,h1,a,b⟩:=q;exact⟨_,_,_,by rw[Q9,QgL,a,Qy],b⟩
def Jr{o i:E}{x k:U}{h4:Hs}(ee:ev T cf d e Z h=some (u,h1))(eo:ev T cf d o Z h1=some (x,h2))(ei:ev T cf d i Z h2=some (k,h3))(ep:QiL x k u h3=some h4)(q:Xx T cf (d+1) r Z h4 Q):Xx T cf (d+2) (.put o i e::r) Z h Q:=QcH (by rw[QlX,ee,Qy,eo,Qy,ei,Qy,ep];rfl) q
def QiK{t:E}{a b:List S}(e:evT T cf d t Z h=some (c,h1))(q:Xx T cf d (if c=true then a else b) Z h1 (Nq T cf (d+1) r Q)):Xx T cf (d+2) (.ite t a b::r) Z h Q:=by
 obtain⟨f,ρ1,h2,x,q⟩:=q
 have e1:ex T cf (d+1) (.ite t a b) Z h=some (f,ρ1,h2):=by rw[QcO,e,Qy];cases c<;>exact x
 cases f with
 |next=>exact QcH e1 q
 |ret u=>exact⟨_,_,_,by rw[Q9,e1],q⟩
 |brk=>exact⟨_,_,_,by rw[Q9,e1],q⟩
 |cont=>exact⟨_,_,_,by rw[Q9,e1],q⟩
def QbA{t:Tg}{body:List S}{w:Wk}(es:Zf T (ev T cf d) Z src h=some (w,h1))(q:∃ρ2 h2,YQ T w t (exs T cf d body) (Q6 T w h1) 0 Z h1=some (.next,ρ2,h2)/\Xx T cf (d+1) r ρ2 h2 Q):Xx T cf (d+2) (.loop t src body::r) Z h Q:=by obtain⟨_,_,a,b⟩:=q;exact QcH (Qbp es a) b
def YG(a:ev T cf d e Z h=some (u,h1))(q:G u h1):Rr T cf d e Z h G:=⟨_,_,a,q⟩
def YM{o:E}{h0:Hs}(a:ev T cf d o Z h=some (.ref p,h0))(hp:h0[p]?=some (.lst xs))(q:Rr T cf d e Z h0 λu h1=>∃ys,h1[p]?=some (.lst ys)/\ys.length<1000000/\G .non (h1.set p (.lst (ys++[u])))):Rr T cf (d+1) (.bm .append o [e]) Z h G:=by
 obtain⟨u,h1,b,ys,h2,l,g⟩:=q
 exact⟨_,_,by rw[QgN,a,Qy,if_pos (Qmv hp)];simp only[evs,b,Qy,QnV h2 l],g⟩
def ZN{f:Nat}(a:evs (ev T cf d) Z es h=some (us,h1))(b:cf f us h1=some (u,h2)):ev T cf (d+1) (.call f es) Z h=some (u,h2):=by rw[QiW,a,Qy,b]
def Zg{d':Nat}{ss:List S}{ρ':Rho}(e:exs T cf d ss Z h=exs T cf d' r ρ' h')(x:Xx T cf d' r ρ' h' Q):Xx T cf d ss Z h Q:=by obtain⟨a,b,c,x,q⟩:=x;exact⟨a,b,c,e.trans x,q⟩
def QE(a:ev T cf d e Z h=some (u,h1)):exs T cf (d+2) (.set i e::r) Z h=exs T cf (d+1) r (Z.set i (some u)) h1:=by rw[Q9,QiR,a,Qy]
def e_1(a:ev T cf d e Z h=some (u,h1)):evs (ev T cf d) Z [e] h=some ([u],h1):=by simp only[evs,a,Qy]
def Qi3{t:E}{a:List S}(e:evT T cf (d+1) t Z h=some (c,h1))(hc:c=false):ex T cf (d+2) (.ite t a []) Z h=some (.next,Z,h1):=QgQ (by rw[e,hc])
def Zv{t:E}{a:List S}(e:evT T cf (d+1) t Z h=some (c,h1))(hc:c=false):exs T cf (d+3) (.ite t a []::r) Z h=exs T cf (d+2) r Z h1:=JR (Qi3 e hc)
def JS{t:E}{b:List S}(et:evT T cf (d+2) t Z h=some (c,h1))(hc:c=true)(v:ev T cf d e Z h1=some (u,h2)):fin (exs T cf (d+4) (.ite t [.ret e] b::r) Z h)=some (u,h2):=by subst hc;rw[Q9,QcO,et,Qy,if_pos rfl,Q9,QgL,v,Qy];rfl
def JV(a:ev T cf d e Z h=some (.ref p,h1))(hp:h1[p]?=some (.lst xs)):ev T cf (d+1) (.bi .len [e]) Z h=some (.int xs.length 0,h1):=by rw[Qn5];simp only[evs,a,Qy,Qh1 hp]
def Q5{b:E}{v:U}(ea:ev T cf d a Z h=some (u,h1))(eb:ev T cf d b Z h1=some (v,h2)):ev T cf (d+1) (.tup [a,b]) Z h=some (.ref h2.length,h2++[.tup [u,v]]):=by rw[QeH];simp only[evs,ea,eb,Qy]
def Zx{b c:E}{v:U}(ea:ev T cf d a Z h=some (u,h1))(eb:ev T cf d b Z h1=some (v,h2))(ec:ev T cf d c Z h2=some (w,h3)):ev T cf (d+1) (.tup [a,b,c]) Z h=some (.ref h3.length,h3++[.tup [u,v,w]]):=by rw[QeH];simp only[evs,ea,eb,ec,Qy]
def JP{b:Bi}{x:Option (U×Hs)}(a:ev T cf d e Z h=some (u,h1))(eb:biU T b [u] h1=x):ev T cf (d+1) (.bi b [e]) Z h=x:=by rw[Qn5];simp only[evs,a,Qy,eb]
def QmQ(hj:(decide ((0:Int) < j)&&decide (j<1606938044258990275541962092341162602522202993782792835301376))=true):opU .FloorDiv (.int x 0) (.int j 0) h=some (.int (x / j) 0,h):=by show(Qk5 _ _).map _=_;rw[dvj hj];rfl
def QmP(hj:0<j):opU .Mod (.int x 0) (.int j 0) h=some (.int (x % j) 0,h):=by show(QkA _ _).map _=_;rw[md hj];rfl
def Qag:opU .Add (.int x 0) (.int j 0) h=some (.int (x+j) 0,h):=rfl
def Qkv:opU .Mult (.int 2 0) (.int x 0) h=some (.int (2*x) 0,h):=by simp only[opU,Qpr];rfl
def Qjc(ea:ev T cf (d+1) a Z h=some (.int x 0,h1))(hj:(decide ((0:Int) < j)&&decide (j<1606938044258990275541962092341162602522202993782792835301376))=true):ev T cf (d+2) (.op .FloorDiv a (.c (.int j 0))) Z h=some (.int (x / j) 0,h1):=Qbr ea y_c (QmQ hj)
def JU(ea:ev T cf (d+1) a Z h=some (.int x 0,h1))(hj:0<j):ev T cf (d+2) (.op .Mod a (.c (.int j 0))) Z h=some (.int (x % j) 0,h1):=Qbr ea y_c (QmP hj)
def Qjm{b:E}(ea:ev T cf d a Z h=some (.int x 0,h1))(eb:ev T cf d b Z h1=some (.int y 0,h2)):evT T cf (d+2) (.cmp .Gt a b) Z h=some (decide (y<x),h2):=QC ea eb rfl
def Qn6{b:E}(ea:ev T cf d a Z h=some (.int x 0,h1))(eb:ev T cf d b Z h1=some (.int y 0,h2)):evT T cf (d+2) (.cmp .Eq a b) Z h=some (decide (x=y),h2):=QC ea eb rfl
end
abbrev Vp:=Nat->O->Prop
def Le(P P':Vp):Prop:=∀i o,P i o->P' i o
noncomputable def ad(P:Vp)(j:Nat)(x:O):Vp:=λi o=>P i o\/(i=j/\o=x)
def Le.refl{P:Vp}:Le P P:=λz z h=>h
def Le.trans{P P1 P2:Vp}(a:Le P P1)(b:Le P1 P2):Le P P2:=λi o h=>b i o (a i o h)
def le_ad{P:Vp}{j:Nat}{x:O}:Le P (ad P j x):=λz z h=>.inl h
def Qm{P:Vp}{j:Nat}{x:O}:ad P j x j x:=.inr ⟨rfl,rfl⟩
structure Own(h:Hs)(C:List (Nat×O))(P:Vp):Prop where
 c:∀(k i:Nat) x,C[k]?=some (i,x)->h[i]?=some x
 nd:∀(k k' i:Nat) x x',C[k]?=some (i,x)->C[k']?=some (i,x')->k=k'
 p:∀i o,P i o->h[i]?=some o
 q:∀i o,P i o->∀(k:Nat) x,C[k]?≠some (i,x)
section
variable {P:Vp}{x y:O}
def Qbv{C:List α}{k k':Nat}{a b:α}(e:(C.set k a)[k']?=some b):(k'=k/\b=a)\/(k'≠k/\C[k']?=some b):=by
 by_cases z:k=k'
 ·subst z;rw[List.getElem?_set]at e;split at e
  ·split at e<;>cases e;exact .inl ⟨rfl,rfl⟩
  ·contradiction
 ·rw[X8 z]at e;exact .inr ⟨X9 z,e⟩
def Own.lt(o:Own h C P){k:Nat}(e:C[k]?=some (i,x)):i<h.length:=(Xe.mp (o.c _ _ _ e)).1
theorem Own.set(o:Own h C P)(k:Nat)(e:C[k]?=some (i,x)):Own (h.set i y) (C.set k (i,y)) P:=by
 have ne:∀(k' j:Nat) z,k'≠k->C[k']?=some (j,z)->i≠j:=λk' j z n a b=>n (o.nd _ _ _ _ _ a (b▸e));refine⟨λk' j z a=>?_,λk1 k2 j z1 z2 a b=>?_,λj z a=>?_,λj z a k' z' b=>?_⟩
 ·rcases Qbv a with⟨_,rfl,rfl⟩|⟨n,a⟩
  ·rw[Wh (o.lt e)]
  ·rw[X8 (ne _ _ _ n a)];exact o.c _ _ _ a
 ·rcases Qbv a with⟨e1,a⟩|⟨n1,a⟩<;>rcases Qbv b with⟨e2,b⟩|⟨n2,b⟩
  ·rw[e1,e2]
  ·cases a;exact absurd rfl (ne _ _ _ n2 b)
  ·cases b;exact absurd rfl (ne _ _ _ n1 a)
  ·exact o.nd _ _ _ _ _ a b
 ·rw[X8 (λz=>o.q _ _ a k x (by rw[<-z];exact e))];exact o.p _ _ a
 ·rcases Qbv b with⟨_,b⟩|⟨_,b⟩
  ·cases b;exact o.q _ _ a _ _ e
  ·exact o.q _ _ a _ _ b
def Own.add(o:Own h C P):Own (h++[y]) C (ad P h.length y):=by
 refine⟨λk j z a=>Zd (o.c _ _ _ a),o.nd,λj z a=>?_,λj z a k z' b=>?_⟩
 ·rcases a with a|⟨rfl,rfl⟩
  ·exact Zd (o.p _ _ a)
  ·exact at0
 ·rcases a with a|⟨rfl,rfl⟩
  ·exact o.q _ _ a _ _ b
  ·exact absurd (o.lt b) (W5 _)
def Own.new(o:Own h C P):Own (h++[y]) (C++[(h.length,y)]) P:=by
 have cs:∀(k j:Nat) z,(C++[(h.length,y)])[k]?=some (j,z)->C[k]?=some (j,z)\/(k=C.length/\j=h.length/\z=y):=λk j z a=>by
  rw[List.getElem?_append]at a;split at a
  ·exact .inl a
  ·rename_i n;have l:=(Xe.mp a).1
   have e:k=C.length:=by simp at l;lia
   subst e;simp at a;exact .inr ⟨rfl,a.1.symm,a.2.symm⟩
 refine⟨λk j z a=>?_,λk1 k2 j z1 z2 a b=>?_,λj z a=>Zd (o.p _ _ a),λj z a k z' b=>?_⟩
 ·rcases cs _ _ _ a with a|⟨_,rfl,rfl⟩
  ·exact Zd (o.c _ _ _ a)
  ·exact at0
 ·rcases cs _ _ _ a with a|⟨e1,f1,_⟩<;>rcases cs _ _ _ b with b|⟨e2,f2,_⟩
  ·exact o.nd _ _ _ _ _ a b
  ·subst f2;exact absurd (o.lt a) (W5 _)
  ·subst f1;exact absurd (o.lt b) (W5 _)
  ·rw[e1,e2]
 ·rcases cs _ _ _ b with b|⟨_,rfl,_⟩
  ·exact o.q _ _ a _ _ b
  ·exact absurd (Xe.mp (o.p _ _ a)).1 (W5 _)
end
theorem Qh0{T:Tbl}{w:Wk}{t:Tg}{body:Ex}(I:Nat->Rho->Hs->Prop){n:Nat}
  (st:∀i,i<n->∀Z hs,I i Z hs->∃x ρ' ρ2 h2,itm T w i hs=some (some x)/\tgt t x Z hs=some ρ'/\body ρ' hs=some (.next,ρ2,h2)/\I (i+1) ρ2 h2)
  (en:∀Z hs,I n Z hs->itm T w n hs=some none):
  ∀(m i k:Nat) (Z:Rho) (hs:Hs),n=i+m->m<k->I i Z hs->∃ρ2 h2,YQ T w t body k i Z hs=some (.next,ρ2,h2)/\I n ρ2 h2
 |m,i,0,Z,hs,e,l,h=>by lia
 |0,i,k+1,Z,hs,e,l,h=>by
  have e':n=i:=by lia
  subst e'
  exact⟨Z,hs,by simp only[YQ,en Z hs h],h⟩
 |m+1,i,k+1,Z,hs,e,l,h=>by
  obtain⟨x,ρ',ρ1,h1,a,b,c,d⟩:=st i (by lia) Z hs h
  obtain⟨ρ2,h2,g1,g2⟩:=Qh0 I st en m (i+1) k ρ1 h1 (by lia) (by lia) d
  exact⟨ρ2,h2,by simp only[YQ,a,b,c,g1],g2⟩
theorem Jb{T:Tbl}{f:Ev}{ft:Rho->Hs->Option (Bool×Hs)}{w:Wk}{el:E}{Z:Rho}(I:Nat->List U->Hs->Prop){n:Nat}
  (st:∀i,i<n->∀acc hs,I i acc hs->acc.length<1000000/\∃x b h1,itm T w i hs=some (some (.one x))/\ft (Z++[some x]) hs=some (b,h1)/\(b=true->∃u h2,f el (Z++[some x]) h1=some (u,h2)/\I (i+1) (acc++[u]) h2)/\(b=false->I (i+1) acc h1))
  (en:∀acc hs,I n acc hs->itm T w n hs=some none):
  ∀(m i k:Nat) (acc:List U) (hs:Hs),n=i+m->m<k->I i acc hs->∃us h2,Yv T f ft w false el Z k i acc hs=some (us,h2)/\I n us h2
 |m,i,0,acc,hs,e,l,h=>by lia
 |0,i,k+1,acc,hs,e,l,h=>by
  have e':n=i:=by lia
  subst e'
  exact⟨acc,hs,by simp only[Yv,en acc hs h],h⟩
 |m+1,i,k+1,acc,hs,e,l,h=>by
  obtain⟨la,x,b,h1,a,t,y,z⟩:=st i (by lia) acc hs h
  have sx:(Z++[none]).set Z.length (some x)=Z++[some x]:=by
   rw[Vo _ _ (Xm _),V1];rfl
  cases b with
  |true=>
   obtain⟨u,h2,c,d⟩:=y rfl
   obtain⟨us,h3,g1,g2⟩:=Jb I st en m (i+1) k _ h2 (by lia) (by lia) d
   refine⟨us,h3,?_,g2⟩;rw[Yv];simp only[a,tgt,tgN,QhK,Wr,Vh,la,Wa,sx,t,Qy,c,g1]
  |false=>
   obtain⟨us,h3,g1,g2⟩:=Jb I st en m (i+1) k _ h1 (by lia) (by lia) (z rfl)
   refine⟨us,h3,?_,g2⟩;rw[Yv];simp only[a,tgt,tgN,QhK,Wr,Vh,la,Wa,sx,t,Qy,g1]
def QaZ{P:α->β->Prop}{l:List α}{r:List β}(h:Paired P l r){b:β}(e:r[i]?=some b):∃a,l[i]?=some a/\P a b:=by
 induction h generalizing i with
 |nil=>cases e
 |cons x _ ih=>
  cases i with
  |zero=>cases(show some _=some _ from e);exact⟨_,rfl,x⟩
  |succ i=>exact ih e
def Qfr{R:U->α->Prop}{L:List α}{t:Tg}{body:Ex}(I:Nat->Rho->Hs->Prop)(pu:Paired R us L)(hl:∀i Z hs,I i Z hs->hs[l]?=some (.lst us))
  (st:∀i a v,L[i]?=some a->R v a->∀Z hs,I i Z hs->∃ρ' ρ2 h2,tgt t (.one v) Z hs=some ρ'/\body ρ' hs=some (.next,ρ2,h2)/\I (i+1) ρ2 h2) (h:I 0 Z hs):
  ∃ρ2 h2,YQ T (.seqL (.ref l)) t body (Q6 T (.seqL (.ref l)) hs) 0 Z hs=some (.next,ρ2,h2)/\I L.length ρ2 h2:=by
 have el:=pu.length
 have e:Q6 T (.seqL (.ref l)) hs=us.length+1:=by simp only[Q6,QT,hl _ _ _ h,Vx]
 rw[e]
 refine Qh0 I (λi hi Z hs h=>?_) (λZ hs h=>?_) L.length 0 _ Z hs (Vk _).symm (by lia) h
 ·obtain⟨v,hv,dv⟩:=QaZ pu (Xj hi);obtain⟨ρ',ρ2,h2,a,b,c⟩:=st i _ v (Xj hi) dv Z hs h
  exact⟨_,ρ',ρ2,h2,by simp only[itm,QT,hl _ _ _ h,Option.map,hv],a,b,c⟩
 ·have:us[L.length]?=none:=by rw[Wi];lia
  simp only[itm,QT,hl _ _ _ h,Option.map,this]
def Yc{R:U->α->Prop}{L:List α}(v:ev T cf d e Z h=some (.ref l,hs))(I:Nat->List U->Hs->Prop)(pu:Paired R us L)(ll:L.length<=900000)(hl:∀i acc hs,I i acc hs->hs[l]?=some (.lst us))
  (st:∀i a v,L[i]?=some a->R v a->∀acc hs,I i acc hs->∃u h2,ev T cf d el (Z++[some v]) hs=some (u,h2)/\I (i+1) (acc++[u]) h2) (h0:I 0 [] hs):
  ∃vs h2,ev T cf (d+1) (.comp (.seq e) false none el) Z h=some (.ref h2.length,h2++[O.lst vs])/\I L.length vs h2:=by
 have ln:=pu.length
 have tn:Q6 T (.seqL (.ref l)) hs=us.length+1:=by simp only[Q6,QT,hl _ _ _ h0,Vx]
 have sr:Zf T (ev T cf d) Z (.seq e) h=some (.seqL (.ref l),hs):=by simp only[Zf,v,Qy,wkS,QT,hl _ _ _ h0];rfl
 obtain⟨vs,h2,g,_,i2⟩:=Jb (T:=T) (f:=ev T cf d) (ft:=Qay (evT T cf d) none) (w:=.seqL (.ref l)) (el:=el) (Z:=Z) (λi acc h=>acc.length=i/\I i acc h) (n:=L.length)
  (λi hi acc hs h=>by
   obtain⟨v,hv,dv⟩:=QaZ pu (Xj hi);obtain⟨u,h2,b,c⟩:=st i _ v (Xj hi) dv acc hs h.2
   exact⟨by lia,v,true,hs,by simp only[itm,QT,hl _ _ _ h.2,Option.map,hv],rfl,λy=>⟨u,h2,b,by rw[Wq,h.1];rfl,c⟩,λz=>(by cases z)⟩)
  (λacc hs h=>by
   have:us[L.length]?=none:=by rw[Wi];lia
   simp only[itm,QT,hl _ _ _ h.2,Option.map,this]) L.length 0 (us.length+1) [] hs (Vk _).symm (by lia) ⟨rfl,h0⟩
 exact⟨vs,h2,Qbs sr (by rw[tn];exact g),i2⟩
noncomputable abbrev iU(i:Int):U:=.int i 0
noncomputable def dI(ks:List Int)(v:Int->U):List (U×U):=ks.map λk=>(iU k,v k)
noncomputable def pk(ks:List Int)(k:Int):List Int:=if k∈ks then ks else ks++[k]
noncomputable def up{α:Type}(v:Int->α)(k:Int)(u:α):Int->α:=λj=>if j=k then u else v j
def JQ{v:Int->α}{k:Int}{u:α}:up v k u k=u:=if_pos rfl
def YF{v:Int->α}{k:Int}{u:α}(h:j≠k):up v k u j=v j:=if_neg h
def QoC{i:Int}:decide (iU i=iU j)=decide (i=j):=by simp[iU]
def QbS:(dI ks v).length=ks.length:=Xl ..
def Qj5{k:Int}:(pk ks k).length<=ks.length+1:=by unfold pk;split<;>simp
def pk_mem{k:Int}:j∈pk ks k↔j∈ks\/j=k:=by
 unfold pk;split
 ·rename_i h;exact⟨.inl,λz=>z.elim id λe=>e▸h⟩
 ·simp
def Qj4{k:Int}(h:ks.Nodup):(pk ks k).Nodup:=by
 unfold pk;split
 ·exact h
 ·rename_i n;rw[Uu]
  exact⟨h,by simp,λa ha b hb e=>n (by simp at hb;rw[<-hb,<-e];exact ha)⟩
def Zr{k:Int}(h:k∉ks):pk ks k=ks++[k]:=if_neg h
def YY{k:Int}(h:k∈ks):pk ks k=ks:=if_pos h
theorem Qak{v:Int->U}{k:Int}:∀{ks:List Int},Z3 (dI ks v) (iU k)=if k∈ks then some (v k)else none
 |[]=>rfl
 |j::ks=>by
  have ih:=Qak (v:=v) (k:=k) (ks:=ks);unfold Z3 dI at *;rw[X0,Wx];dsimp only;rw[QoC];by_cases e:j=k
  ·subst e;simp
  ·have e':k≠j:=X9 e;rw[Xq e];dsimp only;rw[ih];simp[e']
def QbT{w:Int->U}(h:∀k∈ks,v k=w k):dI ks v=dI ks w:=Wt λk hk=>by rw[h k hk]
def Qhk{k:Int}:QeD (dI ks v) (iU k) u=dI (pk ks k) (up v k u):=by
 have ea:((dI ks v).any λp=>decide (p.1=iU k))=decide (k∈ks):=by
  unfold dI;rw[List.any_map,V6];simp only[List.any_eq_true,Function.comp,QoC,Xy];exact⟨λz=>by obtain⟨x,a,b⟩:=z;exact b▸a,λh=>⟨k,h,rfl⟩⟩
 unfold QeD;rw[ea];by_cases h:k∈ks
 ·rw[if_pos (X4 h),YY h];unfold dI;rw[T5];refine Wt λj y=>?_;by_cases e:j=k
  ·subst e;simp[up]
  ·simp[up,iU,e]
 ·rw[Xq h,if_neg Xh,Zr h];unfold dI;rw[X1]
  congr 1
  ·refine Wt λj hj=>?_
   rw[YF (λe:j=k=>h (by rw[<-e];exact hj))]
  ·simp[up]
section
variable {k:Int}{b:E}
def Dk(o:O)(kvs:List (U×U)):Prop:=o=.dic kvs\/o=.fzd kvs
def Qm9(hp:h[p]?=some o)(ho:Dk o (dI ks v)):YH T .In (iU k) (.ref p) h=some (decide (k∈ks)):=by
 rcases ho with rfl|rfl<;>(simp only[YH,Zp,hp,inD,JG,Qan,Wa,Qak,Option.map];by_cases e:k∈ks<;>simp[e])
def QgZ(hp:h[p]?=some o)(ho:Dk o (dI ks v))(hk:k∈ks):ZZ T (.ref p) (iU k) h=some (v k):=by
 rcases ho with rfl|rfl<;>(simp only[ZZ,hp,JG,Qan,Wa,Qak,hk];rfl)
def QkS(hp:h[p]?=some (.dic (dI ks v))):YH T .In (iU k) (.ref p) h=some (decide (k∈ks)):=Qm9 hp (.inl rfl)
def Qpq(hp:h[p]?=some (.dic (dI ks v))):YH T .NotIn (iU k) (.ref p) h=some (!decide (k∈ks)):=by
 simp only[YH,Zp,hp,inD,JG,Qan,Wa,Qak,Option.map];by_cases e:k∈ks<;>simp[e]
def YK(hp:h[p]?=some (.dic (dI ks v)))(hk:k∈ks):ZZ T (.ref p) (iU k) h=some (v k):=QgZ hp (.inl rfl) hk
def Zz(hp:h[p]?=some (.dic (dI ks v)))(l:ks.length<1000000):QiL (.ref p) (iU k) u h=some (h.set p (.dic (dI (pk ks k) (up v k u)))):=by
 have l':(dI ks v).length<1000000:=by rw[QbS];exact l
 simp only[QiL,hp,QfR,Qan,l',true_and,Wa,Qhk]
def QkU(hp:h[p]?=some (.dic (dI ks v))):bmU T .get (.ref p) [iU k,u] h=some (if k∈ks then v k else u,h):=by
 simp only[bmU,hp,bmD,Qan,Wa,Qak];by_cases e:k∈ks<;>simp[e]
def Qcc{b:Bm}{kvs:List (U×U)}(hp:h[p]?=some (.dic kvs))(hb:bD b=true):Qe7 b (.ref p) h=true:=by simp only[Qe7,hp,hb]
def QB{c f:Nat}{fs:List (Nat×U)}(hi:Z[i]?=some (sR q))(hq:h[q]?=some (.ins c fs))(hf:fs.lookup f=some u):ev T cf (d+2) (.fld (.var i) f) Z h=some (u,h):=by
 rw[ev,Qa hi,Qy];simp only[hq,hf,Option.map]
def QoU{m:Nat}{o:E}{es:List E}:ev T cf (d+1) (.meth m o es) Z h=bd (ev T cf d o Z h) λu h1=>match Qa9 T m u h1 with
   |some f=>bd (evs (ev T cf d) Z es h1) λus h2=>cf f (u::(us++QcI T f (us.length+1))) h2
   |none=>none:=rfl
def YE{c f:Nat}{fs:List (Nat×U)}{C:Cl}(hi:Z[i]?=some (sR q))(hq:h[q]?=some (.ins c fs))(hC:T.cls[c]?=some C)(hf:C.meths.lookup m=some f)(ha:evs (ev T cf (d+1)) Z es h=some (us,h2))(hz:T.dfl=[]):ev T cf (d+2) (.meth m (.var i) es) Z h=cf f (.ref q::us) h2:=by
 have e:Qa9 T m (.ref q) h=some f:=by
  unfold Qa9;simp only[hq,hC,hf]
 have ez:QcI T f (us.length+1)=[]:=by unfold QcI;rw[hz];rfl
 rw[QoU,Qa hi,Qy];simp only[e,ha,Qy,ez,Wd]
def e_2{a b:E}{u:U}{f:Ev}(x:f a Z h=some (u,h1))(y:f b Z h1=some (w,h2)):evs f Z [a,b] h=some ([u,w],h2):=by simp only[evs,x,y,Qy]
def e_3{a b c:E}{u z:U}{f:Ev}(x:f a Z h=some (u,h1))(y:f b Z h1=some (w,h2))(t:f c Z h2=some (z,h3)):evs f Z [a,b,c] h=some ([u,w,z],h3):=by simp only[evs,x,y,t,Qy]
def Ze{a b:E}{u r:U}(x:ev T cf d a Z h=some (u,h1))(y:ev T cf d b Z h1=some (w,h2))(s:ZZ T u w h2=some r):ev T cf (d+1) (.ix a b) Z h=some (r,h2):=by rw[QoV,x,Qy,y,Qy,s];rfl
def Zj{j:Nat}(ht:h[t]?=some (.tup us))(hj:us[j]?=some u):ZZ T (.ref t) (iU (j:Int)) h=some u:=by
 simp only[ZZ,ht];exact QnS hj
def QaS{j:Nat}(ht:h[t]?=some (.lst us))(hj:us[j]?=some u):ZZ T (.ref t) (iU (j:Int)) h=some u:=by
 simp only[ZZ,ht];exact QnS hj
def Qgz{e:E}{b:Bool}(n:Qdn e=true)(x:ev T cf d e Z h=some (.bl b,h1)):evT T cf (d+1) e Z h=some (b,h1):=by
 have z:evT T cf (d+1) e Z h=bd (ev T cf d e Z h) λu h1=>(YJ T u h1).map λc=>(c,h1):=by
  cases e<;>first|rfl|cases n
 rw[z,x,Qy];rfl
end
structure Ba where
 r:Nat
 n:Nat
 k:Nat
 o:Nat
 f:Nat
 l:Nat
 g:Nat
 p:Nat
noncomputable def bI(a:Ba):O:=.ins 0 [(0,.ref a.r),(1,.ref a.n),(2,.ref a.k),(3,.ref a.o),(4,.ref a.f),(5,.ref a.l),(6,.ref a.g),(7,.ref a.p)]
structure Bs where
 rows:List U
 nk:List Int
 nv:Int->U
 off:List U
 fk:List Int
 fv:Int->U
 lk:List Int
 gk:List Int
noncomputable def cF(F:List (U×U)->O)(b:Nat)(a:Ba)(S:Bs):List (Nat×O):=[(b,bI a),(a.r,.lst S.rows),(a.n,.dic (dI S.nk S.nv)),(a.k,.dic []),(a.o,.lst S.off),(a.f,F (dI S.fk S.fv)),(a.l,.dic (dI S.lk λz=>iU 1)),(a.g,.dic (dI S.gk λz=>.bl true)),(a.p,.dic [])]
noncomputable abbrev cB:=cF .dic
noncomputable abbrev pw:List Nat:=[112,105,108,101]
noncomputable abbrev nw:List Nat:=[110,101,119]
def Ql3{t b:E}{r:Option (U×Hs)}(x:evT T cf d t Z h=some (c,h1))(y:ev T cf d (if c=true then a else b) Z h1=r):ev T cf (d+1) (.ife t a b) Z h=r:=by
 rw[QlZ,x,Qy];cases c<;>exact y
def Qjd{b:E}{r:Option (U×Hs)}(x:ev T cf d a Z h=some (.bl c,h1))(y:(if c=true then ev T cf d b Z h1 else some (.bl false,h1))=r):ev T cf (d+1) (.and a b) Z h=r:=by
 rw[QiX,x,Qy];cases c<;>exact y
def QiF{b:E}{r:Option (Bool×Hs)}(x:evT T cf d a Z h=some (c,h1))(y:(if c=true then some (true,h1)else evT T cf d b Z h1)=r):evT T cf (d+1) (.or a b) Z h=r:=by
 rw[Ql1,x,Qy];cases c<;>exact y
def Ye(x:evT T cf d a Z h=some (c,h1)):evT T cf (d+1) (.not a) Z h=some (!c,h1):=by rw[QiZ,x,Qy]
def Own.setA{A:List (Nat×O)}{P:Vp}{k:Nat}{x y:O}(o:Own h (A++C) P)(e:C[k]?=some (i,x)):Own (h.set i y) (A++C.set k (i,y)) P:=by
 have:=o.set (y:=y) (A.length+k) (by rw[Xv (Ui _ _),Vv];exact e)
 rw[Vo _ _ (Ui _ _),Vv]at this;exact this
section
variable {F:List (U×U)->O}{b:Nat}{a:Ba}{S:Bs}{P:Vp}{k:Int}
def QnH(hF:∀l,Dk (F l) l)(o:Own h (cF F b a S++C) P)(hk:k∉S.fk):Qd (tbG xx s) (n+1) 3 [.ref b,iU k] h=some (.non,h):=by
 rw[Ql fnL[3] rfl rfl];refine YI (d:=98) (Ql3 (QC (d:=95) (Qa rfl) (QB rfl (o.c 0 _ _ rfl) rfl) (Qm9 (o.c 5 _ _ rfl) (hF _))) ?_);rw[Xq hk];exact y_c
def JM{w:List Nat}{r:List U}(hF:∀l,Dk (F l) l)(o:Own h (cF F b a S++C) P)(hk:k∈S.fk)(ht:S.fv k=.ref t)(hw:h[t]?=some (.tup (.str w::r))):Qd (tbG xx s) (n+1) 3 [.ref b,iU k] h=some (.str w,h):=by
 rw[Ql fnL[3] rfl rfl];refine YI (d:=98) (Ql3 (QC (d:=95) (Qa rfl) (QB rfl (o.c 0 _ _ rfl) rfl) (Qm9 (o.c 5 _ _ rfl) (hF _))) ?_);rw[X4 hk]
 exact Ze (d:=96) (Ze (QB rfl (o.c 0 _ _ rfl) rfl) (Qa rfl) (by rw[QgZ (o.c 5 _ _ rfl) (hF _) hk,ht])) y_c (Zj (j:=0) hw rfl)
def dkD(l:List (U×U)):Dk (.dic l) l:=.inl rfl
def Qit(o:Own h (cB b a S++C) P):Qd (tbG xx s) (n+1) 4 [.ref b,iU k] h=some (.bl (decide (k∈S.nk)&&!decide (k∈S.gk)),h):=by
 rw[Ql fnL[4] rfl rfl];refine YI (d:=98) (Qjd (Ji (Qa rfl) (QB rfl (o.c 0 _ _ rfl) rfl) (QkS (o.c 2 _ _ rfl))) ?_);by_cases e:k∈S.nk
 ·rw[X4 e,if_pos rfl,Bool.true_and];exact Ji (Qa rfl) (QB rfl (o.c 0 _ _ rfl) rfl) (Qpq (o.c 7 _ _ rfl))
 ·rw[Xq e,if_neg Xh,Bool.false_and]
end
theorem QdR{v:Int->U}{k:Int}:∀{ks:List Int},Qck (dI ks v) (iU k)=if k∈ks then some (v k)else none
 |[]=>rfl
 |j::ks=>by
  have ih:=QdR (v:=v) (k:=k) (ks:=ks);unfold dI at *;rw[X0,Qck,ih];by_cases e:j=k
  ·subst e;simp
  ·have e':k≠j:=X9 e;simp[iU,e,e']
section
variable {k:Int}
def QjA(hp:h[p]?=some (.dic (dI ks v)))(l:ks.length<1000000)(hk:k∉ks):bmU T .setdef (.ref p) [iU k,u] h=some (u,h.set p (.dic (dI (pk ks k) (up v k u)))):=by
 have l':(dI ks v).length<1000000:=by rw[QbS];exact l
 have e:dI ks v++[(iU k,u)]=dI (pk ks k) (up v k u):=by rw[<-Qhk,QeD,if_neg];simp[dI,iU];exact hk
 simp only[bmU,hp,bmD,Qan,l',true_and,Wa,QdR,if_neg hk,e]
def Qjz(hp:h[p]?=some (.dic (dI ks v)))(l:ks.length<1000000)(hk:k∈ks):bmU T .setdef (.ref p) [iU k,u] h=some (v k,h):=by
 have l':(dI ks v).length<1000000:=by rw[QbS];exact l
 simp only[bmU,hp,bmD,Qan,l',true_and,Wa,QdR,if_pos hk]
def Qpv{xs:List Int}(hp:h[p]?=some (.lst (xs.map iU))):YH T .In (iU k) (.ref p) h=some (decide (k∈xs)):=by
 have e1:(xs.map iU).all YS=true:=by simp[YS,iU]
 have e2:((xs.map iU).any λy=>eqF y (iU k))=decide (k∈xs):=by
  rw[List.any_map,V6];simp only[List.any_eq_true,Function.comp,eqF,Xy];exact⟨λz=>by obtain⟨x,a,b⟩:=z;exact b▸a,λh=>⟨k,h,rfl⟩⟩
 simp only[YH,Zp,hp,inU,YS,e1,Bool.and_self,Wa,e2]
end
noncomputable def Cq(fk:List Int)(q:Int->Nat)(pl:Int->List Int):List (Nat×O):=fk.map λk=>(q k,.lst ((pl k).map iU))
structure LP(b:Nat)(a:Ba)(S:Bs)(q:Int->Nat)(pl:Int->List Int)(P:Vp)(h:Hs):Prop where
 ow:Own h (cB b a S++Cq S.fk q pl) P
 ts:∀k∈S.fk,∃t,S.fv k=.ref t/\P t (.tup [.str pw,.ref (q k)])
 nd:S.fk.Nodup
 no:∀k,k∉S.fk->pl k=[]
theorem QgE{q:Int->Nat}{pl:Int->List Int}{f:Int}{xs:List Int}:∀{fk:List Int},fk.Nodup->f∈fk->∃k,(Cq fk q pl)[k]?=some (q f,.lst ((pl f).map iU))/\(Cq fk q pl).set k (q f,.lst (xs.map iU))=Cq fk q (up pl f xs)
 |[],_,h=>by cases h
 |j::fk,nd,h=>by
  by_cases e:j=f
  ·subst e;refine⟨0,rfl,?_⟩;unfold Cq;rw[X0,Wy,X0,JQ]
   congr 1
   refine Wt λi hi=>?_;rw[YF λz:i=j=>(Vt.mp nd).1 (z▸hi)]
  ·have hf:f∈fk:=(X5.mp h).resolve_left (X9 e);obtain⟨k,a,b⟩:=QgE (q:=q) (pl:=pl) (xs:=xs) (Vt.mp nd).2 hf;refine⟨k+1,a,?_⟩;show(q j,_)::(Cq fk q pl).set k _=_;rw[b];show _=(q j,O.lst ((up pl f xs j).map iU))::_;rw[YF e];rfl
def Qla{q:Int->Nat}{xs:List Int}{fk:List Int}(hf:f∉fk):Cq fk q pl++[(p,.lst (xs.map iU))]=Cq (fk++[f]) (up q f p) (up pl f xs):=by
 unfold Cq;rw[X1]
 congr 1
 ·refine Wt λi hi=>?_;have e:i≠f:=λz=>hf (z▸hi);rw[YF e,YF e]
 ·show _=[(up q f p f,O.lst ((up pl f xs f).map iU))];rw[JQ,JQ]
section
variable {b:Nat}{a:Ba}{S:Bs}{q:Int->Nat}{P:Vp}
noncomputable def Qpt:List Iv.S:=[(.ite (.cmp .In (.var 1) (.var 3)) [(.ret (.c (.bl false)))] []),(.expr (.bm .append (.var 3) [(.var 1)])),(.put (.fld (.var 0) 5) (.var 1) (.op .Add (.bm .get (.fld (.var 0) 5) [(.var 1),(.c (.int 0 0))]) (.c (.int 1 0)))),(.ret (.c (.bl true)))]
def QkC{xs:List Int}(o:Own h (cB b a S++C) P){k:Nat}(e:C[k]?=some (p,.lst (xs.map iU)))(hx:x∉xs)(lx:xs.length<1000000)(hl:x∉S.lk)(ll:S.lk.length<1000000)
  (g:∀h1,Own h1 (cB b a {S with lk:=S.lk++[x]}++C.set k (p,.lst ((xs++[x]).map iU))) P->Q (.bl true) h1):Xx T cf 98 Qpt [sR b,some (iU x),some (iU f),sR p] h (Fq Q):=by
 have hp:h[p]?=some (.lst (xs.map iU)):=o.c (9+k) _ _ (by
  rw[Xv (show 9<=9+k by lia)]
  rw[show 9+k-(cB b a S).length=k from Vv 9 k]
  exact e)
 refine Zg (Zv (QC (d:=94) (Qa rfl) (Qa rfl) (Qpv hp)) (Xq hx)) ?_;have o1:=o.setA (y:=.lst ((xs++[x]).map iU)) e
 refine ZP (YM (Qa rfl) hp (YG (Qa rfl) ⟨_,hp,by simpa using lx,?_⟩))
 rw[show xs.map iU++[iU x]=(xs++[x]).map iU by rw[X1];rfl]
 have vg:ev T cf 93 (.bm .get (.fld (.var 0) 5) [(.var 1),(.c (.int 0 0))]) [sR b,some (iU x),some (iU f),sR p] (h.set p (.lst ((xs++[x]).map iU)))=some (iU 0,h.set p (.lst ((xs++[x]).map iU))):=by
  rw[QgN,QB rfl (o1.c 0 _ _ rfl) rfl,Qy,if_pos (Qcc (o1.c 6 _ _ rfl) rfl),e_2 (Qa rfl) y_c,Qy,QkU (o1.c 6 _ _ rfl),if_neg hl]
 refine Jr (Qbr vg y_c Qag) (QB rfl (o1.c 0 _ _ rfl) rfl) (Qa rfl) (Zz (o1.c 6 _ _ rfl) ll) (YN (YG y_c (g _ ?_)));have o2:=o1.set (y:=.dic (dI (S.lk++[x]) λz=>iU 1)) 6 rfl
 rw[Zr hl,QbT (w:=λz=>iU 1) λk z=>by unfold up;split<;>rfl]
 exact o2
noncomputable def hyA(h:Hs):Hs:=h++[.tup [.non,.str pw]]
noncomputable def hyB(h:Hs):Hs:=hyA h++[.lst []]
noncomputable def hyC(h:Hs):Hs:=hyB h++[.tup [.str pw,.ref (hyA h).length]]
def QnM(L:LP b a S q pl P h)(h1:x∈S.nk)(h2:x∉S.gk)(h3:x∉S.lk)(h4:x∉pl f)(l1:S.fk.length<1000000)(l2:S.lk.length<1000000)(l3:(pl f).length<1000000):
  Cc (tbG xx s) (n+2) 5 [.ref b,iU x,iU f] h λu h'=>u=.bl true/\∃P' fv' q',Le P P'/\LP b a {S with fk:=pk S.fk f,fv:=fv',lk:=S.lk++[x]} q' (up pl f (pl f++[x])) P' h':=by
 have o:=L.ow;have o1:Own (hyA h) _ _:=o.add (y:=.tup [.non,.str pw])
 have t1:evT (tbG xx s) (Qd (tbG xx s) (n+1)) 98 (.or (.not (.meth 3 (.var 0) [(.var 1)])) (.cmp .NotIn (.meth 2 (.var 0) [(.var 2)]) (.tup [(.c .non),(.c (.str [112,105,108,101]))]))) [sR b,some (iU x),some (iU f),none] h=some (false,hyA h):=by
  refine QiF (c:=false) (h1:=h) (Ye (c:=true) (Qgz rfl ?_)) ?_
  ·refine(YE (d:=93) (es:=[.var 1]) rfl (o.c 0 _ _ rfl) rfl rfl (e_1 (Qa rfl)) rfl).trans ?_;rw[Qit o,X4 h1,Xq h2];rfl
  rw[if_neg Xh]
  have fin:∀w,(w=U.non\/w=.str pw)->Qd (tbG xx s) (n+1) 3 [.ref b,iU f] h=some (w,h)->evT (tbG xx s) (Qd (tbG xx s) (n+1)) 97 (.cmp .NotIn (.meth 2 (.var 0) [(.var 2)]) (.tup [(.c .non),(.c (.str [112,105,108,101]))])) [sR b,some (iU x),some (iU f),none] h=some (false,hyA h):=λw hw e=>by
   refine QC (d:=95) (u:=w) (w:=.ref h.length) ((YE (d:=93) (es:=[.var 2]) rfl (o.c 0 _ _ rfl) rfl rfl (e_1 (Qa rfl)) rfl).trans e) (Q5 y_c y_c) ?_;have hh:(hyA h)[h.length]?=some (.tup [.non,.str pw]):=at0
   rcases hw with rfl|rfl<;>(simp only[YH,Zp,hh];rfl)
  by_cases hf:f∈S.fk
  ·obtain⟨t,e,z⟩:=L.ts f hf;exact fin _ (.inr rfl) (JM dkD o hf e (o.p _ _ z))
  ·exact fin _ (.inl rfl) (QnH dkD o hf)
 refine QcL (Ql fnL[5] rfl rfl) (Zg (Zv (d:=97) t1 rfl) ?_);have o2:Own (hyB h) _ _:=o1.new (y:=.lst []);have o3:Own (hyC h) _ _:=o2.add (y:=.tup [.str pw,.ref (hyA h).length])
 have va:evs (ev (tbG xx s) (Qd (tbG xx s) (n+1)) 95) [sR b,some (iU x),some (iU f),none] [(.var 2),(.tup [(.c (.str [112,105,108,101])),(.lst [])])] (hyA h)=some ([iU f,.ref (hyB h).length],hyC h):=e_2 (Qa rfl) (Q5 y_c (by rw[Zs];rfl))
 by_cases hf:f∈S.fk
 ·obtain⟨t,e,z⟩:=L.ts f hf
  have vs:ev (tbG xx s) (Qd (tbG xx s) (n+1)) 97 (.ix (.bm .setdef (.fld (.var 0) 4) [(.var 2),(.tup [(.c (.str [112,105,108,101])),(.lst [])])]) (.c (.int 1 0))) [sR b,some (iU x),some (iU f),none] (hyA h)=some (.ref (q f),hyC h):=by
   refine Ze (u:=.ref t) ?_ y_c (Zj (j:=1) (o3.p _ _ (.inl (.inl z))) rfl);rw[QgN,QB rfl (o1.c 0 _ _ rfl) rfl,Qy,if_pos (Qcc (o1.c 5 _ _ rfl) rfl),va,Qy,Qjz (o3.c 5 _ _ rfl) l1 hf,e]
  refine Zg (QE vs) ?_;obtain⟨k,ck,cs⟩:=QgE (q:=q) (pl:=pl) (xs:=pl f++[x]) L.nd hf;obtain⟨P4,l4,o4⟩:∃P4,Le P P4/\Own (hyC h) (cB b a S++Cq S.fk q pl) P4:=⟨_,(le_ad.trans le_ad).trans le_ad,((o.add (y:=.tup [.non,.str pw])).add (y:=.lst [])).add (y:=.tup [.str pw,.ref (hyA h).length])⟩;refine QkC o4 ck h4 l3 h3 l2 λh' o5=>⟨rfl,P4,S.fv,q,l4,?_,?_,?_,?_⟩
  ·rw[cs]at o5;rw[YY hf];exact o5
  ·intro k hk;rw[YY hf]at hk;obtain⟨t,e,z⟩:=L.ts k hk;exact⟨t,e,l4 _ _ z⟩
  ·rw[YY hf];exact L.nd
  ·intro k hk;rw[YY hf]at hk;rw[YF λz:k=f=>hk (z▸hf)];exact L.no k hk
 ·have vs:ev (tbG xx s) (Qd (tbG xx s) (n+1)) 97 (.ix (.bm .setdef (.fld (.var 0) 4) [(.var 2),(.tup [(.c (.str [112,105,108,101])),(.lst [])])]) (.c (.int 1 0))) [sR b,some (iU x),some (iU f),none] (hyA h)=some (.ref (hyA h).length,(hyC h).set a.f (.dic (dI (pk S.fk f) (up S.fv f (.ref (hyB h).length))))):=by
   have o4:=o3.set (y:=.dic (dI (pk S.fk f) (up S.fv f (.ref (hyB h).length)))) 5 rfl;refine Ze (u:=.ref (hyB h).length) ?_ y_c (Zj (j:=1) (o4.p _ _ Qm) rfl);rw[QgN,QB rfl (o1.c 0 _ _ rfl) rfl,Qy,if_pos (Qcc (o1.c 5 _ _ rfl) rfl),va,Qy,QjA (o3.c 5 _ _ rfl) l1 hf]
  refine Zg (QE vs) ?_;have e0:=L.no f hf;have o4:=o3.set (y:=.dic (dI (pk S.fk f) (up S.fv f (.ref (hyB h).length)))) 5 rfl
  obtain⟨P5,l5,t5,o5⟩:∃P5,Le P P5/\P5 (hyB h).length (.tup [.str pw,.ref (hyA h).length])/\Own ((hyC h).set a.f (.dic (dI (pk S.fk f) (up S.fv f (.ref (hyB h).length))))) (cB b a {S with fk:=pk S.fk f,fv:=up S.fv f (.ref (hyB h).length)}++(Cq S.fk q pl++[((hyA h).length,.lst (([]:List Int).map iU))])) P5:=⟨_,le_ad.trans le_ad,Qm,by
   rw[<-Wp]
   exact o4⟩
  refine QkC o5 (k:=(Cq S.fk q pl).length) (by rw[Xv (Xm _),V1];rfl) (by simp) (by decide) h3 l2 λh' o6=>⟨rfl,P5,up S.fv f (.ref (hyB h).length),up q f (hyA h).length,l5,?_,?_,?_,?_⟩
  ·rw[Vo _ _ (Xm _),V1,Wy,Qla hf]at o6;rw[e0,Zr hf];rw[Zr hf]at o6;exact o6
  ·intro k hk;by_cases e:k=f
   ·subst e
    exact⟨_,JQ,by rw[JQ];exact t5⟩
   ·have hk':k∈S.fk:=(pk_mem.mp hk).resolve_right e;obtain⟨t,e1,z⟩:=L.ts k hk'
    exact⟨t,(YF e).trans e1,by rw[YF e];exact l5 _ _ z⟩
  ·exact Qj4 L.nd
  ·intro k hk;have:=λz=>hk (pk_mem.mpr z);rw[YF λz:k=f=>this (.inr z)];exact L.no k λz=>this (.inl z)
end
section
variable {A:List (Nat×O)}{P:Vp}
noncomputable def lkP(P:Vp)(C:List (Nat×O)):Vp:=λi o=>P i o\/(i,o)∈C
def Own.lock(o:Own h (A++C) P):Own h A (lkP P C):=by
 refine⟨λk i x e=>o.c k i x ?_,λk k' i x x' e e'=>o.nd k k' i x x' ?_ ?_,λi x z=>?_,λi x z k y e=>?_⟩
 ·rw[Xu (Xe.mp e).1];exact e
 ·rw[Xu (Xe.mp e).1];exact e
 ·rw[Xu (Xe.mp e').1];exact e'
 ·rcases z with z|z
  ·exact o.p _ _ z
  ·obtain⟨k,hk⟩:=Vc z
   exact o.c (A.length+k) _ _ (by rw[Xv (Ui _ _),Vv];exact hk)
 ·have e1:(A++C)[k]?=some (i,y):=by rw[Xu (Xe.mp e).1];exact e
  rcases z with z|z
  ·exact o.q _ _ z _ _ e1
  ·obtain⟨j,hj⟩:=Vc z
   have e2:(A++C)[A.length+j]?=some (i,x):=by rw[Xv (Ui _ _),Vv];exact hj
   have:=o.nd _ _ _ _ _ e1 e2;have:=(Xe.mp e).1;lia
def Own.pick(o:Own h C P)(is:List Nat)(nd:is.Nodup)(lt:∀j∈is,j<C.length):Own h (is.map λj=>C[j]!) P:=by
 have g:∀(k:Nat) z,(is.map λj=>C[j]!)[k]?=some z->∃j,is[k]?=some j/\C[j]?=some z:=λk z e=>by
  rw[Vg,Xd]at e;obtain⟨j,hj,e⟩:=e;have l:=lt j (Xr hj);refine⟨j,hj,?_⟩;rw[<-e,Xj l,getElem!_pos C j l]
 refine⟨λk i x e=>by obtain⟨_,_,e⟩:=g k _ e;exact o.c _ i x e,λk k' i x x' e e'=>?_,o.p,λi x z k y e=>by obtain⟨_,_,e⟩:=g k _ e;exact o.q i x z _ y e⟩;obtain⟨j,hj,e⟩:=g k _ e;obtain⟨j',hj',e'⟩:=g k' _ e';have ej:=o.nd _ _ _ _ _ e e';subst ej;obtain⟨l1,q1⟩:=Xe.mp hj;obtain⟨l2,q2⟩:=Xe.mp hj';exact(Uy nd).mp (q1.trans q2.symm)
end
section
variable {b:Nat}{a:Ba}{S:Bs}{P:Vp}{k:Int}
def QnI(o:Own h (cB b a S++C) P)(h1:x∈S.nk)(h2:x∉S.gk)(h3:x∉S.lk)(l1:S.gk.length<1000000)(l2:S.off.length<1000000):
  Cc (tbG xx s) (n+3) 8 [.ref b,iU x] h λu h'=>u=.bl true/\Own h' (cB b a {S with gk:=S.gk++[x],off:=S.off++[S.nv x]}++C) P:=by
 refine QcL (Ql fnL[8] rfl rfl) (YN ?_)
 have c:Cc (tbG xx s) (n+2) 10 [.ref b,iU x,.ref a.o] h λu h'=>u=.bl true/\Own h' (cB b a {S with gk:=S.gk++[x],off:=S.off++[S.nv x]}++C) P:=by
  have t1:evT (tbG xx s) (Qd (tbG xx s) (n+1)) 98 (.or (.not (.meth 3 (.var 0) [(.var 1)])) (.cmp .In (.var 1) (.fld (.var 0) 5))) [sR b,some (iU x),sR a.o] h=some (false,h):=by
   refine QiF (c:=false) (h1:=h) (Ye (c:=true) (Qgz rfl ?_)) ?_
   ·refine(YE (d:=93) (es:=[.var 1]) rfl (o.c 0 _ _ rfl) rfl rfl (e_1 (Qa rfl)) rfl).trans ?_;rw[Qit o,X4 h1,Xq h2];rfl
   rw[if_neg Xh,QC (d:=95) (Qa rfl) (QB rfl (o.c 0 _ _ rfl) rfl) (QkS (o.c 6 _ _ rfl)),Xq h3]
  refine QcL (Ql fnL[10] rfl rfl) (Zg (Zv (d:=97) t1 rfl) ?_);have o1:=o.set (y:=.dic (dI (S.gk++[x]) λz=>.bl true)) 7 rfl;refine Jr y_c (QB rfl (o.c 0 _ _ rfl) rfl) (Qa rfl) (Zz (o.c 7 _ _ rfl) l1) ?_
  rw[Zr h2,QbT (w:=λz=>.bl true) λk z=>by unfold up;split<;>rfl]
  have vx:ev (tbG xx s) (Qd (tbG xx s) (n+1)) 95 (.ix (.fld (.var 0) 1) (.var 1)) [sR b,some (iU x),sR a.o] (h.set a.g (.dic (dI (S.gk++[x]) λz=>.bl true)))=some (S.nv x,h.set a.g (.dic (dI (S.gk++[x]) λz=>.bl true))):=Ze (QB rfl (o1.c 0 _ _ rfl) rfl) (Qa rfl) (YK (o1.c 2 _ _ rfl) h1);exact ZP (YM (Qa rfl) (o1.c 4 _ _ rfl) (YG vx ⟨_,o1.c 4 _ _ rfl,l2,YN (YG y_c ⟨rfl,o1.set (y:=.lst (S.off++[S.nv x])) 4 rfl⟩)⟩))
 obtain⟨u,h',e,q⟩:=c;refine⟨u,h',?_,q⟩;rw[YE (d:=96) rfl (o.c 0 _ _ rfl) rfl rfl (e_2 (Qa rfl) (QB rfl (o.c 0 _ _ rfl) rfl)) rfl];exact e
def Qlj{l:List Int}{sd lf:Int}(o:Own h (cB b a S) P)(hk:k∈S.fk)(ht:S.fv k=.ref t)(pt:P t (.tup [.str pw,.ref q]))(pq:P q (.lst (l.map iU)))(hl:∀y∈l,y∈S.nk)(ll:l.length<=900000)(l1:S.fk.length<1000000):
  Cc (tbG xx s) (n+2) 6 [.ref b,iU k,iU sd,iU lf] h λu h'=>u=.bl true/\∃P' t' w j,Le P P'/\P' t' (.tup [.str nw,.ref w])/\P' w (.tup [.ref j,iU sd,iU lf])/\P' j (.tup (l.map S.nv))/\Own h' (cB b a {S with fv:=up S.fv k (.ref t')}) P':=by
 have oo:Own h (cB b a S++[]) P:=by rw[Wd];exact o
 have e0:evT (tbG xx s) (Qd (tbG xx s) (n+1)) 98 (.cmp .NotEq (.meth 2 (.var 0) [(.var 1)]) (.c (.str [112,105,108,101]))) [sR b,some (iU k),some (iU sd),some (iU lf),none] h=some (false,h):=QC (d:=96) (u:=.str pw) ((YE (d:=94) (es:=[.var 1]) rfl (o.c 0 _ _ rfl) rfl rfl (e_1 (Qa rfl)) rfl).trans (JM dkD oo hk ht (o.p _ _ pt))) y_c rfl;refine QcL (Ql fnL[6] rfl rfl) (Zg (Zv (d:=97) e0 rfl) ?_)
 have vq:∀d,ev (tbG xx s) (Qd (tbG xx s) (n+1)) (d+4) (.ix (.ix (.fld (.var 0) 4) (.var 1)) (.c (.int 1 0))) [sR b,some (iU k),some (iU sd),some (iU lf),none] h=some (.ref q,h):=λd=>Ze (Ze (QB rfl (o.c 0 _ _ rfl) rfl) (Qa rfl) (by rw[YK (o.c 5 _ _ rfl) hk,ht])) y_c (Zj (j:=1) (o.p _ _ pt) rfl)
 obtain⟨vs,h2,ev2,eh,ea⟩:=Yc (R:=λu y=>u=iU y) (L:=l) (us:=l.map iU) (el:=.ix (.fld (.var 0) 1) (.var 5)) (vq 91) (λi acc hs=>hs=h/\acc=(l.take i).map S.nv) (by clear hl ll pq vq;induction l with|nil=>exact .nil|cons y l ih=>exact .cons rfl ih) ll (λi acc hs z=>by rw[z.1];exact o.p _ _ pq)
  (λi y v hy ev acc hs z=>by
   obtain⟨rfl,rfl⟩:=z;subst ev;refine⟨S.nv y,_,Ze (d:=94) (QB rfl (o.c 0 _ _ rfl) rfl) (Qa rfl) (YK (o.c 2 _ _ rfl) (hl y (Xr hy))),rfl,?_⟩
   rw[Tl,hy];simp) ⟨rfl,rfl⟩
 rw[eh,ea,W2]at ev2;clear eh ea;have o1:=o.add (y:=.lst (l.map S.nv));have o2:=o1.add (y:=.tup (l.map S.nv));refine Zg (QE (JP ev2 (Qjh at0))) ?_;have o3:=o2.add (y:=.tup [.ref (h++[O.lst (l.map S.nv)]).length,iU sd,iU lf]);have o4:=o3.add (y:=.tup [.str nw,.ref (h++[O.lst (l.map S.nv)]++[O.tup (l.map S.nv)]).length]);obtain⟨P4,l4,f1,f2,f3,o4⟩:∃P4,Le P P4/\P4 (h++[O.lst (l.map S.nv)]++[O.tup (l.map S.nv)]++[O.tup [.ref (h++[O.lst (l.map S.nv)]).length,iU sd,iU lf]]).length (.tup [.str nw,.ref (h++[O.lst (l.map S.nv)]++[O.tup (l.map S.nv)]).length])/\P4 (h++[O.lst (l.map S.nv)]++[O.tup (l.map S.nv)]).length (.tup [.ref (h++[O.lst (l.map S.nv)]).length,iU sd,iU lf])/\P4 (h++[O.lst (l.map S.nv)]).length (.tup (l.map S.nv))/\Own _ _ P4:=⟨_,((le_ad.trans le_ad).trans le_ad).trans le_ad,Qm,.inl Qm,.inl (.inl Qm),o4⟩;refine Jr (Q5 y_c (Zx (Qa rfl) (Qa rfl) (Qa rfl))) (QB rfl (o4.c 0 _ _ rfl) rfl) (Qa rfl) (Zz (o4.c 5 _ _ rfl) l1) (YN (YG y_c ⟨rfl,P4,_,_,_,l4,f1,f2,f3,?_⟩));rw[YY hk];exact o4.set 5 rfl
end
def dN(P:Vp)(u:U)(a:Nm):Prop:=∃i,u=.ref i/\P i (.tup (nmK a))
def dL(P:Vp)(u:U)(a:Lp):Prop:=∃i j us,u=.ref i/\P i (.tup [.ref j,.int a.sd 0,.int a.lf 0])/\P j (.tup us)/\Paired (dN P) us a.ps
def dN.le{P P1:Vp}(l:Le P P1){a:Nm}(h:dN P u a):dN P1 u a:=by obtain⟨i,e,h⟩:=h;exact⟨i,e,l _ _ h⟩
theorem dNs.le{P P1:Vp}(l:Le P P1){as:List Nm}(h:Paired (dN P) us as):Paired (dN P1) us as:=Qg (λz z=>dN.le l) h
theorem dL.le{P P1:Vp}(l:Le P P1){a:Lp}(h:dL P u a):dL P1 u a:=by obtain⟨i,j,us,e,h1,h2,h3⟩:=h;exact⟨i,j,us,e,l _ _ h1,l _ _ h2,dNs.le l h3⟩
noncomputable def srt(ks:List Int):List Int:=(L2.permK (ks.map λi=>[i]) ks.length).map λi=>ks.getD i 0
def Jo(ks:List Int):(srt ks).Perm ks:=by
 have e:(List.range ks.length).map (λi=>ks.getD i 0)=ks:=by
  refine Tn λi=>?_;by_cases h:i<ks.length
  ·simp[h]
  ·simp[h]
 have:=(L2.permK_perm (ks.map λi=>[i]) ks.length).map λi=>ks.getD i 0;rw[e]at this;exact this
def srt_mem{k:Int}:k∈srt ks↔k∈ks:=(Jo ks).mem_iff
def Zy(h:ks.Nodup):(srt ks).Nodup:=(Jo ks).nodup_iff.mpr h
def Qz:(srt ks).length=ks.length:=(Jo ks).length_eq
theorem Qgu{v:Int->U}:∀{ks:List Int},Z4 ((dI ks v).map (·.1))=some ks
 |[]=>rfl
 |k::ks=>by
  have:=Qgu (v:=v) (ks:=ks);unfold dI at *;rw[X0,X0];simp only[Z4,this];rfl
def Qjx(hp:h[p]?=some (.dic (dI ks v)))(l:ks.length<64):biU T .sorted [.ref p] h=some (.ref h.length,h++[.lst ((srt ks).map iU)]):=by
 have e:YL (ks.map λi=>[i]) (ks.map λi=>U.int i 0)=(srt ks).map iU:=by
  unfold YL srt;rw[Xl,T5];refine Wt λi hi=>?_;have:=(L2.permK_perm (ks.map λi=>[i]) ks.length).mem_iff.mp hi
  have lt:i<ks.length:=by simpa using this
  simp[lt,iU]
 show biL T .sorted [.ref p] h=_;simp only[biL,QT,hp,Qnw,Qgu,Option.bind,l,Wa,e]
def QgS(g:Int->U)(ha:∀d,ev T cf (d+2) a Z h=some (.ref p,h))(hp:h[p]?=some (.dic (dI ks v)))(l:ks.length<1000000)
  (he:∀k∈ks,ev T cf (d+2) el (Z++[some (iU k)]) (h.set p (.fzd (dI ks v)))=some (g k,h.set p (.fzd (dI ks v)))):ev T cf (d+4) (.thw a (.comp (.key a) false none el)) Z h=some (.ref h.length,h++[.lst (ks.map g)]):=by
 have lp:=(Xe.mp hp).1;have hf:(h.set p (.fzd (dI ks v)))[p]?=some (.fzd (dI ks v)):=Wh lp
 obtain⟨us,h2,c,e1,e2⟩:=Jb (T:=T) (f:=ev T cf (d+2)) (ft:=Qay (evT T cf (d+2)) none) (w:=.keyD p) (el:=el) (Z:=Z) (λi acc hs=>hs=h.set p (.fzd (dI ks v))/\acc=(ks.take i).map g) (n:=ks.length)
  (λi hi acc hs z=>by
   obtain⟨rfl,rfl⟩:=z;have hk:ks[i]?=some ks[i]:=Xj hi
   refine⟨by simp;lia,iU ks[i],true,_,by simp only[itm,hf];unfold dI;rw[Vg,hk];rfl,rfl,λy=>⟨g ks[i],_,he _ (List.getElem_mem hi),rfl,?_⟩,λz=>by cases z⟩
   rw[Tl,hk,X1];rfl)
  (λacc hs z=>by rw[z.1];simp only[itm,hf];unfold dI;simp) ks.length 0 (ks.length+1) [] _ (Vk _).symm (Wz _) ⟨rfl,rfl⟩
 have ec:ev T cf (d+3) (.comp (.key a) false none el) Z h=some (.ref h.length,h.set p (.fzd (dI ks v))++[.lst (ks.map g)]):=by
  have sr:Zf T (ev T cf (d+2)) Z (.key a) h=some (.keyD p,h.set p (.fzd (dI ks v))):=by simp only[Zf,ha,Qy,QfU,hp];rfl
  have tn:Q6 T (.keyD p) (h.set p (.fzd (dI ks v)))=ks.length+1:=by simp only[Q6,hf,QbS]
  rw[Qbs sr (by rw[tn];exact c),e1,e2,W2,List.length_set]
 rw[ev,ha];simp only[hp,ec];have hf2:(h.set p (.fzd (dI ks v))++[.lst (ks.map g)])[p]?=some (.fzd (dI ks v)):=Zd hf;simp only[hf2]
 rw[List.set_append_left _ _ (by rw[List.length_set];exact lp),List.set_set,QeY hp]
def Qlt(hp:h[p]?=some (.lst (ks.map λz=>U.bl true))):biU T .all [.ref p] h=some (.bl true,h):=by
 have e:∀ks:List Int,ZY (ks.map λz=>U.bl true)=some (ks.map λz=>true):=λks=>by
  induction ks with
  |nil=>rfl
  |cons k ks ih=>rw[X0];simp only[ZY,ih];rfl
 show biL T .all [.ref p] h=_;simp only[biL,QT,hp,Option.bind,e,Option.map];simp
section
variable {F:List (U×U)->O}{b:Nat}{a:Ba}{S:Bs}{P:Vp}{k:Int}
def QnO{r:List U}(hF:∀l,Dk (F l) l)(o:Own h (cF F b a S++C) P)(hk:k∈S.fk)(ht:S.fv k=.ref t)(pt:P t (.tup (.str nw::r))):Qd (tbG xx s) (n+2) 14 [.ref b,iU k] h=some (.bl true,h):=by
 have e0:evT (tbG xx s) (Qd (tbG xx s) (n+1)) 98 (.cmp .NotEq (.meth 2 (.var 0) [(.var 1)]) (.c (.str [112,105,108,101]))) [sR b,some (iU k),none] h=some (true,h):=QC (d:=96) (u:=.str nw) ((YE (d:=94) (es:=[.var 1]) rfl (o.c 0 _ _ rfl) rfl rfl (e_1 (Qa rfl)) rfl).trans (JM hF o hk ht (o.p _ _ pt))) y_c rfl;rw[Ql fnL[14] rfl rfl];exact JS (d:=96) e0 rfl y_c
def QnN(hF:∀l,Dk (F l) l)(o:Own h (cF F b a S++C) P)(hk:k∈S.fk)(ht:S.fv k=.ref t)(pt:P t (.tup [.str pw,.ref q]))(pq:P q (.lst [iU y]))(hy:y∈S.lk):Qd (tbG xx s) (n+2) 14 [.ref b,iU k] h=some (.bl true,h):=by
 have e0:evT (tbG xx s) (Qd (tbG xx s) (n+1)) 98 (.cmp .NotEq (.meth 2 (.var 0) [(.var 1)]) (.c (.str [112,105,108,101]))) [sR b,some (iU k),none] h=some (false,h):=QC (d:=96) (u:=.str pw) ((YE (d:=94) (es:=[.var 1]) rfl (o.c 0 _ _ rfl) rfl rfl (e_1 (Qa rfl)) rfl).trans (JM hF o hk ht (o.p _ _ pt))) y_c rfl;rw[Ql fnL[14] rfl rfl]
 refine(congrArg fin ((Zv (d:=97) e0 rfl).trans (QE (Ze (d:=96) (Ze (QB rfl (o.c 0 _ _ rfl) rfl) (Qa rfl) (by rw[QgZ (o.c 5 _ _ rfl) (hF _) hk,ht])) y_c (Zj (j:=1) (o.p _ _ pt) rfl))))).trans (YI (d:=96) (Qjd (Ji (JV (Qa rfl) (o.p _ _ pq)) y_c rfl) ?_))
 exact Ji (d:=94) (Ze (QB rfl (o.c 0 _ _ rfl) rfl) (Ze (Qa rfl) y_c (QaS (j:=0) (o.p _ _ pq) rfl)) (YK (o.c 6 _ _ rfl) hy)) y_c rfl
end
section
variable {Q:Fl->Rho->Hs->Prop}
def Jt{o:E}{f c:Nat}{fs:List (Nat×U)}(ee:ev T cf d e Z h=some (u,h1))(eo:ev T cf d o Z h1=some (.ref p,h2))(hp:h2[p]?=some (.ins c fs))(l:fs.length<500)(q:Xx T cf (d+1) r Z (h2.set p (.ins c (Zq f u fs))) Q):Xx T cf (d+2) (.fld o f e::r) Z h Q:=QcH (by rw[ex,ee,Qy,eo,Qy];simp only[hp,l,Wa]) q
def QoX{b:E}{x:Option (U×Hs)}(ea:ev T cf d a Z h=some (.bl c,h1))(eb:(if c=true then some (.bl true,h1)else ev T cf d b Z h1)=x):ev T cf (d+1) (.or a b) Z h=x:=by rw[QoS,ea,Qy];cases c<;>exact eb
def JW{b:E}{x:Option (U×Hs)}(ea:ev T cf d a Z h=some (.bl true,h1))(eb:ev T cf d b Z h1=x):ev T cf (d+1) (.and a b) Z h=x:=by rw[QiX,ea,Qy];exact eb
def Qi7(ea:ev T cf d a Z h=some (.bl c,h1)):ev T cf (d+1) (.not a) Z h=some (.bl (!c),h1):=by rw[QlY,ea,Qy];rfl
end
section
variable {b:Nat}{P:Vp}
def Qep{fs:List (Nat×U)}(o:Own h ((b,.ins 0 fs)::C) P)(l:fs.length<400):Cc (tbG xx s) (n+1) 1 [.ref b] h λu h'=>u=.non/\∃f l g p,Own h' ((b,.ins 0 (Zq 7 (.ref p) (Zq 6 (.ref g) (Zq 5 (.ref l) (Zq 4 (.ref f) fs)))))::C++[(f,.dic [])]++[(l,.dic [])]++[(g,.dic [])]++[(p,.dic [])]) P:=by
 have lu:∀(f:Nat) (u:U) (fs:List (Nat×U)),(Zq f u fs).length<=fs.length+1:=λf u fs=>by
  induction fs with
  |nil=>simp[Zq]
  |cons x r ih=>
   obtain⟨g,y⟩:=x;unfold Zq;split<;>simp;exact ih
 have o1:=(o.new (y:=.dic [])).set (y:=.ins 0 (Zq 4 (.ref h.length) fs)) 0 rfl;have l1:=lu 4 (.ref h.length) fs;have o2:=o1.new (y:=.dic [])
 refine QcL (Ql fnL[1] rfl rfl) (Jt Zw (Qa rfl) ((o.new (y:=.dic [])).c 0 _ _ rfl) (by lia) ?_)
 generalize (h++[O.dic []]).set b (.ins 0 (Zq 4 (.ref h.length) fs))=ha at o1 o2 ⊢
 refine Jt Zw (Qa rfl) (o2.c 0 _ _ rfl) (by lia) ?_
 have o3:=o2.set (y:=.ins 0 (Zq 5 (.ref ha.length) (Zq 4 (.ref h.length) fs))) 0 rfl;have l2:=lu 5 (.ref ha.length) (Zq 4 (.ref h.length) fs);have o4:=o3.new (y:=.dic []);generalize (ha++[O.dic []]).set b (.ins 0 (Zq 5 (.ref ha.length) (Zq 4 (.ref h.length) fs)))=hb at o3 o4 ⊢
 refine Jt Zw (Qa rfl) (o4.c 0 _ _ rfl) (by lia) ?_
 have o5:=o4.set (y:=.ins 0 (Zq 6 (.ref hb.length) (Zq 5 (.ref ha.length) (Zq 4 (.ref h.length) fs)))) 0 rfl;have l3:=lu 6 (.ref hb.length) (Zq 5 (.ref ha.length) (Zq 4 (.ref h.length) fs));have o6:=o5.new (y:=.dic []);generalize (hb++[O.dic []]).set b (.ins 0 (Zq 6 (.ref hb.length) (Zq 5 (.ref ha.length) (Zq 4 (.ref h.length) fs))))=hc at o5 o6 ⊢
 refine Jt Zw (Qa rfl) (o6.c 0 _ _ rfl) (by lia) (Zb ?_)
 exact⟨rfl,h.length,ha.length,hb.length,hc.length,o6.set 0 rfl⟩
end
section
variable {b:Nat}{a:Ba}{S:Bs}{P:Vp}{k:Int}
def Fo(P:Vp)(S:Bs)(dr:Int->Bool)(lp:Int->Lp)(pl:Int->List Int):Prop:=∀k∈S.fk,∃t,S.fv k=.ref t/\((dr k=true/\∃w,P t (.tup [.str nw,w])/\dL P w (lp k))\/(dr k=false/\∃q,P t (.tup [.str pw,.ref q])/\P q (.lst ((pl k).map iU))))
def QnK(o:Own h (cB b a S++C) P)(hk:k∈S.fk)(ht:S.fv k=.ref t)(pt:P t (.tup [.str pw,.ref q]))(pq:P q (.lst (iU y::us)))(hy:y∈S.nk):Qd (tbG xx s) (n+2) 15 [.ref b,iU k,u] h=some (S.nv y,h):=by
 have e0:evT (tbG xx s) (Qd (tbG xx s) (n+1)) 98 (.cmp .Eq (.meth 2 (.var 0) [(.var 1)]) (.c (.str [112,105,108,101]))) [sR b,some (iU k),some u] h=some (true,h):=QC (d:=96) (u:=.str pw) ((YE (d:=94) (es:=[.var 1]) rfl (o.c 0 _ _ rfl) rfl rfl (e_1 (Qa rfl)) rfl).trans (JM dkD o hk ht (o.p _ _ pt))) y_c rfl;rw[Ql fnL[15] rfl rfl]
 exact JS (d:=96) e0 rfl (Ze (d:=95) (QB rfl (o.c 0 _ _ rfl) rfl) (Ze (Ze (Ze (QB rfl (o.c 0 _ _ rfl) rfl) (Qa rfl) (by rw[YK (o.c 5 _ _ rfl) hk,ht])) y_c (Zj (j:=1) (o.p _ _ pt) rfl)) y_c (QaS (j:=0) (o.p _ _ pq) rfl)) (YK (o.c 2 _ _ rfl) hy))
def QnJ{r:List U}(o:Own h (cB b a S++C) P)(hk:k∈S.fk)(ht:S.fv k=.ref t)(pt:P t (.tup (.str nw::r))):Qd (tbG xx s) (n+2) 15 [.ref b,iU k,u] h=some (.ref h.length,h++[.tup [.int (S.rows.length:Int) 0,u]]):=by
 have e0:evT (tbG xx s) (Qd (tbG xx s) (n+1)) 98 (.cmp .Eq (.meth 2 (.var 0) [(.var 1)]) (.c (.str [112,105,108,101]))) [sR b,some (iU k),some u] h=some (false,h):=QC (d:=96) (u:=.str nw) ((YE (d:=94) (es:=[.var 1]) rfl (o.c 0 _ _ rfl) rfl rfl (e_1 (Qa rfl)) rfl).trans (JM dkD o hk ht (o.p _ _ pt))) y_c rfl;have e1:evT (tbG xx s) (Qd (tbG xx s) (n+1)) 96 (.cmp .Eq (.meth 2 (.var 0) [(.var 1)]) (.c (.str [110,101,119]))) [sR b,some (iU k),some u] h=some (true,h):=QC (d:=94) (u:=.str nw) ((YE (d:=92) (es:=[.var 1]) rfl (o.c 0 _ _ rfl) rfl rfl (e_1 (Qa rfl)) rfl).trans (JM dkD o hk ht (o.p _ _ pt))) y_c rfl;rw[Ql fnL[15] rfl rfl];exact(congrArg fin (Zv (d:=97) e0 rfl)).trans (YI (d:=97) (Ql3 e1 (Q5 (JV (QB rfl (o.c 0 _ _ rfl) rfl) (o.c 1 _ _ rfl)) (Qa rfl))))
def QnL{lp:Int->Lp}(o:Own h (cB b a S++C) P)(fo:Fo P S dr lp pl)(h1:∀k∈S.nk,k∈S.lk\/k∈S.gk)(h2:∀k∈S.fk,dr k=false->∃y,pl k=[y]/\y∈S.lk)(l1:S.nk.length<1000000)(l2:S.fk.length<1000000):
  ∃h' P',Qd (tbG xx s) (n+3) 13 [.ref b] h=some (.bl true,h')/\Le P P'/\Own h' (cB b a S++C) P':=by
 have v1:ev (tbG xx s) (Qd (tbG xx s) (n+2)) 98 (.bi .all [(.thw (.fld (.var 0) 1) (.comp (.key (.fld (.var 0) 1)) false none (.or (.cmp .In (.var 3) (.fld (.var 0) 5)) (.cmp .In (.var 3) (.fld (.var 0) 6)))))]) [sR b,none,none] h=some (.bl true,h++[.lst (S.nk.map λz=>.bl true)]):=by
  refine JP (QgS (d:=93) (λz=>.bl true) (λd=>QB rfl (o.c 0 _ _ rfl) rfl) (o.c 2 _ _ rfl) l1 λk hk=>?_) (Qlt at0);have o1:=o.set (y:=.fzd (dI S.nk S.nv)) 2 rfl;refine QoX (Ji (d:=93) (Qa rfl) (QB rfl (o1.c 0 _ _ rfl) rfl) (QkS (o1.c 6 _ _ rfl))) ?_;by_cases e:k∈S.lk
  ·rw[X4 e];rfl
  ·rw[Xq e,if_neg Xh,Ji (d:=93) (Qa rfl) (QB rfl (o1.c 0 _ _ rfl) rfl) (QkS (o1.c 7 _ _ rfl)),X4 ((h1 k hk).resolve_left e)]
 have o1:=o.add (y:=.lst (S.nk.map λz=>.bl true))
 have v2:ev (tbG xx s) (Qd (tbG xx s) (n+2)) 97 (.bi .all [(.thw (.fld (.var 0) 4) (.comp (.key (.fld (.var 0) 4)) false none (.meth 13 (.var 0) [(.var 3)])))]) [sR b,some (.bl true),none] (h++[.lst (S.nk.map λz=>.bl true)])=some (.bl true,h++[.lst (S.nk.map λz=>.bl true)]++[.lst (S.fk.map λz=>.bl true)]):=by
  refine JP (QgS (d:=92) (λz=>.bl true) (λd=>QB rfl (o1.c 0 _ _ rfl) rfl) (o1.c 5 _ _ rfl) l2 λk hk=>?_) (Qlt at0);have o2:Own _ (cF .fzd b a S++C) _:=o1.set (y:=.fzd (dI S.fk S.fv)) 5 rfl;refine(YE (d:=92) (es:=[.var 3]) rfl (o2.c 0 _ _ rfl) rfl rfl (e_1 (Qa rfl)) rfl).trans ?_
  obtain⟨t,ht,⟨_,w,pt,_⟩|⟨e,q,pt,pq⟩⟩:=fo k hk
  ·exact QnO (λl=>.inr rfl) o2 hk ht (.inl pt)
  ·obtain⟨y,ey,hy⟩:=h2 k hk e;rw[ey]at pq;exact QnN (λl=>.inr rfl) o2 hk ht (.inl pt) (.inl pq) hy
 have o2:=o1.add (y:=.lst (S.fk.map λz=>.bl true));have o3:=o2.add (y:=.lst [])
 have v3:ev (tbG xx s) (Qd (tbG xx s) (n+2)) 93 (.bi .any [(.thw (.fld (.var 0) 7) (.comp (.key (.fld (.var 0) 7)) false none (.bm .get (.fld (.var 0) 2) [(.var 3),(.lst [])])))]) [sR b,some (.bl true),some (.bl true)] (h++[.lst (S.nk.map λz=>.bl true)]++[.lst (S.fk.map λz=>.bl true)])=some (.bl false,h++[.lst (S.nk.map λz=>.bl true)]++[.lst (S.fk.map λz=>.bl true)]++[.lst []]):=by
  refine JP (QgS (d:=88) (ks:=[]) (v:=λz=>.non) (λz=>.non) (λd=>QB rfl (o2.c 0 _ _ rfl) rfl) (o2.c 8 _ _ rfl) (by decide) λk hk=>by cases hk) ?_
  show biL _ .any [.ref _] _=_;have e:(h++[O.lst (S.nk.map λz=>.bl true)]++[O.lst (S.fk.map λz=>.bl true)]++[.lst []])[(h++[O.lst (S.nk.map λz=>.bl true)]++[O.lst (S.fk.map λz=>.bl true)]).length]?=some (.lst []):=at0;simp only[biL,QT,Uw,e];rfl
 refine⟨_,_,?_,(le_ad.trans le_ad).trans le_ad,o3⟩;rw[Ql fnL[13] rfl rfl];exact(congrArg fin ((QE v1).trans (QE v2))).trans (YI (d:=96) (JW (Qa rfl) (JW (Qa rfl) (Qi7 v3))))
end
def Qjs{k:Int}(hp:h[p]?=some (.dic (dI ks v)))(hk:k∈ks)(e:v k=u):ZZ T (.ref p) (iU k) h=some u:=e▸YK hp hk
def Qe1(v:ev T cf d e Z h=some (.ref l,hs))(hl:hs[l]?=some (.lst us)):Zf T (ev T cf d) Z (.seq e) h=some (.seqL (.ref l),hs):=by simp only[Zf,v,Qy,wkS,QT,hl];rfl
theorem Yj:∀K:List Int,Paired (λ(u:U) (k:Int)=>u=iU k) (K.map iU) K
 |[]=>.nil
 |k::K=>.cons rfl (Yj K)
def Qa6[DecidableEq α]{K:List α}{k:α}(h:K.Nodup)(e:K[i]?=some k):k∉K.take i:=λm=>by
 obtain⟨j,hj⟩:=Vc m;rw[List.getElem?_take]at hj;split at hj
 ·rename_i l;obtain⟨l1,q1⟩:=Xe.mp e;obtain⟨l2,q2⟩:=Xe.mp hj;have:=(Uy h).mp (q1.trans q2.symm);lia
 ·cases hj
def tk1{K:List α}{k:α}(e:K[i]?=some k):K.take (i+1)=K.take i++[k]:=by rw[Tl,e];rfl
section
variable {b:Nat}{a:Ba}{S:Bs}{P:Vp}
structure Ei(b:Nat)(a:Ba)(S:Bs)(P:Vp)(K:List Int)(dr:Int->Bool)(lp:Int->Lp)(nn:Int->Nm)(N L i:Nat)(Z:Rho)(h:Hs)(P1:Vp)(v:Int->U)(us:List U):Prop where
 rg:∃x,Z=[sR b,sR N,sR L,x]
 le:Le P P1
 ow:Own h (cB b a S++[(N,.dic (dI (K.take i) v)),(L,.lst us)]) P1
 ds:Paired (dL P1) us (((K.take i).filter dr).map lp)
 dn:∀k∈K.take i,dN P1 (v k) (nn k)
noncomputable def QoE:List Iv.S:=[(.put (.var 1) (.var 3) (.meth 14 (.var 0) [(.var 3),(.bi .len [(.var 2)])])),(.ite (.cmp .Eq (.meth 2 (.var 0) [(.var 3)]) (.c (.str [110,101,119]))) [(.expr (.bm .append (.var 2) [(.ix (.ix (.fld (.var 0) 4) (.var 3)) (.c (.int 1 0)))]))] [])]
def QfQ{K:List Int}{lp:Int->Lp}{nm nn:Int->Nm}{N L:Nat}{P1:Vp}{k:Int}(E:Ei b a S P K dr lp nn N L i Z h P1 v us)(fo:Fo P S dr lp pl)(h2:∀k∈S.fk,dr k=false->∃y,pl k=[y]/\y∈S.nk)(hn:∀k∈S.nk,dN P (S.nv k) (nm k))
  (hk:K[i]?=some k) (hf:k∈S.fk) (nd:K.Nodup) (lK:K.length<1000) (e1:dr k=true->nn k=((S.rows.length:Int),(((K.take i).filter dr).length:Int))) (e2:∀y,dr k=false->pl k=[y]->nn k=nm y):
  Xx (tbG xx s) (Qd (tbG xx s) (n+2)) 95 QoE (Z.set 3 (some (iU k))) h λf ρ2 h'=>f=.next/\∃P2 v2 us2,Ei b a S P K dr lp nn N L (i+1) ρ2 h' P2 v2 us2:=by
 obtain⟨⟨x,rfl⟩,le,ow,ds,dn⟩:=E;have ln:=ds.length
 have lT:((K.take i).filter dr).length<=K.length:=X6 (V8 _ _) (by simp;lia)
 have lt:(K.take i).length<=K.length:=by simp;lia
 rw[Xl]at ln;have nk:=Qa6 nd hk;obtain⟨t,ht,d⟩:=fo k hf;have va:∀{h:Hs},h[L]?=some (.lst us)->evs (ev (tbG xx s) (Qd (tbG xx s) (n+2)) 92) [sR b,sR N,sR L,some (iU k)] [(.var 3),(.bi .len [(.var 2)])] h=some ([iU k,.int (us.length:Int) 0],h):=λhL=>e_2 (Qa rfl) (JV (Qa rfl) hL);have vm:∀u h',Qd (tbG xx s) (n+2) 15 [.ref b,iU k,.int (us.length:Int) 0] h=some (u,h')->ev (tbG xx s) (Qd (tbG xx s) (n+2)) 93 (.meth 14 (.var 0) [(.var 3),(.bi .len [(.var 2)])]) [sR b,sR N,sR L,some (iU k)] h=some (u,h'):=λu h' e=>(YE (d:=91) rfl (ow.c 0 _ _ rfl) rfl rfl (va (ow.c 10 _ _ rfl)) rfl).trans e;have vo:∀{h:Hs} {w:List Nat},h[b]?=some (bI a)->Qd (tbG xx s) (n+2) 3 [.ref b,iU k] h=some (.str w,h)->evT (tbG xx s) (Qd (tbG xx s) (n+2)) 92 (.cmp .Eq (.meth 2 (.var 0) [(.var 3)]) (.c (.str [110,101,119]))) [sR b,sR N,sR L,some (iU k)] h=some (decide (w=nw),h):=λhb e=>QC (d:=90) ((YE (d:=88) (es:=[.var 3]) rfl hb rfl rfl (e_1 (Qa rfl)) rfl).trans e) y_c rfl
 rcases d with⟨ed,w,pt,pw'⟩|⟨ed,q,pt,pq⟩
 ·have o1:=ow.add (y:=.tup [.int (S.rows.length:Int) 0,.int (us.length:Int) 0]);have o2:Own _ (cB b a S++[(N,.dic (dI (K.take i++[k]) (up v k (.ref h.length)))),(L,.lst us)]) _:=o1.set (y:=.dic (dI (K.take i++[k]) (up v k (.ref h.length)))) 9 rfl
  refine Jr (vm _ _ (QnJ ow hf ht (le _ _ pt))) (Qa rfl) (Qa rfl) (Zz (o1.c 9 _ _ rfl) (by lia)) ?_
  rw[Zr nk]
  refine QiK (vo (o2.c 0 _ _ rfl) (JM dkD o2 hf ht (o2.p _ _ (.inl (le _ _ pt))))) (ZP (YM (Qa rfl) (o2.c 10 _ _ rfl) (YG (Ze (d:=88) (Ze (QB rfl (o2.c 0 _ _ rfl) rfl) (Qa rfl) (Qjs (o2.c 5 _ _ rfl) hf ht)) y_c (Zj (j:=1) (o2.p _ _ (.inl (le _ _ pt))) rfl)) ⟨_,o2.c 10 _ _ rfl,by lia,Zb (Zb ⟨rfl,ad P1 h.length (.tup [.int (S.rows.length:Int) 0,.int (us.length:Int) 0]),up v k (.ref h.length),us++[w],⟨_,rfl⟩,le.trans le_ad,?_,?_,?_⟩)⟩)))
  ·rw[tk1 hk];exact o2.set (y:=.lst (us++[w])) 10 rfl
  ·rw[tk1 hk,V2,X1];refine QA (Qg (λr r=>dL.le le_ad) ds) ?_;rw[W4,ed];exact .cons (pw'.le (le.trans le_ad)) .nil
  ·intro j hj;rw[tk1 hk]at hj
   rcases V4.mp hj with hj|hj
   ·rw[YF λz:j=k=>nk (z▸hj)];exact(dn j hj).le le_ad
   ·rw[Ws]at hj;subst hj;rw[JQ,e1 ed,<-ln];exact⟨_,rfl,Qm⟩
 ·obtain⟨y,ey,hy⟩:=h2 k hf ed;rw[ey]at pq;have o2:Own _ (cB b a S++[(N,.dic (dI (K.take i++[k]) (up v k (S.nv y)))),(L,.lst us)]) _:=ow.set (y:=.dic (dI (K.take i++[k]) (up v k (S.nv y)))) 9 rfl
  refine Jr (vm _ _ (QnK ow hf ht (le _ _ pt) (le _ _ pq) hy)) (Qa rfl) (Qa rfl) (Zz (ow.c 9 _ _ rfl) (by lia)) ?_
  rw[Zr nk];refine QiK (vo (o2.c 0 _ _ rfl) (JM dkD o2 hf ht (o2.p _ _ (le _ _ pt)))) (Zb (Zb ⟨rfl,P1,up v k (S.nv y),us,⟨_,rfl⟩,le,?_,?_,?_⟩))
  ·rw[tk1 hk];exact o2
  ·rw[tk1 hk,V2,X1,W4,ed];simpa using ds
  ·intro j hj;rw[tk1 hk]at hj
   rcases V4.mp hj with hj|hj
   ·rw[YF λz:j=k=>nk (z▸hj)];exact dn j hj
   ·rw[Ws]at hj;subst hj;rw[JQ,e2 y ed ey];exact(hn y hy).le le
end
section
variable {b:Nat}{a:Ba}{S:Bs}{P:Vp}
def QnP{lp:Int->Lp}{nm nn:Int->Nm}(o:Own h (cB b a S) P)(fo:Fo P S dr lp pl)(h1:∀k∈S.nk,k∈S.lk\/k∈S.gk)(h2:∀k∈S.fk,dr k=false->∃y,pl k=[y]/\y∈S.lk/\y∈S.nk)(hn:∀k∈S.nk,dN P (S.nv k) (nm k))(nd:S.fk.Nodup)(lf:S.fk.length<64)(ln:S.nk.length<1000)(lr:S.rows.length<1000)
  (e1:∀(i:Nat) k,(srt S.fk)[i]?=some k->dr k=true->nn k=((S.rows.length:Int),((((srt S.fk).take i).filter dr).length:Int))) (e2:∀k y,k∈S.fk->dr k=false->pl k=[y]->nn k=nm y):
  Cc (tbG xx s) (n+4) 12 [.ref b] h λu h'=>u=.bl true/\∃P' a' v' L us,Le P P'/\P' L (.lst us)/\Paired (dL P') us (((srt S.fk).filter dr).map lp)/\(∀k∈srt S.fk,dN P' (v' k) (nn k))/\Own h' (cB b a' {rows:=S.rows++[.ref L],nk:=srt S.fk,nv:=v',off:=S.off,fk:=[],fv:=λm=>.non,lk:=[],gk:=[]}) P':=by
 have oo:Own h (cB b a S++[]) P:=by rw[Wd];exact o
 obtain⟨hm,Pm,em,lm,om⟩:=QnL (xx:=xx) (s:=s) (n:=n) oo fo h1 (λk hk e=>by obtain⟨y,a,b,_⟩:=h2 k hk e;exact⟨y,a,b⟩) (by lia) (by lia)
 have t1:evT (tbG xx s) (Qd (tbG xx s) (n+3)) 98 (.not (.meth 12 (.var 0) [])) [sR b,none,none,none] h=some (false,hm):=Ye (c:=true) (Qgz rfl ((YE (d:=94) (es:=[]) rfl (o.c 0 _ _ rfl) rfl rfl (h2:=h) rfl rfl).trans em));refine QcL (Ql fnL[12] rfl rfl) (Zg (Zv (d:=97) t1 rfl) ?_);have o2:=om.new (y:=.dic []);have o3:=o2.new (y:=.lst [])
 refine Zg (QE Zw) (Zg (QE (u:=.ref (hm++[O.dic []]).length) (h1:=hm++[.dic []]++[.lst []]) (by rw[Zs];rfl)) ?_)
 obtain⟨hz,ez⟩:∃hz,hz=hm++[O.dic []]++[.lst []]:=⟨_,rfl⟩;rw[<-ez]at o3 ⊢;have o4:=o3.add (y:=.lst ((srt S.fk).map iU));obtain⟨P4,l4,f4,o4⟩:∃P4,Le Pm P4/\P4 hz.length (.lst ((srt S.fk).map iU))/\Own (hz++[.lst ((srt S.fk).map iU)]) (cB b a S++[(hm.length,.dic (dI ((srt S.fk).take 0) λm=>.non)),((hm++[O.dic []]).length,.lst [])]) P4:=⟨_,le_ad,Qm,o4⟩;have lP:=lm.trans l4
 have fo4:Fo P4 S dr lp pl:=λk hk=>by
  obtain⟨t,ht,⟨x,w,p1,p2⟩|⟨x,q,p1,p2⟩⟩:=fo k hk
  ·exact⟨t,ht,.inl ⟨x,w,lP _ _ p1,p2.le lP⟩⟩
  ·exact⟨t,ht,.inr ⟨x,q,lP _ _ p1,lP _ _ p2⟩⟩
 have vs:ev (tbG xx s) (Qd (tbG xx s) (n+3)) 95 (.bi .sorted [(.fld (.var 0) 4)]) [sR b,sR hm.length,some (.ref (hm++[O.dic []]).length),none] hz=some (.ref hz.length,hz++[.lst ((srt S.fk).map iU)]):=JP (QB rfl (o3.c 0 _ _ rfl) rfl) (Qjx (o3.c 5 _ _ rfl) lf)
 obtain⟨ρ5,h5,ef,P5,v5,us,E⟩:=Qfr (T:=tbG xx s) (t:=.name 3) (body:=exs (tbG xx s) (Qd (tbG xx s) (n+3)) 95 QoE) (λi Z hs=>∃P2 v us,Ei b a S P4 (srt S.fk) dr lp nn hm.length (hm++[O.dic []]).length i Z hs P2 v us) (Yj (srt S.fk)) (λi Z hs Y=>by obtain⟨P2,v,us,E⟩:=Y;exact E.ow.p _ _ (E.le _ _ f4))
  (λi k v hk ev Z hs X=>by
   obtain⟨P2,v2,us,E⟩:=X
   subst ev;have hf:=srt_mem.mp (Xr hk)
   obtain⟨f,ρ2,h2',x,rfl,z⟩:=QfQ (xx:=xx) (s:=s) (n:=n+1) E fo4 (λk hk e=>by obtain⟨y,a,_,b⟩:=h2 k hk e;exact⟨y,a,b⟩) (λk hk=>(hn k hk).le lP) hk hf (Zy nd) (by rw[Qz];lia) (e1 i k hk) (λy=>e2 k y hf)
   exact⟨_,ρ2,h2',rfl,x,z⟩)
  (Z:=[sR b,sR hm.length,some (.ref (hm++[O.dic []]).length),none]) (hs:=hz++[.lst ((srt S.fk).map iU)]) ⟨P4,λm=>.non,[],⟨_,rfl⟩,Le.refl,o4,.nil,λk hk=>by cases hk⟩
 obtain⟨⟨x,rfl⟩,l5,o5,d5,n5⟩:=E;rw[W2]at o5 d5 n5;refine QbA (Qe1 vs at0) ⟨_,h5,ef,?_⟩;have o6:=o5.set (y:=bI {a with n:=hm.length}) 0 rfl
 refine Jt (Qa rfl) (Qa rfl) (o5.c 0 _ _ rfl) (show 8<500 by decide) ?_
 have o7:=o6.set (y:=.lst (S.rows++[.ref (hm++[O.dic []]).length])) 1 rfl
 refine ZP (YM (QB rfl (o6.c 0 _ _ rfl) rfl) (o6.c 1 _ _ rfl) (YG (Qa rfl) ⟨_,o6.c 1 _ _ rfl,by lia,?_⟩))
 have o8:=o7.set (y:=.dic []) 3 rfl;generalize hu:((h5.set b (bI {a with n:=hm.length})).set a.r (.lst (S.rows++[.ref (hm++[O.dic []]).length])))=h7 at o7 o8;have hu':((h5.set b (.ins 0 (Zq 1 (.ref hm.length) [(0,.ref a.r),(1,.ref a.n),(2,.ref a.k),(3,.ref a.o),(4,.ref a.f),(5,.ref a.l),(6,.ref a.g),(7,.ref a.p)]))).set a.r (.lst (S.rows++[.ref (hm++[O.dic []]).length])))=h7:=hu
 have ne:a.k≠a.p:=λz=>by
  have e3:=o7.nd 3 8 a.k _ _ rfl (by rw[z];rfl)
  cases e3
 have vu:ev (tbG xx s) (Qd (tbG xx s) (n+3)) 92 (.bm .update (.fld (.var 0) 2) [(.fld (.var 0) 7)]) [sR b,sR hm.length,some (.ref (hm++[O.dic []]).length),x] h7=some (.non,h7.set a.k (.dic [])):=by
  rw[QgN,QB rfl (o7.c 0 _ _ rfl) rfl,Qy,if_pos (Qcc (o7.c 3 _ _ rfl) rfl),e_1 (QB rfl (o7.c 0 _ _ rfl) rfl),Qy];have e3:=o7.c 3 _ _ rfl;have e8:=o7.c 8 _ _ rfl;simp only[bmU,e3,bmD,e8,ne,ne_eq,not_false_eq_true,true_and];rfl
 rw[hu'];refine ZP (YG vu ?_)
 have c:=Qep (xx:=xx) (s:=s) (n:=n+2) o8 (show 8<400 by decide)
 obtain⟨u,h9,e9,rfl,f',l',g',p',o9⟩:=c;have vb:ev (tbG xx s) (Qd (tbG xx s) (n+3)) 91 (.meth 0 (.var 0) []) [sR b,sR hm.length,some (.ref (hm++[O.dic []]).length),x] (h7.set a.k (.dic []))=some (.non,h9):=(YE (d:=89) (es:=[]) rfl (o8.c 0 _ _ rfl) rfl rfl (h2:=h7.set a.k (.dic [])) rfl rfl).trans e9;refine ZP (YG vb (YN (YG y_c ⟨rfl,?_⟩)))
 have o10:Own h9 (cB b ⟨a.r,hm.length,a.k,a.o,f',l',g',p'⟩ {rows:=S.rows++[.ref (hm++[O.dic []]).length],nk:=srt S.fk,nv:=v5,off:=S.off,fk:=[],fv:=λm=>.non,lk:=[],gk:=[]}++[((hm++[O.dic []]).length,.lst us)]) P5:=o9.pick [0,1,9,3,4,11,12,13,14,10] (by decide) (λj hj=>by
  have:j<15:=by
   simp at hj;lia
  exact this)
 have l6:Le P5 (lkP P5 [((hm++[O.dic []]).length,O.lst us)]):=λm m z=>.inl z;exact⟨_,_,v5,_,us,(lP.trans l5).trans l6,.inr (Ws.mpr rfl),Qg (λm m=>dL.le l6) d5,λk hk=>(n5 k hk).le l6,o10.lock⟩
end
def Sm(h:Hs):Nat->U->U->Prop
 |0,_,_=>False
 |d+1,u,w=>(∃i,u=iU i/\w=iU i)\/∃p q us ws,u=.ref p/\w=.ref q/\Paired (Sm h d) us ws/\((h[p]?=some (.tup us)/\h[q]?=some (.tup ws))\/(h[p]?=some (.lst us)/\h[q]?=some (.lst ws)))
section
variable {ws:List U}{b:Bool}
def QaQ{t:Ty}(hi:Z[i]?=some (some u))(e:QbP T t u h=some b):evT T cf (d+3) (.isi (.var i) t) Z h=some (b,h):=by rw[Qi0,QiT,Qa hi,Qy,e];rfl
def Qja{t:Ty}(hi:Z[i]?=some (some u))(e:QbP T t u h=some b):ev T cf (d+2) (.isi (.var i) t) Z h=some (.bl b,h):=by rw[QiT,Qa hi,Qy,e];rfl
def Qi2{t:E}{a b:List Iv.S}(e:evT T cf d t Z h=some (c,h1))(x:exs T cf d (if c=true then a else b) Z h1=some (.next,ρ1,h2)):exs T cf (d+2) (.ite t a b::r) Z h=exs T cf (d+1) r ρ1 h2:=by
 rw[Q9,QcO,e,Qy];cases c
 ·rw[if_neg Xh,show exs T cf d b Z h1=_ from x]
 ·rw[if_pos rfl,show exs T cf d a Z h1=_ from x]
def QkL(e:h[p]?=some (.tup us)):QbP T .int (.ref p) h=some false/\QbP T .tuple (.ref p) h=some true/\biU T .len [.ref p] h=some (.int us.length 0,h):=by
 refine⟨?_,?_,?_⟩
 ·simp only[QbP,Qbb,e];rfl
 ·simp only[QbP,Qbb,e];rfl
 ·unfold biU;simp only[Zp,e]
def QkM(e:h[p]?=some (.lst us)):QbP T .int (.ref p) h=some false/\QbP T .tuple (.ref p) h=some false/\QbP T .list (.ref p) h=some true:=by
 refine⟨?_,?_,?_⟩<;>(simp only[QbP,Qbb,e];rfl)
noncomputable def smB:List Iv.S:=[.ite (.not (.call 20 [.var 2,.var 3])) [.ret (.c (.bl false))] []]
def Qg2(hu:sqU T b (.ref p) h=some us)(hw:sqU T b (.ref q) h=some ws)(hb:(QT T (.ref p) h).isSome=b)(hb':(QT T (.ref q) h).isSome=b)(ll:us.length=ws.length)
  (st:∀(i:Nat) x y,us[i]?=some x->ws[i]?=some y->cf 20 [x,y] h=some (.bl true,h)):∃v2 v3,ex T cf (d+9) (.loop (.pair 2 3) (.zip (.var 0) (.var 1)) smB) [sR p,sR q,none,none] h=some (.next,[sR p,sR q,v2,v3],h):=by
 obtain⟨ρ2,h2,e,v2,v3,e1,e2⟩:=Qh0 (T:=T) (w:=.zipB b b (.ref p) (.ref q)) (t:=.pair 2 3) (body:=exs T cf (d+8) smB)
  (λv Z g=>∃v2 v3,Z=[sR p,sR q,v2,v3]/\g=h) (n:=us.length)
  (λi hi Z g z=>by
   obtain⟨v2,v3,e1,e2⟩:=z;subst e1 e2;have hx:us[i]?=some us[i]:=Xj hi
   have hy:ws[i]?=some ws[i]:=Xj (by lia)
   refine⟨.two us[i] ws[i],[sR p,sR q,some us[i],some ws[i]],[sR p,sR q,some us[i],some ws[i]],g,by simp only[itm,hu,hw,two,hx,hy],rfl,?_,_,_,rfl,rfl⟩
   exact(Zv (Ye (c:=true) (Qgz rfl (ZN (e_2 (Qa rfl) (Qa rfl)) (st i _ _ hx hy)))) rfl).trans Je)
  (λZ g z=>by
   obtain⟨v2,v3,e1,e2⟩:=z;subst e2
   simp[itm,hu,hw,two]) us.length 0 (us.length+1) [sR p,sR q,none,none] h (by lia) (by lia) ⟨none,none,rfl,rfl⟩
 subst e1;rw[e2]at e;refine⟨v2,v3,Qbp (w:=.zipB b b (.ref p) (.ref q)) (h1:=h) ?_ ?_⟩
 ·simp only[Zf,Qa (TT:=T) (cf:=cf) (d:=d+7) (Z:=[sR p,sR q,none,none]) (i:=0) (u:=.ref p) rfl,Qa (TT:=T) (cf:=cf) (d:=d+7) (Z:=[sR p,sR q,none,none]) (i:=1) (u:=.ref q) rfl,Qy,wkZ,hb,hb',hu,hw,Option.isSome_some,Bool.and_self,Wa,Option.map_some]
 ·simp only[Q6,hu,Vx];exact e
end
theorem QbY{s:List U}{h:Hs}:∀{d n:Nat} {u w:U},Sm h d u w->Qd (tbG xx s) (n+d) 20 [u,w] h=some (.bl true,h)
 |0,_,_,_,z=>z.elim
 |d+1,n,u,w,z=>by
  rw[show n+(d+1)=(n+d)+1 from rfl,Ql fnL[20] rfl rfl]
  rcases z with⟨i,rfl,rfl⟩|⟨p,q,us,ws,rfl,rfl,pr,hh⟩
  ·exact JS (d:=96) (QaQ rfl rfl) rfl (JW (Qja (u:=iU i) rfl rfl) (JW (Qi7 (Qja (u:=iU i) (b:=false) rfl rfl)) ((Ji (u:=iU i) (w:=iU i) (c:=decide (i=i)) (Qa rfl) (Qa rfl) rfl).trans (by rw[X4 rfl]))))
  ·have st:∀(i:Nat) x y,us[i]?=some x->ws[i]?=some y->Qd (tbG xx s) (n+d) 20 [x,y] h=some (.bl true,h):=λi x y hx hy=>by
    obtain⟨x',hx',z⟩:=QaZ pr hy;rw[hx]at hx';cases hx';exact QbY z
   have ll:=Qv pr
   have fin3:∀b,sqU (tbG xx s) b (.ref p) h=some us->sqU (tbG xx s) b (.ref q) h=some ws->(QT (tbG xx s) (.ref p) h).isSome=b->(QT (tbG xx s) (.ref q) h).isSome=b->biU (tbG xx s) .len [.ref p] h=some (.int us.length 0,h)->biU (tbG xx s) .len [.ref q] h=some (.int ws.length 0,h)->fin (exs (tbG xx s) (Qd (tbG xx s) (n+d)) 98 [(.ite (.cmp .NotEq (.bi .len [(.var 0)]) (.bi .len [(.var 1)])) [(.ret (.c (.bl false)))] []),.loop (.pair 2 3) (.zip (.var 0) (.var 1)) smB,(.ret (.c (.bl true)))] [sR p,sR q,none,none] h)=some (.bl true,h):=λb a1 a2 a3 a4 a5 a6=>by
    obtain⟨v2,v3,e⟩:=Qg2 (cf:=Qd (tbG xx s) (n+d)) (d:=87) a1 a2 a3 a4 ll st
    exact(congrArg fin ((Zv (d:=95) (QC (d:=94) (JP (Qa rfl) a5) (JP (Qa rfl) a6) rfl) (by rw[X4 (show(us.length:Int)=ws.length by lia)];rfl)).trans (JR e))).trans (YI y_c)
   rcases hh with⟨e1,e2⟩|⟨e1,e2⟩
   ·obtain⟨a2,a3,a4⟩:=QkL (T:=tbG xx s) e2;obtain⟨b2,b3,b4⟩:=QkL (T:=tbG xx s) e1
    refine(congrArg fin ((Zv (d:=97) (QaQ rfl a2) rfl).trans (Qi2 (QaQ (d:=94) rfl a3) ?_))).trans (fin3 false (by simp only[sqU,QeB,e1];rfl) (by simp only[sqU,QeB,e2];rfl) (by simp only[QT,e1];rfl) (by simp only[QT,e2];rfl) b4 a4)
    exact(Zv (Ye (QaQ rfl b3)) rfl).trans Je
   ·obtain⟨a2,a3,_⟩:=QkM (T:=tbG xx s) e2;obtain⟨b2,b3,b4⟩:=QkM (T:=tbG xx s) e1
    refine(congrArg fin ((Zv (d:=97) (QaQ rfl a2) rfl).trans (Qi2 (QaQ (d:=94) rfl a3) ?_))).trans (fin3 true (by simp only[sqU,QT,e1];rfl) (by simp only[sqU,QT,e2];rfl) (by simp only[QT,e1];rfl) (by simp only[QT,e2];rfl) (Qh1 e1) (Qh1 e2))
    exact(Zv (Ye (QaQ rfl b4)) rfl).trans Je
inductive Mv where
 |cast (n:Int)|lay (x f:Int)|off (x:Int)|draw (k sd:Int)|fin
noncomputable def mvU:Mv->List U
 |.cast n=>[.str [99,97,115,116],iU n]
 |.lay x f=>[.str [108,97,121],iU x,iU f]
 |.off x=>[.str [111,102,102],iU x]
 |.draw k sd=>[.str [100,114,97,119],iU k,iU sd,iU 0]
 |.fin=>[.str [101,110,100]]
def dM(P:Vp)(u:U)(m:Mv):Prop:=∃i,u=.ref i/\P i (.tup (mvU m))
def dM.le{P P1:Vp}(l:Le P P1){m:Mv}(h:dM P u m):dM P1 u m:=by obtain⟨i,e,h⟩:=h;exact⟨i,e,l _ _ h⟩
section
variable {b:Nat}{fs:List (Nat×U)}
def t_w{x w:List Nat}(e:Z[2]?=some (some (.str x))):evT T cf (d+3) (.cmp .Eq (.var 2) (.c (.str w))) Z h=some (decide (x=w),h):=QC (Qa e) y_c rfl
def QbR{w:List Nat}(ht:h[t]?=some (.tup (.str w::us)))(e:Z=[sR b,sR t,none]):exs (tbG xx s) (Qd (tbG xx s) n) 100 (.set 2 (.ix (.var 1) (.c (.int 0 0)))::r) Z h=exs (tbG xx s) (Qd (tbG xx s) n) 99 r [sR b,sR t,some (.str w)] h:=by
 subst e;exact QE (d:=98) (Ze (Qa rfl) y_c (Zj (j:=0) ht rfl))
def Qk6(hb:h[b]?=some (.ins 0 fs))(ht:h[t]?=some (.tup (mvU (.lay x f))))(c:Cc (tbG xx s) n 5 [.ref b,iU x,iU f] h Q):Cc (tbG xx s) (n+1) 17 [.ref b,.ref t] h Q:=by
 obtain⟨u,h1,e,q⟩:=c;refine⟨u,h1,?_,q⟩;rw[Ql fnL[17] rfl rfl];exact(congrArg fin (QbR ht rfl)).trans (JS (d:=95) (t_w rfl) rfl ((YE (d:=93) rfl hb rfl rfl (e_2 (Ze (Qa rfl) y_c (Zj (j:=1) ht rfl)) (Ze (Qa rfl) y_c (Zj (j:=2) ht rfl))) rfl).trans e))
def Qk8{k sd:Int}(hb:h[b]?=some (.ins 0 fs))(ht:h[t]?=some (.tup (mvU (.draw k sd))))(c:Cc (tbG xx s) n 6 [.ref b,iU k,iU sd,iU 0] h Q):Cc (tbG xx s) (n+1) 17 [.ref b,.ref t] h Q:=by
 obtain⟨u,h1,e,q⟩:=c;refine⟨u,h1,?_,q⟩;rw[Ql fnL[17] rfl rfl];exact(congrArg fin ((QbR ht rfl).trans (Zv (d:=96) (t_w rfl) rfl))).trans (JS (d:=94) (t_w rfl) rfl ((YE (d:=92) rfl hb rfl rfl (e_3 (Ze (Qa rfl) y_c (Zj (j:=1) ht rfl)) (Ze (Qa rfl) y_c (Zj (j:=2) ht rfl)) (Ze (Qa rfl) y_c (Zj (j:=3) ht rfl))) rfl).trans e))
def QnB(hb:h[b]?=some (.ins 0 fs))(ht:h[t]?=some (.tup (mvU (.off x))))(c:Cc (tbG xx s) n 8 [.ref b,iU x] h Q):Cc (tbG xx s) (n+1) 17 [.ref b,.ref t] h Q:=by
 obtain⟨u,h1,e,q⟩:=c;refine⟨u,h1,?_,q⟩;rw[Ql fnL[17] rfl rfl];exact(congrArg fin ((QbR ht rfl).trans ((Zv (d:=96) (t_w rfl) rfl).trans ((Zv (d:=95) (t_w rfl) rfl).trans (Zv (d:=94) (t_w rfl) rfl))))).trans (JS (d:=92) (t_w rfl) rfl ((YE (d:=90) rfl hb rfl rfl (e_1 (Ze (Qa rfl) y_c (Zj (j:=1) ht rfl))) rfl).trans e))
def QnC(hb:h[b]?=some (.ins 0 fs))(ht:h[t]?=some (.tup (mvU .fin)))(c:Cc (tbG xx s) n 12 [.ref b] h Q):Cc (tbG xx s) (n+1) 17 [.ref b,.ref t] h Q:=by
 obtain⟨u,h1,e,q⟩:=c;refine⟨u,h1,?_,q⟩;rw[Ql fnL[17] rfl rfl];exact(congrArg fin ((QbR ht rfl).trans ((Zv (d:=96) (t_w rfl) rfl).trans ((Zv (d:=95) (t_w rfl) rfl).trans ((Zv (d:=94) (t_w rfl) rfl).trans ((Zv (d:=93) (t_w rfl) rfl).trans ((Zv (d:=92) (t_w rfl) rfl).trans (Zv (d:=91) (t_w rfl) rfl)))))))).trans (YI (d:=91) (JW (Ji (Qa rfl) y_c rfl) ((YE (d:=88) (es:=[]) rfl hb rfl rfl (h2:=h) rfl rfl).trans e)))
end
noncomputable def rg(n:Nat):List Int:=(List.range n).map λ(i:Nat)=>(i:Int)
def Qgf:(rg n).length=n:=by simp[rg]
def rg_mem{k:Int}:k∈rg n↔0<=k/\k<n:=by
 simp only[rg,V3,List.mem_range]
 exact⟨λz=>by obtain⟨i,h,e⟩:=z;lia,λy=>by obtain⟨a,b⟩:=y;exact⟨k.toNat,by lia,by lia⟩⟩
def Qmu:(rg n).Nodup:=by
 unfold rg;rw[U3,List.pairwise_map]
 exact List.Pairwise.imp (λh=>by lia) (List.pairwise_lt_range (n:=n))
def Qmt:rg (i+1)=rg i++[(i:Int)]:=by simp[rg,List.range_succ]
theorem QdO{v:Int->U}:∀{b a:List Int},(a++b).Nodup->Ym (dI a v) (dI b v)=dI (a++b) v
 |[],a,_=>by rw[Wd];rfl
 |k::b,a,nd=>by
  have nk:k∉a:=λz=>by
   rw[Uu]at nd;exact nd.2.2 k z k (Xw ..) rfl
  have e:up v k (v k)=v:=funext λj=>by unfold up;split<;>simp_all
  have ih:=QdO (v:=v) (b:=b) (a:=a++[k]) (by rw[Wp];exact nd)
  rw[Wp]at ih;show Ym (QeD (dI a v) (iU k) (v k)) (dI b v)=_;rw[Qhk,Zr nk,e];exact ih
theorem Qj3{h:Hs}{v g:Int->U}:∀{ks:List Int},(∀k∈ks,∃t,g k=.ref t/\h[t]?=some (.tup [iU k,v k]))->Qhq h (ks.map g)=some (dI ks v)
 |[],_=>rfl
 |k::ks,H=>by
  obtain⟨t,e,ht⟩:=H k (Xw ..);have ih:=Qj3 (v:=v) (g:=g) λj hj=>H j (Xp _ hj);rw[X0,e];simp only[Qhq,ht,Qan,Wa,ih];rfl
def QaO(v:ev T cf d e Z h'=some (iU (n:Int),h))(ln:n<=900000)(I:Nat->List U->Hs->Prop)
  (st:∀i,i<n->∀acc hs,I i acc hs->∃u h2,ev T cf d el (Z++[some (iU (i:Int))]) hs=some (u,h2)/\I (i+1) (acc++[u]) h2) (h0:I 0 [] h):
  ∃vs h2,ev T cf (d+1) (.comp (.rng e) false none el) Z h'=some (.ref h2.length,h2++[O.lst vs])/\I n vs h2:=by
 obtain⟨vs,h2,g,_,i2⟩:=Jb (T:=T) (f:=ev T cf d) (ft:=Qay (evT T cf d) none) (w:=.rng 0 n) (el:=el) (Z:=Z) (λi acc h=>acc.length=i/\I i acc h) (n:=n)
  (λi hi acc hs z=>by
   obtain⟨u,h2,b,c⟩:=st i hi acc hs z.2
   exact⟨by lia,iU (i:Int),true,hs,by simp only[itm,hi,Wa,Int.zero_add],rfl,λy=>⟨u,h2,b,by rw[Wq,z.1];rfl,c⟩,λz=>(by cases z)⟩)
  (λacc hs z=>by simp only[itm,W5,Vh]) n 0 (n+1) [] h (Vk _).symm (Wz _) ⟨rfl,h0⟩
 exact⟨vs,h2,Qbs (Qi5 v (by lia)) g,i2⟩
def ZV(e:ev T cf d a Z h=some (u,h1)):ev T cf (d+1) (.lst [a]) Z h=some (.ref h1.length,h1++[.lst [u]]):=by rw[Zs,e_1 e];rfl
section
variable {b:Nat}{P:Vp}
def Qli(o:Own h [(b,.ins 0 [])] P)(lm:m<=100):Cc (tbG xx s) (n+2) 0 [.ref b,iU (m:Int)] h λu h'=>u=.non/\∃P' a v r us,Le P P'/\(∀k∈rg m,dN P' (v k) (0,k))/\P' r (.lst us)/\Paired (dL P') us (List.replicate m ⟨[],0,0⟩)/\Own h' (cB b a {rows:=[.ref r],nk:=rg m,nv:=v,off:=[],fk:=[],fv:=λz=>.non,lk:=[],gk:=[]}) P':=by
 obtain⟨us,h2,e1,P2,l2,o2,d2⟩:=QaO (T:=tbG xx s) (cf:=Qd (tbG xx s) (n+1)) (d:=96) (e:=.var 1) (el:=.tup [(.tup []),(.c (.int 0 0)),(.c (.int 0 0))]) (Z:=[sR b,some (iU (m:Int))]) (h:=h) (n:=m) (Qa rfl) (by lia)
  (λi acc hs=>∃P2,Le P P2/\Own hs [(b,.ins 0 [])] P2/\Paired (dL P2) acc (List.replicate i ⟨[],0,0⟩))
  (λi hi acc hs x=>by
   obtain⟨P2,l2,o2,d2⟩:=x
   refine⟨_,_,Zx (h1:=hs++[.tup []]) rfl y_c y_c,_,(l2.trans le_ad).trans le_ad,(o2.add (y:=.tup [])).add,?_⟩;rw[List.replicate_succ']
   refine QA (Qg (λz z=>dL.le (le_ad.trans le_ad)) d2) (.cons ⟨_,_,[],rfl,Qm,.inl Qm,.nil⟩ .nil))
  ⟨P,Le.refl,o,.nil⟩
 have o3:=o2.add (y:=.lst us);have o4:=o3.new (y:=.lst [.ref h2.length])
 refine QcL (Ql fnL[0] rfl rfl) (Jt (d:=98) (u:=.ref (h2++[O.lst us]).length) (h1:=h2++[O.lst us]++[O.lst [.ref h2.length]]) (ZV e1) (Qa rfl) (o4.c 0 _ _ rfl) (by decide) ?_)
 have o5:=o4.set (y:=.ins 0 [(0,.ref (h2++[O.lst us]).length)]) 0 rfl;obtain⟨P5,l5,f5,o5⟩:∃P5,Le P2 P5/\P5 h2.length (.lst us)/\Own _ _ P5:=⟨_,le_ad,Qm,o5⟩;obtain⟨h5,eh5⟩:∃h5,h5=(h2++[O.lst us]++[O.lst [.ref h2.length]]).set b (.ins 0 [(0,.ref (h2++[O.lst us]).length)]):=⟨_,rfl⟩;have e5':(h2++[O.lst us]++[O.lst [.ref h2.length]]).set b (.ins 0 (Zq 0 (.ref (h2++[O.lst us]).length) []))=h5:=eh5.symm;rw[<-eh5]at o5;rw[e5']
 obtain⟨ws,h6,e6,P6,g,v,l6,o6,ew,d6⟩:=QaO (T:=tbG xx s) (cf:=Qd (tbG xx s) (n+1)) (d:=95) (e:=.var 1) (el:=.tup [(.var 2),(.tup [(.c (.int 0 0)),(.var 2)])]) (Z:=[sR b,some (iU (m:Int))]) (h:=h5) (n:=m) (Qa rfl) (by lia)
  (λi acc hs=>∃P6,∃g v:Int->U,Le P5 P6/\Own hs [(b,.ins 0 [(0,.ref (h2++[O.lst us]).length)]),((h2++[O.lst us]).length,.lst [.ref h2.length])] P6/\acc=(rg i).map g/\∀k∈rg i,(∃t,g k=.ref t/\P6 t (.tup [iU k,v k]))/\dN P6 (v k) (0,k))
  (λi hi acc hs w=>by
   obtain⟨P6,g,v,l6,o6,ea,d6⟩:=w
   have o7:=(o6.add (y:=.tup [iU 0,iU (i:Int)])).add (y:=.tup [iU (i:Int),.ref hs.length]);have vt:ev (tbG xx s) (Qd (tbG xx s) (n+1)) 95 (.tup [(.var 2),(.tup [(.c (.int 0 0)),(.var 2)])]) ([sR b,some (iU (m:Int))]++[some (iU (i:Int))]) hs=some (.ref (hs++[O.tup [iU 0,iU (i:Int)]]).length,hs++[O.tup [iU 0,iU (i:Int)]]++[O.tup [iU (i:Int),.ref hs.length]]):=Q5 (Qa rfl) (Q5 y_c (Qa rfl));refine⟨_,_,vt,_,up g i (.ref (hs++[O.tup [iU 0,iU (i:Int)]]).length),up v i (.ref hs.length),(l6.trans le_ad).trans le_ad,o7,?_,?_⟩
   ·have e1:∀X,(rg i).map (up g i X)=(rg i).map g:=λX=>Wt λk hk=>YF (by have:=rg_mem.mp hk;lia)
    rw[ea,Qmt,X1,e1];show _=_++[up g i _ i];rw[JQ]
   ·intro k hk;rw[Qmt]at hk
    rcases V4.mp hk with hk|hk
    ·have ne:k≠i:=by have:=rg_mem.mp hk;lia
     obtain⟨⟨t,a,c⟩,e⟩:=d6 k hk
     exact⟨⟨t,by rw[YF ne];exact a,by rw[YF ne];exact .inl (.inl c)⟩,by rw[YF ne];exact e.le (le_ad.trans le_ad)⟩
    ·rw[Ws]at hk;subst hk;refine⟨⟨_,JQ,?_⟩,?_⟩
     ·rw[JQ];exact Qm
     ·rw[JQ];exact⟨_,rfl,.inl Qm⟩)
  ⟨P5,λz=>.non,λz=>.non,Le.refl,o5,rfl,λk hk=>by cases hk⟩
 have o7:=o6.add (y:=.lst ws);have o8:=o7.new (y:=.dic (dI (rg m) v))
 have vd:ev (tbG xx s) (Qd (tbG xx s) (n+1)) 97 (.bi .dictS [(.comp (.rng (.var 1)) false none (.tup [(.var 2),(.tup [(.c (.int 0 0)),(.var 2)])]))]) [sR b,some (iU (m:Int))] h5=some (.ref (h6++[O.lst ws]).length,h6++[O.lst ws]++[O.dic (dI (rg m) v)]):=by
  refine JP e6 ?_;show biL (tbG xx s) .dictS [.ref _] _=_;have e1:(h6++[O.lst ws])[h6.length]?=some (.lst ws):=at0
  have e2:Qhq (h6++[O.lst ws]) ws=some (dI (rg m) v):=by
   rw[ew];exact Qj3 λk hk=>let ⟨⟨t,a,c⟩,_⟩:=d6 k hk;⟨t,a,Zd (o6.p _ _ c)⟩
  have e3:Ym [] (dI (rg m) v)=dI (rg m) v:=QdO (a:=[]) Qmu;simp only[biL,Qfp,e1,Option.bind,e2,Option.map,e3]
 refine Jt vd (Qa rfl) (o8.c 0 _ _ rfl) (show 1<500 by decide) ?_
 have o9:=o8.set (y:=.ins 0 [(0,.ref (h2++[O.lst us]).length),(1,.ref (h6++[O.lst ws]).length)]) 0 rfl;obtain⟨P9,l9,o9⟩:∃P9,Le P6 P9/\Own _ _ P9:=⟨_,le_ad,o9⟩;obtain⟨h9,eh9⟩:∃h9,h9=(h6++[O.lst ws]++[O.dic (dI (rg m) v)]).set b (.ins 0 [(0,.ref (h2++[O.lst us]).length),(1,.ref (h6++[O.lst ws]).length)]):=⟨_,rfl⟩;have e9':(h6++[O.lst ws]++[O.dic (dI (rg m) v)]).set b (.ins 0 (Zq 1 (.ref (h6++[O.lst ws]).length) [(0,.ref (h2++[O.lst us]).length)]))=h9:=eh9.symm;rw[<-eh9]at o9;rw[e9'];have p1:=o9.new (y:=.dic []);have p2:=p1.set (y:=.ins 0 [(0,.ref (h2++[O.lst us]).length),(1,.ref (h6++[O.lst ws]).length),(2,.ref h9.length)]) 0 rfl
 refine Jt Zw (Qa rfl) (p1.c 0 _ _ rfl) (show 2<500 by decide) ?_
 obtain⟨ha,eha⟩:∃ha,ha=(h9++[O.dic []]).set b (.ins 0 [(0,.ref (h2++[O.lst us]).length),(1,.ref (h6++[O.lst ws]).length),(2,.ref h9.length)]):=⟨_,rfl⟩;have ea':(h9++[O.dic []]).set b (.ins 0 (Zq 2 (.ref h9.length) [(0,.ref (h2++[O.lst us]).length),(1,.ref (h6++[O.lst ws]).length)]))=ha:=eha.symm;rw[<-eha]at p2;rw[ea'];have p3:=p2.new (y:=.lst []);have p4:=p3.set (y:=.ins 0 [(0,.ref (h2++[O.lst us]).length),(1,.ref (h6++[O.lst ws]).length),(2,.ref h9.length),(3,.ref ha.length)]) 0 rfl
 refine Jt (h1:=ha++[.lst []]) (u:=.ref ha.length) (by rw[Zs];rfl) (Qa rfl) (p3.c 0 _ _ rfl) (by exact(show 3<500 by decide)) ?_
 obtain⟨hb,ehb⟩:∃hb,hb=(ha++[O.lst []]).set b (.ins 0 [(0,.ref (h2++[O.lst us]).length),(1,.ref (h6++[O.lst ws]).length),(2,.ref h9.length),(3,.ref ha.length)]):=⟨_,rfl⟩;have eb':(ha++[O.lst []]).set b (.ins 0 (Zq 3 (.ref ha.length) [(0,.ref (h2++[O.lst us]).length),(1,.ref (h6++[O.lst ws]).length),(2,.ref h9.length)]))=hb:=ehb.symm;rw[<-ehb]at p4;rw[eb']
 obtain⟨u,hc,ec,rfl,f',l',g',p',oc⟩:=Qep (xx:=xx) (s:=s) (n:=n) p4 (show 4<400 by decide)
 refine ZP (YG ((YE (d:=92) (es:=[]) rfl (p4.c 0 _ _ rfl) rfl rfl (h2:=hb) rfl rfl).trans ec) (Zb ⟨rfl,P9,⟨(h2++[O.lst us]).length,(h6++[O.lst ws]).length,h9.length,ha.length,f',l',g',p'⟩,v,h2.length,us,((l2.trans l5).trans l6).trans l9,λk hk=>(d6 k hk).2.le l9,l9 _ _ (l6 _ _ f5),Qg (λz z=>dL.le ((l5.trans l6).trans l9)) d2,?_⟩));exact oc
end
def dW(P:Vp)(u:U)(a:List Lp):Prop:=∃i us,u=.ref i/\P i (.lst us)/\Paired (dL P) us a
theorem dW.le{P P1:Vp}(l:Le P P1){a:List Lp}(h:dW P u a):dW P1 u a:=by obtain⟨i,us,e,h1,h2⟩:=h;exact⟨i,us,e,l _ _ h1,Qg (λz z=>dL.le l) h2⟩
structure Wb where
 R:List (List Lp)
 ly:List Nm
 of:List Nm
def dB(P:Vp)(u:U)(W:Wb):Prop:=∃w r l k o rs ls os,u=.ref w/\P w (.tup [.ref r,.ref l,.ref k,.ref o])/\P r (.lst rs)/\Paired (dW P) rs W.R/\P l (.lst ls)/\Paired (dN P) ls W.ly/\P k (.lst [])/\P o (.lst os)/\Paired (dN P) os W.of
theorem dB.le{P P1:Vp}(l:Le P P1){W:Wb}(h:dB P u W):dB P1 u W:=by obtain⟨w,r,l',k,o,rs,ls,os,e,a,b,c,d,f,g,i,j⟩:=h;exact⟨w,r,l',k,o,rs,ls,os,e,l _ _ a,l _ _ b,Qg (λz z=>dW.le l) c,l _ _ d,dNs.le l f,l _ _ g,l _ _ i,dNs.le l j⟩
def Qnu{P:Vp}(hP:∀i o,P i o->hs[i]?=some o){a:Nm}(h:dN P u a):DN hs u a:=by obtain⟨i,e,z⟩:=h;exact⟨i,e,hP _ _ z⟩
def Qga{P:Vp}{nms:List Nm}(hP:∀i o,P i o->hs[i]?=some o)(hp:hs[p]?=some (.lst us))(pn:Paired (dN P) us nms)(l:us.length<64):∃vs,biU T .sorted [.ref p] hs=some (.ref hs.length,hs++[.lst vs])/\Paired (dN P) vs (QaT nms):=by
 have el:=Qv pn
 have lt:∀ks n,∀i∈L2.permK ks n,i<n:=λks n i m=>by
  have:=(L2.permK_perm ks n).mem_iff.mp m;simpa using this
 refine⟨YL (if nms.length<2 then []else nms.map nmL) us,?_,?_⟩
 ·have e1:(if us.length<2 then some []else Qib hs us)=some (if nms.length<2 then []else nms.map nmL):=by
   rw[QkO (Qg (λz z=>Qnu hP) pn),el];split<;>rfl
  show biL T .sorted [.ref p] hs=_;simp only[biL,QT,hp,l,Wa,e1,Option.map]
 ·unfold YL QaT;rw[el]
  exact Qgj pn λi m=>by rw[el];exact lt _ _ i m
theorem Jv{α:Type}{R:U->α->Prop}{g:Int->U}{f:Int->α}:∀{K:List Int},(∀k∈K,R (g k) (f k))->Paired R (K.map g) (K.map f)
 |[],_=>.nil
 |k::K,h=>.cons (h k (Xw ..)) (Jv λj hj=>h j (Xp _ hj))
section
variable {b:Nat}{a:Ba}{S:Bs}{P:Vp}
def QnG{R:List (List Lp)}{nm:Int->Nm}{Of:List Nm}(o:Own h (cB b a S) P)(hn:∀k∈S.nk,dN P (S.nv k) (nm k))(hr:Paired (dW P) S.rows R)(ho:Paired (dN P) S.off Of)(l1:S.nk.length<64)(l2:R.length<1000)(l3:Of.length<64):
  Cc (tbG xx s) (n+1) 2 [.ref b] h λu h'=>∃P',Le P P'/\Own h' (cB b a S) P'/\dB P' u ⟨R,(srt S.nk).map nm,QaT Of⟩:=by
 have lo:=Qv ho;have lr:=Qv hr;have v1:ev (tbG xx s) (Qd (tbG xx s) n) 97 (.bi .sorted [(.fld (.var 0) 1)]) [sR b,none,none] h=some (.ref h.length,h++[.lst ((srt S.nk).map iU)]):=JP (QB rfl (o.c 0 _ _ rfl) rfl) (Qjx (o.c 2 _ _ rfl) l1);have o1:=o.add (y:=.lst ((srt S.nk).map iU))
 obtain⟨vs,h2,e2,eh,ea⟩:=Yc (R:=λu y=>u=iU y) (L:=srt S.nk) (el:=.ix (.fld (.var 0) 1) (.var 3)) v1 (λi acc hs=>hs=h++[O.lst ((srt S.nk).map iU)]/\acc=((srt S.nk).take i).map S.nv) (Yj _) (by rw[Qz];lia) (λi acc hs z=>by rw[z.1];exact at0)
  (λi y v hy ev acc hs z=>by
   obtain⟨rfl,rfl⟩:=z;subst ev;refine⟨S.nv y,_,Ze (d:=96) (QB rfl (o1.c 0 _ _ rfl) rfl) (Qa rfl) (YK (o1.c 2 _ _ rfl) (srt_mem.mp (Xr hy))),rfl,?_⟩
   rw[tk1 hy,X1];rfl) ⟨rfl,rfl⟩
 rw[eh,ea,W2]at e2;clear eh ea;have o2:=o1.add (y:=.lst ((srt S.nk).map S.nv));obtain⟨P2,l2',f2,o2⟩:∃P2,Le P P2/\P2 (h++[O.lst ((srt S.nk).map iU)]).length (.lst ((srt S.nk).map S.nv))/\Own _ _ P2:=⟨_,le_ad.trans le_ad,Qm,o2⟩;refine QcL (Ql fnL[2] rfl rfl) (Zg (QE (d:=98) e2) ?_);obtain⟨hb,ehb⟩:∃hb,hb=h++[O.lst ((srt S.nk).map iU)]++[O.lst ((srt S.nk).map S.nv)]:=⟨_,rfl⟩;rw[<-ehb]at o2 ⊢
 obtain⟨us,h3,e3,rfl,P3,l3',o3⟩:=Jb (T:=tbG xx s) (f:=ev (tbG xx s) (Qd (tbG xx s) n) 96) (ft:=Qay (evT (tbG xx s) (Qd (tbG xx s) n) 96) (some (.bm .get (.fld (.var 0) 2) [(.var 3),(.lst [])]))) (w:=.seqT (.con 0)) (el:=.tup [(.var 3),(.bi .list [(.ix (.fld (.var 0) 2) (.var 3))])]) (Z:=[sR b,some (.ref (h++[O.lst ((srt S.nk).map iU)]).length),none]) (λi acc hs=>acc=[]/\∃P3,Le P2 P3/\Own hs (cB b a S) P3) (n:=4)
  (λi hi acc hs t=>by
   obtain⟨ea,P3,l3,o3⟩:=t
   subst ea
   have hx:∃x,itm (tbG xx s) (.seqT (.con 0)) i hs=some (some (.one (.str x))):=by
    match i,hi with
    |0,_=>exact⟨_,rfl⟩
    |1,_=>exact⟨_,rfl⟩
    |2,_=>exact⟨_,rfl⟩
    |3,_=>exact⟨_,rfl⟩
   obtain⟨x,hx⟩:=hx
   refine⟨by decide,.str x,false,hs++[.lst []],hx,?_,λz=>(by cases z),λr=>⟨rfl,_,l3.trans le_ad,o3.add⟩⟩
   have o4:=o3.add (y:=.lst [])
   have e:ev (tbG xx s) (Qd (tbG xx s) n) 95 (.bm .get (.fld (.var 0) 2) [(.var 3),(.lst [])]) ([sR b,some (.ref (h++[O.lst ((srt S.nk).map iU)]).length),none]++[some (.str x)]) hs=some (.ref hs.length,hs++[.lst []]):=by
    rw[QgN,QB rfl (o3.c 0 _ _ rfl) rfl,Qy,if_pos (Qcc (o3.c 3 _ _ rfl) rfl),e_2 (u:=.str x) (w:=.ref hs.length) (h2:=hs++[.lst []]) (Qa rfl) (by rw[Zs];rfl),Qy]
    have e5:=o4.c 3 _ _ rfl;simp only[bmU,e5,bmD,Qan,Wa];rfl
   show evT (tbG xx s) (Qd (tbG xx s) n) 96 (.bm .get (.fld (.var 0) 2) [(.var 3),(.lst [])]) _ hs=_;have ez:evT (tbG xx s) (Qd (tbG xx s) n) 96 (.bm .get (.fld (.var 0) 2) [(.var 3),(.lst [])]) ([sR b,some (.ref (h++[O.lst ((srt S.nk).map iU)]).length),none]++[some (.str x)]) hs=bd (ev (tbG xx s) (Qd (tbG xx s) n) 95 (.bm .get (.fld (.var 0) 2) [(.var 3),(.lst [])]) ([sR b,some (.ref (h++[O.lst ((srt S.nk).map iU)]).length),none]++[some (.str x)]) hs) λu h1=>(YJ (tbG xx s) u h1).map λc=>(c,h1):=rfl;rw[ez,e,Qy];have e6:(hs++[O.lst []])[hs.length]?=some (.lst []):=at0;simp only[YJ,Zp,e6]
   rfl)
  (λacc hs r=>rfl) 4 0 5 [] hb rfl (by decide) ⟨rfl,P2,Le.refl,o2⟩
 have e4:ev (tbG xx s) (Qd (tbG xx s) n) 97 (.comp (.seq (.con 0)) false (some (.bm .get (.fld (.var 0) 2) [(.var 3),(.lst [])])) (.tup [(.var 3),(.bi .list [(.ix (.fld (.var 0) 2) (.var 3))])])) [sR b,some (.ref (h++[O.lst ((srt S.nk).map iU)]).length),none] hb=some (.ref h3.length,h3++[.lst []]):=Qbs (w:=.seqT (.con 0)) (h1:=hb) rfl e3;have o4:=o3.add (y:=.lst []);obtain⟨P4,l4',f4,o4⟩:∃P4,Le P3 P4/\P4 h3.length (.lst [])/\Own _ _ P4:=⟨_,le_ad,Qm,o4⟩;refine Zg (QE e4) ?_;have lP:=(l2'.trans l3').trans l4';obtain⟨hc,ehc⟩:∃hc,hc=h3++[O.lst []]:=⟨_,rfl⟩;rw[<-ehc]at o4 ⊢
 obtain⟨rs,h5,e5,P5,l5,o5,d5⟩:=Yc (R:=dW P) (L:=R) (el:=.bi .list [(.var 3)]) (QB (T:=tbG xx s) (cf:=Qd (tbG xx s) n) (d:=92) (i:=0) (f:=0) (Z:=[sR b,some (.ref (h++[O.lst ((srt S.nk).map iU)]).length),sR h3.length]) rfl (o4.c 0 _ _ rfl) rfl) (λi acc hs=>∃P5,Le P4 P5/\Own hs (cB b a S) P5/\Paired (dW P5) acc (R.take i)) hr (by lia) (λi acc hs q=>by obtain⟨P5,l5,o5,_⟩:=q;exact o5.c 1 _ _ rfl)
  (λi row v hy m acc hs l=>by
   obtain⟨p,us,ev,pp,du⟩:=m;obtain⟨P5,l5,o5,d5⟩:=l
   subst ev;have hp:=o5.p _ _ (l5 _ _ (lP _ _ pp));refine⟨.ref hs.length,hs++[.lst us],JP (Qa rfl) ?_,_,l5.trans le_ad,o5.add,?_⟩
   ·unfold biU;simp only[Zp,hp]
   ·rw[tk1 hy]
    exact QA (Qg (λr r=>dW.le le_ad) d5) (.cons ⟨_,us,rfl,Qm,Qg (λr r=>dL.le ((lP.trans l5).trans le_ad)) du⟩ .nil)) ⟨P4,Le.refl,o4,.nil⟩
 rw[W2]at d5;have o6:=o5.add (y:=.lst rs);obtain⟨P6,l6,f6,o6⟩:∃P6,Le P5 P6/\P6 h5.length (.lst rs)/\Own _ _ P6:=⟨_,le_ad,Qm,o6⟩;have lQ:=(lP.trans l5).trans l6
 obtain⟨os,e7,d7⟩:=Qga (T:=tbG xx s) o6.p (o6.c 4 _ _ rfl) (dNs.le lQ ho) (by lia)
 have o7:=o6.add (y:=.lst os);obtain⟨P7,l7,f7,o7⟩:∃P7,Le P6 P7/\P7 (h5++[O.lst rs]).length (.lst os)/\Own _ _ P7:=⟨_,le_ad,Qm,o7⟩;have o8:=o7.add (y:=.tup [.ref h5.length,.ref (h++[O.lst ((srt S.nk).map iU)]).length,.ref h3.length,.ref (h5++[O.lst rs]).length]);refine YN (YG (Qbq e5 (Qa rfl) (Qa rfl) (JP (QB rfl (o6.c 0 _ _ rfl) rfl) e7)) ⟨_,((lQ.trans l7).trans le_ad),o8,_,_,_,_,_,rs,(srt S.nk).map S.nv,os,rfl,Qm,.inl (l7 _ _ f6),?_,?_,?_,?_,.inl f7,?_⟩)
 ·exact Qg (λr r=>dW.le ((l6.trans l7).trans le_ad)) d5
 ·exact .inl (l7 _ _ (l6 _ _ (l5 _ _ (l4' _ _ (l3' _ _ f2)))))
 ·exact Jv λk hk=>(hn k (srt_mem.mp hk)).le ((lQ.trans l7).trans le_ad)
 ·exact .inl (l7 _ _ (l6 _ _ (l5 _ _ f4)))
 ·exact dNs.le (l7.trans le_ad) d7
end
abbrev As:=List (Int×Option Int)
noncomputable def QJ(k:Int)(pre:As):List Int:=pre.filterMap λe=>if e.2=some k then some e.1 else none
noncomputable def ZS(pre:As):List Int:=pre.filterMap λe=>if e.2=none then none else some e.1
noncomputable def ZQ(pre:As):List Int:=pre.filterMap λe=>if e.2=none then some e.1 else none
noncomputable def Qk(pre:As):List Int:=pre.foldl (λks e=>match e.2 with|some f=>pk ks f|none=>ks) []
noncomputable def mvA:Int×Option Int->Mv
 | (x,some f)=>.lay x f
 | (x,none)=>.off x
def QkZ{pre:As}:Qk (pre++[(x,some f)])=pk (Qk pre) f:=by unfold Qk;rw[List.foldl_append];rfl
def Qno{pre:As}:Qk (pre++[(x,none)])=Qk pre:=by unfold Qk;rw[List.foldl_append];rfl
def Qdo{pre:As}:(λk=>QJ k (pre++[(x,some f)]))=up (λk=>QJ k pre) f (QJ f pre++[x]):=by
 funext k
 unfold QJ up;rw[Vq];by_cases e:k=f
 ·subst e;simp
 ·simp[e,X9 e]
def Qdp{pre:As}{k:Int}:QJ k (pre++[(x,none)])=QJ k pre:=by unfold QJ;rw[Vq];simp
def Qh2{pre:As}:ZS (pre++[(x,some f)])=ZS pre++[x]:=by unfold ZS;rw[Vq];simp
def Qh3{pre:As}:ZS (pre++[(x,none)])=ZS pre:=by unfold ZS;rw[Vq];simp
def QdB{pre:As}:ZQ (pre++[(x,some f)])=ZQ pre:=by unfold ZQ;rw[Vq];simp
def QdC{pre:As}:ZQ (pre++[(x,none)])=ZQ pre++[x]:=by unfold ZQ;rw[Vq];simp
def pile_mem{pre:As}{k:Int}:x∈QJ k pre↔(x,some k)∈pre:=by
 unfold QJ;rw[Vz];constructor
 ·rintro⟨⟨a,o⟩,h,e⟩;simp at e;obtain⟨e1,rfl⟩:=e;rw[<-e1];exact h
 ·exact λh=>⟨_,h,by simp⟩
def laids_mem{pre:As}:x∈ZS pre↔∃f,(x,some f)∈pre:=by
 unfold ZS;rw[Vz];constructor
 ·rintro⟨⟨a,o⟩,h,e⟩
  cases o with
  |none=>simp at e
  |some f=>simp at e;subst e;exact⟨f,h⟩
 ·exact λz=>by obtain⟨f,h⟩:=z;exact⟨_,h,by simp⟩
def offs_mem{pre:As}:x∈ZQ pre↔(x,none)∈pre:=by
 unfold ZQ;rw[Vz];constructor
 ·rintro⟨⟨a,o⟩,h,e⟩;simp at e;obtain⟨rfl,rfl⟩:=e;exact h
 ·exact λh=>⟨_,h,by simp⟩
noncomputable def fkS(ks:List Int)(e:Int×Option Int):List Int:=match e.2 with|some f=>pk ks f|none=>ks
theorem Qgw:∀(pre:As) (ks:List Int),(pre.foldl fkS ks).length<=ks.length+pre.length
 |[],ks=>Xm _
 |e::pre,ks=>by
  have h1:(fkS ks e).length<=ks.length+1:=by
   unfold fkS;split
   ·exact Qj5
   ·lia
  have:=Qgw pre (fkS ks e);rw[List.foldl_cons,X7];lia
def Qbg{pre:As}:(Qk pre).length<=pre.length:=by have:=Qgw pre [];rw[Vj,Vk]at this;exact this
def JE{f:α->Option β}{l:List α}:(l.filterMap f).length<=l.length:=List.length_filterMap_le _ _
abbrev Js:=Hs->Vp->Prop
def Gd(J:Js):Prop:=∀h P,J h P->∀i o,P i o->h[i]?=some o
def Stp(b:Nat)(m:Mv)(J J':Js):Prop:=∀xx s n h P t,J h P->P t (.tup (mvU m))->Cc (tbG xx s) (n+5) 17 [.ref b,.ref t] h λu h'=>u=.bl true/\∃P',Le P P'/\J' h' P'
inductive Ch(b:Nat):Js->List Mv->Js->Prop
 |nil {J J':Js}:Gd J->Gd J'->(∀h P,J h P->∃P',Le P P'/\J' h P')->Ch b J [] J'
 |cons {J J1 J':Js} {m:Mv} {ms:List Mv}:Gd J->Stp b m J J1->Ch b J1 ms J'->Ch b J (m::ms) J'
def Ch.pre{b:Nat}{J J1 J':Js}{ms:List Mv}(g:Gd J)(k:∀h P,J h P->∃P',Le P P'/\J1 h P')(c:Ch b J1 ms J'):Ch b J ms J':=by
 cases c with
 |nil g1 g2 k2=>
  refine .nil g g2 λh P z=>?_;obtain⟨P1,l1,z1⟩:=k h P z;obtain⟨P2,l2,z2⟩:=k2 h P1 z1;exact⟨P2,l1.trans l2,z2⟩
 |cons g1 st c=>
  refine .cons g (λxx s n h P t z pt=>?_) c;obtain⟨P1,l1,z1⟩:=k h P z;exact(st xx s n h P1 t z1 (l1 _ _ pt)).mono λu h' y=>by obtain⟨e,P2,l2,z2⟩:=y;exact⟨e,P2,l1.trans l2,z2⟩
def Ch.app{b:Nat}{J J1 J2:Js}{a c:List Mv}(x:Ch b J a J1)(y:Ch b J1 c J2):Ch b J (a++c) J2:=by
 induction x with
 |nil g _ k=>exact y.pre g k
 |cons g st _ ih=>exact .cons g st (ih y)
section
variable {b:Nat}{P0:Vp}{R:List (List Lp)}{nm:Int->Nm}{Of:List Nm}
structure Ph(P0:Vp)(R:List (List Lp))(N:List Int)(nm:Int->Nm)(Of:List Nm)(pre:As)(S:Bs)(P:Vp):Prop where
 le:Le P0 P
 nk:S.nk=N
 nv:∀k∈N,dN P (S.nv k) (nm k)
 rw:Paired (dW P) S.rows R
 of:Paired (dN P) S.off (Of++(ZQ pre).map nm)
 fk:S.fk=Qk pre
 lk:S.lk=ZS pre
 gk:S.gk=ZQ pre
noncomputable def Rdy(b:Nat)(P0:Vp)(R:List (List Lp))(N:List Int)(nm:Int->Nm)(Of:List Nm):Js:=λh P=>∃a S,Ph P0 R N nm Of [] S P/\Own h (cB b a S) P
noncomputable def Ly(b:Nat)(P0:Vp)(R:List (List Lp))(N:List Int)(nm:Int->Nm)(Of:List Nm)(pre:As):Js:=λh P=>∃a S q,Ph P0 R N nm Of pre S P/\LP b a S q (λk=>QJ k pre) P h
noncomputable def Dw(b:Nat)(P0:Vp)(R:List (List Lp))(N:List Int)(nm:Int->Nm)(Of:List Nm)(as:As)(sd:Int->Int)(ds:List Int):Js:=λh P=>∃a S,Ph P0 R N nm Of as S P/\Own h (cB b a S) P/\Fo P S (λk=>decide (k∈ds)) (λk=>⟨(QJ k as).map nm,sd k,0⟩) (λk=>QJ k as)/\S.fk.Nodup
def Ph.up{pre:As}{S:Bs}{P P1:Vp}(p:Ph P0 R N nm Of pre S P)(l:Le P P1):Ph P0 R N nm Of pre S P1:=⟨p.le.trans l,p.nk,λk hk=>(p.nv k hk).le l,Qg (λz z=>dW.le l) p.rw,dNs.le l p.of,p.fk,p.lk,p.gk⟩
def QeF:Gd (Rdy b P0 R N nm Of):=λh P z=>by obtain⟨a,S,p,o⟩:=z;exact o.p
def QkV{pre:As}:Gd (Ly b P0 R N nm Of pre):=λh P z=>by obtain⟨a,S,q,p,o⟩:=z;exact o.ow.p
def QlN{as:As}{sd:Int->Int}{ds:List Int}:Gd (Dw b P0 R N nm Of as sd ds):=λh P z=>by obtain⟨a,S,p,o,_⟩:=z;exact o.p
def r_l{P:Vp}(z:Rdy b P0 R N nm Of h P):∃P',Le P P'/\Ly b P0 R N nm Of [] h P':=by
 obtain⟨a,S,p,o⟩:=z;have e:S.fk=[]:=p.fk;refine⟨P,Le.refl,a,S,λy=>0,p,?_,λk hk=>?_,?_,λk y=>rfl⟩
 ·rw[e];show Own h (cB b a S++[]) P;rw[Wd];exact o
 ·rw[e]at hk;cases hk
 ·rw[e];exact .nil
def l_d{as:As}{sd:Int->Int}{P:Vp}(z:Ly b P0 R N nm Of as h P):∃P',Le P P'/\Dw b P0 R N nm Of as sd [] h P':=by
 obtain⟨a,S,q,p,L⟩:=z;have l:Le P (lkP P (Cq S.fk q λk=>QJ k as)):=λy y z=>.inl z;refine⟨_,l,a,S,p.up l,L.ow.lock,λk hk=>?_,L.nd⟩;obtain⟨t,e,z⟩:=L.ts k hk
 exact⟨t,e,.inr ⟨Xq (by simp),q k,.inl z,.inr (V3.mpr ⟨k,hk,rfl⟩)⟩⟩
def Qju{pre:As}(hx:x∈N)(h1:x∉ZQ pre)(h2:x∉ZS pre)(l:pre.length<1000):Stp b (.lay x f) (Ly b P0 R N nm Of pre) (Ly b P0 R N nm Of (pre++[(x,some f)])):=by
 rintro xx s n h P t ⟨a,S,q,p,L⟩ pt;have c1:=Qbg (pre:=pre);have c2:(ZS pre).length<=pre.length:=JE;have c3:(QJ f pre).length<=pre.length:=JE
 refine Qk6 (L.ow.c 0 _ _ rfl) (L.ow.p _ _ pt) ((QnM L (by rw[p.nk];exact hx) (by rw[p.gk];exact h1) (by rw[p.lk];exact h2) (λz=>h2 (laids_mem.mpr ⟨f,pile_mem.mp z⟩)) (by rw[p.fk];lia) (by rw[p.lk];lia) (by lia)).mono λu h' ⟨e,P',fv',q',l',L'⟩=>⟨e,P',l',a,{S with fk:=pk S.fk f,fv:=fv',lk:=S.lk++[x]},q',?_,?_⟩)
 ·have p':=p.up l'
  exact⟨p'.le,p'.nk,p'.nv,p'.rw,by rw[QdB];exact p'.of,by rw[QkZ,<-p.fk],by rw[Qh2,<-p.lk],by rw[QdB];exact p.gk⟩
 ·rw[Qdo];exact L'
def Qjt{pre:As}(hx:x∈N)(h1:x∉ZQ pre)(h2:x∉ZS pre)(l:pre.length<1000)(lo:Of.length<1000):Stp b (.off x) (Ly b P0 R N nm Of pre) (Ly b P0 R N nm Of (pre++[(x,none)])):=by
 rintro xx s n h P t ⟨a,S,q,p,L⟩ pt;have c2:(ZQ pre).length<=pre.length:=JE;have c3:=Qv p.of;rw[Wq,Xl]at c3
 refine QnB (L.ow.c 0 _ _ rfl) (L.ow.p _ _ pt) ((QnI (n:=n+1) L.ow (by rw[p.nk];exact hx) (by rw[p.gk];exact h1) (by rw[p.lk];exact h2) (by rw[p.gk];lia) (by lia)).mono λu h' ⟨e,o'⟩=>⟨e,P,Le.refl,a,{S with gk:=S.gk++[x],off:=S.off++[S.nv x]},q,?_,?_,L.ts,L.nd,?_⟩)
 ·refine⟨p.le,p.nk,p.nv,p.rw,?_,by rw[Qno];exact p.fk,by rw[Qh3];exact p.lk,by rw[QdC,<-p.gk]⟩
  rw[QdC,X1,<-Wp];exact QA p.of (.cons (p.nv x hx) .nil)
 ·rw[show(λk=>QJ k (pre++[(x,none)]))=λk=>QJ k pre from funext λk=>Qdp];exact o'
 ·intro k hk;rw[Qdp];exact L.no k hk
def Qg1{as:As}{sd:Int->Int}{ds:List Int}{k:Int}(hk:k∈Qk as)(nd:k∉ds)(hm:∀e∈as,e.1∈N)(l:as.length<1000):Stp b (.draw k (sd k)) (Dw b P0 R N nm Of as sd ds) (Dw b P0 R N nm Of as sd (ds++[k])):=by
 rintro xx s n h P t ⟨a,S,p,o,fo,nf⟩ pt;have c1:=Qbg (pre:=as);have c3:(QJ k as).length<=as.length:=JE
 have hf:k∈S.fk:=by rw[p.fk];exact hk
 obtain⟨t',ht,⟨e,_⟩|⟨_,q,p1,p2⟩⟩:=fo k hf
 ·exact absurd (Wo e) nd
 refine Qk8 (o.c 0 _ _ rfl) (o.p _ _ pt) ((Qlj (n:=n+2) o hf ht p1 p2 (λy hy=>by rw[p.nk];exact hm _ (pile_mem.mp hy)) (show(QJ k as).length<=900000 by lia) (by rw[p.fk];lia)).mono λu h' ⟨e,P',t2,w,j,l',f1,f2,f3,o'⟩=>⟨e,P',l',a,{S with fv:=up S.fv k (.ref t2)},?_,o',λi hi=>?_,nf⟩)
 ·have p':=p.up l';exact⟨p'.le,p'.nk,p'.nv,p'.rw,p'.of,p'.fk,p'.lk,p'.gk⟩
 ·by_cases e:i=k
  ·subst e
   refine⟨t2,JQ,.inl ⟨X4 (by simp),_,f1,_,_,_,rfl,f2,f3,?_⟩⟩
   exact Jv λy hy=>(p.nv y (hm _ (pile_mem.mp hy))).le l'
  ·obtain⟨t3,ht3,z⟩:=fo i hi
   have e5:decide (i∈ds++[k])=decide (i∈ds):=by simp[e]
   refine⟨t3,(YF e).trans ht3,?_⟩;dsimp only at z ⊢;rw[e5]
   rcases z with⟨z1,w',z2,z3⟩|⟨z1,q',z2,z3⟩
   ·exact .inl ⟨z1,w',l' _ _ z2,z3.le l'⟩
   ·exact .inr ⟨z1,q',l' _ _ z2,l' _ _ z3⟩
def Qjv{as:As}{sd:Int->Int}{ds:List Int}{nn:Int->Nm}(hm:∀e∈as,e.1∈N)(ha:∀k∈N,∃e∈as,e.1=k)(h1:∀k∈Qk as,k∉ds->∃y,QJ k as=[y])(l:as.length<64)(lN:N.length<1000)(lR:R.length<1000)
  (e1:∀(i:Nat) k,(srt (Qk as))[i]?=some k->k∈ds->nn k=((R.length:Int),((((srt (Qk as)).take i).filter λk=>decide (k∈ds)).length:Int))) (e2:∀k y,k∈Qk as->k∉ds->QJ k as=[y]->nn k=nm y):
  Stp b .fin (Dw b P0 R N nm Of as sd ds) (Rdy b P0 (R++[((srt (Qk as)).filter λk=>decide (k∈ds)).map λk=>⟨(QJ k as).map nm,sd k,0⟩]) (srt (Qk as)) nn (Of++(ZQ as).map nm)):=by
 rintro xx s n h P t ⟨a,S,p,o,fo,nf⟩ pt;have c1:=Qbg (pre:=as);have lr:=Qv p.rw
 refine QnC (o.c 0 _ _ rfl) (o.p _ _ pt) ((QnP (n:=n) (nm:=nm) (nn:=nn) o fo (λk hk=>?_) (λk hk e=>?_) (λk hk=>p.nv k (by rw[<-p.nk];exact hk)) nf (by rw[p.fk];lia) (by rw[p.nk];lia) (by lia) (λi k hi e=>?_) (λk y hk e z=>?_)).mono λu h' ⟨e,P',a',v',L,us,l',pL,dl,dn,o'⟩=>⟨e,P',l',a',{rows:=S.rows++[.ref L],nk:=srt S.fk,nv:=v',off:=S.off,fk:=[],fv:=λw=>.non,lk:=[],gk:=[]},⟨p.le.trans l',?_,?_,?_,?_,rfl,rfl,rfl⟩,o'⟩)
 ·rw[p.nk]at hk;obtain⟨⟨x,f⟩,he,rfl⟩:=ha k hk;rw[p.lk,p.gk]
  cases f with
  |none=>exact .inr (offs_mem.mpr he)
  |some f=>exact .inl (laids_mem.mpr ⟨f,he⟩)
 ·rw[p.fk]at hk;obtain⟨y,ey⟩:=h1 k hk (of_decide_eq_false e)
  have hy:(y,some k)∈as:=pile_mem.mp (by rw[ey];simp)
  exact⟨y,ey,by rw[p.lk];exact laids_mem.mpr ⟨k,hy⟩,by rw[p.nk];exact hm _ hy⟩
 ·rw[p.fk]at hi ⊢;rw[lr];exact e1 i k hi (Wo e)
 ·rw[p.fk]at hk;exact e2 k y hk (of_decide_eq_false e) z
 ·rw[<-p.fk]
 ·rw[<-p.fk];exact dn
 ·refine QA (Qg (λw w=>dW.le l') p.rw) (.cons ⟨L,us,rfl,pL,?_⟩ .nil);rw[<-p.fk];exact dl
 ·have:ZQ []=[]:=rfl;rw[this,Uw,Wd];exact dNs.le l' p.of
end
noncomputable def hkB:List Iv.S:=[(.ite (.and (.cmp .Gt (.var 2) (.c (.int 0 0))) (.not (.call 17 [(.var 1),(.var 3)]))) [(.rse 2 [(.var 2)])] [])]
def Qjn{b:E}{r:Option (Bool×Hs)}(x:evT T cf d a Z h=some (true,h1))(y:evT T cf d b Z h1=r):evT T cf (d+1) (.and a b) Z h=r:=by rw[Qf1,x,Qy];exact y
def Qjo{b:E}(x:evT T cf d a Z h=some (false,h1)):evT T cf (d+1) (.and a b) Z h=some (false,h1):=by rw[Qf1,x,Qy];rfl
def Qng{b:Nat}(hi:0<i)(e:cf 17 [.ref b,.ref t] h=some (.bl c,h1)):evT T cf (d+6) (.and (.cmp .Gt (.var 2) (.c (.int 0 0))) (.not (.call 17 [(.var 1),(.var 3)]))) [sR m,sR b,sI (i:Int),sR t] h=some (!c,h1):=
 Qjn (Qjm (Qa rfl) y_c |>.trans (by rw[X4 (by lia:(0:Int) < i)])) (Ye (Qgz rfl (ZN (e_2 (Qa rfl) (Qa rfl)) e)))
def Qar(hm:h[m]?=some (.lst us)):itm T (.enmL (.ref m)) i h=some ((us[i]?).map λx=>.two (.int (i:Int) 0) x):=by simp only[itm,QT,hm,Option.map]
def Mvs(P:Vp)(us:List U)(i:Nat)(ms:List Mv):Prop:=∀(j:Nat) mv,ms[j]?=some mv->∃t,us[i+j]?=sR t/\P t (.tup (mvU mv))
def Mvs.le{P P1:Vp}{ms:List Mv}(l:Le P P1)(z:Mvs P us i ms):Mvs P1 us i ms:=λj mv e=>by obtain⟨t,a,c⟩:=z j mv e;exact⟨t,a,l _ _ c⟩
def Mvs.tl{P:Vp}{mv:Mv}{ms:List Mv}(z:Mvs P us i (mv::ms)):Mvs P us (i+1) ms:=λj mv e=>by
 obtain⟨t,a,c⟩:=z (j+1) mv e
 exact⟨t,by rw[<-a];congr 1;lia,c⟩
def Qgd{b:Nat}{J J':Js}{ms:List Mv}(c:Ch b J ms J'):∀{xx:Nat->List U->Hs->Option (Er×Hs)} {s:List U} {n d i:Nat} {us:List U} {h:Hs} {P:Vp} {x y:Option U},J h P->P m (.lst us)->0<i->Mvs P us i ms ->
  ∃h2 P2 x2 y2,Le P P2/\J' h2 P2/\(∀k',YQ (tbG xx s) (.enmL (.ref m)) (.pair 2 3) (exs (tbG xx s) (Qd (tbG xx s) (n+5)) (d+8) hkB) (ms.length+k') i [sR m,sR b,x,y] h=YQ (tbG xx s) (.enmL (.ref m)) (.pair 2 3) (exs (tbG xx s) (Qd (tbG xx s) (n+5)) (d+8) hkB) k' (i+ms.length) [sR m,sR b,x2,y2] h2)/\∀bx k',QcJ (tbG xx s) (.enmL (.ref m)) (.pair 2 3) (exs (tbG xx s) (Qd (tbG xx s) (n+5)) (d+8) hkB) bx (ms.length+k') i [sR m,sR b,x,y] h=QcJ (tbG xx s) (.enmL (.ref m)) (.pair 2 3) (exs (tbG xx s) (Qd (tbG xx s) (n+5)) (d+8) hkB) bx k' (i+ms.length) [sR m,sR b,x2,y2] h2:=by
 induction c with
 |nil g _ k=>
  intro xx s n d i us h P x y z pm hi mv;obtain⟨P',l,z'⟩:=k h P z
  exact⟨h,P',x,y,l,z',(λk'=>by rw[Vj,Vk];rfl),λbx k'=>by rw[Vj,Vk];rfl⟩
 |cons g st _ ih=>
  rename_i J J1 J' mv ms _;intro xx s n d i us h P x y z pm hi mvs;obtain⟨t,ut,pt⟩:=mvs 0 mv rfl;obtain⟨u,h1,e,rfl,P1,l1,z1⟩:=st xx s n h P t z pt;obtain⟨h2,P2,x2,y2,l2,z2,f2,f3⟩:=ih (xx:=xx) (s:=s) (n:=n) (d:=d) (i:=i+1) (us:=us) (x:=sI (i:Int)) (y:=sR t) z1 (l1 _ _ pm) (Nat.succ_pos _) (mvs.tl.le l1);have hb:exs (tbG xx s) (Qd (tbG xx s) (n+5)) (d+8) hkB [sR m,sR b,sI (i:Int),sR t] h=some (.next,[sR m,sR b,sI (i:Int),sR t],h1):=(Zv (Qng hi e) rfl).trans Je
  have ea:i+1+ms.length=i+(ms.length+1):=by lia
  have el:∀k',(mv::ms).length+k'=(ms.length+k')+1:=λk'=>by rw[X7];lia
  rw[Nat.add_zero]at ut;refine⟨h2,P2,x2,y2,l1.trans l2,z2,λk'=>?_,λbx k'=>?_⟩
  ·rw[el,YQ,Qar (g h P z _ _ pm),ut];simp only[Option.map,tgt,Vr,Wy,hb];rw[f2,X7,ea]
  ·rw[el,QcJ,Qar (g h P z _ _ pm),ut];simp only[Option.map,tgt,Vr,Wy,hb];rw[f3,X7,ea]
noncomputable def P0(h:Hs):Vp:=λi o=>h[i]?=some o
def QmH:Own h [] (P0 h):=⟨λz z z e=>(nomatch e),λz z z z z e=>(nomatch e),λz z e=>e,λz z z z z e=>(nomatch e)⟩
noncomputable def R0(n:Nat):List (List Lp):=[List.replicate n ⟨[],0,0⟩]
noncomputable def hk1:Iv.S:=(.ite (.or (.not (.var 0)) (.cmp .NotEq (.ix (.ix (.var 0) (.c (.int 0 0))) (.c (.int 0 0))) (.c (.str [99,97,115,116])))) [(.rse 2 [(.c (.int 0 0))])] [])
noncomputable def hk2:Iv.S:=(.set 1 (.make 0 [(.ix (.ix (.var 0) (.c (.int 0 0))) (.c (.int 1 0)))]))
noncomputable def hk3:Iv.S:=(.loop (.pair 2 3) (.enm (.var 0)) hkB)
def QoY{f:Nat}{C:Cl}(ea:evs (ev T cf d) Z es h=some (us,h1))(hC:T.cls[0]?=some C)(hi:C.init=some f)(hz:T.dfl=[])(e:cf f (.ref h1.length::us) (h1++[.ins 0 []])=some (.non,h2)):ev T cf (d+1) (.make 0 es) Z h=some (.ref h1.length,h2):=by
 have y:ev T cf (d+1) (.make 0 es) Z h=bd (evs (ev T cf d) Z es h) λus h1=>Qaj T cf 0 us h1:=rfl
 have ez:QcI T f (us.length+1)=[]:=by unfold QcI;rw[hz];rfl
 rw[y,ea,Qy];simp only[Qaj,hC,hi,ez,Wd,e]
def Qd2{t0 k:Nat}(hm:h[m]?=some (.lst (.ref t0::us)))(ht:h[t0]?=some (.tup (mvU (.cast (k:Int)))))(lk:k<=100):
  ex (tbG xx s) (Qd (tbG xx s) (n+2)) 99 hk1 [sR m,none,none,none] h=some (.next,[sR m,none,none,none],h)/\∃h1 P1,ex (tbG xx s) (Qd (tbG xx s) (n+2)) 98 hk2 [sR m,none,none,none] h=some (.next,[sR m,sR h.length,none,none],h1)/\Le (P0 h) P1/\Rdy h.length (P0 h) (R0 k) (rg k) (λj=>(0,j)) [] h1 P1:=by
 have v0:∀d,ev (tbG xx s) (Qd (tbG xx s) (n+2)) (d+2) (.ix (.var 0) (.c (.int 0 0))) [sR m,none,none,none] h=some (.ref t0,h):=λd=>Ze (Qa rfl) y_c (QaS (j:=0) hm rfl);constructor
 ·refine Qi3 (d:=97) (c:=false) (QiF (c:=false) (h1:=h) (Ye (c:=true) ?_) ?_) rfl
  ·rw[QiY,Qa rfl,Qy];simp only[YJ,Zp,hm];rfl
  ·rw[if_neg Xh];exact QC (d:=95) (u:=.str [99,97,115,116]) (Ze (v0 92) y_c (Zj (j:=0) ht rfl)) y_c rfl
 ·have o1:=(QmH (h:=h)).new (y:=.ins 0 []);obtain⟨u,h1,e1,rfl,P1,a,v,r,us1,l1,d1,pr,d2,o2⟩:=Qli (xx:=xx) (s:=s) (n:=n) o1 lk;refine⟨h1,P1,?_,l1,a,_,⟨l1,rfl,d1,.cons ⟨r,us1,rfl,pr,d2⟩ .nil,.nil,rfl,rfl,rfl⟩,o2⟩;exact Ql2 (QoY (d:=96) (e_1 (Ze (v0 93) y_c (Zj (j:=1) ht rfl))) rfl rfl rfl e1)
def Qni{b:Nat}:exs T cf (d+8) hkB [sR m,sR b,some (.int ((0:Nat):Int) 0),sR t] h=some (.next,[sR m,sR b,some (.int ((0:Nat):Int) 0),sR t],h):=(Zv (Qjo ((Qjm (Qa rfl) y_c).trans (by rw[Xq (by decide)]))) rfl).trans Je
def Qg9(hi:Z[i]?=some (sR m))(hm:h[m]?=some (.lst us)):Zf T (ev T cf (d+1)) Z (.enm (.var i)) h=some (.enmL (.ref m),h):=by simp only[Zf,Qa hi,Qy,QT,hm]
def QpZ{xs:List α}{x:α}(h:xs[xs.length-1]?=some x):atU xs (-1)=some x:=by
 have l:=(Xe.mp h).1
 have e:ixU xs.length (-1)=some (xs.length-1):=by
  unfold ixU
  rw[if_neg (by decide),if_pos (by lia)]
  congr 1
  lia
 simp only[atU,e,h]
section
variable {k:Nat}{ms:List Mv}{R:List (List Lp)}{nm:Int->Nm}{Of:List Nm}
def Qen(hm:h[m]?=some (.lst us))(lu:us.length=ms.length+1)(mv:Mvs (P0 h) us 0 (.cast (k:Int)::ms))(lk:k<=100){tl:Nat}{w:List Nat}{r:List U}(hl:us[us.length-1]?=sR tl)(ht:h[tl]?=some (.tup (.str w::r)))(hw:w=[99,97,115,116]\/w=[101,110,100])
  (ch:Ch h.length (Rdy h.length (P0 h) (R0 k) (rg k) (λj=>(0,j)) []) ms (Rdy h.length (P0 h) R N nm Of)) (l1:N.length<64) (l2:R.length<1000) (l3:Of.length<64):
  Cc (tbG xx s) (n+6) 16 [.ref m] h λu h'=>∃P',Le (P0 h) P'/\(∀i o,P' i o->h'[i]?=some o)/\dB P' u ⟨R,(srt N).map nm,QaT Of⟩:=by
 obtain⟨t0,u0,p0⟩:=mv 0 _ rfl
 match us,hm,lu,mv,hl,u0 with
 |.ref t0'::us,hm,lu,mv,hl,u0=>
  cases u0;obtain⟨x1,h1,P1,x2,le1,z1⟩:=Qd2 (xx:=xx) (s:=s) (n:=n+3) hm p0 lk
  obtain⟨h2,P2,a2,b2,l2',z2,f2,_⟩:=Qgd (m:=m) ch (xx:=xx) (s:=s) (n:=n) (d:=88) (i:=1) (us:=.ref t0::us) (x:=some (.int ((0:Nat):Int) 0)) (y:=sR t0) z1 (le1 _ _ hm) (by decide) (mv.tl.le le1)
  have hm1:=QeF _ _ z1 _ _ (le1 _ _ hm);have hm2:=QeF _ _ z2 _ _ (l2' _ _ (le1 _ _ hm))
  have tn:Q6 (tbG xx s) (.enmL (.ref m)) h1=(ms.length+1)+1:=by simp only[Q6,QT,hm1,Vx,lu]
  have x3:ex (tbG xx s) (Qd (tbG xx s) (n+5)) 97 hk3 [sR m,sR h.length,none,none] h1=some (.next,[sR m,sR h.length,a2,b2],h2):=by
   refine Qbp (Qg9 (d:=95) rfl hm1) ?_;rw[tn,YQ,Qar hm1];simp only[Tj,Option.map,tgt,Vr,Wy,Qni (T:=tbG xx s) (cf:=Qd (tbG xx s) (n+5)) (d:=88) (m:=m) (b:=h.length) (t:=t0) (h:=h1)]
   rw[f2 1,YQ,Qar hm2,Ww (by rw[lu];lia)]
   rfl
  obtain⟨a,S,p,o⟩:=z2;have ht2:=o.p _ _ (l2' _ _ (le1 _ _ ht));have o3:=o.add (y:=.tup [.str [99,97,115,116],.str [101,110,100]])
  have t3:evT (tbG xx s) (Qd (tbG xx s) (n+5)) 95 (.cmp .NotIn (.ix (.ix (.var 0) (.neg (.c (.int 1 0)))) (.c (.int 0 0))) (.tup [(.c (.str [99,97,115,116])),(.c (.str [101,110,100]))])) [sR m,sR h.length,a2,b2] h2=some (false,h2++[.tup [.str [99,97,115,116],.str [101,110,100]]]):=by
   refine QC (d:=93) (u:=.str w) (w:=.ref h2.length) (Ze (u:=.ref tl) (Ze (u:=.ref m) (w:=.int (-1) 0) (Qa rfl) rfl ?_) y_c (Zj (j:=0) ht2 rfl)) (Q5 y_c y_c) ?_
   ·simp only[ZZ,hm2];exact QpZ hl
   ·have hh:(h2++[O.tup [.str [99,97,115,116],.str [101,110,100]]])[h2.length]?=some (.tup [.str [99,97,115,116],.str [101,110,100]]):=at0
    rcases hw with rfl|rfl<;>(simp only[YH,Zp,hh];rfl)
  have le2:=(le1.trans l2').trans (le_ad (P:=P2) (j:=h2.length) (x:=.tup [.str [99,97,115,116],.str [101,110,100]]));have p3:=p.up (le_ad (P:=P2) (j:=h2.length) (x:=.tup [.str [99,97,115,116],.str [101,110,100]]))
  obtain⟨u,h4,e4,P4,l4,o4,d4⟩:=QnG (xx:=xx) (s:=s) (n:=n+4) (nm:=nm) (R:=R) (Of:=Of) o3 (λk hk=>p3.nv k (by rw[<-p.nk];exact hk)) p3.rw (by have e:=p3.of;rw[show ZQ []=[]from rfl,Uw,Wd]at e;exact e) (by rw[p.nk];exact l1) l2 l3
  have v5:ev (tbG xx s) (Qd (tbG xx s) (n+5)) 94 (.meth 1 (.var 1) []) [sR m,sR h.length,a2,b2] (h2++[.tup [.str [99,97,115,116],.str [101,110,100]]])=some (u,h4):=by
   have e5:Qd (tbG xx s) (n+5) 2 [.ref h.length] (h2++[.tup [.str [99,97,115,116],.str [101,110,100]]])=some (u,h4):=e4;rw[YE (d:=92) (f:=2) (us:=[]) (es:=[]) (q:=h.length) rfl (o3.c 0 _ _ rfl) rfl rfl rfl rfl];exact e5
  rw[p.nk]at d4;refine QcL (Ql fnL[16] rfl rfl) (QcH x1 (QcH x2 (QcH x3 (Zg (Zv (d:=94) t3 rfl) ?_))));exact YN (YG v5 ⟨P4,le2.trans l4,o4.p,d4⟩)
def QnQ{b:Nat}{P P':Vp}(z:Rdy b P' R N nm Of h P)(pt:P t (.tup (mvU (.lay x f))))(hx:x∉N):Qd (tbG xx s) (n+3) 17 [.ref b,.ref t] h=some (.bl false,h):=by
 obtain⟨a,S,p,o⟩:=z
 have oo:Own h (cB b a S++[]) P:=by rw[Wd];exact o
 have e:Qd (tbG xx s) (n+2) 5 [.ref b,iU x,iU f] h=some (.bl false,h):=by
  rw[Ql fnL[5] rfl rfl];refine JS (d:=96) (c:=true) (QiF (c:=true) (h1:=h) (Ye (c:=false) (Qgz rfl ?_)) rfl) rfl y_c;refine(YE (d:=93) (es:=[.var 1]) rfl (o.c 0 _ _ rfl) rfl rfl (e_1 (Qa rfl)) rfl).trans ?_;rw[Qit oo,p.nk,Xq hx];rfl
 obtain⟨u,h1,e1,q⟩:=Qk6 (o.c 0 _ _ rfl) (o.p _ _ pt) (Q:=λu h'=>u=.bl false/\h'=h) ⟨_,_,e,rfl,rfl⟩;rw[e1,q.1,q.2]
def QgM{n f:Nat}{us:List U}{h:Hs}(F:Fn)(hF:T.fns[f]?=some F)(hl:us.length=F.np):QV T (n+1) f us h=exsX T (Qd T n) dd F.body (QiJ us F.nN) h:=by simp[QV,hF,hl]
def Qf0{h:Hs}{st:Iv.S}(e:ex T cf d st Z h=some (.next,ρ1,h1)):exsX T cf (d+1) (st::r) Z h=exsX T cf d r ρ1 h1:=by rw[exsX,e]
def QcN{h:Hs}{st:Iv.S}(e:ex T cf d st Z h=none):exsX T cf (d+1) (st::r) Z h=exX T cf d st Z h:=by rw[exsX,e]
def Qnh{m b:Nat}{h:Hs}(hi:0<i)(e:cf 17 [.ref b,.ref t] h=some (.bl false,h)):exs T cf (d+8) hkB [sR m,sR b,sI (i:Int),sR t] h=none/\ex T cf (d+7) hkB[0] [sR m,sR b,sI (i:Int),sR t] h=none:=by
 have x:ex T cf (d+7) hkB[0] [sR m,sR b,sI (i:Int),sR t] h=none:=by
  show ex T cf (d+7) (.ite _ _ _) _ h=none;rw[QcO,Qng hi e,Qy];rfl
 exact⟨by rw[show hkB=[hkB[0]]from rfl,Q9,x],x⟩
def Qf2(hm:h[m]?=some (.lst us))(mv:Mvs (P0 h) us 0 (.cast (k:Int)::(ms++[.lay x f])))(lk:k<=100)(lu:us.length<1000)
  (ch:Ch h.length (Rdy h.length (P0 h) (R0 k) (rg k) (λj=>(0,j)) []) ms (Rdy h.length (P0 h) R N nm Of)) (hx:x∉N):
  Qd (tbG xx s) (n+6) 16 [.ref m] h=none/\∃h',QV (tbG xx s) (n+6) 16 [.ref m] h=some ((2,.int ((ms.length+1:Nat):Int) 0),h')/\Kp h h':=by
 obtain⟨t0,u0,p0⟩:=mv 0 _ rfl
 have mv1:Mvs (P0 h) us 1 ms:=λj m e=>mv.tl j m (by rw[Xu (Xe.mp e).1];exact e)
 obtain⟨tb,ub,pb⟩:=mv.tl ms.length (.lay x f) (by simp)
 match us,hm,lu,mv,u0,ub,mv1 with
 |.ref t0'::us,hm,lu,mv,u0,ub,mv1=>
  cases u0
  have ll:ms.length+2<=(U.ref t0::us).length:=by have:=(Xe.mp ub).1;lia
  obtain⟨x1,h1,P1,x2,le1,z1⟩:=Qd2 (xx:=xx) (s:=s) (n:=n+3) hm p0 lk;have hm1:=QeF _ _ z1 _ _ (le1 _ _ hm)
  have tn:Q6 (tbG xx s) (.enmL (.ref m)) h1=(ms.length+((us.length-ms.length)+1))+1:=by
   have l':ms.length+1<=us.length:=by rw[X7]at ll;lia
   simp only[Q6,QT,hm1,Vx];show us.length+1+1=_;lia
  obtain⟨h2,P2,a2,b2,l2',z2,f2,f3⟩:=Qgd (m:=m) ch (xx:=xx) (s:=s) (n:=n) (d:=88) (i:=1) (us:=.ref t0::us) (x:=some (.int ((0:Nat):Int) 0)) (y:=sR t0) z1 (le1 _ _ hm) (by decide) (mv1.le le1)
  have hm2:=QeF _ _ z2 _ _ (l2' _ _ (le1 _ _ hm));have eb:=QnQ (xx:=xx) (s:=s) (n:=n+2) z2 (l2' _ _ (le1 _ _ pb)) hx;have hn:=Qnh (T:=tbG xx s) (cf:=Qd (tbG xx s) (n+5)) (d:=88) (m:=m) (i:=1+ms.length) (Nat.add_pos_left Nat.one_pos _) eb
  have x3:ex (tbG xx s) (Qd (tbG xx s) (n+5)) 97 hk3 [sR m,sR h.length,none,none] h1=none:=by
   refine Qbp (Qg9 (d:=95) rfl hm1) ?_;rw[tn,YQ,Qar hm1];simp only[Tj,Option.map,tgt,Vr,Wy,Qni (T:=tbG xx s) (cf:=Qd (tbG xx s) (n+5)) (d:=88) (m:=m) (b:=h.length) (t:=t0) (h:=h1)];rw[f2,YQ,Qar hm2,ub];simp only[Option.map,tgt,Vr,Wy,hn.1]
  constructor
  ·rw[Ql fnL[16] rfl rfl]
   refine(congrArg fin ((JR x1).trans ((JR x2).trans (show exs _ _ 98 (hk3::_) _ _=none by rw[Q9,x3])))).trans rfl
  ·refine⟨h2,?_,λi o e=>QeF _ _ z2 _ _ (l2' _ _ (le1 _ _ e))⟩
   have ex3:exX (tbG xx s) (Qd (tbG xx s) (n+5)) 97 hk3 [sR m,sR h.length,none,none] h1=some ((2,.int ((ms.length+1:Nat):Int) 0),h2):=by
    show exX _ _ 97 (.loop _ _ _) _ _=_;rw[exX,Qg9 (d:=95) rfl hm1,Qy,tn,QcJ,Qar hm1];simp only[Tj,Option.map,tgt,Vr,Wy,Qni (T:=tbG xx s) (cf:=Qd (tbG xx s) (n+5)) (d:=88) (m:=m) (b:=h.length) (t:=t0) (h:=h1)];rw[f3,QcJ,Qar hm2,ub];simp only[Option.map,tgt,Vr,Wy,hn.1];rw[show hkB=[hkB[0]]from rfl,QcN hn.2];show exX _ _ 95 (.ite _ _ _) _ _=_;rw[exX,Qng (Nat.add_pos_left Nat.one_pos _) eb];show exsX _ _ 94 [.rse 2 [.var 2]] _ h2=_
    rw[QcN (by rfl),exX,e_1 (Qa rfl),Qy]
    have hs:Qp ((1+ms.length:Nat):Int)=true:=by
     rw[X7]at ll lu;simp only[Qp,Xk,Xy];lia
    have er:rsv [.int ((1+ms.length:Nat):Int) 0]=some (.int ((1+ms.length:Nat):Int) 0):=by
     have e1:((tbG xx s).efl.any λp=>p.1==2)=true:=rfl;have e2:(tbG xx s).efi.contains 2=true:=rfl;simp only[rsv,e1,e2,Wa,hs]
    rw[er,if_pos ⟨rfl,by decide⟩,Nat.add_comm]
    rfl
   rw[QgM fnL[16] rfl rfl];exact(Qf0 x1).trans ((Qf0 x2).trans ((QcN x3).trans ex3))
end
noncomputable def asg(cs:List Int)(kd:Int)(j:Nat):Int×Option Int:=((j:Int),if(cs.getD j 0) % 13=12 then none else some ((cs.getD j 0) % 13*(1+kd / 2 % 5)+kd / 10 % 7))
noncomputable def QaM(n:Nat)(kd:Int):List Nat:=if kd % 2=1 then(List.range n).reverse else List.range n
noncomputable def asL(cs:List Int)(kd:Int):As:=(QaM cs.length kd).map (asg cs kd)
def ord_mem{j:Nat}:j∈QaM n kd↔j<n:=by unfold QaM;split<;>simp
def Qdw:(QaM n kd).length=n:=by unfold QaM;split<;>simp
def Qkj:(QaM n kd).Nodup:=by
 unfold QaM;split
 ·exact(List.reverse_perm _).nodup_iff.mpr List.nodup_range
 ·exact List.nodup_range
def dP(P:Vp)(u:U)(l:List Nm):Prop:=∃w us,u=.ref w/\P w (.lst us)/\Paired (dN P) us l
theorem dP.le{P P1:Vp}(l:Le P P1){a:List Nm}(h:dP P u a):dP P1 u a:=by obtain⟨w,us,e,h1,h2⟩:=h;exact⟨w,us,e,l _ _ h1,dNs.le l h2⟩
noncomputable abbrev n0:Int->Nm:=λx=>(0,x)
structure Li(c p m g:Nat)(cs:List Int)(kd:Int)(P0:Vp)(pre:As)(Z:Rho)(h:Hs)(P:Vp)(v:Int->U)(us gs:List U):Prop where
 rg:∃x y z,Z=[sR c,some (iU kd),sR p,sR m,sR g,x,y,z]
 le:Le P0 P
 ow:Own h [(p,.dic (dI (Qk pre) v)),(m,.lst us),(g,.lst gs)] P
 hc:P c (.lst (cs.map iU))
 dm:Paired (dM P) us (pre.map mvA)
 dp:∀k∈Qk pre,dP P (v k) ((QJ k pre).map n0)
 dg:Paired (dN P) gs ((ZQ pre).map n0)
noncomputable def QmV:List Iv.S:=[(.ite (.cmp .Eq (.op .Mod (.ix (.var 0) (.var 6)) (.c (.int 13 0))) (.c (.int 12 0))) [(.expr (.bm .append (.var 3) [(.tup [(.c (.str [111,102,102])),(.var 6)])])),(.expr (.bm .append (.var 4) [(.tup [(.c (.int 0 0)),(.var 6)])]))] [(.set 7 (.op .Add (.op .Mult (.op .Mod (.ix (.var 0) (.var 6)) (.c (.int 13 0))) (.op .Add (.c (.int 1 0)) (.op .Mod (.op .FloorDiv (.var 1) (.c (.int 2 0))) (.c (.int 5 0))))) (.op .Mod (.op .FloorDiv (.var 1) (.c (.int 10 0))) (.c (.int 7 0))))),(.expr (.bm .append (.var 3) [(.tup [(.c (.str [108,97,121])),(.var 6),(.var 7)])])),(.put (.var 2) (.var 7) (.op .Add (.bm .get (.var 2) [(.var 7),(.lst [])]) (.lst [(.tup [(.c (.int 0 0)),(.var 6)])])))])]
def QkY{pre:As}{k:Int}(h:k∉Qk pre):QJ k pre=[]:=by
 have g:∀(pre:As) (ks:List Int) (x f:Int),(x,some f)∈pre\/f∈ks->f∈pre.foldl fkS ks:=λpre=>by
  induction pre with
  |nil=>intro ks x f z;exact z.elim (λz=>by cases z) id
  |cons e pre ih=>
   intro ks x f z;refine ih (fkS ks e) x f ?_
   rcases z with z|z
   ·rcases X5.mp z with z|z
    ·subst z;exact .inr (pk_mem.mpr (.inr rfl))
    ·exact .inl z
   ·refine .inr ?_;unfold fkS;split
    ·exact pk_mem.mpr (.inl z)
    ·exact z
 rw[List.eq_nil_iff_forall_not_mem];intro x hx;exact h (g pre [] x k (.inl (pile_mem.mp hx)))
def QmO(hj:Qp j=true):opU .Mult (.int x 0) (.int j 0) h=some (.int (x*j) 0,h):=by
 show(QhX _ _).map _=_;simp only[QhX,hj,Bool.true_or,Bool.or_true,Wa];rfl
def Qft{c:Nat}{P0:Vp}{pre:As}{P:Vp}{j:Nat}(L:Li c p m g cs kd P0 pre Z h P v us gs)(hj:j<cs.length)(ll:pre.length<1000)(k0:0<=kd)(k1:kd<100):
  Xx T cf (d+20) QmV (Z.set 6 (some (iU (j:Int)))) h λf ρ2 h'=>f=.next/\∃P2 v2 us2 gs2,Li c p m g cs kd P0 (pre++[asg cs kd j]) ρ2 h' P2 v2 us2 gs2:=by
 obtain⟨⟨x,y,z,rfl⟩,le,ow,hc,dm,dp,dg⟩:=L;have lm:=Qv dm;have lg:=Qv dg;have c2:(ZQ pre).length<=pre.length:=JE;have c1:=Qbg (pre:=pre);rw[Xl]at lm lg
 have ej:(cs.map iU)[j]?=some (iU (cs.getD j 0)):=by simp[hj]
 have vc:∀{d:Nat} {Z:Rho} {h:Hs},Z[0]?=some (sR c)->Z[6]?=some (some (iU (j:Int)))->h[c]?=some (.lst (cs.map iU))->ev T cf (d+3) (.op .Mod (.ix (.var 0) (.var 6)) (.c (.int 13 0))) Z h=some (iU ((cs.getD j 0) % 13),h):=λe1 e2 hc=>JU (Ze (Qa e1) (Qa e2) (QaS (j:=j) hc ej)) (by decide)
 generalize hx:cs.getD j 0=X at ej vc
 have ea:asg cs kd j=((j:Int),if X % 13=12 then none else some (X % 13*(1+kd / 2 % 5)+kd / 10 % 7)):=by unfold asg;rw[hx]
 rw[ea];refine QiK (d:=d+18) (Qn6 (d:=d+16) (vc rfl rfl (ow.p _ _ hc)) y_c) ?_;by_cases e12:X % 13=12
 ·rw[X4 e12,if_pos e12];have o1:=ow.add (y:=.tup [.str [111,102,102],iU (j:Int)]);have o2:=o1.set (y:=.lst (us++[.ref h.length])) 1 rfl
  refine ZP (d:=d+16) (YM (d:=d+15) (Qa rfl) (ow.c 1 _ _ rfl) (YG (Q5 y_c (Qa rfl)) ⟨_,o1.c 1 _ _ rfl,by lia,?_⟩))
  generalize (h++[O.tup [.str [111,102,102],iU (j:Int)]]).set m (.lst (us++[.ref h.length]))=h2 at o2;obtain⟨P2,l2,f2,o2⟩:∃P2,Le P P2/\P2 h.length (.tup (mvU (.off (j:Int))))/\Own _ _ P2:=⟨_,le_ad,Qm,o2⟩;have o3:=o2.add (y:=.tup [iU 0,iU (j:Int)]);have o4:=o3.set (y:=.lst (gs++[.ref h2.length])) 2 rfl;obtain⟨P4,l4,f4,o4⟩:∃P4,Le P2 P4/\P4 h2.length (.tup (nmK (0,(j:Int))))/\Own _ _ P4:=⟨_,le_ad,Qm,o4⟩;have l5:=l2.trans l4
  refine ZP (d:=d+15) (YM (d:=d+14) (Qa rfl) (o2.c 2 _ _ rfl) (YG (Q5 y_c (Qa rfl)) ⟨_,o3.c 2 _ _ rfl,by lia,Zb (Zb ⟨rfl,P4,v,us++[.ref h.length],gs++[.ref h2.length],⟨_,_,_,rfl⟩,le.trans l5,?_,l5 _ _ hc,?_,?_,?_⟩)⟩))
  ·rw[Qno];exact o4
  ·rw[X1];exact QA (Qg (λt t=>dM.le l5) dm) (.cons ⟨_,rfl,l4 _ _ f2⟩ .nil)
  ·intro k hk;rw[Qno]at hk;rw[Qdp];exact(dp k hk).le l5
  ·rw[QdC,X1];exact QA (dNs.le l5 dg) (.cons ⟨_,rfl,f4⟩ .nil)
 ·rw[Xq e12,if_neg e12]
  have s1:Qp (1+kd / 2 % 5)=true:=by simp only[Qp,Xk,Xy];lia
  refine Zg (QE (d:=d+16) (Qbr (Qbr (vc rfl rfl (ow.p _ _ hc)) (Qbr y_c (JU (Qjc (Qa rfl) (by decide)) (by decide)) Qag) (QmO s1)) (JU (Qjc (Qa rfl) (by decide)) (by decide)) Qag)) ?_
  generalize X % 13*(1+kd / 2 % 5)+kd / 10 % 7=F;have o1:=ow.add (y:=.tup [.str [108,97,121],iU (j:Int),iU F]);have o2:=o1.set (y:=.lst (us++[.ref h.length])) 1 rfl
  refine ZP (d:=d+15) (YM (d:=d+14) (Qa rfl) (ow.c 1 _ _ rfl) (YG (Zx y_c (Qa rfl) (Qa rfl)) ⟨_,o1.c 1 _ _ rfl,by lia,?_⟩))
  generalize (h++[O.tup [.str [108,97,121],iU (j:Int),iU F]]).set m (.lst (us++[.ref h.length]))=h2 at o2;obtain⟨P2,l2,f2,o2⟩:∃P2,Le P P2/\P2 h.length (.tup (mvU (.lay (j:Int) F)))/\Own _ _ P2:=⟨_,le_ad,Qm,o2⟩;have o3:=o2.add (y:=.lst []);obtain⟨P3,l3,f3,o3⟩:∃P3,Le P2 P3/\P3 h2.length (.lst [])/\Own _ _ P3:=⟨_,le_ad,Qm,o3⟩;have o4:=(o3.add (y:=.tup [iU 0,iU (j:Int)])).add (y:=.lst [.ref (h2++[O.lst []]).length]);obtain⟨P4,l4,f4,g4,o4⟩:∃P4,Le P3 P4/\P4 (h2++[O.lst []]).length (.tup (nmK (0,(j:Int))))/\P4 (h2++[O.lst []]++[O.tup [iU 0,iU (j:Int)]]).length (.lst [.ref (h2++[O.lst []]).length])/\Own (h2++[O.lst []]++[O.tup [iU 0,iU (j:Int)]]++[O.lst [.ref (h2++[O.lst []]).length]]) _ P4:=⟨_,le_ad.trans le_ad,.inl Qm,Qm,o4⟩
  obtain⟨w,ws,ew,pw',dw⟩:∃w ws,(if F∈Qk pre then v F else .ref h2.length)=.ref w/\P3 w (.lst ws)/\Paired (dN P3) ws ((QJ F pre).map n0):=by
   by_cases hF:F∈Qk pre
   ·rw[if_pos hF];obtain⟨w,ws,a,b,c⟩:=(dp F hF).le (l2.trans l3);exact⟨w,ws,a,b,c⟩
   ·rw[if_neg hF];refine⟨_,[],rfl,f3,?_⟩;rw[QkY hF];exact .nil
  have lw:=Qv dw;have c3:(QJ F pre).length<=pre.length:=JE;rw[Xl]at lw
  have vg:ev T cf (d+13) (.bm .get (.var 2) [(.var 7),(.lst [])]) [sR c,some (iU kd),sR p,sR m,sR g,x,some (iU (j:Int)),some (iU F)] h2=some (.ref w,h2++[.lst []]):=by
   rw[QgN,Qa rfl,Qy,if_pos (Qcc (o2.c 0 _ _ rfl) rfl),e_2 (u:=iU F) (w:=.ref h2.length) (h2:=h2++[.lst []]) (Qa rfl) (by rw[Zs];rfl),Qy,QkU (o3.c 0 _ _ rfl),ew]
  have va:ev T cf (d+14) (.op .Add (.bm .get (.var 2) [(.var 7),(.lst [])]) (.lst [(.tup [(.c (.int 0 0)),(.var 6)])])) [sR c,some (iU kd),sR p,sR m,sR g,x,some (iU (j:Int)),some (iU F)] h2=some (.ref (h2++[O.lst []]++[O.tup [iU 0,iU (j:Int)]]++[O.lst [.ref (h2++[O.lst []]).length]]).length,h2++[O.lst []]++[O.tup [iU 0,iU (j:Int)]]++[O.lst [.ref (h2++[O.lst []]).length]]++[O.lst (ws++[.ref (h2++[O.lst []]).length])]):=by
   refine Qbr vg (ZV (Q5 y_c (Qa rfl))) ?_
   exact Qlu (o4.p _ _ (l4 _ _ pw')) (o4.p _ _ g4) (by simp;lia)
  generalize h2++[O.lst []]++[O.tup [iU 0,iU (j:Int)]]++[O.lst [.ref (h2++[O.lst []]).length]]=h4 at va o4;have o5:=o4.add (y:=.lst (ws++[.ref (h2++[O.lst []]).length]));have o6:=o5.set (y:=.dic (dI (pk (Qk pre) F) (up v F (.ref h4.length)))) 0 rfl;obtain⟨P6,l6,f6,o6⟩:∃P6,Le P4 P6/\P6 h4.length (.lst (ws++[.ref (h2++[O.lst []]).length]))/\Own _ _ P6:=⟨_,le_ad,Qm,o6⟩;have l7:=((l2.trans l3).trans l4).trans l6
  refine Jr (d:=d+14) va (Qa rfl) (Qa rfl) (Zz (o5.c 0 _ _ rfl) (by lia)) (Zb (Zb ⟨rfl,P6,up v F (.ref h4.length),us++[.ref h.length],gs,⟨_,_,_,rfl⟩,le.trans l7,?_,l7 _ _ hc,?_,?_,?_⟩))
  ·rw[QkZ];exact o6
  ·rw[X1];exact QA (Qg (λt t=>dM.le l7) dm) (.cons ⟨_,rfl,l6 _ _ (l4 _ _ (l3 _ _ f2))⟩ .nil)
  ·intro k hk;have ep:QJ k (pre++[((j:Int),some F)])=up (λk=>QJ k pre) F (QJ F pre++[(j:Int)]) k:=congrFun Qdo k;rw[ep];by_cases ek:k=F
   ·subst ek;rw[JQ,JQ,X1];exact⟨_,_,rfl,f6,QA (dNs.le (l4.trans l6) dw) (.cons ⟨_,rfl,l6 _ _ f4⟩ .nil)⟩
   ·rw[YF ek,YF ek];rw[QkZ]at hk;exact(dp k ((pk_mem.mp hk).resolve_right ek)).le l7
  ·rw[QdB];exact dNs.le l7 dg
def Qi8(x:ev T cf d e Z h=some (iU (n:Int),h1))(l:n<=1000):ev T cf (d+1) (.lstR [e]) Z h=some (.ref h1.length,h1++[.lst ((List.range n).map λj:Nat=>iU (j:Int))]):=by
 have y:ev T cf (d+1) (.lstR [e]) Z h=bd (evs (ev T cf d) Z [e] h) λus h1=>match QiH us with|some xs=>some (.ref h1.length,h1++[.lst xs])|none=>none:=rfl
 have s:Qp ((n:Int)*4)=true:=Qoo (by lia)
 have r:QiH [iU (n:Int)]=some ((List.range n).map λj:Nat=>iU (j:Int)):=by
  simp only[QiH,QiI]
  rw[if_pos (by simp only[s];decide)]
  simp only[Wa,Int.sub_zero,Ue]
  rw[if_pos (by lia)]
  refine congrArg some (Wt λj z=>?_);show U.int (0+(j:Int)*1) 0=_;rw[Int.zero_add,Int.mul_one]
 rw[y,e_1 x,Qy,r]
def Qi6(x:ev T cf d a Z h=some (.ref p,h1))(hp:h1[p]?=some (.lst xs)):ev T cf (d+1) (.rev a) Z h=some (.ref h1.length,h1++[.lst xs.reverse]):=by rw[QlW,x,Qy];simp only[QT,hp]
theorem Qdj:∀K:List Nat,Paired (λ(u:U) (j:Nat)=>u=iU (j:Int)) (K.map λj:Nat=>iU (j:Int)) K
 |[]=>.nil
 |k::K=>.cons rfl (Qdj K)
section
variable {c:Nat}
def Qlh(hc:h[c]?=some (.lst (cs.map iU)))(lc:cs.length<=40)(k0:0<=kd)(k1:kd<100):
  Cc (tbG xx s) (n+1) 19 [.ref c,iU kd] h λu h'=>∃P' r m p g us v gs,Le (P0 h) P'/\(∀i o,P' i o->h'[i]?=some o)/\u=.ref r/\P' r (.tup [.ref m,.ref p,.ref g])/\P' m (.lst us)/\Paired (dM P') us ((asL cs kd).map mvA)/\P' p (.dic (dI (Qk (asL cs kd)) v))/\(∀k∈Qk (asL cs kd),dP P' (v k) ((QJ k (asL cs kd)).map n0))/\P' g (.lst gs)/\Paired (dN P') gs ((ZQ (asL cs kd)).map n0):=by
 have o1:=(QmH (h:=h)).new (y:=.dic []);have o2:=o1.new (y:=.lst []);have o3:=o2.new (y:=.lst [])
 refine QcL (Ql fnL[19] rfl rfl) (Zg (QE (d:=98) Zw) (Zg (QE (d:=97) (u:=.ref (h++[O.dic []]).length) (h1:=h++[O.dic []]++[O.lst []]) (by rw[Zs];rfl)) (Zg (QE (d:=96) (u:=.ref (h++[O.dic []]++[O.lst []]).length) (h1:=h++[O.dic []]++[O.lst []]++[O.lst []]) (by rw[Zs];rfl)) ?_)))
 obtain⟨h3,e3⟩:∃h3,h3=h++[O.dic []]++[O.lst []]++[O.lst []]:=⟨_,rfl⟩;rw[<-e3]at o3 ⊢;clear e3
 have vl:ev (tbG xx s) (Qd (tbG xx s) n) 95 (.lstR [(.bi .len [(.var 0)])]) [sR c,some (iU kd),sR h.length,some (.ref (h++[O.dic []]).length),some (.ref (h++[O.dic []]++[O.lst []]).length),none,none,none] h3=some (.ref h3.length,h3++[.lst ((List.range cs.length).map λj:Nat=>iU (j:Int))]):=Qi8 (by have:=JV (T:=tbG xx s) (cf:=Qd (tbG xx s) n) (d:=93) (e:=.var 0) (Z:=[sR c,some (iU kd),sR h.length,some (.ref (h++[O.dic []]).length),some (.ref (h++[O.dic []]++[O.lst []]).length),none,none,none]) (Qa rfl) (o3.p _ _ hc);rw[Xl]at this;exact this) (by lia)
 refine Zg (QE vl) ?_;have o4:=o3.add (y:=.lst ((List.range cs.length).map λj:Nat=>iU (j:Int)));obtain⟨P4,l4,f4,o4⟩:∃P4,Le (P0 h) P4/\P4 h3.length (.lst ((List.range cs.length).map λj:Nat=>iU (j:Int)))/\Own (h3++[.lst ((List.range cs.length).map λj:Nat=>iU (j:Int))]) [(h.length,.dic (dI (Qk []) λw=>.non)),((h++[O.dic []]).length,.lst []),((h++[O.dic []]++[O.lst []]).length,.lst [])] P4:=⟨_,le_ad,Qm,o4⟩;generalize h3++[O.lst ((List.range cs.length).map λj:Nat=>iU (j:Int))]=h4 at o4 ⊢;generalize (h++[O.dic []]).length=m at o4 ⊢;generalize (h++[O.dic []]++[O.lst []]).length=g at o4 ⊢;generalize h.length=p at o4 ⊢
 suffices hh:∀q h5 P5,Le P4 P5->P5 q (.lst ((QaM cs.length kd).map λj:Nat=>iU (j:Int)))->Own h5 [(p,.dic (dI (Qk []) λw=>.non)),(m,.lst []),(g,.lst [])] P5->Xx (tbG xx s) (Qd (tbG xx s) n) 95 [(.loop (.name 6) (.seq (.var 5)) QmV),(.ret (.tup [(.var 3),(.var 2),(.var 4)]))] [sR c,some (iU kd),sR p,sR m,sR g,sR q,none,none] h5 (Fq λu h'=>∃P' r m p g us v gs,Le (P0 h) P'/\(∀i o,P' i o->h'[i]?=some o)/\u=.ref r/\P' r (.tup [.ref m,.ref p,.ref g])/\P' m (.lst us)/\Paired (dM P') us ((asL cs kd).map mvA)/\P' p (.dic (dI (Qk (asL cs kd)) v))/\(∀k∈Qk (asL cs kd),dP P' (v k) ((QJ k (asL cs kd)).map n0))/\P' g (.lst gs)/\Paired (dN P') gs ((ZQ (asL cs kd)).map n0)) by
  refine QiK (d:=94) (Qn6 (d:=92) (JU (Qa rfl) (by decide)) y_c) ?_
  by_cases e:kd % 2=1
  ·rw[X4 e,if_pos rfl];have o5:=o4.add (y:=.lst ((QaM cs.length kd).map λj:Nat=>iU (j:Int)))
   have eo:((List.range cs.length).map λj:Nat=>iU (j:Int)).reverse=(QaM cs.length kd).map λj:Nat=>iU (j:Int):=by unfold QaM;rw[if_pos e,List.map_reverse]
   refine Zg (QE (d:=92) (Qi6 (Qa rfl) (o4.p _ _ f4))) (Zb ?_);rw[eo];exact hh _ _ _ le_ad Qm o5
  ·rw[Xq e];refine Zb (hh _ _ _ Le.refl ?_ o4);have eo:QaM cs.length kd=List.range cs.length:=if_neg e;rw[eo];exact f4
 intro q h5 P5 l5 f5 o5
 obtain⟨ρ6,h6,e6,P6,v,us,gs,L⟩:=Qfr (T:=tbG xx s) (l:=q) (t:=.name 6) (body:=exs (tbG xx s) (Qd (tbG xx s) n) 93 QmV) (λi Z hs=>∃P v us gs,Li c p m g cs kd P5 (((QaM cs.length kd).take i).map (asg cs kd)) Z hs P v us gs) (Qdj (QaM cs.length kd)) (λi Z hs b=>by obtain⟨P,v,us,gs,L⟩:=b;exact L.ow.p _ _ (L.le _ _ f5))
  (λi j u hj eu Z hs a=>by
   obtain⟨P,v,us,gs,L⟩:=a
   subst eu
   have lt:(((QaM cs.length kd).take i).map (asg cs kd)).length<1000:=by
    rw[Xl,Vw,Qdw];lia
   obtain⟨f,ρ2,h2,x,rfl,z⟩:=Qft (T:=tbG xx s) (cf:=Qd (tbG xx s) n) (d:=73) L (ord_mem.mp (Xr hj)) lt k0 k1;refine⟨_,ρ2,h2,rfl,x,?_⟩;rw[tk1 hj,X1]
   exact z) (Z:=[sR c,some (iU kd),sR p,sR m,sR g,sR q,none,none]) (hs:=h5) ⟨P5,λw=>.non,[],[],⟨_,_,_,rfl⟩,Le.refl,o5,l5 _ _ (l4 _ _ hc),.nil,(λk hk=>by cases hk),.nil⟩
 rw[W2]at L;obtain⟨⟨x,y,z,rfl⟩,le,ow,_,dm,dp,dg⟩:=L;refine QbA (Qe1 (d:=93) (Qa rfl) (o5.p _ _ f5)) ⟨_,h6,e6,?_⟩;have ow':Own h6 ([]++[(p,.dic (dI (Qk (asL cs kd)) v)),(m,.lst us),(g,.lst gs)]) P6:=ow;have o7:=ow'.lock.add (y:=.tup [.ref m,.ref p,.ref g]);have ll:Le P6 (lkP P6 [(p,.dic (dI (Qk (asL cs kd)) v)),(m,.lst us),(g,.lst gs)]):=λw w z=>.inl z;have l8:=ll.trans (le_ad (j:=h6.length) (x:=.tup [.ref m,.ref p,.ref g]))
 exact YN (d:=92) (YG (Zx (Qa rfl) (Qa rfl) (Qa rfl)) ⟨_,_,m,p,g,us,v,gs,((l4.trans l5).trans le).trans l8,o7.p,rfl,Qm,.inl (.inr (by simp)),Qg (λw w=>dM.le l8) dm,.inl (.inr (by simp)),λk hk=>(dp k hk).le l8,.inl (.inr (by simp)),dNs.le l8 dg⟩)
end
noncomputable def cn(kd:Int)(pn:Int->List Nm)(k:Int):Bool:=decide (1<(pn k).length)||decide (0<(k+kd) % 3)
noncomputable def sd(kd k:Int):Int:=if(k+kd) % 2=0 then 1 else -1
noncomputable def drM(kd:Int)(k:Int):Mv:=.draw k (sd kd k)
noncomputable def drL(kd:Int)(pn:Int->List Nm)(k:Int):Lp:=⟨pn k,sd kd k,0⟩
structure Di(p M L N:Nat)(kd rw:Int)(ks:List Int)(pv:Int->U)(pn:Int->List Nm)(nn:Int->Nm)(P0:Vp)(i:Nat)(Z:Rho)(h:Hs)(P:Vp)(v:Int->U)(ms ls:List U):Prop where
 rg:∃x y z,Z=[sR p,some (iU kd),some (iU rw),sR M,sR L,sR N,x,y,z]
 le:Le P0 P
 ow:Own h [(M,.lst ms),(L,.lst ls),(N,.dic (dI ((srt ks).take i) v))] P
 dm:Paired (dM P) ms ((((srt ks).take i).filter (cn kd pn)).map (drM kd))
 dl:Paired (dL P) ls ((((srt ks).take i).filter (cn kd pn)).map (drL kd pn))
 dn:∀k∈(srt ks).take i,dN P (v k) (nn k)
noncomputable def drB:List Iv.S:=[(.set 7 (.ix (.var 0) (.var 6))),(.ite (.or (.cmp .Gt (.bi .len [(.var 7)]) (.c (.int 1 0))) (.cmp .Gt (.op .Mod (.op .Add (.var 6) (.var 1)) (.c (.int 3 0))) (.c (.int 0 0)))) [(.set 8 (.ix (.lst [(.c (.int 1 0)),(.neg (.c (.int 1 0)))]) (.op .Mod (.op .Add (.var 6) (.var 1)) (.c (.int 2 0))))),(.expr (.bm .append (.var 3) [(.tup [(.c (.str [100,114,97,119])),(.var 6),(.var 8),(.c (.int 0 0))])])),(.put (.var 5) (.var 6) (.tup [(.var 2),(.bi .len [(.var 4)])])),(.expr (.bm .append (.var 4) [(.tup [(.bi .tuple [(.var 7)]),(.var 8),(.c (.int 0 0))])]))] [(.put (.var 5) (.var 6) (.ix (.var 7) (.c (.int 0 0))))])]
def Qim{M L N:Nat}{rw k:Int}{pv:Int->U}{pn:Int->List Nm}{nn:Int->Nm}{P0:Vp}{P:Vp}{ms ls:List U}(D:Di p M L N kd rw ks pv pn nn P0 i Z h P v ms ls)(hp:P0 p (.dic (dI ks pv)))(dp:∀k∈ks,dP P0 (pv k) (pn k))(ne:∀k∈ks,pn k≠[])(hk:(srt ks)[i]?=some k)(nd:ks.Nodup)(lK:ks.length<64)(lp:∀k,(pn k).length<1000)
  (e1:cn kd pn k=true->nn k=(rw,((((srt ks).take i).filter (cn kd pn)).length:Int))) (e2:∀a r,cn kd pn k=false->pn k=a::r->nn k=a):
  Xx T cf (d+20) drB (Z.set 6 (some (iU k))) h λf ρ2 h'=>f=.next/\∃P2 v2 ms2 ls2,Di p M L N kd rw ks pv pn nn P0 (i+1) ρ2 h' P2 v2 ms2 ls2:=by
 obtain⟨⟨x,y,z,rfl⟩,le,ow,dm,dl,dn⟩:=D;have hf:=srt_mem.mp (Xr hk);have nk:=Qa6 (Zy nd) hk;have lm:=Qv dm;have ll:=Qv dl;rw[Xl]at lm ll
 have lT:(((srt ks).take i).filter (cn kd pn)).length<=ks.length:=X6 (V8 _ _) (by rw[Vw,Qz];lia)
 have lt:((srt ks).take i).length<=ks.length:=by rw[Vw,Qz];lia
 obtain⟨w,ws,ew,pw',dw⟩:=dp k hf;have lw:=Qv dw;have lpk:=lp k;refine Zg (QE (d:=d+18) (Ze (Qa rfl) (Qa rfl) (Qjs (ow.p _ _ (le _ _ hp)) hf ew))) ?_;have hw:=ow.p _ _ (le _ _ pw')
 have tt:evT T cf (d+17) (.or (.cmp .Gt (.bi .len [(.var 7)]) (.c (.int 1 0))) (.cmp .Gt (.op .Mod (.op .Add (.var 6) (.var 1)) (.c (.int 3 0))) (.c (.int 0 0)))) [sR p,some (iU kd),some (iU rw),sR M,sR L,sR N,some (iU k),sR w,z] h=some (cn kd pn k,h):=by
  refine QiF (Qjm (d:=d+14) (JV (Qa rfl) hw) y_c) ?_
  have t2:evT T cf (d+16) (.cmp .Gt (.op .Mod (.op .Add (.var 6) (.var 1)) (.c (.int 3 0))) (.c (.int 0 0))) [sR p,some (iU kd),some (iU rw),sR M,sR L,sR N,some (iU k),sR w,z] h=some (decide (0<(k+kd) % 3),h):=Qjm (d:=d+14) (JU (Qbr (Qa rfl) (Qa rfl) Qag) (by decide)) y_c
  unfold cn;by_cases a:1<(pn k).length
  ·rw[X4 a,X4 (by lia:(1:Int) < ws.length)];rfl
  ·rw[Xq a,Xq (by lia:¬(1:Int) < ws.length),if_neg Xh,t2];rfl
 refine QiK (d:=d+17) tt ?_;by_cases c:cn kd pn k=true
 ·rw[c,if_pos rfl];have o1:=ow.add (y:=.lst [iU 1,iU (-1)])
  have vs:ev T cf (d+15) (.ix (.lst [(.c (.int 1 0)),(.neg (.c (.int 1 0)))]) (.op .Mod (.op .Add (.var 6) (.var 1)) (.c (.int 2 0)))) [sR p,some (iU kd),some (iU rw),sR M,sR L,sR N,some (iU k),sR w,z] h=some (iU (sd kd k),h++[.lst [iU 1,iU (-1)]]):=by
   refine Ze (u:=.ref h.length) (w:=iU ((k+kd) % 2)) (h1:=h++[.lst [iU 1,iU (-1)]]) rfl (JU (Qbr (Qa rfl) (Qa rfl) Qag) (by decide)) ?_
   have hl:(h++[O.lst [iU 1,iU (-1)]])[h.length]?=some (.lst [iU 1,iU (-1)]):=at0;unfold sd;by_cases e:(k+kd) % 2=0
   ·rw[e,if_pos rfl];exact QaS (j:=0) hl rfl
   ·have e':(k+kd) % 2=1:=by lia
    rw[if_neg e,e'];exact QaS (j:=1) hl rfl
  refine Zg (QE (d:=d+15) vs) ?_;have o2:=o1.add (y:=.tup (mvU (drM kd k)));have o3:=o2.set (y:=.lst (ms++[.ref (h++[O.lst [iU 1,iU (-1)]]).length])) 0 rfl
  refine ZP (d:=d+14) (YM (d:=d+13) (Qa rfl) (o1.c 0 _ _ rfl) (YG (Qbq y_c (Qa rfl) (Qa rfl) y_c) ⟨_,o2.c 0 _ _ rfl,by lia,?_⟩))
  obtain⟨P3,l3,f3,o3⟩:∃P3,Le P P3/\P3 (h++[O.lst [iU 1,iU (-1)]]).length (.tup (mvU (drM kd k)))/\Own _ _ P3:=⟨_,le_ad.trans le_ad,Qm,o3⟩;obtain⟨h3,eh3⟩:∃h3,h3=(h++[O.lst [iU 1,iU (-1)]]++[O.tup (mvU (drM kd k))]).set M (.lst (ms++[.ref (h++[O.lst [iU 1,iU (-1)]]).length])):=⟨_,rfl⟩;have eh3':(h++[O.lst [iU 1,iU (-1)]]++[O.tup [.str [100,114,97,119],iU k,iU (sd kd k),.int 0 0]]).set M (.lst (ms++[.ref (h++[O.lst [iU 1,iU (-1)]]).length]))=h3:=eh3.symm;rw[<-eh3]at o3;rw[eh3'];have o4:=o3.add (y:=.tup [iU rw,.int (ls.length:Int) 0]);have o5:=o4.set (y:=.dic (dI ((srt ks).take i++[k]) (up v k (.ref h3.length)))) 2 rfl
  refine Jr (d:=d+13) (Q5 (Qa rfl) (JV (Qa rfl) (o3.c 1 _ _ rfl))) (Qa rfl) (Qa rfl) (Zz (o4.c 2 _ _ rfl) (by lia)) ?_
  rw[Zr nk];obtain⟨P5,l5,f5,o5⟩:∃P5,Le P3 P5/\P5 h3.length (.tup [iU rw,.int (ls.length:Int) 0])/\Own _ _ P5:=⟨_,le_ad,Qm,o5⟩;generalize (h3++[O.tup [iU rw,.int (ls.length:Int) 0]]).set N (.dic (dI ((srt ks).take i++[k]) (up v k (.ref h3.length))))=h5 at o5;have o6:=(o5.add (y:=.tup ws)).add (y:=.tup [.ref h5.length,iU (sd kd k),iU 0]);have o7:=o6.set (y:=.lst (ls++[.ref (h5++[O.tup ws]).length])) 1 rfl;obtain⟨P7,l7,f7,g7,o7⟩:∃P7,Le P5 P7/\P7 h5.length (.tup ws)/\P7 (h5++[O.tup ws]).length (.tup [.ref h5.length,iU (sd kd k),iU 0])/\Own _ _ P7:=⟨_,le_ad.trans le_ad,.inl Qm,Qm,o7⟩;have l8:=(l3.trans l5).trans l7;have hw5:=o5.p _ _ (l5 _ _ (l3 _ _ (le _ _ pw')))
  refine ZP (d:=d+12) (YM (d:=d+11) (Qa rfl) (o5.c 1 _ _ rfl) (YG (Zx (JP (Qa rfl) (Qjh hw5)) (Qa rfl) y_c) ⟨_,o6.c 1 _ _ rfl,by lia,Zb (Zb ⟨rfl,P7,up v k (.ref h3.length),ms++[.ref (h++[O.lst [iU 1,iU (-1)]]).length],ls++[.ref (h5++[O.tup ws]).length],⟨_,_,_,rfl⟩,le.trans l8,?_,?_,?_,?_⟩)⟩))
  ·rw[tk1 hk];exact o7
  ·rw[tk1 hk,V2,X1];refine QA (Qg (λt t=>dM.le l8) dm) ?_;rw[W4,c];exact .cons ⟨_,rfl,l7 _ _ (l5 _ _ f3)⟩ .nil
  ·rw[tk1 hk,V2,X1];refine QA (Qg (λt t=>dL.le l8) dl) ?_;rw[W4,c];exact .cons ⟨_,_,ws,rfl,g7,f7,dNs.le (le.trans l8) dw⟩ .nil
  ·intro j hj;rw[tk1 hk]at hj
   rcases V4.mp hj with hj|hj
   ·rw[YF λz:j=k=>nk (z▸hj)];exact(dn j hj).le l8
   ·rw[Ws]at hj;subst hj;rw[JQ,e1 c,<-ll];exact⟨_,rfl,l7 _ _ f5⟩
 ·have c':cn kd pn k=false:=by simpa using c
  rw[c',if_neg Xh]
  obtain⟨a0,r0,e0⟩:∃a r,pn k=a::r:=by
   cases e:pn k with
   |nil=>exact absurd e (ne k hf)
   |cons a r=>exact⟨a,r,rfl⟩
  rw[e0]at dw;obtain⟨u0,du0⟩:∃u0,ws[0]?=some u0/\dN P0 u0 a0:=QaZ dw (i:=0) rfl;have o5:=ow.set (y:=.dic (dI ((srt ks).take i++[k]) (up v k u0))) 2 rfl
  refine Jr (d:=d+15) (Ze (Qa rfl) y_c (QaS (j:=0) hw du0.1)) (Qa rfl) (Qa rfl) (Zz (ow.c 2 _ _ rfl) (by lia)) (Zb (Zb ⟨rfl,P,up v k u0,ms,ls,⟨_,_,_,rfl⟩,le,?_,?_,?_,?_⟩))
  ·rw[Zr nk,tk1 hk];exact o5
  ·rw[tk1 hk,V2,X1,W4,c'];simpa using dm
  ·rw[tk1 hk,V2,X1,W4,c'];simpa using dl
  ·intro j hj;rw[tk1 hk]at hj
   rcases V4.mp hj with hj|hj
   ·rw[YF λz:j=k=>nk (z▸hj)];exact dn j hj
   ·rw[Ws]at hj;subst hj;rw[JQ,e2 a0 r0 c' e0];exact du0.2.le le
noncomputable def Ev(kd:Int)(D:List Int):List Int:=if 1<kd % 5 then D.reverse else D
section
variable {rw:Int}{pv:Int->U}{pn:Int->List Nm}{nn:Int->Nm}
def Qeo(hp:h[p]?=some (.dic (dI ks pv)))(dp:∀k∈ks,dP (P0 h) (pv k) (pn k))(ne:∀k∈ks,pn k≠[])(nd:ks.Nodup)(lK:ks.length<64)(lp:∀k,(pn k).length<1000)
  (e1:∀(i:Nat) k,(srt ks)[i]?=some k->cn kd pn k=true->nn k=(rw,((((srt ks).take i).filter (cn kd pn)).length:Int))) (e2:∀k a r,k∈ks->cn kd pn k=false->pn k=a::r->nn k=a):
  Cc (tbG xx s) (n+1) 21 [.ref p,iU kd,iU rw] h λu h'=>∃P' r M L N ms ls v,Le (P0 h) P'/\(∀i o,P' i o->h'[i]?=some o)/\u=.ref r/\P' r (.tup [.ref M,.ref L,.ref N])/\P' M (.lst ms)/\Paired (dM P') ms ((Ev kd ((srt ks).filter (cn kd pn))).map (drM kd))/\P' L (.lst ls)/\Paired (dL P') ls (((srt ks).filter (cn kd pn)).map (drL kd pn))/\P' N (.dic (dI (srt ks) v))/\∀k∈srt ks,dN P' (v k) (nn k):=by
 have o1:=(QmH (h:=h)).new (y:=.lst []);have o2:=o1.new (y:=.lst []);have o3:=o2.new (y:=.dic [])
 refine QcL (Ql fnL[21] rfl rfl) (Zg (QE (d:=98) (u:=.ref h.length) (h1:=h++[O.lst []]) (by rw[Zs];rfl)) (Zg (QE (d:=97) (u:=.ref (h++[O.lst []]).length) (h1:=h++[O.lst []]++[O.lst []]) (by rw[Zs];rfl)) (Zg (QE (d:=96) Zw) ?_)))
 obtain⟨h3,e3⟩:∃h3,h3=h++[O.lst []]++[O.lst []]++[O.dic []]:=⟨_,rfl⟩;rw[<-e3]at o3 ⊢;clear e3;have vs:ev (tbG xx s) (Qd (tbG xx s) n) 95 (.bi .sorted [(.var 0)]) [sR p,some (iU kd),some (iU rw),sR h.length,some (.ref (h++[O.lst []]).length),some (.ref (h++[O.lst []]++[O.lst []]).length),none,none,none] h3=some (.ref h3.length,h3++[.lst ((srt ks).map iU)]):=JP (Qa rfl) (Qjx (o3.p _ _ hp) lK);have o4:=o3.add (y:=.lst ((srt ks).map iU));obtain⟨P4,l4,f4,o4⟩:∃P4,Le (P0 h) P4/\P4 h3.length (.lst ((srt ks).map iU))/\Own (h3++[.lst ((srt ks).map iU)]) [(h.length,.lst []),((h++[O.lst []]).length,.lst []),((h++[O.lst []]++[O.lst []]).length,.dic (dI ((srt ks).take 0) λw=>.non))] P4:=⟨_,le_ad,Qm,o4⟩
 obtain⟨ρ5,h5,e5,P5,v,ms,ls,D⟩:=Qfr (T:=tbG xx s) (t:=.name 6) (body:=exs (tbG xx s) (Qd (tbG xx s) n) 95 drB) (λi Z hs=>∃P v ms ls,Di p h.length (h++[O.lst []]).length (h++[O.lst []]++[O.lst []]).length kd rw ks pv pn nn P4 i Z hs P v ms ls) (Yj (srt ks)) (λi Z hs m=>by obtain⟨P,v,ms,ls,D⟩:=m;exact D.ow.p _ _ (D.le _ _ f4))
  (λi k u hk eu Z hs l=>by
   obtain⟨P,v,ms,ls,D⟩:=l
   subst eu;have hf:=srt_mem.mp (Xr hk);obtain⟨f,ρ2,h2,x,rfl,z⟩:=Qim (T:=tbG xx s) (cf:=Qd (tbG xx s) n) (d:=75) D (l4 _ _ hp) (λk hk=>(dp k hk).le l4) ne hk nd lK lp (e1 i k hk) (λa r=>e2 k a r hf)
   exact⟨_,ρ2,h2,rfl,x,z⟩)
  (Z:=[sR p,some (iU kd),some (iU rw),sR h.length,some (.ref (h++[O.lst []]).length),some (.ref (h++[O.lst []]++[O.lst []]).length),none,none,none]) (hs:=h3++[.lst ((srt ks).map iU)]) ⟨P4,λw=>.non,[],[],⟨_,_,_,rfl⟩,Le.refl,o4,.nil,.nil,λk hk=>by cases hk⟩
 obtain⟨⟨x,y,z,rfl⟩,le,ow,dm,dl,dn⟩:=D;rw[W2]at ow dm dl dn;refine QbA (Qe1 vs at0) ⟨_,h5,e5,?_⟩;generalize h.length=M at ow ⊢;generalize (h++[O.lst []]).length=L at ow ⊢;generalize (h++[O.lst []]++[O.lst []]).length=N at ow ⊢;have ow':Own h5 ([]++[(M,.lst ms),(L,.lst ls),(N,.dic (dI (srt ks) v))]) P5:=ow
 obtain⟨P6,l6,m6,i6,n6,o6⟩:∃P6,Le P5 P6/\P6 M (.lst ms)/\P6 L (.lst ls)/\P6 N (.dic (dI (srt ks) v))/\Own h5 [] P6:=⟨_,λw w z=>.inl z,.inr (by simp),.inr (by simp),.inr (by simp),ow'.lock⟩
 have fin:∀q h7 P7 ms',Le P6 P7->P7 q (.lst ms')->Paired (dM P7) ms' ((Ev kd ((srt ks).filter (cn kd pn))).map (drM kd))->Own h7 [] P7->Xx (tbG xx s) (Qd (tbG xx s) n) 95 [(.ret (.tup [(.var 3),(.var 4),(.var 5)]))] [sR p,some (iU kd),some (iU rw),sR q,sR L,sR N,x,y,z] h7 (Fq λu h'=>∃P' r M L N ms ls v,Le (P0 h) P'/\(∀i o,P' i o->h'[i]?=some o)/\u=.ref r/\P' r (.tup [.ref M,.ref L,.ref N])/\P' M (.lst ms)/\Paired (dM P') ms ((Ev kd ((srt ks).filter (cn kd pn))).map (drM kd))/\P' L (.lst ls)/\Paired (dL P') ls (((srt ks).filter (cn kd pn)).map (drL kd pn))/\P' N (.dic (dI (srt ks) v))/\∀k∈srt ks,dN P' (v k) (nn k)):=λq h7 P7 ms' l7 f7 d7 o7=>by
  have o8:=o7.add (y:=.tup [.ref q,.ref L,.ref N]);have l8:=(l6.trans l7).trans (le_ad (j:=h7.length) (x:=.tup [.ref q,.ref L,.ref N]));exact YN (d:=93) (YG (Zx (Qa rfl) (Qa rfl) (Qa rfl)) ⟨_,_,q,L,N,ms',ls,v,(l4.trans le).trans l8,o8.p,rfl,Qm,.inl f7,Qg (λw w=>dM.le le_ad) d7,.inl (l7 _ _ i6),Qg (λw w=>dL.le l8) dl,.inl (l7 _ _ n6),λk hk=>(dn k hk).le l8⟩)
 refine QiK (d:=94) (Qjm (d:=92) (JU (Qa rfl) (by decide)) y_c) ?_
 by_cases e:1<kd % 5
 ·rw[X4 e,if_pos rfl];have o7:=o6.add (y:=.lst ms.reverse);refine Zg (QE (d:=92) (Qi6 (Qa rfl) (o6.p _ _ m6))) (Zb (fin _ _ _ ms.reverse le_ad Qm ?_ o7));unfold Ev;rw[if_pos e,List.map_reverse];exact Qhr (Qg (λw w=>dM.le (l6.trans le_ad)) dm)
 ·rw[Xq e,if_neg Xh];refine Zb (fin _ _ _ ms Le.refl m6 ?_ o6);unfold Ev;rw[if_neg e];exact Qg (λw w=>dM.le l6) dm
end
def Qlk{s:List Int}:∃x:Int,Qd (tbG xx (s.map iU)) (n+1) 18 [.scr,iU 0] h=some (iU x,h):=by
 have vl:∀{d:Nat},ev (tbG xx (s.map iU)) (Qd (tbG xx (s.map iU)) n) (d+2) (.bi .len [(.var 0)]) [some .scr,some (iU 0)] h=some (.int ((s.map iU).length:Int) 0,h):=λ{d}=>JP (Qa rfl) (by unfold biU;rfl)
 cases s with
 |nil=>
  refine⟨0,?_⟩;rw[Ql fnL[18] rfl rfl];exact(congrArg fin (Zv (d:=97) (c:=false) (QC (d:=96) (Qa rfl) vl rfl) rfl)).trans (YI y_c)
 |cons x s=>
  refine⟨x,?_⟩;rw[Ql fnL[18] rfl rfl]
  refine JS (d:=96) (c:=decide ((0:Int) < ((x::s).map iU).length)) (QC (d:=96) (Qa rfl) vl rfl) (X4 (by simp)) (Ze (u:=.scr) (w:=iU 0) (Qa rfl) (Qa rfl) ?_)
  show atU (iU x::s.map iU) ((0:Nat):Int)=_;exact QnS rfl
theorem Qk0{k:Int}:∀{pre:As} {ks:List Int},k∈pre.foldl fkS ks->k∈ks\/∃x,(x,some k)∈pre
 |[],ks,h=>.inl h
 |e::pre,ks,h=>by
  rcases Qk0 (pre:=pre) (ks:=fkS ks e) h with h|⟨x,h⟩
  ·obtain⟨x,o⟩:=e
   cases o with
   |none=>exact .inl h
   |some f=>
    rcases pk_mem.mp h with h|h
    ·exact .inl h
    ·subst h;exact .inr ⟨x,Xw ..⟩
  ·exact .inr ⟨x,Xp _ h⟩
def Qii{k:Int}{as:As}(h:k∈Qk as):QJ k as≠[]:=by
 rcases Qk0 h with h|⟨x,h⟩
 ·cases h
 ·intro e;have:=pile_mem.mpr h;rw[e]at this;cases this
def Qbf(as:As):(Qk as).Nodup:=by
 have g:∀(pre:As) (ks:List Int),ks.Nodup->(pre.foldl fkS ks).Nodup:=λpre=>by
  induction pre with
  |nil=>exact λks h=>h
  |cons e pre ih=>
   refine λks h=>ih _ ?_;unfold fkS;split
   ·exact Qj4 h
   ·exact h
 exact g as [] .nil
def ev_mem{k:Int}:k∈Ev kd D↔k∈D:=by unfold Ev;split<;>simp
def Qnq(h:D.Nodup):(Ev kd D).Nodup:=by
 unfold Ev;split
 ·exact(List.reverse_perm _).nodup_iff.mpr h
 ·exact h
def Qkx(K:List Int)(nd:K.Nodup)(kd rw:Int)(pn:Int->List Nm):∃nn:Int->Nm,(∀(i:Nat) k,K[i]?=some k->cn kd pn k=true->nn k=(rw,(((K.take i).filter (cn kd pn)).length:Int)))/\∀k a r,cn kd pn k=false->pn k=a::r->nn k=a:=by
 refine⟨λk=>if cn kd pn k=true then(rw,(((K.takeWhile λj=>decide (j≠k)).filter (cn kd pn)).length:Int))else(pn k).headD (0,0),λi k hk c=>?_,λk a r c e=>?_⟩
 ·dsimp only;rw[if_pos c]
  have e:∀(K:List Int) (i:Nat),K.Nodup->K[i]?=some k->(K.takeWhile λj=>decide (j≠k))=K.take i:=λK=>by
   induction K with
   |nil=>intro i _ h;cases h
   |cons a K ih=>
    intro i nd h
    cases i with
    |zero=>
     have e:a=k:=by simpa using h
     simp[e]
    |succ i=>
     have h':K[i]?=some k:=h;have ne:a≠k:=λz=>(Vt.mp nd).1 (z▸Xr h');rw[List.takeWhile_cons,X4 ne,if_pos rfl,ih i (Vt.mp nd).2 h'];rfl
  rw[e K i nd hk]
 ·dsimp only
  rw[if_neg (by rw[c];decide),e]
  rfl
section
variable {b:Nat}{P0:Vp}{R:List (List Lp)}{nm:Int->Nm}{Of:List Nm}{as:As}
theorem Qej(nd:(as.map (·.1)).Nodup)(hm:∀e∈as,e.1∈N)(l:as.length<64)(lO:Of.length<100):∀(rest pre:As),as=pre++rest->Ch b (Ly b P0 R N nm Of pre) (rest.map mvA) (Ly b P0 R N nm Of as)
 |[],pre,e=>by
  rw[Wd]at e;subst e;exact .nil QkV QkV λh P z=>⟨P,Le.refl,z⟩
 | (x,o)::rest,pre,e=>by
  have hx:(x,o)∈as:=by rw[e];simp
  have nx:∀o',(x,o')∉pre:=λo' z=>by
   rw[e,X1,Uu]at nd
   exact nd.2.2 x (V3.mpr ⟨_,z,rfl⟩) x (by simp) rfl
  have lp:pre.length<1000:=by have:=congrArg List.length e;simp at this;lia
  have ih:=Qej nd hm l lO rest (pre++[(x,o)]) (by rw[e];simp)
  have h1:x∉ZQ pre:=λz=>nx _ (offs_mem.mp z);have h2:x∉ZS pre:=λz=>let ⟨f,z⟩:=laids_mem.mp z;nx _ z
  cases o with
  |none=>exact .cons QkV (Qjt (hm _ hx) h1 h2 lp (by lia)) ih
  |some f=>exact .cons QkV (Qju (hm _ hx) h1 h2 lp) ih
theorem QbW(hm:∀e∈as,e.1∈N)(l:as.length<64):∀(rest ds:List Int),(ds++rest).Nodup->(∀k∈rest,k∈Qk as)->Ch b (Dw b P0 R N nm Of as (sd kd) ds) (rest.map (drM kd)) (Dw b P0 R N nm Of as (sd kd) (ds++rest))
 |[],ds,_,_=>by
  rw[Wd];exact .nil QlN QlN λh P z=>⟨P,Le.refl,z⟩
 |k::rest,ds,nd,hk=>by
  have ih:=QbW hm l rest (ds++[k]) (by rw[Wp];exact nd) λj hj=>hk j (Xp _ hj)
  rw[Wp]at ih
  refine .cons QlN (Qg1 (hk k (Xw ..)) (λz=>?_) hm (by lia)) ih
  rw[Uu]at nd;exact nd.2.2 k z k (Xw ..) rfl
def QgF{nn:Int->Nm}(nd:(as.map (·.1)).Nodup)(hm:∀e∈as,e.1∈N)(ha:∀k∈N,∃e∈as,e.1=k)(l:as.length<64)(lN:N.length<1000)(lR:R.length<1000)(lO:Of.length<100)
  (e1:∀(i:Nat) k,(srt (Qk as))[i]?=some k->cn kd (λk=>(QJ k as).map nm) k=true->nn k=((R.length:Int),((((srt (Qk as)).take i).filter (cn kd λk=>(QJ k as).map nm)).length:Int))) (e2:∀k a r,cn kd (λk=>(QJ k as).map nm) k=false->(QJ k as).map nm=a::r->nn k=a):
  Ch b (Rdy b P0 R N nm Of) (as.map mvA++((Ev kd ((srt (Qk as)).filter (cn kd λk=>(QJ k as).map nm))).map (drM kd)++[.fin])) (Rdy b P0 (R++[((srt (Qk as)).filter (cn kd λk=>(QJ k as).map nm)).map (drL kd λk=>(QJ k as).map nm)]) (srt (Qk as)) nn (Of++(ZQ as).map nm)):=by
 generalize hc:cn kd (λk=>(QJ k as).map nm)=c at e1 e2 ⊢
 have dm:∀k∈srt (Qk as),decide (k∈Ev kd ((srt (Qk as)).filter c))=c k:=λk hk=>by
  rw[V6,Xy,ev_mem,U7];exact⟨λz=>z.2,λz=>⟨hk,z⟩⟩
 have df:∀K:List Int,(∀k∈K,k∈srt (Qk as))->(K.filter λk=>decide (k∈Ev kd ((srt (Qk as)).filter c)))=K.filter c:=λK hK=>List.filter_congr λk hk=>dm k (hK k hk);have st:=Qjv (b:=b) (P0:=P0) (R:=R) (N:=N) (nm:=nm) (Of:=Of) (as:=as) (sd:=sd kd) (ds:=Ev kd ((srt (Qk as)).filter c)) (nn:=nn) hm ha (λk hk z=>?_) l lN lR (λi k hi z=>?_) (λk y hk z e=>?_)
 ·rw[df _ λk hk=>hk]at st;refine((Qej nd hm l lO as [] rfl).pre QeF λh P z=>r_l z).app ?_;refine Ch.app (J1:=Dw b P0 R N nm Of as (sd kd) (Ev kd ((srt (Qk as)).filter c))) ?_ (.cons QlN st (.nil QeF QeF λh P z=>⟨P,Le.refl,z⟩));refine Ch.pre QkV (λh P z=>l_d z) (QbW hm l _ [] ?_ λk hk=>?_)
  ·rw[List.nil_append];exact Qnq ((Zy (Qbf as)).filter _)
  ·exact srt_mem.mp (U7.mp (ev_mem.mp hk)).1
 ·have ck:c k=false:=by
   rw[<-dm k (srt_mem.mpr hk)];exact Xq z
  have ne:=Qii hk;rw[<-hc]at ck;unfold cn at ck;rw[Bool.or_eq_false_iff,decide_eq_false_iff_not,Xl]at ck
  match e:QJ k as,ne,ck.1 with
  |[y],_,_=>exact⟨y,rfl⟩
  |[],ne,_=>exact absurd rfl ne
  |_::_::_,_,c1=>simp at c1
 ·rw[df _ λj hj=>List.mem_of_mem_take hj];refine e1 i k hi ?_;rw[<-dm k (Xr hi)];exact X4 z
 ·refine e2 k (nm y) [] ?_ (by rw[e];rfl)
  rw[<-dm k (srt_mem.mpr hk)];exact Xq z
end
def Qlg{k:Nat}{ms:List Mv}{R:List (List Lp)}{nm:Int->Nm}{Of:List Nm}(hm:h[m]?=some (.lst us))(mv:Mvs (P0 h) us 0 (.cast (k:Int)::(ms++[.lay x f])))(lk:k<=100)(lu:us.length<1000)
  (ch:Ch h.length (Rdy h.length (P0 h) (R0 k) (rg k) (λj=>(0,j)) []) ms (Rdy h.length (P0 h) R N nm Of)) (hx:x∉N):
  ∃h',Qd (tbG (QV (tbG zz s) 8) s) (n+7) 22 [.ref m] h=some (.int ((ms.length+1:Nat):Int) 0,h')/\Kp h h':=by
 obtain⟨e1,_⟩:=Qf2 (xx:=QV (tbG zz s) 8) (s:=s) (n:=n) hm mv lk lu ch hx;obtain⟨_,h1,e2,k2⟩:=Qf2 (xx:=zz) (s:=s) (n:=2) hm mv lk lu ch hx;refine⟨h1++[.err 2 (.int ((ms.length+1:Nat):Int) 0)],?_,k2.trans (Kp.app _ _)⟩;rw[Ql fnL[22] rfl rfl];have ef:(tbG (QV (tbG zz s) 8) s).xf 16 [.ref m] h=some ((2,.int ((ms.length+1:Nat):Int) 0),h1):=e2;have ea:evs (ev (tbG (QV (tbG zz s) 8) s) (Qd (tbG (QV (tbG zz s) 8) s) (n+6)) 97) [sR m,some .non,none] [(.var 0)] h=some ([.ref m],h):=e_1 (Qa rfl);have c0:(tbG (QV (tbG zz s) 8) s).ers.contains 2=true:=rfl;have c1:(tbG (QV (tbG zz s) 8) s).esb.contains (2,2)=true:=rfl
 have c2:(match (tbG (QV (tbG zz s) 8) s).fns[16]? with|some F=>decide ([U.ref m].length=F.np)|none=>false)=true:=rfl
 have er:(h1++[O.err 2 (.int ((ms.length+1:Nat):Int) 0)])[h1.length]?=some (.err 2 (.int ((ms.length+1:Nat):Int) 0)):=at0
 have vf:ev (tbG (QV (tbG zz s) 8) s) (Qd (tbG (QV (tbG zz s) 8) s) (n+6)) 95 (.fld (.var 2) 8) [sR m,some .non,sR h1.length] (h1++[.err 2 (.int ((ms.length+1:Nat):Int) 0)])=some (.int ((ms.length+1:Nat):Int) 0,h1++[.err 2 (.int ((ms.length+1:Nat):Int) 0)]):=by
  have y:∀{T:Tbl} {cf:Cf} {d:Nat} {Z:Rho} {h:Hs},ev T cf (d+1) (.fld (.var 2) 8) Z h=bd (ev T cf d (.var 2) Z h) λu h1=>match u with
   |.ref n=>match h1[n]? with
    |some (.ins _ fs)=>(fs.lookup 8).map λx=>(x,h1)
    |some (.err c w)=>if T.efl.contains (c,8)=true then some (w,h1)else none
    |_=>none
   |_=>none:=rfl
  have c3:(tbG (QV (tbG zz s) 8) s).efl.contains (2,8)=true:=rfl;rw[y,Qa rfl,Qy];simp only[er,c3,Wa]
 have xt:ex (tbG (QV (tbG zz s) 8) s) (Qd (tbG (QV (tbG zz s) 8) s) (n+6)) 98 (.tryS (some 2) 16 [(.var 0)] 2 [(.set 1 (.fld (.var 2) 8))]) [sR m,some .non,none] h=some (.next,[sR m,some (.int ((ms.length+1:Nat):Int) 0),none],h1++[.err 2 (.int ((ms.length+1:Nat):Int) 0)]):=by
  have y:∀{T:Tbl} {cf:Cf} {d f c:Nat} {es:List E} {body:List Iv.S} {Z:Rho} {h:Hs},ex T cf (d+1) (.tryS (some 2) f es c body) Z h=bd (evs (ev T cf d) Z es h) λus h1=>match cf f us h1 with
   |some (_,h2)=>some (.next,Z,h2)
   |none=>match T.xf f us h1 with
    |some (c',h2)=>if T.ers.contains c'.1=true/\T.esb.contains (c'.1,c)=true/\(match T.fns[f]? with|some F=>decide (us.length=F.np)|none=>false)=true then(match exs T cf d body (Qmj (some 2) (.ref h2.length) Z) (Qnr (some 2) c' h2)with
     |some (.next,ρ2,h3)=>some (.next,QkT (some 2) ρ2,h3)
     |_=>none)else none
    |none=>none:=rfl
  rw[y,ea,Qy];simp only[e1,ef];rw[if_pos ⟨c0,c1,c2⟩];have xb:exs (tbG (QV (tbG zz s) 8) s) (Qd (tbG (QV (tbG zz s) 8) s) (n+6)) 97 [(.set 1 (.fld (.var 2) 8))] (Qmj (some 2) (.ref h1.length) [sR m,some .non,none]) (Qnr (some 2) (2,.int ((ms.length+1:Nat):Int) 0) h1)=some (.next,[sR m,some (.int ((ms.length+1:Nat):Int) 0),sR h1.length],h1++[.err 2 (.int ((ms.length+1:Nat):Int) 0)]):=(QE vf).trans Je;rw[xb];rfl
 exact(congrArg fin ((QE (d:=98) y_c).trans (JR xt))).trans (YI (Qa rfl))
theorem YX{α:Type}{D:U->α->Prop}{h:Hs}{d:Nat}(f:∀u v a,D u a->D v a->Sm h d u v):∀{us vs:List U} {as:List α},Paired D us as->Paired D vs as->Paired (Sm h d) us vs
 |_,_,_,.nil,.nil=>.nil
 |_,_,_,.cons a t,.cons b t'=>.cons (f _ _ _ a b) (YX f t t')
section
variable {P:Vp}{v:U}
def QlI{i:Int}:Sm h (d+1) (iU i) (iU i):=.inl ⟨i,rfl,rfl⟩
def Qmh(hP:∀i o,P i o->h[i]?=some o){a:Nm}(x:dN P u a)(y:dN P v a):Sm h (d+2) u v:=by
 obtain⟨i,rfl,p⟩:=x;obtain⟨j,rfl,q⟩:=y;exact .inr ⟨i,j,_,_,rfl,rfl,.cons QlI (.cons QlI .nil),.inl ⟨hP _ _ p,hP _ _ q⟩⟩
def Qpf(hP:∀i o,P i o->h[i]?=some o){a:Lp}(x:dL P u a)(y:dL P v a):Sm h (d+4) u v:=by
 obtain⟨i,j,us,rfl,p1,p2,p3⟩:=x;obtain⟨i',j',us',rfl,q1,q2,q3⟩:=y;exact .inr ⟨i,i',_,_,rfl,rfl,.cons (.inr ⟨j,j',us,us',rfl,rfl,YX (D:=dN P) (λz z z=>Qmh (d:=d) hP) p3 q3,.inl ⟨hP _ _ p2,hP _ _ q2⟩⟩) (.cons QlI (.cons QlI .nil)),.inl ⟨hP _ _ p1,hP _ _ q1⟩⟩
def Qpe(hP:∀i o,P i o->h[i]?=some o){a:List Lp}(x:dW P u a)(y:dW P v a):Sm h (d+5) u v:=by
 obtain⟨i,us,rfl,p1,p3⟩:=x;obtain⟨i',us',rfl,q1,q3⟩:=y;exact .inr ⟨i,i',us,us',rfl,rfl,YX (D:=dL P) (λz z z=>Qpf (d:=d) hP) p3 q3,.inr ⟨hP _ _ p1,hP _ _ q1⟩⟩
def Qmi(hP:∀i o,P i o->h[i]?=some o){W:Wb}(x:dB P u W)(y:dB P v W):Sm h 7 u v:=by
 obtain⟨w,r,l,k,o,rs,ls,os,rfl,a1,a2,a3,a4,a5,a6,a7,a8⟩:=x;obtain⟨w',r',l',k',o',rs',ls',os',rfl,b1,b2,b3,b4,b5,b6,b7,b8⟩:=y;refine .inr ⟨w,w',_,_,rfl,rfl,.cons (.inr ⟨r,r',rs,rs',rfl,rfl,YX (D:=dW P) (λz z z=>Qpe (d:=0) hP) a3 b3,.inr ⟨hP _ _ a2,hP _ _ b2⟩⟩) (.cons (.inr ⟨l,l',ls,ls',rfl,rfl,YX (D:=dN P) (λz z z=>Qmh (d:=3) hP) a5 b5,.inr ⟨hP _ _ a4,hP _ _ b4⟩⟩) (.cons (.inr ⟨k,k',[],[],rfl,rfl,.nil,.inr ⟨hP _ _ a6,hP _ _ b6⟩⟩) (.cons (.inr ⟨o,o',os,os',rfl,rfl,YX (D:=dN P) (λz z z=>Qmh (d:=3) hP) a8 b8,.inr ⟨hP _ _ a7,hP _ _ b7⟩⟩) .nil))),.inl ⟨hP _ _ a1,hP _ _ b1⟩⟩
end
def Qgs{P:Vp}{ms:List Mv}(h:Paired (dM P) us ms):Mvs P us 0 ms:=λj mv e=>by
 obtain⟨u,hu,i,rfl,p⟩:=QaZ h e
 exact⟨i,by rw[Vk];exact hu,p⟩
def Qik{a b:Nat}(ha:h[a]?=some (.lst us))(hb:h[b]?=some (.lst us))(hr:∀u∈us,∃i,u=.ref i):eqA T (.ref a) (.ref b) h=some true:=by
 have e1:Qcl T (.ref a) (.ref b) h=false:=by simp only[Qcl,QT,ha,hb];simp
 have e2:Qb9 T (.ref a) (.ref b) h=true:=by
  simp only[Qb9,QT,ha,hb,decide_true,Bool.true_and,Wl];intro u hu;obtain⟨i,rfl⟩:=hr u hu;rfl
 simp only[eqA,Qns,e1,e2,Wa];rfl
def Qk9{P:Vp}{ms:List Mv}(h:Paired (dM P) us ms):∀u∈us,∃i,u=.ref i:=by
 induction h with
 |nil=>intro u hu;cases hu
 |cons a _ ih=>
  intro u hu
  rcases X5.mp hu with rfl|hu
  ·obtain⟨i,rfl,_⟩:=a;exact⟨i,rfl⟩
  ·exact ih u hu
theorem QkX{p q:Int->Bool}{x:Int}(pq:∀k,p k=true->q k=true)(hp:p x=false)(hq:q x=true):∀{K:List Int},x∈K->(K.filter p).length<(K.filter q).length
 |[],h=>by cases h
 |k::K,h=>by
  have le:∀K:List Int,(K.filter p).length<=(K.filter q).length:=λK=>by
   induction K with
   |nil=>exact Xm _
   |cons a K ih=>
    rw[W4,W4];cases e:p a
    ·rw[if_neg Xh];split
     ·exact Nat.le_succ_of_le ih
     ·exact ih
    ·rw[if_pos rfl,if_pos (pq a e)];exact Nat.succ_le_succ ih
  rw[W4,W4]
  rcases X5.mp h with rfl|h
  ·rw[hp,hq];exact Nat.lt_succ_of_le (le K)
  ·have ih:=QkX pq hp hq h;cases e:p k
   ·rw[if_neg Xh];split
    ·exact Nat.lt_succ_of_lt ih
    ·exact ih
   ·rw[if_pos rfl,if_pos (pq k e)];exact Nat.succ_lt_succ ih
theorem QkW{T:Tbl}{cf:Cf}{d nd:Nat}{K:List Int}{v:Int->U}{h:Hs}{Z:Rho}(l:12 < Z.length)(h8:Z[8]?=some (sR nd))(hd:h[nd]?=some (.dic (dI K v))):∀(k:Nat) (g:Int),(K.filter λj=>decide (g<=j)).length<k ->
  ∃g',g'∉K/\Zi (evT T cf (d+4) (.cmp .In (.var 12) (.var 8))) (exs T cf (d+4) [(.set 12 (.op .Add (.var 12) (.c (.int 1 0))))]) k (Z.set 12 (some (iU g))) h=some (.next,Z.set 12 (some (iU g')),h)
 |0,g,hk=>by lia
 |k+1,g,hk=>by
  have e12:(Z.set 12 (some (iU g)))[12]?=some (some (iU g)):=Wh l
  have e8:(Z.set 12 (some (iU g)))[8]?=some (sR nd):=by rw[X8 (by decide)];exact h8
  have t:evT T cf (d+4) (.cmp .In (.var 12) (.var 8)) (Z.set 12 (some (iU g))) h=some (decide (g∈K),h):=QC (Qa e12) (Qa e8) (QkS hd);by_cases hg:g∈K
  ·obtain⟨g',n,w⟩:=QkW (T:=T) (cf:=cf) (d:=d) l h8 hd k (g+1) (by
    have:=QkX (p:=λj=>decide (g+1<=j)) (q:=λj=>decide (g<=j)) (λj e=>by simp only[Xy]at e ⊢;lia) (by simp;lia) (by simp) hg
    lia)
   refine⟨g',n,?_⟩
   have b:exs T cf (d+4) [(.set 12 (.op .Add (.var 12) (.c (.int 1 0))))] (Z.set 12 (some (iU g))) h=some (.next,Z.set 12 (some (iU (g+1))),h):=by
    refine(QE (Qbr (Qa e12) y_c Qag)).trans ?_;rw[List.set_set];exact Je
   rw[Zi,t,X4 hg];simp only[b];exact w
  ·exact⟨g,hg,by rw[Zi,t,Xq hg]⟩
def Qjb{iN iG nd:Nat}{er:E}{P:Vp}{rs:List U}{R:List (List Lp)}{K:List Int}{nn:Int->Nm}{Of:List Nm}(o:Own h C P)(hl:Z.length=17)(ve:ev T cf (d+6) er Z h=some (.ref h.length,h++[.lst rs]))(dr:Paired (dW P) rs R)(hN:Z[iN]?=some (sR nd))(pN:P nd (.dic (dI K v)))(dn:∀k∈K,dN P (v k) (nn k))(lK:K.length<64)(hG:Z[iG]?=some (sR g))(pG:P g (.lst gs))(dg:Paired (dN P) gs Of)(lg:Of.length<64)(iN17:iN<17):
  ∃u h' P',ev T cf (d+7) (.tup [er,(.comp (.seq (.bi .sorted [(.var iN)])) false none (.ix (.var iN) (.var 17))),(.lst []),(.bi .sorted [(.var iG)])]) Z h=some (u,h')/\Le P P'/\Own h' C P'/\dB P' u ⟨R,(srt K).map nn,QaT Of⟩:=by
 have lo:=Qv dg;have o1:=o.add (y:=.lst rs);have v1:ev T cf (d+5) (.bi .sorted [(.var iN)]) Z (h++[.lst rs])=some (.ref (h++[O.lst rs]).length,h++[O.lst rs]++[.lst ((srt K).map iU)]):=JP (Qa hN) (Qjx (o1.p _ _ (.inl pN)) lK);have o2:=o1.add (y:=.lst ((srt K).map iU))
 obtain⟨vs,h2,e2,eh,ea⟩:=Yc (R:=λu y=>u=iU y) (L:=srt K) (el:=.ix (.var iN) (.var 17)) v1 (λi acc hs=>hs=h++[O.lst rs]++[O.lst ((srt K).map iU)]/\acc=((srt K).take i).map v) (Yj _) (by rw[Qz];lia) (λi acc hs z=>by rw[z.1];exact at0)
  (λi y w hy ew acc hs z=>by
   obtain⟨rfl,rfl⟩:=z;subst ew;refine⟨v y,_,Ze (u:=.ref nd) (w:=iU y) (Qa ?_) (Qa ?_) (YK (o2.p _ _ (.inl (.inl pN))) (srt_mem.mp (Xr hy))),rfl,?_⟩
   ·rw[Xu (by lia)];exact hN
   ·rw[Xv (by lia),hl];rfl
   ·rw[tk1 hy,X1];rfl) ⟨rfl,rfl⟩
 rw[eh,ea,W2]at e2;have o3:=o2.add (y:=.lst ((srt K).map v));have o4:=o3.add (y:=.lst []);obtain⟨P4,l4,f1,f2,f3,o4⟩:∃P4,Le P P4/\P4 h.length (.lst rs)/\P4 (h++[O.lst rs]++[O.lst ((srt K).map iU)]).length (.lst ((srt K).map v))/\P4 (h++[O.lst rs]++[O.lst ((srt K).map iU)]++[O.lst ((srt K).map v)]).length (.lst [])/\Own (h++[O.lst rs]++[O.lst ((srt K).map iU)]++[O.lst ((srt K).map v)]++[O.lst []]) C P4:=⟨_,((le_ad.trans le_ad).trans le_ad).trans le_ad,.inl (.inl (.inl Qm)),.inl Qm,Qm,o4⟩
 obtain⟨os,e7,d7⟩:=Qga (T:=T) o4.p (o4.p _ _ (l4 _ _ pG)) (dNs.le l4 dg) (by lia)
 have o5:=o4.add (y:=.lst os);obtain⟨P5,l5,f5,o5⟩:∃P5,Le P4 P5/\P5 (h++[O.lst rs]++[O.lst ((srt K).map iU)]++[O.lst ((srt K).map v)]++[O.lst []]).length (.lst os)/\Own _ C P5:=⟨_,le_ad,Qm,o5⟩;have o6:=o5.add (y:=.tup [.ref h.length,.ref (h++[O.lst rs]++[O.lst ((srt K).map iU)]).length,.ref (h++[O.lst rs]++[O.lst ((srt K).map iU)]++[O.lst ((srt K).map v)]).length,.ref (h++[O.lst rs]++[O.lst ((srt K).map iU)]++[O.lst ((srt K).map v)]++[O.lst []]).length])
 refine⟨_,_,_,Qbq ve e2 (by rw[Zs];rfl) (JP (Qa hG) e7),((l4.trans l5).trans le_ad),o6,_,_,_,_,_,rs,(srt K).map v,os,rfl,Qm,.inl (l5 _ _ f1),?_,.inl (l5 _ _ f2),?_,.inl (l5 _ _ f3),.inl f5,?_⟩
 ·exact Qg (λx x=>dW.le ((l4.trans l5).trans le_ad)) dr
 ·exact Jv λk hk=>(dn k (srt_mem.mp hk)).le ((l4.trans l5).trans le_ad)
 ·exact dNs.le (l5.trans le_ad) d7
def Qjw(h:n<=40):srt (rg n)=rg n:=by
 have a:(List.range 41).all (λn=>decide (srt (rg n)=rg n))=true:=by decide +kernel
 exact Wo (Wl.mp a n (List.mem_range.mpr (by lia)))
def Own.kp{P:Vp}(o:Own h C P)(k:Kp h h'):Own h' C P:=⟨λj i x e=>k _ _ (o.c j i x e),o.nd,λi x z=>k _ _ (o.p i x z),o.q⟩
def Qad{P:Vp}(hP:∀i o,P i o->h[i]?=some o):Own h [] P:=⟨λz z z e=>(nomatch e),λz z z z z e=>(nomatch e),hP,λz z z z z e=>(nomatch e)⟩
noncomputable abbrev wC:List Nat:=[99,97,115,116]
noncomputable abbrev wE:List Nat:=[101,110,100]
section
variable {c:Nat}{P:Vp}
def QcS{Z:Rho}{h:Hs}(e:ev T cf d a Z h=some (u,h1)):ev T cf (d+1) (.tup [a]) Z h=some (.ref h1.length,h1++[.tup [u]]):=by rw[QeH,e_1 e];rfl
def QcT(o:Own h C P)(h1:Z[1]?=some (sR c))(hc:P c (.lst (cs.map iU))):ev T cf (d+2) (.bi .len [(.var 1)]) Z h=some (iU (cs.length:Int),h):=by
 have:=JV (T:=T) (cf:=cf) (d:=d+1) (Z:=Z) (Qa h1) (o.p _ _ hc);rw[Xl]at this;exact this
def QmW(o:Own h C P)(hl:Z.length=17)(h1:Z[1]?=some (sR c))(h9:Z[9]?=some (sR cl))(hc:P c (.lst (cs.map iU)))(lc:cs.length<=40)(pc:P cl (.lst cus))(dc:Paired (dL P) cus (List.replicate cs.length ⟨[],0,0⟩)):
  Xx (tbG xx s) (Qd (tbG xx s) (n+7)) 83 [(.ret (.call 20 [(.call 16 [(.lst [(.tup [(.c (.str [99,97,115,116])),(.bi .len [(.var 1)])])])]),(.tup [(.lst [(.var 9)]),(.comp (.rng (.bi .len [(.var 1)])) false none (.tup [(.c (.int 0 0)),(.var 17)])),(.lst []),(.lst [])])]))] Z h (Fq λu w=>u=.bl true):=by
 have o1:=o.add (y:=.tup [.str wC,iU (cs.length:Int)]);have o2:=o1.add (y:=.lst [.ref h.length]);have vm:ev (tbG xx s) (Qd (tbG xx s) (n+7)) 79 (.lst [(.tup [(.c (.str [99,97,115,116])),(.bi .len [(.var 1)])])]) Z h=some (.ref (h++[O.tup [.str wC,iU (cs.length:Int)]]).length,h++[O.tup [.str wC,iU (cs.length:Int)]]++[O.lst [.ref h.length]]):=ZV (Q5 y_c (QcT o h1 hc));obtain⟨ha,eha⟩:∃ha,ha=h++[O.tup [.str wC,iU (cs.length:Int)]]++[O.lst [.ref h.length]]:=⟨_,rfl⟩;obtain⟨m,em⟩:∃m,m=(h++[O.tup [.str wC,iU (cs.length:Int)]]).length:=⟨_,rfl⟩;rw[<-eha,<-em]at vm;rw[<-eha]at o2
 have hm:ha[m]?=some (.lst [.ref h.length]):=by rw[eha,em];exact at0
 have ht:ha[h.length]?=some (.tup (mvU (.cast (cs.length:Int)))):=by rw[eha];exact Zd at0
 obtain⟨u,h3,e3,P3,l3,s3,d3⟩:=Qen (xx:=xx) (s:=s) (n:=n+1) (ms:=[]) (k:=cs.length) (R:=R0 cs.length) (N:=rg cs.length) (nm:=λj=>(0,j)) (Of:=[]) hm rfl (λj mv e=>by
  cases j with
  |zero=>cases e;exact⟨h.length,rfl,ht⟩
  |succ j=>cases e) (by lia) (tl:=h.length) rfl ht (.inl rfl) (.nil QeF QeF λh P z=>⟨P,Le.refl,z⟩) (by rw[Qgf];lia) (show 1<1000 by decide) (by decide)
 rw[Qjw lc]at d3;have lP:Le P P3:=λi x z=>l3 _ _ (o2.p _ _ (.inl (.inl z)));have o3:=Qad s3;have o4:=o3.add (y:=.lst [.ref cl]);obtain⟨P4,l4,f4,o4⟩:∃P4,Le P3 P4/\P4 h3.length (.lst [.ref cl])/\Own (h3++[.lst [.ref cl]]) [] P4:=⟨_,le_ad,Qm,o4⟩
 obtain⟨ls,h5,e5,P5,l5,o5,d5⟩:=QaO (T:=tbG xx s) (cf:=Qd (tbG xx s) (n+7)) (d:=78) (e:=.bi .len [(.var 1)]) (el:=.tup [(.c (.int 0 0)),(.var 17)]) (Z:=Z) (n:=cs.length) (QcT o4 h1 (l4 _ _ (lP _ _ hc))) (by lia) (λi acc hs=>∃P5,Le P4 P5/\Own hs [] P5/\Paired (dN P5) acc ((rg i).map n0))
  (λi hi acc hs v=>by
   obtain⟨P5,l5,o5,d5⟩:=v
   have e17:(Z++[some (iU (i:Int))])[17]?=some (some (iU (i:Int))):=by rw[Xv (by lia),hl];rfl
   refine⟨_,_,Q5 y_c (Qa e17),_,l5.trans le_ad,o5.add,?_⟩;rw[Qmt,X1]
   exact QA (dNs.le le_ad d5) (.cons ⟨_,rfl,Qm⟩ .nil)) ⟨P4,Le.refl,o4,.nil⟩
 have o6:=((o5.add (y:=.lst ls)).add (y:=.lst [])).add (y:=.lst []);obtain⟨P6,l6,a6,b6,c6,o6⟩:∃P6,Le P5 P6/\P6 h5.length (.lst ls)/\P6 (h5++[O.lst ls]).length (.lst [])/\P6 (h5++[O.lst ls]++[O.lst []]).length (.lst [])/\Own (h5++[O.lst ls]++[O.lst []]++[O.lst []]) [] P6:=⟨_,(le_ad.trans le_ad).trans le_ad,.inl (.inl Qm),.inl Qm,Qm,o6⟩;have o7:=o6.add (y:=.tup [.ref h3.length,.ref h5.length,.ref (h5++[O.lst ls]).length,.ref (h5++[O.lst ls]++[O.lst []]).length])
 have vd:ev (tbG xx s) (Qd (tbG xx s) (n+7)) 80 (.tup [(.lst [(.var 9)]),(.comp (.rng (.bi .len [(.var 1)])) false none (.tup [(.c (.int 0 0)),(.var 17)])),(.lst []),(.lst [])]) Z h3=some (.ref (h5++[O.lst ls]++[O.lst []]++[O.lst []]).length,h5++[O.lst ls]++[O.lst []]++[O.lst []]++[.tup [.ref h3.length,.ref h5.length,.ref (h5++[O.lst ls]).length,.ref (h5++[O.lst ls]++[O.lst []]).length]]):=Qbq (ZV (Qa h9)) e5 (by rw[Zs];rfl) (by rw[Zs];rfl)
 have l7:=(l4.trans l5).trans (l6.trans (le_ad (j:=(h5++[O.lst ls]++[O.lst []]++[O.lst []]).length) (x:=.tup [.ref h3.length,.ref h5.length,.ref (h5++[O.lst ls]).length,.ref (h5++[O.lst ls]++[O.lst []]).length])));have dd:dB _ (.ref (h5++[O.lst ls]++[O.lst []]++[O.lst []]).length) ⟨R0 cs.length,(rg cs.length).map λj=>(0,j),QaT []⟩:=⟨_,_,_,_,_,[.ref cl],ls,[],rfl,Qm,.inl (l6 _ _ (l5 _ _ f4)),.cons ⟨cl,cus,rfl,l7 _ _ (lP _ _ pc),Qg (λw w=>dL.le (lP.trans l7)) dc⟩ .nil,.inl a6,dNs.le (l6.trans le_ad) d5,.inl b6,.inl c6,.nil⟩;refine YN (YG (ZN (e_2 (ZN (e_1 vm) e3) vd) (QbY (n:=n) (d:=7) (Qmi o7.p (d3.le l7) dd))) rfl)
end
def QcP{j k r:Nat}{a b c:U}(x:ev T cf d e Z h=some (.ref r,h1))(hr:h1[r]?=some (.tup [a,b,c])):ex T cf (d+1) (.unpN [i,j,k] e) Z h=some (.next,((Z.set i (some a)).set j (some b)).set k (some c),h1):=by
 have y:ex T cf (d+1) (.unpN [i,j,k] e) Z h=bd (ev T cf d e Z h) λu h1=>(QlE u h1).bind λus=>(QlJ [i,j,k] us Z).map λρ'=>(.next,ρ',h1):=rfl;rw[y,x,Qy];simp only[QlE,hr];rfl
def Qf3{b:E}(e:ev T cf d a Z h=some (u,h1))(f:ev T cf d b Z h1=some (w,h2)):ev T cf (d+1) (.lst [a,b]) Z h=some (.ref h2.length,h2++[.lst [u,w]]):=by rw[Zs,e_2 e f];rfl
def Qi9{b c:E}{z:U}(e:ev T cf d a Z h=some (u,h1))(f:ev T cf d b Z h1=some (w,h2))(g:ev T cf d c Z h2=some (z,h3)):ev T cf (d+1) (.lst [a,b,c]) Z h=some (.ref h3.length,h3++[.lst [u,w,z]]):=by rw[Zs,e_3 e f g];rfl
def YU{b:E}{ys:List U}(x:ev T cf d a Z h=some (.ref p,h1))(y:ev T cf d b Z h1=some (.ref q,h2))(hp:h2[p]?=some (.lst xs))(hq:h2[q]?=some (.lst ys))(l:xs.length+ys.length<=1000000):ev T cf (d+1) (.op .Add a b) Z h=some (.ref h2.length,h2++[.lst (xs++ys)]):=Qbr x y (Qlu hp hq l)
noncomputable def Qoy:List Iv.S:=[(.unpN [6,15,16] (.call 21 [(.var 13),(.op .Add (.var 2) (.c (.int 1 0))),(.c (.int 2 0))])),(.set 11 (.tup [(.lst [(.var 9),(.var 7),(.var 15)]),(.comp (.seq (.bi .sorted [(.var 16)])) false none (.ix (.var 16) (.var 17))),(.lst []),(.bi .sorted [(.var 5)])])),(.ite (.not (.call 20 [(.call 16 [(.op .Add (.op .Add (.var 3) (.var 6)) (.lst [(.tup [(.c (.str [101,110,100]))])]))]),(.var 11)])) [(.ret (.c (.bl false)))] []),(.ret (.call 20 [(.call 16 [(.lst [(.tup [(.c (.str [99,97,115,116])),(.bi .len [(.var 1)])])])]),(.tup [(.lst [(.var 9)]),(.comp (.rng (.bi .len [(.var 1)])) false none (.tup [(.c (.int 0 0)),(.var 17)])),(.lst []),(.lst [])])]))]
section
variable {c lt:Nat}{x8 x10 x11 x12 x14 x15 x16:Option U}{P:Vp}{ls1:List U}{rowA:List Mv}{rw1:List Lp}{O1:List Nm}{ks2:List Int}{pn2:Int->List Nm}{nn2:Int->Nm}
def QmX(o:Own h [] P)(hc:P c (.lst (cs.map iU)))(lc:cs.length<=40)(pc:P cl (.lst cus))(dc:Paired (dL P) cus (List.replicate cs.length ⟨[],0,0⟩))(pL:P L1 (.lst ls1))(dl:Paired (dL P) ls1 rw1)(pG:P g (.lst gs))(dg:Paired (dN P) gs O1)(lO:O1.length<64)(pM:P mm (.lst us))(dm:Paired (dM P) us (.cast (cs.length:Int)::rowA))(lM:rowA.length<500)
  (pT:P lt (.dic (dI ks2 v))) (dp:∀k∈ks2,dP P (v k) (pn2 k)) (ne:∀k∈ks2,pn2 k≠[]) (nd:ks2.Nodup) (lK:ks2.length<64) (lp:∀k,(pn2 k).length<1000)
  (e1:∀(i:Nat) k,(srt ks2)[i]?=some k->cn (kd+1) pn2 k=true->nn2 k=(2,((((srt ks2).take i).filter (cn (kd+1) pn2)).length:Int))) (e2:∀k a r,cn (kd+1) pn2 k=false->pn2 k=a::r->nn2 k=a)
  (ch:∀b Q,Ch b (Rdy b Q (R0 cs.length) (rg cs.length) (λj=>(0,j)) []) (rowA++((Ev (kd+1) ((srt ks2).filter (cn (kd+1) pn2))).map (drM (kd+1))++[.fin])) (Rdy b Q [List.replicate cs.length ⟨[],0,0⟩,rw1,((srt ks2).filter (cn (kd+1) pn2)).map (drL (kd+1) pn2)] (srt ks2) nn2 O1)):
  Xx (tbG xx s) (Qd (tbG xx s) (n+7)) 86 Qoy
   [some .scr,sR c,some (iU kd),sR mm,x4,sR g,x6,sR L1,x8,sR cl,x10,x11,x12,sR lt,x14,x15,x16] h (Fq λu z=>u=.bl true):=by
 have le0:Le P (P0 h):=o.p;obtain⟨u,h1,ed,P1,r,M,L,N,ms,ls,v2,l1,s1,rfl,f1,pM2,dM2,pL2,dL2,pN2,dN2⟩:=Qeo (xx:=xx) (s:=s) (n:=n+6) (kd:=kd+1) (rw:=2) (pn:=pn2) (nn:=nn2) (le0 _ _ pT) (λk hk=>(dp k hk).le le0) ne nd lK lp e1 (λk a r z=>e2 k a r);have lP:=le0.trans l1;have o1:=Qad s1;refine QcH (QcP (ZN (d:=83) (e_3 (Qa rfl) (Qbr (Qa rfl) y_c Qag) y_c) ed) (o1.p _ _ f1)) ?_;have lm2:=Qv dM2;rw[Xl]at lm2
 have lE:(Ev (kd+1) ((srt ks2).filter (cn (kd+1) pn2))).length<=64:=by
  have e3:((srt ks2).filter (cn (kd+1) pn2)).length<=64:=X6 (V8 _ _) (by rw[Qz];lia)
  unfold Ev;split<;>simpa using e3
 have ve:ev (tbG xx s) (Qd (tbG xx s) (n+7)) (76+6) (.lst [(.var 9),(.var 7),(.var 15)]) [some .scr,sR c,some (iU kd),sR mm,x4,sR g,sR M,sR L1,x8,sR cl,x10,x11,x12,sR lt,x14,sR L,sR N] h1=some (.ref h1.length,h1++[.lst [.ref cl,.ref L1,.ref L]]):=Qi9 (Qa rfl) (Qa rfl) (Qa rfl)
 obtain⟨ud,h2,P2,ed2,l2,o2,d2⟩:=Qjb (d:=76) (iN:=16) (iG:=5) (R:=[List.replicate cs.length ⟨[],0,0⟩,rw1,((srt ks2).filter (cn (kd+1) pn2)).map (drL (kd+1) pn2)]) o1 rfl ve (.cons ⟨cl,cus,rfl,lP _ _ pc,Qg (λz z=>dL.le lP) dc⟩ (.cons ⟨L1,ls1,rfl,lP _ _ pL,Qg (λz z=>dL.le lP) dl⟩ (.cons ⟨L,ls,rfl,pL2,dL2⟩ .nil))) rfl pN2 dN2 (by rw[Qz];exact lK) rfl (lP _ _ pG) (dNs.le lP dg) lO (by decide)
 refine Zg (QE (d:=83) ed2) ?_;have lu:=Qv dm;rw[X7]at lu;have hM:=o2.p _ _ (l2 _ _ (lP _ _ pM));have hM2:=o2.p _ _ (l2 _ _ pM2);have o3:=o2.add (y:=.lst (us++ms));have o4:=o3.add (y:=.tup (mvU .fin));have o5:=o4.add (y:=.lst [.ref (h2++[O.lst (us++ms)]).length]);obtain⟨h5,e5⟩:∃h5,h5=h2++[O.lst (us++ms)]++[O.tup (mvU .fin)]++[O.lst [.ref (h2++[O.lst (us++ms)]).length]]:=⟨_,rfl⟩;have o6:=o5.add (y:=.lst (us++ms++[.ref (h2++[O.lst (us++ms)]).length]))
 have va:ev (tbG xx s) (Qd (tbG xx s) (n+7)) 78 (.op .Add (.op .Add (.var 3) (.var 6)) (.lst [(.tup [(.c (.str [101,110,100]))])])) [some .scr,sR c,some (iU kd),sR mm,x4,sR g,sR M,sR L1,x8,sR cl,x10,some ud,x12,sR lt,x14,sR L,sR N] h2=some (.ref h5.length,h5++[.lst (us++ms++[.ref (h2++[O.lst (us++ms)]).length])]):=by
  rw[e5]
  exact YU (YU (Qa rfl) (Qa rfl) hM hM2 (by lia)) (ZV (QcS y_c)) (Zd (Zd at0)) at0 (by simp;lia)
 rw[<-e5]at o5 o6;obtain⟨P6,l6,f6,g6,o6⟩:∃P6,Le P2 P6/\P6 (h2++[O.lst (us++ms)]).length (.tup (mvU .fin))/\P6 h5.length (.lst (us++ms++[.ref (h2++[O.lst (us++ms)]).length]))/\Own (h5++[.lst (us++ms++[.ref (h2++[O.lst (us++ms)]).length])]) [] P6:=⟨_,((le_ad.trans le_ad).trans le_ad).trans le_ad,.inl (.inl Qm),Qm,o6⟩;have l26:=l2.trans l6;have lP6:=lP.trans l26;have le6:Le P6 (P0 (h5++[.lst (us++ms++[.ref (h2++[O.lst (us++ms)]).length])])):=o6.p
 have dA:Paired (dM P6) (us++ms++[.ref (h2++[O.lst (us++ms)]).length]) (.cast (cs.length:Int)::(rowA++((Ev (kd+1) ((srt ks2).filter (cn (kd+1) pn2))).map (drM (kd+1))++[.fin]))):=by
  have:=QA (QA (Qg (λz z=>dM.le lP6) dm) (Qg (λz z=>dM.le l26) dM2)) (.cons (⟨_,rfl,f6⟩:dM P6 (.ref (h2++[O.lst (us++ms)]).length) .fin) .nil);rw[Tu,Tu,Wp rowA]at this;exact this
 have lA:=Qv dA
 obtain⟨uf,h7,e7,P7,l7,s7,d7⟩:=Qen (xx:=xx) (s:=s) (n:=n+1) (o6.p _ _ g6) lA ((Qgs dA).le le6) (by lia) (tl:=(h2++[O.lst (us++ms)]).length) (w:=wE) (r:=[]) (by simp) (o6.p _ _ f6) (.inr rfl) (ch _ _) (by rw[Qz];exact lK) (show 3<1000 by decide) lO
 have d8:dB P7 ud _:=d2.le (l6.trans (le6.trans l7));have sm:=QbY (xx:=xx) (s:=s) (n:=n) (Qmi s7 d7 d8);have t9:evT (tbG xx s) (Qd (tbG xx s) (n+7)) 82 (.not (.call 20 [(.call 16 [(.op .Add (.op .Add (.var 3) (.var 6)) (.lst [(.tup [(.c (.str [101,110,100]))])]))]),(.var 11)])) [some .scr,sR c,some (iU kd),sR mm,x4,sR g,sR M,sR L1,x8,sR cl,x10,some ud,x12,sR lt,x14,sR L,sR N] h2=some (false,h7):=Ye (c:=true) (Qgz rfl (ZN (e_2 (ZN (e_1 va) e7) (Qa rfl)) sm));refine Zg (Zv (d:=81) t9 rfl) ?_;have lP7:=(lP6.trans le6).trans l7;exact QmW (Qad s7) rfl rfl rfl (lP7 _ _ hc) lc (lP7 _ _ pc) (Qg (λz z=>dL.le lP7) dc)
end
noncomputable def a2(x:Int):Int×Option Int:=(x,some (3+2*x))
structure Xi(c mm g L1 N1 cl lt:Nat)(kd:Int)(us1:List U)(nn1:Int->Nm)(P:Vp)(x4 x6 x10 x11 x12 x15 x16:Option U)(pre:As)(Z:Rho)(h:Hs)(P1:Vp)(v:Int->U)(us2:List U):Prop where
 rg:∃x,Z=[some .scr,sR c,some (iU kd),sR mm,x4,sR g,x6,sR L1,sR N1,sR cl,x10,x11,x12,sR lt,x,x15,x16]
 le:Le P P1
 ow:Own h [(mm,.lst (us1++us2)),(lt,.dic (dI (Qk pre) v))] P1
 dm:Paired (dM P1) us2 (pre.map mvA)
 dp:∀k∈Qk pre,dP P1 (v k) ((QJ k pre).map nn1)
noncomputable def l2B:List Iv.S:=[(.expr (.bm .append (.var 3) [(.tup [(.c (.str [108,97,121])),(.var 14),(.op .Add (.c (.int 3 0)) (.op .Mult (.c (.int 2 0)) (.var 14)))])])),(.put (.var 13) (.op .Add (.c (.int 3 0)) (.op .Mult (.c (.int 2 0)) (.var 14))) (.lst [(.ix (.var 8) (.var 14))]))]
noncomputable def Qm1:List Iv.S:=(.set 13 .dnew)::(.loop (.name 14) (.seq (.bi .sorted [(.var 8)])) l2B)::Qoy
section
variable {c N1 lt:Nat}{x10 x11 x12 x13 x14 x15 x16:Option U}{P:Vp}{us1 us2 ls1:List U}{row1:List Mv}{rw1:List Lp}{O1:List Nm}{K1:List Int}{v1:Int->U}{nn1:Int->Nm}{P1:Vp}{K:List Int}
def Qh4(X:Xi c mm g L1 N1 cl lt kd us1 nn1 P x4 x6 x10 x11 x12 x15 x16 (K.map a2) Z h P1 v us2)(pN:P N1 (.dic (dI K1 v1)))(dn:∀k∈K1,dN P (v1 k) (nn1 k))(hx:x∈K1)(nx:x∉K)(lu:us1.length+K.length<900):
  Xx T cf 85 l2B (Z.set 14 (some (iU x))) h λf ρ2 h'=>f=.next/\∃P2 v2 us3,Xi c mm g L1 N1 cl lt kd us1 nn1 P x4 x6 x10 x11 x12 x15 x16 ((K++[x]).map a2) ρ2 h' P2 v2 us3:=by
 obtain⟨⟨y,rfl⟩,le,ow,dm,dp⟩:=X;have l2:=Qv dm;rw[Xl,Xl]at l2;have c1:=Qbg (pre:=K.map a2);rw[Xl]at c1;have o1:=ow.add (y:=.tup (mvU (.lay x (3+2*x))));have o2:=o1.set (y:=.lst (us1++us2++[.ref h.length])) 0 rfl;have vf:∀{d:Nat} {h:Hs},ev T cf (d+3) (.op .Add (.c (.int 3 0)) (.op .Mult (.c (.int 2 0)) (.var 14))) [some .scr,sR c,some (iU kd),sR mm,x4,sR g,x6,sR L1,sR N1,sR cl,x10,x11,x12,sR lt,some (iU x),x15,x16] h=some (iU (3+2*x),h):=λ{d h}=>Qbr y_c (Qbr y_c (Qa rfl) Qkv) Qag
 refine ZP (d:=83) (YM (d:=82) (Qa rfl) (ow.c 0 _ _ rfl) (YG (Zx y_c (Qa rfl) vf) ⟨_,o1.c 0 _ _ rfl,by simp;lia,?_⟩))
 obtain⟨P2,l2',f2,o2⟩:∃P2,Le P1 P2/\P2 h.length (.tup (mvU (.lay x (3+2*x))))/\Own _ _ P2:=⟨_,le_ad,Qm,o2⟩;obtain⟨h2,e2⟩:∃h2,h2=(h++[O.tup (mvU (.lay x (3+2*x)))]).set mm (.lst (us1++us2++[.ref h.length])):=⟨_,rfl⟩;have e2':(h++[O.tup [.str [108,97,121],iU x,iU (3+2*x)]]).set mm (.lst (us1++us2++[.ref h.length]))=h2:=e2.symm;rw[<-e2]at o2;rw[e2'];have lP:=le.trans l2';have o3:=o2.add (y:=.lst [v1 x]);have o4:=o3.set (y:=.dic (dI (pk (Qk (K.map a2)) (3+2*x)) (up v (3+2*x) (.ref h2.length)))) 1 rfl;obtain⟨P4,l4,f4,o4⟩:∃P4,Le P2 P4/\P4 h2.length (.lst [v1 x])/\Own _ _ P4:=⟨_,le_ad,Qm,o4⟩;have l5:=l2'.trans l4
 refine Jr (d:=82) (ZV (Ze (Qa rfl) (Qa rfl) (YK (o2.p _ _ (lP _ _ pN)) hx))) (Qa rfl) vf (Zz (o3.c 1 _ _ rfl) (by lia)) (Zb ⟨rfl,P4,up v (3+2*x) (.ref h2.length),us2++[.ref h.length],⟨_,rfl⟩,le.trans l5,?_,?_,?_⟩)
 ·rw[X1,show [x].map a2=[(x,some (3+2*x))]from rfl,QkZ,<-Wp];exact o4
 ·rw[X1,X1];exact QA (Qg (λw w=>dM.le l5) dm) (.cons ⟨_,rfl,l4 _ _ f2⟩ .nil)
 ·intro k hk;rw[X1,show [x].map a2=[(x,some (3+2*x))]from rfl]at hk ⊢;have ep:QJ k (K.map a2++[(x,some (3+2*x))])=up (λk=>QJ k (K.map a2)) (3+2*x) (QJ (3+2*x) (K.map a2)++[x]) k:=congrFun Qdo k;rw[ep];by_cases ek:k=3+2*x
  ·subst ek
   have e0:QJ (3+2*x) (K.map a2)=[]:=by
    rw[List.eq_nil_iff_forall_not_mem];intro y hy;obtain⟨z,hz,e⟩:=V3.mp (pile_mem.mp hy);unfold a2 at e;rw[Prod.mk.injEq,Vi]at e
    have:z=x:=by lia
    exact nx (this▸hz)
   rw[JQ,JQ,e0];exact⟨_,_,rfl,f4,.cons ((dn x hx).le (lP.trans l4)) .nil⟩
  ·rw[YF ek,YF ek];rw[QkZ]at hk;exact(dp k ((pk_mem.mp hk).resolve_right ek)).le l5
def QmY{nn2:Int->Nm}(o:Own h [(mm,.lst us1)] P)(hc:P c (.lst (cs.map iU)))(lc:cs.length<=40)(pc:P cl (.lst cus))(dc:Paired (dL P) cus (List.replicate cs.length ⟨[],0,0⟩))(pL:P L1 (.lst ls1))(dl:Paired (dL P) ls1 rw1)(pG:P g (.lst gs))(dg:Paired (dN P) gs O1)(lO:O1.length<64)(dm:Paired (dM P) us1 (.cast (cs.length:Int)::row1))(lM:row1.length<300)
  (pN:P N1 (.dic (dI K1 v1))) (dn:∀k∈K1,dN P (v1 k) (nn1 k)) (nd1:K1.Nodup) (lK1:K1.length<64)
  (e1:∀(i:Nat) k,(srt (Qk ((srt K1).map a2)))[i]?=some k->cn (kd+1) (λk=>(QJ k ((srt K1).map a2)).map nn1) k=true->nn2 k=(2,((((srt (Qk ((srt K1).map a2))).take i).filter (cn (kd+1) λk=>(QJ k ((srt K1).map a2)).map nn1)).length:Int))) (e2:∀k a r,cn (kd+1) (λk=>(QJ k ((srt K1).map a2)).map nn1) k=false->(QJ k ((srt K1).map a2)).map nn1=a::r->nn2 k=a)
  (ch:∀b Q,Ch b (Rdy b Q (R0 cs.length) (rg cs.length) (λj=>(0,j)) []) ((row1++((srt K1).map a2).map mvA)++((Ev (kd+1) ((srt (Qk ((srt K1).map a2))).filter (cn (kd+1) λk=>(QJ k ((srt K1).map a2)).map nn1))).map (drM (kd+1))++[.fin])) (Rdy b Q [List.replicate cs.length ⟨[],0,0⟩,rw1,((srt (Qk ((srt K1).map a2))).filter (cn (kd+1) λk=>(QJ k ((srt K1).map a2)).map nn1)).map (drL (kd+1) λk=>(QJ k ((srt K1).map a2)).map nn1)] (srt (Qk ((srt K1).map a2))) nn2 O1)):
  Xx (tbG xx s) (Qd (tbG xx s) (n+7)) 88 Qm1
   [some .scr,sR c,some (iU kd),sR mm,x4,sR g,x6,sR L1,sR N1,sR cl,x10,x11,x12,x13,x14,x15,x16] h (Fq λu w=>u=.bl true):=by
 have lu:=Qv dm;rw[X7]at lu;have o1:=o.new (y:=.dic []);have vs:ev (tbG xx s) (Qd (tbG xx s) (n+7)) 85 (.bi .sorted [(.var 8)]) [some .scr,sR c,some (iU kd),sR mm,x4,sR g,x6,sR L1,sR N1,sR cl,x10,x11,x12,sR h.length,x14,x15,x16] (h++[.dic []])=some (.ref (h++[O.dic []]).length,h++[O.dic []]++[.lst ((srt K1).map iU)]):=JP (Qa rfl) (Qjx (o1.p _ _ pN) lK1);refine Zg (QE (d:=86) Zw) ?_;have o2:=o1.add (y:=.lst ((srt K1).map iU))
 obtain⟨P2,l2,f2,o2⟩:∃P2,Le P P2/\P2 (h++[O.dic []]).length (.lst ((srt K1).map iU))/\Own (h++[O.dic []]++[.lst ((srt K1).map iU)]) [(mm,.lst (us1++[])),(h.length,.dic (dI (Qk ([].map a2)) λw=>.non))] P2:=⟨_,le_ad,Qm,by rw[Wd];exact o2⟩
 obtain⟨ρ3,h3,ef,P3,v,us2,X⟩:=Qfr (T:=tbG xx s) (t:=.name 14) (body:=exs (tbG xx s) (Qd (tbG xx s) (n+7)) 85 l2B) (λi Z hs=>∃P1 v us2,Xi c mm g L1 N1 cl h.length kd us1 nn1 P2 x4 x6 x10 x11 x12 x15 x16 (((srt K1).take i).map a2) Z hs P1 v us2) (Yj (srt K1)) (λi Z hs q=>by obtain⟨P1,v,us2,X⟩:=q;exact X.ow.p _ _ (X.le _ _ f2))
  (λi k u hk eu Z hs m=>by
   obtain⟨P1,v,us2,X⟩:=m
   subst eu
   have lt:((srt K1).take i).length<=K1.length:=by rw[Vw,Qz];lia
   obtain⟨f,ρ2,h2,x,rfl,z⟩:=Qh4 (T:=tbG xx s) (cf:=Qd (tbG xx s) (n+7)) X (l2 _ _ pN) (λk hk=>(dn k hk).le l2) (srt_mem.mp (Xr hk)) (Qa6 (Zy nd1) hk) (by lia)
   exact⟨_,ρ2,h2,rfl,x,by rw[tk1 hk];exact z⟩)
  (Z:=[some .scr,sR c,some (iU kd),sR mm,x4,sR g,x6,sR L1,sR N1,sR cl,x10,x11,x12,sR h.length,x14,x15,x16]) (hs:=h++[O.dic []]++[.lst ((srt K1).map iU)]) ⟨P2,λw=>.non,[],⟨_,rfl⟩,Le.refl,o2,.nil,λk hk=>by cases hk⟩
 rw[W2]at X;obtain⟨⟨y,rfl⟩,le,ow,dm2,dp⟩:=X;refine QbA (Qe1 vs at0) ⟨_,h3,ef,?_⟩;have ow':Own h3 ([]++[(mm,.lst (us1++us2)),(h.length,.dic (dI (Qk ((srt K1).map a2)) v))]) P3:=ow
 obtain⟨P4,l4,f4,g4,o4⟩:∃P4,Le P3 P4/\P4 mm (.lst (us1++us2))/\P4 h.length (.dic (dI (Qk ((srt K1).map a2)) v))/\Own h3 [] P4:=⟨_,λw w z=>.inl z,.inr (by simp),.inr (by simp),ow'.lock⟩
 have lP:=(l2.trans le).trans l4;have lf:=Qbg (pre:=(srt K1).map a2);rw[Xl,Qz]at lf
 refine QmX (rowA:=row1++((srt K1).map a2).map mvA) (us:=us1++us2) (pn2:=λk=>(QJ k ((srt K1).map a2)).map nn1) o4 (lP _ _ hc) lc (lP _ _ pc) (Qg (λw w=>dL.le lP) dc) (lP _ _ pL) (Qg (λw w=>dL.le lP) dl) (lP _ _ pG) (dNs.le lP dg) lO f4 ?_ ?_ g4 (λk hk=>(dp k hk).le l4) (λk hk e=>Qii hk (List.map_eq_nil_iff.mp e)) (Qbf _) (by lia) (λk=>?_) e1 e2 ch
 ·rw[<-Tu];exact QA (Qg (λw w=>dM.le lP) dm) (Qg (λw w=>dM.le l4) dm2)
 ·rw[Wq,Xl,Xl,Qz];lia
 ·have c3:(QJ k ((srt K1).map a2)).length<=((srt K1).map a2).length:=JE;rw[Xl,Qz]at c3;rw[Xl];lia
end
def y_while{t:E}{b:List Iv.S}:ex T cf (d+1) (.while t b) Z h=Zi (evT T cf d t) (exs T cf d b) 1000000 Z h:=rfl
section
variable {c N1 hd:Nat}{P:Vp}{us1:List U}{ud:U}{row1:List Mv}{R1:List (List Lp)}{O1:List Nm}{K1:List Int}{v1:Int->U}{nn1:Int->Nm}
def QmZ(hxx:xx=QV (tbG zz s) 8)(o:Own h [(mm,.lst us1)] P)(lc:cs.length<=40)(dm:Paired (dM P) us1 (.cast (cs.length:Int)::row1))(lM:row1.length<300)(hla:(Mv.cast (cs.length:Int)::row1)[row1.length]?=some .fin)(pH:P hd (.lst us1))(db:dB P ud ⟨R1,(srt K1).map nn1,QaT O1⟩)(pN:P N1 (.dic (dI K1 v1)))(lK:K1.length<64)(lR:R1.length<1000)(lO:O1.length<64)
  (ch:∀b Q,Ch b (Rdy b Q (R0 cs.length) (rg cs.length) (λj=>(0,j)) []) row1 (Rdy b Q R1 K1 nn1 O1))
  (k:∀h' gp,Own h' [(mm,.lst us1)] P->Xx (tbG xx s) (Qd (tbG xx s) (n+7)) 88 Qm1 [some .scr,sR c,some (iU kd),sR mm,x4,sR g,x6,sR L1,sR N1,sR cl,sR hd,some ud,some (iU gp),none,none,none,none] h' (Fq Q)):
  Xx (tbG xx s) (Qd (tbG xx s) (n+7)) 92 ((.ite (.or (.not (.call 20 [(.call 16 [(.var 10)]),(.var 11)])) (.cmp .NotEq (.var 10) (.var 3))) [(.ret (.c (.bl false)))] [])::(.set 12 (.c (.int 0 0)))::(.while (.cmp .In (.var 12) (.var 8)) [(.set 12 (.op .Add (.var 12) (.c (.int 1 0))))])::(.ite (.cmp .NotEq (.call 22 [(.op .Add (.var 3) (.lst [(.tup [(.c (.str [108,97,121])),(.var 12),(.c (.int 0 0))]),(.tup [(.c (.str [101,110,100]))])]))]) (.bi .len [(.var 3)])) [(.ret (.c (.bl false)))] [])::Qm1)
   [some .scr,sR c,some (iU kd),sR mm,x4,sR g,x6,sR L1,sR N1,sR cl,sR hd,some ud,none,none,none,none,none] h (Fq Q):=by
 have le0:Le P (P0 h):=o.p;have lu:=Qv dm;obtain⟨tl,hl,il,rfl,pl⟩:=QaZ dm hla
 have hl':us1[us1.length-1]?=sR il:=by rw[lu,X7,Nat.add_sub_cancel];exact hl
 obtain⟨uf,h1,e1,P1,l1,s1,d1⟩:=Qen (xx:=xx) (s:=s) (n:=n+1) (o.p _ _ pH) lu ((Qgs dm).le le0) (by lia) (w:=wE) (r:=[]) hl' (o.p _ _ pl) (.inr rfl) (ch _ _) lK lR lO
 have kp1:Kp h h1:=λi x e=>s1 _ _ (l1 _ _ e);have o1:=o.kp kp1;have sm:=QbY (xx:=xx) (s:=s) (n:=n) (Qmi s1 d1 (db.le (le0.trans l1)))
 have t9:evT (tbG xx s) (Qd (tbG xx s) (n+7)) 90 (.or (.not (.call 20 [(.call 16 [(.var 10)]),(.var 11)])) (.cmp .NotEq (.var 10) (.var 3))) [some .scr,sR c,some (iU kd),sR mm,x4,sR g,x6,sR L1,sR N1,sR cl,sR hd,some ud,none,none,none,none,none] h=some (false,h1):=by
  refine QiF (c:=false) (h1:=h1) (Ye (c:=true) (Qgz rfl (ZN (e_2 (ZN (e_1 (Qa rfl)) e1) (Qa rfl)) sm))) ?_;rw[if_neg Xh];refine QC (d:=87) (u:=.ref hd) (w:=.ref mm) (Qa rfl) (Qa rfl) ?_;have e:=Qik (T:=tbG xx s) (o1.p _ _ pH) (o1.c 0 _ _ rfl) (Qk9 dm);simp only[YH,e];rfl
 refine Zg (Zv (d:=89) t9 rfl) (Zg (QE (d:=89) y_c) ?_)
 obtain⟨gp,ng,wg⟩:=QkW (T:=tbG xx s) (cf:=Qd (tbG xx s) (n+7)) (d:=84) (Z:=[some .scr,sR c,some (iU kd),sR mm,x4,sR g,x6,sR L1,sR N1,sR cl,sR hd,some ud,none,none,none,none,none]) (show 12<17 by decide) rfl (o1.p _ _ pN) 1000000 0 (Nat.lt_of_le_of_lt (V8 _ _) (by lia))
 refine QcH (y_while.trans wg) ?_;have o2:=((o1.add (y:=.tup (mvU (.lay gp 0)))).add (y:=.tup (mvU .fin))).add (y:=.lst [.ref h1.length,.ref (h1++[O.tup (mvU (.lay gp 0))]).length]);obtain⟨h2,e2⟩:∃h2,h2=h1++[O.tup (mvU (.lay gp 0))]++[O.tup (mvU .fin)]++[O.lst [.ref h1.length,.ref (h1++[O.tup (mvU (.lay gp 0))]).length]]:=⟨_,rfl⟩;have o3:=o2.add (y:=.lst (us1++[.ref h1.length,.ref (h1++[O.tup (mvU (.lay gp 0))]).length]))
 have va:ev (tbG xx s) (Qd (tbG xx s) (n+7)) 84 (.op .Add (.var 3) (.lst [(.tup [(.c (.str [108,97,121])),(.var 12),(.c (.int 0 0))]),(.tup [(.c (.str [101,110,100]))])])) [some .scr,sR c,some (iU kd),sR mm,x4,sR g,x6,sR L1,sR N1,sR cl,sR hd,some ud,some (iU gp),none,none,none,none] h1=some (.ref h2.length,h2++[.lst (us1++[.ref h1.length,.ref (h1++[O.tup (mvU (.lay gp 0))]).length])]):=by
  rw[e2]
  exact YU (Qa rfl) (Qf3 (Zx y_c (Qa rfl) y_c) (QcS y_c)) (o2.c 0 _ _ rfl) at0 (by simp[lu];lia)
 rw[<-e2]at o2 o3;obtain⟨P3,l3,f3,g3,o3⟩:∃P3,Le P P3/\P3 h1.length (.tup (mvU (.lay gp 0)))/\P3 h2.length (.lst (us1++[.ref h1.length,.ref (h1++[O.tup (mvU (.lay gp 0))]).length]))/\Own (h2++[.lst (us1++[.ref h1.length,.ref (h1++[O.tup (mvU (.lay gp 0))]).length])]) [(mm,.lst us1)] P3:=⟨_,((le_ad.trans le_ad).trans le_ad).trans le_ad,.inl (.inl (.inl Qm)),Qm,o3⟩
 have mv:Mvs (P0 (h2++[.lst (us1++[.ref h1.length,.ref (h1++[O.tup (mvU (.lay gp 0))]).length])])) (us1++[.ref h1.length,.ref (h1++[O.tup (mvU (.lay gp 0))]).length]) 0 (.cast (cs.length:Int)::(row1++[.lay gp 0])):=λj m e=>by
  rw[<-Tu]at e;rw[Vk];by_cases hj:j<(Mv.cast (cs.length:Int)::row1).length
  ·rw[Xu hj]at e;obtain⟨u,hu,i,rfl,p⟩:=QaZ dm e
   exact⟨i,by rw[Xu (by rw[lu];exact hj)];exact hu,o3.p _ _ (l3 _ _ p)⟩
  ·have ej:j=(Mv.cast (cs.length:Int)::row1).length:=by
    have:=(Xe.mp e).1;rw[Wq]at this;simp at this hj ⊢;lia
   rw[ej,Xv (Xm _),V1]at e;cases e
   exact⟨h1.length,by rw[ej,<-lu,Xv (Xm _),V1];rfl,o3.p _ _ f3⟩
 obtain⟨h4,e4,k4⟩:=Qlg (s:=s) (n:=n) (zz:=zz) (o3.p _ _ g3) mv (by lia) (by simp[lu];lia) (ch _ _) ng
 rw[<-hxx]at e4;have o4:=o3.kp k4
 have t12:evT (tbG xx s) (Qd (tbG xx s) (n+7)) 87 (.cmp .NotEq (.call 22 [(.op .Add (.var 3) (.lst [(.tup [(.c (.str [108,97,121])),(.var 12),(.c (.int 0 0))]),(.tup [(.c (.str [101,110,100]))])]))]) (.bi .len [(.var 3)])) [some .scr,sR c,some (iU kd),sR mm,x4,sR g,x6,sR L1,sR N1,sR cl,sR hd,some ud,some (iU gp),none,none,none,none] h1=some (false,h4):=by
  refine QC (d:=85) (ZN (e_1 va) e4) (JV (Qa rfl) (o4.c 0 _ _ rfl)) ?_;rw[lu,X7];show some (!decide ((row1.length+1:Nat)=((row1.length+1:Nat):Int)))=_;rw[X4 rfl];rfl
 refine Zg (Zv (d:=86) t12 rfl) (k h4 gp ?_);exact⟨o4.c,o4.nd,λi x z=>o4.p _ _ (l3 _ _ z),λi x z=>o4.q _ _ (l3 _ _ z)⟩
end
def QgK:(asL cs kd).map (·.1)=(QaM cs.length kd).map λj:Nat=>(j:Int):=by unfold asL;rw[T5];rfl
def QnU:((asL cs kd).map (·.1)).Nodup:=by
 rw[QgK,U3,List.pairwise_map]
 exact List.Pairwise.imp (λh=>by lia) (U3.mp Qkj)
def Qlp:∀e∈asL cs kd,e.1∈rg cs.length:=λe he=>by
 have:e.1∈(asL cs kd).map (·.1):=V3.mpr ⟨e,he,rfl⟩;rw[QgK]at this;obtain⟨j,hj,e2⟩:=V3.mp this;have:=ord_mem.mp hj
 exact rg_mem.mpr (by lia)
def Qlr:∀k∈rg cs.length,∃e∈asL cs kd,e.1=k:=λk hk=>by
 obtain⟨a,b⟩:=rg_mem.mp hk
 refine⟨asg cs kd k.toNat,V3.mpr ⟨k.toNat,ord_mem.mpr (by lia),rfl⟩,?_⟩
 show((k.toNat:Nat):Int)=k;lia
def Qlq:(asL cs kd).length=cs.length:=by unfold asL;rw[Xl,Qdw]
theorem QdD:∀K:List Int,ZQ (K.map a2)=[]
 |[]=>rfl
 |k::K=>by
  have:=QdD K;unfold ZQ at *;rw[X0,U4];exact this
def Qlw{K:List Int}:(K.map a2).map (·.1)=K:=by rw[T5];exact List.map_id' K
def Qir{ns:List Int}:(Qcv ns (some 1) (some 41)).length<=40:=by
 unfold Qcv;refine X6 (List.length_take_le _ _) ?_;simp only[Qef]
 rw[if_neg (by decide),if_neg (by decide)]
 have:(41:Int).toNat=41:=rfl;have:(1:Int).toNat=1:=rfl;lia
def Qgy:(Ev kd D).length=D.length:=by unfold Ev;split<;>simp
def Qm0{ns:List Int}(hxx:xx=QV (tbG zz (ns.map iU)) 8):Cc (tbG xx (ns.map iU)) (n+8) 23 [.scr] [] λu z=>u=.bl true:=by
 have lc:=Qir (ns:=ns);obtain⟨cs,ecs⟩:∃cs,cs=Qcv ns (some 1) (some 41):=⟨_,rfl⟩;rw[<-ecs]at lc;obtain⟨T,eT⟩:∃T,T=tbG xx (ns.map iU):=⟨_,rfl⟩
 have v1:ev (tbG xx (ns.map iU)) (Qd (tbG xx (ns.map iU)) (n+7)) 98 (.sl (.var 0) (some (.c (.int 1 0))) (some (.c (.int 41 0)))) [some .scr,none,none,none,none,none,none,none,none,none,none,none,none,none,none,none,none] []=some (.ref 0,[.lst (cs.map iU)]):=by
  rw[QoR,Qa rfl,Qy];show some (U.ref 0,[]++[O.lst (Qcv (ns.map iU) (some 1) (some 41))])=_;rw[Qiq,<-ecs];rfl
 obtain⟨x,ex⟩:=Qlk (xx:=xx) (s:=ns) (n:=n+6) (h:=[.lst (cs.map iU)])
 have k0:0<=x % 70:=Int.emod_nonneg _ (by decide)
 have k1:x % 70<100:=by lia
 refine QcL (Ql fnL[23] rfl rfl) (Zg (QE (d:=98) v1) (Zg (QE (d:=97) (JU (d:=95) (ZN (e_2 (Qa rfl) y_c) ex) (by decide))) ?_))
 generalize x % 70=kd at k0 k1 ⊢;have hc0:([O.lst (cs.map iU)]:Hs)[0]?=some (.lst (cs.map iU)):=rfl;obtain⟨u3,h3,e3,P3,r3,m3,p3,g3,us0,v3,gs,l3,s3,rfl,f3,pM,dM0,pP,dP3,pG,dG⟩:=Qlh (xx:=xx) (s:=ns.map iU) (n:=n+6) hc0 lc k0 k1;have o3:=Qad s3;refine QcH (QcP (ZN (d:=95) (e_2 (Qa rfl) (Qa rfl)) e3) (o3.p _ _ f3)) ?_;have hc3:=l3 _ _ hc0;have la:=Qlq (cs:=cs) (kd:=kd);have lf:=Qbg (pre:=asL cs kd);obtain⟨nn1,nA,nB⟩:=Qkx (srt (Qk (asL cs kd))) (Zy (Qbf _)) kd 1 λk=>(QJ k (asL cs kd)).map n0;have le3:Le P3 (P0 h3):=o3.p
 obtain⟨u4,h4,e4,P4,r4,M4,L4,N4,ms1,ls1,v4,l4,s4,rfl,f4,pM4,dM4,pL4,dL4,pN4,dN4⟩:=Qeo (xx:=xx) (s:=ns.map iU) (n:=n+6) (kd:=kd) (rw:=1) (pn:=λk=>(QJ k (asL cs kd)).map n0) (nn:=nn1) (o3.p _ _ pP) (λk hk=>(dP3 k hk).le le3) (λk hk e=>Qii hk (List.map_eq_nil_iff.mp e)) (Qbf _) (by lia) (λk=>by
  have c3:(QJ k (asL cs kd)).length<=(asL cs kd).length:=JE
  rw[Xl];lia) nA (λk a r z=>nB k a r)
 have o4:=Qad s4;have lP:=le3.trans l4;refine QcH (QcP (ZN (d:=94) (e_3 (Qa rfl) (Qa rfl) y_c) e4) (o4.p _ _ f4)) ?_;have hc4:=lP _ _ hc3;have lu0:=Qv dM0;have lu1:=Qv dM4;rw[Xl]at lu0 lu1;rw[Qgy]at lu1
 have lD:((srt (Qk (asL cs kd))).filter (cn kd λk=>(QJ k (asL cs kd)).map n0)).length<=40:=X6 (V8 _ _) (by rw[Qz];lia)
 have o5:=((((((o4.add (y:=.tup (mvU (.cast (cs.length:Int))))).add (y:=.lst [.ref h4.length])).add (y:=.lst ([.ref h4.length]++us0))).add (y:=.lst ([.ref h4.length]++us0++ms1))).add (y:=.tup (mvU .fin))));obtain⟨h5,e5⟩:∃h5,h5=h4++[O.tup (mvU (.cast (cs.length:Int)))]++[O.lst [.ref h4.length]]++[O.lst ([.ref h4.length]++us0)]++[O.lst ([.ref h4.length]++us0++ms1)]:=⟨_,rfl⟩;rw[<-e5]at o5;obtain⟨P5,l5,a5,b5,o5⟩:∃P5,Le P4 P5/\P5 h4.length (.tup (mvU (.cast (cs.length:Int))))/\P5 h5.length (.tup (mvU .fin))/\Own (h5++[.tup (mvU .fin)]) [] P5:=⟨_,(((le_ad.trans le_ad).trans le_ad).trans le_ad).trans le_ad,.inl (.inl (.inl (.inl Qm))),Qm,o5⟩;have o6:=(o5.add (y:=.lst [.ref h5.length])).new (y:=.lst ([.ref h4.length]++us0++ms1++[.ref h5.length]));obtain⟨h6,e6⟩:∃h6,h6=h5++[O.tup (mvU .fin)]++[O.lst [.ref h5.length]]:=⟨_,rfl⟩
 have va:ev (tbG xx (ns.map iU)) (Qd (tbG xx (ns.map iU)) (n+7)) 94 (.op .Add (.op .Add (.op .Add (.lst [(.tup [(.c (.str [99,97,115,116])),(.bi .len [(.var 1)])])]) (.var 3)) (.var 6)) (.lst [(.tup [(.c (.str [101,110,100]))])])) [some .scr,sR 0,some (iU kd),sR m3,sR p3,sR g3,sR M4,sR L4,sR N4,none,none,none,none,none,none,none,none] h4=some (.ref h6.length,h6++[.lst ([.ref h4.length]++us0++ms1++[.ref h5.length])]):=by
  have q1:=ZV (T:=tbG xx (ns.map iU)) (cf:=Qd (tbG xx (ns.map iU)) (n+7)) (d:=90) (Q5 (d:=89) (a:=.c (.str [99,97,115,116])) (b:=.bi .len [(.var 1)]) (Z:=[some .scr,sR 0,some (iU kd),sR m3,sR p3,sR g3,sR M4,sR L4,sR N4,none,none,none,none,none,none,none,none]) (h:=h4) y_c (QcT o4 rfl hc4))
  have q2:=YU q1 (Qa (i:=3) rfl) at0 (Zd (Zd (o4.p _ _ (lP _ _ pM)))) (by simp;lia)
  have q3:=YU q2 (Qa (i:=6) rfl) at0 (Zd (Zd (Zd (o4.p _ _ pM4)))) (by simp;lia)
  rw[e6,e5]
  exact YU q3 (ZV (QcS y_c)) (Zd (Zd at0)) at0 (by simp;lia)
 rw[<-e6]at o6;obtain⟨mm,emm⟩:∃mm,mm=h6.length:=⟨_,rfl⟩;obtain⟨us1,eus⟩:∃us1,us1=[.ref h4.length]++us0++ms1++[.ref h5.length]:=⟨_,rfl⟩
 obtain⟨P6,l6,o6⟩:∃P6,Le P5 P6/\Own (h6++[.lst us1]) [(mm,.lst us1)] P6:=⟨_,le_ad,by rw[eus,emm];exact o6⟩
 rw[<-eus,<-emm]at va;have lP6:=(lP.trans l5).trans l6;have l46:=l5.trans l6;obtain⟨row1,erow⟩:∃row1,row1=(asL cs kd).map mvA++((Ev kd ((srt (Qk (asL cs kd))).filter (cn kd λk=>(QJ k (asL cs kd)).map n0))).map (drM kd)++[.fin]):=⟨_,rfl⟩
 have dm1:Paired (dM P6) us1 (.cast (cs.length:Int)::row1):=by
  have:=QA (QA (.cons (⟨_,rfl,l6 _ _ a5⟩:dM P6 (.ref h4.length) (.cast (cs.length:Int))) (Qg (λz z=>dM.le lP6) dM0)) (Qg (λz z=>dM.le l46) dM4)) (.cons (⟨_,rfl,l6 _ _ b5⟩:dM P6 (.ref h5.length) .fin) .nil);rw[Wp (Mv.cast (cs.length:Int)::(asL cs kd).map mvA)]at this;rw[eus,erow];exact this
 refine Zg (QE va) ?_
 have lrow:row1.length<300:=by rw[erow];simp[Qgy];lia
 have hla:(Mv.cast (cs.length:Int)::row1)[row1.length]?=some .fin:=by
  rw[erow,<-Wp,Wq];show((Mv.cast (cs.length:Int))::(_++[Mv.fin]))[_+1]?=_;rw[List.getElem?_cons_succ,Xv (Xm _),V1];rfl
 generalize h6++[O.lst us1]=h7 at o6 ⊢
 obtain⟨cus,h8,e8,P8,l8,o8,d8⟩:=Yc (T:=tbG xx (ns.map iU)) (cf:=Qd (tbG xx (ns.map iU)) (n+7)) (R:=λu y=>u=iU y) (L:=cs) (us:=cs.map iU) (e:=.var 1) (el:=.tup [(.tup []),(.c (.int 0 0)),(.c (.int 0 0))]) (Z:=[some .scr,sR 0,some (iU kd),sR mm,sR p3,sR g3,sR M4,sR L4,sR N4,none,none,none,none,none,none,none,none]) (d:=92) (h:=h7) (Qa rfl) (λi acc hs=>∃P8,Le P6 P8/\Own hs [(mm,.lst us1)] P8/\Paired (dL P8) acc (List.replicate i ⟨[],0,0⟩)) (Yj cs) (by lia) (λi acc hs v=>by obtain⟨P8,l8,o8,_⟩:=v;exact o8.p _ _ (l8 _ _ (lP6 _ _ hc3)))
  (λi y w hy ew acc hs t=>by
   obtain⟨P8,l8,o8,d8⟩:=t
   refine⟨_,_,Zx (h1:=hs++[.tup []]) rfl y_c y_c,_,(l8.trans le_ad).trans le_ad,(o8.add (y:=.tup [])).add,?_⟩;rw[List.replicate_succ']
   refine QA (Qg (λz z=>dL.le (le_ad.trans le_ad)) d8) (.cons ⟨_,_,[],rfl,Qm,.inl Qm,.nil⟩ .nil)) ⟨P6,Le.refl,o6,.nil⟩
 refine Zg (QE (d:=93) e8) ?_;have o9:=(o8.add (y:=.lst cus)).add (y:=.lst us1);obtain⟨P9,l9,f9,g9,o9⟩:∃P9,Le P8 P9/\P9 h8.length (.lst cus)/\P9 (h8++[O.lst cus]).length (.lst us1)/\Own (h8++[O.lst cus]++[O.lst us1]) [(mm,.lst us1)] P9:=⟨_,le_ad.trans le_ad,.inl Qm,Qm,o9⟩;have hmm:(h8++[O.lst cus])[mm]?=some (.lst us1):=Zd (o8.c 0 _ _ rfl)
 refine Zg (QE (d:=92) (JP (b:=.list) (u:=.ref mm) (h1:=h8++[O.lst cus]) (x:=some (.ref (h8++[O.lst cus]).length,h8++[O.lst cus]++[.lst us1])) (Qa rfl) (by unfold biU;simp only[Zp,hmm]))) ?_
 have l69:=l8.trans l9;have lP9:=lP6.trans l69;have l49:=l46.trans l69;have lG:=Qv dG;rw[Xl]at lG;have lO:(ZQ (asL cs kd)).length<=(asL cs kd).length:=JE;have ve:ev (tbG xx (ns.map iU)) (Qd (tbG xx (ns.map iU)) (n+7)) (84+6) (.lst [(.var 9),(.var 7)]) [some .scr,sR 0,some (iU kd),sR mm,sR p3,sR g3,sR M4,sR L4,sR N4,sR h8.length,some (.ref (h8++[O.lst cus]).length),none,none,none,none,none,none] (h8++[O.lst cus]++[O.lst us1])=some (.ref (h8++[O.lst cus]++[O.lst us1]).length,h8++[O.lst cus]++[O.lst us1]++[.lst [.ref h8.length,.ref L4]]):=Qf3 (Qa rfl) (Qa rfl)
 obtain⟨ud,ha,Pa,ea,la',oa,da⟩:=Qjb (d:=84) (iN:=8) (iG:=5) (R:=R0 cs.length++[((srt (Qk (asL cs kd))).filter (cn kd λk=>(QJ k (asL cs kd)).map n0)).map (drL kd λk=>(QJ k (asL cs kd)).map n0)]) o9 rfl ve (.cons ⟨_,cus,rfl,f9,Qg (λz z=>dL.le l9) d8⟩ (.cons ⟨L4,ls1,rfl,l49 _ _ pL4,Qg (λz z=>dL.le l49) dL4⟩ .nil)) rfl (l49 _ _ pN4) (λk hk=>(dN4 k hk).le l49) (by rw[Qz];lia) rfl (lP9 _ _ pG) (dNs.le lP9 dG) (by rw[Xl];lia) (by decide)
 refine Zg (QE (d:=91) ea) ?_
 have ch1:∀b Q,Ch b (Rdy b Q (R0 cs.length) (rg cs.length) (λj=>(0,j)) []) row1 (Rdy b Q (R0 cs.length++[((srt (Qk (asL cs kd))).filter (cn kd λk=>(QJ k (asL cs kd)).map n0)).map (drL kd λk=>(QJ k (asL cs kd)).map n0)]) (srt (Qk (asL cs kd))) nn1 ((ZQ (asL cs kd)).map n0)):=λb Q=>by
  rw[erow]
  exact QgF (nm:=n0) (Of:=[]) QnU Qlp Qlr (by lia) (by rw[Qgf];lia) (show 1<1000 by decide) (by decide) nA nB
 have lPa:=lP9.trans la';have l4a:=l49.trans la';obtain⟨nn2,nC,nD⟩:=Qkx (srt (Qk ((srt (srt (Qk (asL cs kd)))).map a2))) (Zy (Qbf _)) (kd+1) 2 λk=>(QJ k ((srt (srt (Qk (asL cs kd)))).map a2)).map nn1
 refine QmZ hxx oa lc (Qg (λz z=>dM.le (l69.trans la')) dm1) lrow hla (la' _ _ g9) da (l4a _ _ pN4) (by rw[Qz];lia) (show 2<1000 by decide) (by rw[Xl];lia) ch1 λh' gp o'=>?_
 refine QmY (row1:=row1) (nn1:=nn1) (nn2:=nn2) o' (lPa _ _ hc3) lc (la' _ _ f9) (Qg (λz z=>dL.le (l9.trans la')) d8) (l4a _ _ pL4) (Qg (λz z=>dL.le l4a) dL4) (lPa _ _ pG) (dNs.le lPa dG) (by rw[Xl];lia) (Qg (λz z=>dM.le (l69.trans la')) dm1) lrow (l4a _ _ pN4) (λk hk=>(dN4 k hk).le l4a) (Zy (Qbf _)) (by rw[Qz];lia) nC nD λb Q=>?_
 have c2:=QgF (b:=b) (P0:=Q) (R:=R0 cs.length++[((srt (Qk (asL cs kd))).filter (cn kd λk=>(QJ k (asL cs kd)).map n0)).map (drL kd λk=>(QJ k (asL cs kd)).map n0)]) (N:=srt (Qk (asL cs kd))) (nm:=nn1) (Of:=(ZQ (asL cs kd)).map n0) (as:=(srt (srt (Qk (asL cs kd)))).map a2) (kd:=kd+1) (nn:=nn2) (by rw[Qlw];exact Zy (Zy (Qbf _))) (λe he=>by
  obtain⟨x,hx,rfl⟩:=V3.mp he
  exact srt_mem.mp hx) (λk hk=>⟨a2 k,V3.mpr ⟨k,srt_mem.mpr hk,rfl⟩,rfl⟩) (by rw[Xl,Qz,Qz];lia) (by rw[Qz];lia) (show 2<1000 by decide) (by rw[Xl];lia) nC nD
 rw[QdD,Uw,Wd]at c2;rw[Wp];exact(ch1 b Q).app c2
theorem Qgl:∀ns:List Int,Paired (λ(u:U) (i:Int)=>∃r m,u=.int r m/\∃q:Int,i=r+m*q) (ns.map λi=>U.int i 0) ns
 |[]=>.nil
 |i::ns=>.cons ⟨i,0,rfl,0,by simp⟩ (Qgl ns)
def comp(ns:List Int)(hl:ns.length<=63):∃s hs',Paired (λ(u:U) (i:Int)=>∃r m,u=.int r m/\∃q:Int,i=r+m*q) s ns/\Qd (tb (s)) 8 23 [.scr] []=some (.bl true,hs'):=by
 obtain⟨u,h,e,rfl⟩:=Qm0 (xx:=QV (tbX (ns.map iU)) 8) (ns:=ns) (n:=0) (zz:=λz z z=>none) rfl;exact⟨_,h,Qgl ns,e⟩
noncomputable def hfL:List Addr:=[59,66,71,78,85,92,97,104,111,118,125,132,139,144,151,158,172,179,186,193,200,207,214,219]
noncomputable def hcL:List Addr:=[161,24,44]
noncomputable def hkL:List Addr:=[47]
noncomputable def adr(a:Addr):Adr:=⟨λi=>hfL.getD i 0,λi=>hcL.getD i 0,λi=>hkL.getD i 0,a⟩
def Qer(s:List U)(x:Nat->List U->Hs->Option (Er×Hs)):YD {tbX s with xf:=x} glo QlQ:=Qeq (by repeat (first|exact .nil|refine .cons (by kernel_rfl) ?_))
def Qll(s:List U):YD (tb s) glo QlQ:=Qer s _
section
variable (w:World)(s:List U)(a:Addr)
def QpB:AllI (FnA (K w.params) (adr a)) 0 (tbX s).fns:=by(repeat (first|exact .nil|refine .cons ⟨by kernel_rfl,by kernel_rfl,.inl λv=>by kernel_rfl⟩ ?_))
def QpL:AllI (λz (p:Nat×Df)=>∃fd x q st,FunD (K w.params) x q st ((adr a).f p.1) fd/\QiQ (adr a) (K w.params) fd p.2/\∀F,(tbX s).fns[p.1]?=some F->F.ps=p.2.ps/\F.np=p.2.np) 0 (tbX s).dfl:=.nil
def QoH:QiP (λk c=>coB (K w.params) (adr a) ((adr a).k k) c) 0 (tbX s).cons=true:=by kernel_rfl
def Qpx:AllI (λk z=>Qn3 (K w.params) w ((adr a).k k)) 0 (tbX s).cons:=by repeat (first|exact .nil|refine .cons (by kernel_rfl) ?_)
def QoZ:Ql5 (K w.params) (tbX s) (adr a) glo QlQ=true:=by kernel_rfl
end
def all_at{l:W.OpenLaw}(w:World){mg:Str->Option Value}{fa:Addr}{h:Heap}(X:(K w.params).In h)(G:h.Ns mainGlobals mg)(hfa:mg "law"=some (.ref fa)):
  ∃fd:FuncData,(∀(s:Shared) (v:Value),BindsTo s fd ⟨[v],[]⟩ [("_law_script",v)])/\∀base:Heap,(K w.params).In base->base.Ns mainGlobals mg->FnOk l.prog w (K w.params) mg base CX0 (0+2+2*8+2*8) fa fd ["_law_script"] (QeU (K w.params)):= by
 have tp:∀(s:List U) (a:Addr),Top (tbX s) (adr a) (K w.params) mg glo QlQ:=λs a=>Qjj X G (QpB w s a) (QoH w s a) (QoZ w s a) (QpL w s a) (.cons ⟨⟨by kernel_rfl,by kernel_rfl,by kernel_rfl,by kernel_rfl,by kernel_rfl,by kernel_rfl,by kernel_rfl,by kernel_rfl⟩,⟨8,"move",rfl,by simp[QoF,tbX],rfl,QfD (F:=⟨"__init__","Tangle.__init__",Qn9,["self","move"],["self","move"],2,2,false,[]⟩) (C:=44) (CB:=24) (fI:=41) (by kernel_rfl) (by kernel_rfl) (λv=>by kernel_rfl) rfl rfl rfl ⟨by kernel_rfl,by kernel_rfl,by kernel_rfl⟩ ⟨by kernel_rfl,by kernel_rfl,by kernel_rfl,by kernel_rfl,by kernel_rfl,by kernel_rfl,by kernel_rfl,by kernel_rfl⟩ (by kernel_rfl) (by kernel_rfl) (by kernel_rfl) (W.mg_of X G (by kernel_rfl)) (by kernel_rfl) (by kernel_rfl) (by kernel_rfl) (by kernel_rfl) (λz z z=>rfl) (by decide +kernel) (by decide +kernel) (λz z z=>rfl) (λz z z=>⟨_,rfl⟩)⟩⟩ .nil)
 have tab:∀(s:List U) (a:Addr),JO l.prog w (tbX s) (adr a) (K w.params):=λs a=>Qjk (QoH w s a) (Qpx w s a)
 cases hfa.symm.trans ((tp [] 0).gfn "law" 23 (by kernel_rfl))
 have hX0:∀(base:Heap) (s:List U) (a:Addr),XOk l.prog w (K w.params) mg base (tbX s) (adr a) 0:=λbase s a=>Qpp (tp s a) rfl;have hX:∀(base:Heap) (s:List U) (a:Addr),XOk l.prog w (K w.params) mg base (tb s) (adr a) (0+2+2*8):=λbase s a=>QoW (T:=tbX s) (T':=tb s) (m:=8) rfl rfl rfl rfl rfl rfl rfl (tp s a) (tab s a) (Qer s _) (hX0 base s a)
 exact⟨QaN (K w.params) ((adr 0).f 23),λs v=>.of_eq (by kernel_rfl),λbase z z=>QkD (tb:=tb) (adr:=adr) (L:=23) (F:=⟨"law","law",(top 14),["_law_script"],N23,1,17,true,b23⟩) (λz=>rfl) (λz=>rfl) rfl rfl (λz=>rfl) (λz=>rfl) (λs a=>Ql4 (tp s a)) (λs a=>tab s a) Qll (hX base) (Qbd (F:=⟨"law","law",(top 14),["_law_script"],N23,1,17,true,b23⟩) (by kernel_rfl) (by kernel_rfl)).1 comp⟩
def walk{l:W.OpenLaw}{q:Program}{loose:List Str}{XP:(Str->Option Value)->Heap->Prop}{YP:World->Heap->Prop}{d:DefRec}{K:Params->W.Frag}(hn:l.most=some 63)(hdf:d.params.defaults=[])
  (hY:∀(w:World) (h:Heap),YP w h->(K w.params).In h)
  (F:∀(w:World) (mg:Str->Option Value) (fa:Addr) (h:Heap),(K w.params).In h->h.Ns mainGlobals mg->mg d.name=some (.ref fa) ->
   ∃fd:FuncData,(∀(s:Shared) (u:Value),BindsTo s fd ⟨[u],[]⟩ [("_law_script",u)])/\∀base:Heap,(K w.params).In base->base.Ns mainGlobals mg->FnOk l.prog w (K w.params) mg base CX0 (0+2+2*8+2*8) fa fd ["_law_script"] (QeU (K w.params))):
  W.WalkO q loose XP YP l.row.toRowW d [] (λf vs=>PySem.call f vs):=
 L2.walk_of (n:=63) (k:=(0+2+2*8+2*8)) (x:="_law_script") (CX:=λy=>CX0) (sp:=λw=>QeU (K w.params)) hn (by decide) hdf ⟨rfl,by decide,by decide⟩ hY F (λy y a ns hl hO hS=>⟨a,ns,rfl,hS,hO,hl,λy=>rfl⟩) λy y y y y z=>z
end K62
open PySem PySem.W PyProof.Rows
set_option maxRecDepth 100000 in
set_option maxHeartbeats 0 in
theorem PySem.Challenge.cw_stitchroom_k62_one_row_of_hooks_holds : PySem.Challenge.rw_stitchroom_k62_one_row_of_hooks.Holds := by
 w_on;refine W.holds_law (by kernel_rfl) λsaid=>?_
 refine holds_open (q:=K62.hq) (loose:=K62.hlo) (Xt:=K62.hXt) (XP:=XL K62.hq []) (Yf:=K62.hYf) (Ya:=K62.hYa) (YP:=Hook.says (kHook K62.K K62.KA K62.hKA)) (N:=2982) K62.hleft (Hook.of (kHook K62.K K62.KA K62.hKA)) (Hook.keeps (kHook K62.K K62.KA K62.hKA)) (λs e=>xl_of s (Bool.and_eq_true_iff.mp e).1) XL.keeps (by rfl) (by rfl) (by rfl) (λs e=>recFacts_of (Bool.and_eq_true_iff.mp e).2) (by rfl) (by first|assumption|decide +kernel) (by decide +kernel) ⟨rfl,rfl,rfl,rfl,rfl,by decide +kernel⟩ ?hw ?hc
 (case hw=>w_witness2)
 refine K62.walk (l:=PySem.Challenge.rw_stitchroom_k62_one_row_of_hooks) rfl rfl (λw h Yyy=>W.kIn_of Yyy) ?F
 case F=>
  intro w mg fa h KX G hmg;exact K62.all_at w KX G hmg
