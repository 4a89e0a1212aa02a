import PyProof.Rows.All
import Wide.All
import OpenK.AllK
import Wide.FinOn
import PyProof.EqAt
import PyProof.EqKinds
import PyProof.TupleCall
import KE.KTryMore
import PyProof.ExcArgsOwn
import PyProof.ExcBaseAll.ValueError
import PyProof.ExcAttrAll.ValueError
import PyProof.InstStoreFacts
import PySem.Challenge.RW_stitchroom_k33_ways_up
set_option Elab.async false
set_option linter.all false
set_option maxRecDepth 100000
set_option maxHeartbeats 4000000
set_option bootstrap.genMatcherCode false
set_option compiler.extract_closed false
set_option genSizeOf false
def Xa:=@PySem.wpAny_bind
def Xb:=@Option.bind_eq_some_iff
def Xc:=@List.getElem?_eq_some_iff
def Xd:=@Option.map_eq_some_iff
def Xe:=@List.getElem?_cons_zero
def Xf:=@List.getElem?_eq_getElem
def Xg:=@PySem.Heap.get?_push_of_some
def Xh:=@List.getElem?_cons_succ
def Xi:=@Nat.le_refl
def Xj:=@PySem.wpAny_pure
def Xk:=@PySem.Heap.lt_size
def Xl:=@Bool.and_eq_true
def Xm:=@List.mem_cons_of_mem
def Xn:=@List.length_append
def Xo:=@Nat.ne_of_lt
def Xp:=@List.getElem?_append_left
def Xq:=@List.mem_cons_self
def Xr:=@Nat.lt_of_lt_of_le
def Xs:=@List.getElem?_set_ne
def Xu:=@List.map_cons
def Xv:=@List.mem_of_getElem?
def Xw:=@List.size_toArray
def Xy:=@PySem.Heap.get?_push_size
def Xz:=@Bool.false_ne_true
def X0:=@List.getElem?_set_self
def X1:=@decide_eq_true_eq
def X2:=@PySem.wpAny_mono
def X3:=@Option.some.inj
def X4:=@Bool.false_eq_true
def X5:=@List.mem_cons
def X6:=@List.getElem?_eq_none_iff
def X7:=@List.getElem?_append_right
def X8:=@List.length_cons
def X9:=@List.set_cons_succ
def Wa:=@decide_eq_false
def Wd:=@List.length_map
def We:=@if_true
def Wf:=@Nat.le_trans
def Wg:=@List.mem_map
def Wh:=@List.mem_singleton
def Wi:=@List.set_cons_zero
def Wj:=@List.getD_eq_getElem?_getD
def Wl:=@List.all_eq_true
def Wm:=@List.mem_append_right
def Wn:=@PySem.Paired.length
def Wo:=@List.mem_append
def Wp:=@Option.map_some
def Wq:=@Ne.symm
def Wr:=@List.getElem?_eq_none
def Wt:=@List.getElem?_map
def Wu:=@PyProof.Rows.callWith_type1
def Wv:=@if_false
def Ww:=@Nat.zero_le
def Wx:=@Nat.lt_irrefl
def Wy:=@List.all_cons
def Wz:=@Option.some.injEq
def W4:=@PySem.wpAny_holding
def W5:=@decide_eq_true
def W6:=@List.length_nil
def W7:=@List.length_take
def W8:=@Option.ite_none_right_eq_some
def W9:=@Int.emod_nonneg
def Va:=@PySem.wpAny_Call_Name_kw
def Vb:=@Int.emod_lt_of_pos
def Vc:=@PySem.Heap.get?_update_other
def Vd:=@List.append_nil
def Ve:=@List.find?_cons
def Vf:=@List.nil_append
def Vg:=@List.map_append
def Vh:=@Bool.and_self
def Vi:=@List.getElem?_of_mem
def Vj:=@List.take_add_one
def Vk:=@Nat.zero_add
def Vl:=@List.sum_cons
def Vm:=@List.take_length
def Vn:=@List.length_singleton
def Vo:=@List.zip_cons_cons
def Vq:=@PySem.Heap.get?_update_self
def Vs:=@List.set_append_right
def Vt:=@List.drop_eq_getElem_cons
def Vu:=@PySem.sizeLine_eq
def Vv:=@PySem.wpAny_of_eq
def Vw:=@List.nodup_cons
def Vx:=@List.foldl_cons
def Vy:=@of_decide_eq_true
def Vz:=@PySem.wpAny_typeNameOfWhole_keyiter
def V0:=@beq_eq_false_iff_ne
def V1:=@List.mem_range
def V2:=@List.lookup_cons
def V3:=@Nat.lt_succ_self
def V4:=@List.find?_cons_of_neg
def V5:=@PySem.W.kia_one
def V6:=@PySem.Calls.spliced_cons
def V7:=@List.map_nil
def V8:=@PySem.wpAny_passesOwn
def V9:=@PySem.F.excBase_ValueError
def Ua:=@PySem.Calls.spliced_nil
def Ub:=@PySem.F.slot_dict_keyiterator_next
def Uc:=@List.nodup_append
def Ud:=@List.foldl_append
def Ue:=@List.mem_append_left
def Uf:=@beq_iff_eq
def Ug:=@Option.isSome_iff_exists
def Uh:=@Option.getD_some
def Ui:=@PySem.wpAny_typeNameOf_keyiter
def Uj:=@Array.length_toList
def Uk:=@PySem.mem_of_lookup
def Ul:=@List.length_eq_zero_iff
def Um:=@Bool.eq_iff_iff
def Uo:=@PySem.tupleKind_room_in1
def Up:=@Bool.or_eq_true
def Uq:=@List.range_succ
def Ur:=@Nat.le_succ
def Us:=@Option.map_eq_none_iff
def Ut:=@PySem.wpAny_truthy_bool
def Uu:=@Bool.not_eq_true'
def Uv:=@PySem.wpAny_newObj_type
def Uw:=@List.append_assoc
def Ux:=@List.contains_iff_mem
def Uy:=@List.all_nil
def Uz:=@List.length_drop
def U0:=@PySem.wpAny_call_entry
def U1:=@Bool.and_eq_true_iff
def U2:=@PySem.Calls.Name_function_global
def U3:=@List.any_cons
def U4:=@Bool.not_true
def U5:=@List.mem_filter
def U6:=@PySem.wpAny_execs_nil
def U7:=@PySem.wpAny_specialOf
def U8:=@PySem.wpAny_ite_split
def U9:=@List.getElem?_take_of_lt
def Ta:=@List.zip_nil_right
def Tb:=@PySem.F.slot_list_getattribute
def Tc:=@PySem.F.args_dict_keyiterator_next_1
def Td:=@Nat.sub_self
def Te:=@List.getElem?_drop
def Tf:=@decide_false
def Th:=@PySem.F.entry_dict_keyiterator_next
def Ti:=@Bool.not_false
def Tj:=@List.getElem?_replicate
def Tk:=@PySem.wpAny_callSpecial?_slot
def Tl:=@PySem.F.plainAttrs_dict
def Tn:=@Int.eq_ofNat_of_zero_le
def Tp:=@List.reverse_cons
def Tq:=@Option.isSome_map
def Ts:=@List.length_range
def Tt:=@List.ext_getElem?
def Tu:=@PySem.wpAny_dictEntries
def Tv:=@Int.toNat_natCast
def Tw:=@PySem.wpAny_pyIter_rangeiter
def Tx:=@List.find?_cons_of_pos
def Tz:=@List.pairwise_lt_range
def T0:=@PySem.plainId_quiet
def T1:=@Nat.le_of_not_lt
def T2:=@List.cons_append
def T3:=@PySem.F.slot_dict_get
def T4:=@List.lookup_cons_self
def T5:=@PySem.builtinLookup_eq_fast
def T6:=@Iff.rfl
def T7:=@PySem.F.slot_range_reversed
def T8:=@PySem.codeAny_mono
def T9:=@PySem.call_meetsIn
def Sa:=@PySem.codeAny_builtin
def Sb:=@PySem.wpAny_updateSeq
def Sc:=@Int.natCast_mul
def Sd:=@PySem.PassesOwn.never
def Se:=@List.drop_eq_nil_iff
def Sg:=@List.length_set
def Si:=@List.filterMap_cons
def Sj:=@List.length_reverse
def Sk:=@List.drop_drop
def Sm:=@List.mem_filterMap
def Sn:=@Int.mul_assoc
def So:=@Bool.true_and
def Znn{α:Type}{P:Prop}{x:α}(h:(none:Option α)=some x):P:=nomatch h
namespace L2
open PySem PySem.Spec PyProof.Rows
section
abbrev Key:=Sum Int Str
noncomputable def Qbz:Key->Value->Bool
 |.inl k,v=>Value.isInt k v
 |.inr x,v=>Value.isStrOf x v
noncomputable def Qrg(w:World):Key->Int
 |.inl k=>hashInt k
 |.inr x=>hashStr w x
def Qz:∀{k:Key} {v:Value},Qbz k v=true->(∃i t,k=Sum.inl i/\v=Value.int i t)\/(∃x t,k=Sum.inr x/\v=Value.str x t)
 |.inl i,v,h=>by
  obtain⟨t,e⟩:=Value.isInt_shape (k:=i) (v:=v) h;exact .inl ⟨i,t,rfl,e⟩
 |.inr x,v,h=>by
  obtain⟨t,e⟩:=Value.isStrOf_shape (x:=x) (v:=v) h;exact .inr ⟨x,t,rfl,e⟩
def QeC(i:Int)(t:Tok):Qbz (.inl i) (.int i t)=true:=by simp[Qbz,Value.isInt]
def QeB(x:Str)(t:Tok):Qbz (.inr x) (.str x t)=true:=by simp[Qbz,Value.isStrOf]
def Qms(a b:Int):decide ((Sum.inl a:Key)=Sum.inl b)=(a==b):=by
 by_cases e:a=b
 ·subst e;simp
 ·have h:¬(Sum.inl a:Key)=Sum.inl b:=λq=>e (Sum.inl.inj q);rw[Wa h];exact(V0.mpr e).symm
def Qmp(a b:Str):decide ((Sum.inr a:Key)=Sum.inr b)=decide (a=b):=by
 by_cases e:a=b
 ·subst e;simp
 ·have h:¬(Sum.inr a:Key)=Sum.inr b:=λq=>e (Sum.inr.inj q);rw[Wa h,Wa e]
def Qmr(a:Int)(b:Str):decide ((Sum.inl a:Key)=Sum.inr b)=false:=Wa (λq=>nomatch q)
def Qmq(a:Str)(b:Int):decide ((Sum.inr a:Key)=Sum.inl b)=false:=Wa (λq=>nomatch q)
noncomputable def Ql(prog:Program)(w:World):PySem.KeyKind prog w Key where
 is:=Qbz
 hash:=Qrg w
 inj:=λv a b ha hb=>by
  rcases Qz ha with⟨i,t,rfl,rfl⟩|⟨x,t,rfl,rfl⟩
  ·rcases Qz hb with⟨j,u,rfl,e⟩|⟨y,u,rfl,e⟩
   ·injection e with e1 _;rw[e1]
   ·exact nomatch e
  ·rcases Qz hb with⟨j,u,rfl,e⟩|⟨y,u,rfl,e⟩
   ·exact nomatch e
   ·injection e with e1 _;rw[e1]
 byValue:=λk v h=>by
  rcases Qz h with⟨i,t,rfl,rfl⟩|⟨x,t,rfl,rfl⟩<;>rfl
 pyHash:=λhv h=>by
  rcases Qz hv with⟨i,t,rfl,rfl⟩|⟨x,t,rfl,rfl⟩
  ·exact wpAny_pyHash_int h
  ·exact wpAny_pyHash_str h
 eqBool:=λhu hv h=>by
  rcases Qz hu with⟨i,t,rfl,rfl⟩|⟨x,t,rfl,rfl⟩
  ·rcases Qz hv with⟨j,u,rfl,rfl⟩|⟨y,u,rfl,rfl⟩
   ·rw[Qms]at h;exact wpAny_eqBool_int h
   ·rw[Qmr]at h;exact SeqAt.EqAt.int_str i t y u _ _ _ _ h
  ·rcases Qz hv with⟨j,u,rfl,rfl⟩|⟨y,u,rfl,rfl⟩
   ·rw[Qmq]at h;exact SeqAt.EqAt.str_int x t j u _ _ _ _ h
   ·rw[Qmp]at h;exact wpAny_eqBool_str h
 «strs»:=λk x t v h=>by
  rcases Qz h with⟨i,u,rfl,e⟩|⟨y,u,rfl,e⟩
  ·exact nomatch e
  ·injection e with e1 _;subst e1;cases v<;>rfl
def Qbv(prog:Program)(w:World)(i:Int)(t:Tok):(Ql prog w).is (.inl i) (.int i t)=true:=QeC i t
def Qbu(prog:Program)(w:World)(x:Str)(t:Tok):(Ql prog w).is (.inr x) (.str x t)=true:=QeB x t
end
section
variable {a:Addr}{h h':Heap}{us:List Value}{P:Program}{α β:Type}{w:World}
inductive V where
 |non|bl (b:Bool)|int (i:Int)|str (x:Str)|byt (b:Array UInt8)|flt (b:UInt64)|ref (a:Addr)|ty (n:String)
 deriving DecidableEq
def RelV:V->Value->Prop
 |.non,u=>u=Value.none
 |.bl b,u=>u=Value.bool b
 |.int i,u=>∃t,u=Value.int i t
 |.str x,u=>∃t,u=Value.str x t
 |.byt b,u=>∃t,u=Value.bytes b t
 |.flt b,u=>∃t,u=Value.float b t
 |.ref a,u=>u=Value.ref a
 |.ty n,u=>u=Value.type n
abbrev Vals:List V->List Value->Prop:=Paired RelV
theorem Vals.length{xs:List V}(r:Vals xs us):xs.length=us.length:=Wn r
def Qb9{P:α->β->Prop}{l l':List α}{r r':List β}(h:Paired P l r)(h':Paired P l' r'):Paired P (l++l') (r++r'):=by
 induction h with
 |nil=>exact h'
 |cons a _ ih=>exact .cons a ih
def Qbm{P:α->β->Prop}{l:List α}{r:List β}(h:Paired P l r)(n:Nat):Paired P (l.take n) (r.take n):=by
 induction h generalizing n with
 |nil=>rw[List.take_nil,List.take_nil];exact .nil
 |cons a _ ih=>
  cases n with
  |zero=>exact .nil
  |succ n=>exact .cons a (ih n)
def Qbn{P:α->β->Prop}{l:List α}{r:List β}(h:Paired P l r)(n:Nat):Paired P (l.drop n) (r.drop n):=by
 induction h generalizing n with
 |nil=>rw[List.drop_nil,List.drop_nil];exact .nil
 |cons a t ih=>
  cases n with
  |zero=>exact .cons a t
  |succ n=>exact ih n
def Jn{P:α->β->Prop}{l:List α}{r:List β}{i:Nat}{a:α}(h:Paired P l r)(e:l[i]?=some a):∃b,r[i]?=some b/\P a b:=by
 induction h generalizing i with
 |nil=>cases e
 |cons x _ ih=>
  cases i with
  |zero=>cases(show some _=some _ from e);exact⟨_,rfl,x⟩
  |succ i=>exact ih e
def QhO{P:α->β->Prop}{l:List α}{r:List β}(h:Paired P l r):Paired P l.reverse r.reverse:=by
 induction h with
 |nil=>exact .nil
 |cons a _ ih=>rw[Tp,Tp];exact Qb9 ih (.cons a .nil)
def Vals.get{xs:List V}{i:Nat}{x:V}(h:Vals xs us)(e:xs[i]?=some x):∃u,us[i]?=some u/\RelV x u:=Jn h e
def Vals.append{xs ys:List V}{ws:List Value}(h:Vals xs us)(h':Vals ys ws):Vals (xs++ys) (us++ws):=Qb9 h h'
theorem Vals.take{xs:List V}(n:Nat)(h:Vals xs us):Vals (xs.take n) (us.take n):=Qbm h n
theorem Vals.drop{xs:List V}(n:Nat)(h:Vals xs us):Vals (xs.drop n) (us.drop n):=Qbn h n
def RelO:Option V->Option Value->Prop
 |some v,some u=>RelV v u
 |none,none=>True
 |_,_=>False
def KV{κ:Type}:List (κ×V)->List (κ×Value)->Prop:=Paired λ(p:κ×V) (q:κ×Value)=>p.1=q.1/\RelV p.2 q.2
noncomputable def kV:Key->V
 |.inl i=>.int i
 |.inr x=>.str x
inductive HO where
 /-- a list -/
 |lst (xs:List V)
 /-- a tuple (never changes) -/
 |tup (xs:List V)
 /-- a dict whose keys are ints and texts;one whose keys are tuples of ints and texts (the empty one is both) -/
 |dK (kvs:List (Key×V))|dT (kvs:List (List Key×V))
 /-- a set of ints: its members,its size -/
 |set (S:Int->Bool) (n:Nat)
 /-- an instance of the class at C,its dict at dx,its attributes -/
 |ins (C dx:Addr) (fs:List (Str×V))
 /-- the dict of the instance at x -/
 |own (x:Addr)
 /-- the dict of an exception -/
 |xd (fs:List (Str×V))
 /-- a bound method,f of x -/
 |met (f x:Addr)
 /-- a range object lo,lo+1,.. below hi -/
 |rng (lo hi:Int)
 /-- a thing that is known to the object (the script;a dict while a loop walks it): read,never written while it is so -/
 |frz (o:Obj) (u:HO)
 /-- a code object's table -/
 |tbl (ps:Array Value)
 /-- any other thing,by what is true of its one object (a def of one's own: SetO a S n:=HO.ext λh=>..) -/
 |ext (φ:Heap->Prop)
abbrev Hp:=Addr->Option HO
noncomputable def upd(H:Hp)(a:Addr)(o:HO):Hp:=λb=>if b=a then some o else H b
def Qi{H:Hp}{o:HO}:upd H a o a=some o:=by unfold upd;rw[if_pos rfl]
def Qf{H:Hp}{b:Addr}{o:HO}(h:b≠a):upd H a o b=H b:=by unfold upd;rw[if_neg h]
def QoD{H:Hp}{b:Addr}{o u:HO}(h:H a=some o)(h':H b=some u)(d:o≠u):a≠b:=by
 intro e;subst e;rw[h]at h';exact d (X3 h')
def QW{H:Hp}{b:Addr}{o:HO}(h:H a=some o)(h':H b=none):a≠b:=by
 intro e;subst e;rw[h]at h';cases h'
section
variable (P:Program)(w:World)
def ObjOk(H:Hp)(h:Heap)(a:Addr):HO->Prop
 |.lst xs=>xs.length<=sizeLine/\∃(its:List Value) (n:Nat),Vals xs its/\h.get? a=some {cls:=.type "list",data:=.seq its.toArray n}
 |.tup xs=>xs.length<=sizeLine/\∃its:List Value,Vals xs its/\IsTup h a its.toArray
 |.dK kvs=>kvs.length<=sizeLine/\(a==sysModules)=false/\∃vs,KV kvs vs/\h.DictOf (Ql P w) a vs
 |.dT kvs=>kvs.length<=sizeLine/\(a==sysModules)=false/\∃xs:List (List Key×Addr×Value),
   Paired (λ(p:List Key×V) (q:List Key×Addr×Value)=>p.1=q.1/\H q.2.1=some (.tup (p.1.map kV))/\RelV p.2 q.2.2) kvs xs /\
   ∃o es ep,h.get? a=some o/\o.ExactDict/\o.data=.dict es ep/\es.toList=xs.map (entryOfKey (tupleKind (Ql P w)))/\(xs.map (·.1)).Nodup
 |.set S n=>h.SetOf (intKind P w) a S n
 |.ins C dx fs=>H dx=some (.own a)/\fs.length<=1000/\dx≠a/\h.get? a=some (W.instObj C dx) /\
   ∃mA,h.Ns1 dx mA/\(∀f,RelO (fs.lookup f) (mA f))/\PySem.Within mA (fs.map (·.1))
 |.own _=>∃o,h.get? a=some o
 |.xd fs=>∃mA,h.Ns1 a mA/\∀f,RelO (fs.lookup f) (mA f)
 |.rng lo hi=>∃t u v,h.get? a=some {cls:=.type "range",data:=.fields #[.int lo t,.int hi u,.int 1 v]}
 |.frz o u=>h.get? a=some o/\ObjOk H h a u
 |.tbl ps=>h.get? a=some {cls:=.none,data:=.fields ps}
 |.met f x=>h.get? a=some (W.methodObj (.ref f) (.ref x))
 |.ext φ=>φ h/\(∃o,h.get? a=some o)/\∀h1 h2:Heap,φ h1->(∀o,h1.get? a=some o->h2.get? a=some o)->φ h2
def HOk(H:Hp)(h:Heap):Prop:=∀a o,H a=some o->ObjOk P w H h a o
end
section
variable {H H':Hp}{o:HO}
theorem ObjOk.lt(x:ObjOk P w H h a o):a<h.objs.size:=by
 cases o with
 |lst xs=>obtain⟨_,_,_,_,e⟩:=x;exact Xk e
 |tup xs=>obtain⟨_,_,_,p⟩:=x;exact p.lt
 |dK kvs=>obtain⟨_,_,_,_,o,_,_,e,_⟩:=x;exact Xk e
 |dT kvs=>obtain⟨_,_,_,_,o,_,_,e,_⟩:=x;exact Xk e
 |set S n=>obtain⟨o,_,_,_,e,_⟩:=x;exact Xk e
 |ins C dx fs=>obtain⟨_,_,_,e,_⟩:=x;exact Xk e
 |own y=>obtain⟨_,e⟩:=x;exact Xk e
 |xd fs=>obtain⟨_,⟨_,_,_,e,_⟩,_⟩:=x;exact Xk e
 |rng lo hi=>obtain⟨_,_,_,e⟩:=x;exact Xk e
 |frz ob u=>obtain⟨e,_⟩:=x;exact Xk e
 |tbl ps=>exact Xk (show h.get? a=some _ from x)
 |met f y=>exact Xk (show h.get? a=some _ from x)
 |ext φ=>obtain⟨_,⟨_,e⟩,_⟩:=x;exact Xk e
def Paired.mapP{F G:α->β->Prop}{l₁:List α}{l₂:List β}(h:Paired F l₁ l₂)(f:∀a b,F a b->G a b):Paired G l₁ l₂:=PySem.Paired.mono f h
def ObjOk.stay(x:ObjOk P w H h a o)(k:∀b u,(b=a\/H b=some (.own a))->h.get? b=some u->h'.get? b=some u)
  (ho:∀b,H b=some (.own a)->H' b=some (.own a)) (ht:∀b xs,H b=some (.tup xs)->H' b=some (.tup xs)):ObjOk P w H' h' a o:=by
 induction o with
 |lst xs=>obtain⟨z,its,n,r,e⟩:=x;exact⟨z,its,n,r,k _ _ (.inl rfl) e⟩
 |tup xs=>obtain⟨z,its,r,ob,e,c⟩:=x;exact⟨z,its,r,ob,k _ _ (.inl rfl) e,c⟩
 |dK kvs=>obtain⟨z,y,vs,r,ob,es,ep,e,c⟩:=x;exact⟨z,y,vs,r,ob,es,ep,k _ _ (.inl rfl) e,c⟩
 |dT kvs=>
  obtain⟨z,y,xs,r,ob,es,ep,e,c⟩:=x;exact⟨z,y,xs,Paired.mapP r λp q z=>⟨z.1,ht _ _ z.2.1,z.2.2⟩,ob,es,ep,k _ _ (.inl rfl) e,c⟩
 |set S n=>obtain⟨ob,es,ep,t,e,c⟩:=x;exact⟨ob,es,ep,t,k _ _ (.inl rfl) e,c⟩
 |ins C dx fs=>
  obtain⟨d,z,ne,e,mA,⟨od,es,ep,e2,c⟩,r⟩:=x;exact⟨ho _ d,z,ne,k _ _ (.inl rfl) e,mA,⟨od,es,ep,k _ _ (.inr d) e2,c⟩,r⟩
 |own y=>obtain⟨ob,e⟩:=x;exact⟨ob,k _ _ (.inl rfl) e⟩
 |xd fs=>obtain⟨mA,⟨od,es,ep,e,c⟩,r⟩:=x;exact⟨mA,⟨od,es,ep,k _ _ (.inl rfl) e,c⟩,r⟩
 |rng lo hi=>obtain⟨t,u,v,e⟩:=x;exact⟨t,u,v,k _ _ (.inl rfl) e⟩
 |frz ob u ih=>obtain⟨e,q⟩:=x;exact⟨k _ _ (.inl rfl) e,ih q⟩
 |tbl ps=>
  have e:h.get? a=some {cls:=.none,data:=.fields ps}:=x;show h'.get? a=some {cls:=.none,data:=.fields ps};exact k a _ (.inl rfl) e
 |met f y=>
  have e:h.get? a=some (W.methodObj (.ref f) (.ref y)):=x;show h'.get? a=some (W.methodObj (.ref f) (.ref y));exact k a _ (.inl rfl) e
 |ext φ=>obtain⟨p,⟨o,e⟩,st⟩:=x;exact⟨st _ _ p λo q=>k _ _ (.inl rfl) q,⟨o,k _ _ (.inl rfl) e⟩,st⟩
theorem HOk.lt(x:HOk P w H h)(e:H a=some o):a<h.objs.size:=(x a o e).lt
def HOk.fresh(x:HOk P w H h)(e:h.objs.size<=a):H a=none:=by
 cases q:H a with
 |none=>rfl
 |some u=>exact absurd (Xr (x.lt q) e) (Wx _)
def HOk.kept(x:HOk P w H h)(k:∀b u,h.get? b=some u->h'.get? b=some u):HOk P w H h':=λa o e=>
 (x a o e).stay (λb u z q=>k b u q) (λz q=>q) λz z q=>q
def HOk.laid(x:HOk P w H h)(k:∀b u,h.get? b=some u->h'.get? b=some u)(hp:h.objs.size<=a)(new:ObjOk P w (upd H a o) h' a o):HOk P w (upd H a o) h':=λb u e=>by
 have hn:=x.fresh hp;by_cases hb:b=a
 ·subst hb;rw[Qi]at e;cases e;exact new
 ·rw[Qf hb]at e
  exact(x b u e).stay (λc v z q=>k c v q) (λc q=>by rw[Qf (QW q hn)];exact q) λc xs q=>by rw[Qf (QW q hn)];exact q
end
def Rd(H:Hp)(a:Addr)(u:HO):Prop:=H a=some u\/∃o,H a=some (.frz o u)
def Rd.ok{H:Hp}{u:HO}(r:Rd H a u)(x:HOk P w H h):ObjOk P w H h a u:=by
 rcases r with r|⟨o,r⟩
 ·exact x a u r
 ·obtain⟨_,q⟩:=x a _ r;exact q
def Mut:Option HO->Prop
 |some (.lst _)=>True
 |some (.dK _)=>True
 |some (.dT _)=>True
 |some (.set _ _)=>True
 |some (.ins _ _ _)=>True
 |some (.ext _)=>True
 |_=>False
section
variable {H:Hp}{x e:Addr}{o':HO}
def HOk.write(ok:HOk P w H h)(mu:Mut (H x))(he:e=x\/H e=some (.own x))(k:∀b u,b≠e->h.get? b=some u->h'.get? b=some u)(heo:∃u,h'.get? e=some u)
  (new:ObjOk P w (upd H x o') h' x o'):HOk P w (upd H x o') h':=λb u q=>by
 have nown:∀c y,H c=some (.own y)->c≠x:=λc y r z=>by subst z;rw[r]at mu;exact mu
 have ntup:∀c xs,H c=some (.tup xs)->c≠x:=λc xs r z=>by subst z;rw[r]at mu;exact mu
 by_cases hb:b=x
 ·subst hb;rw[Qi]at q;cases q;exact new
 ·rw[Qf hb]at q;by_cases hbe:b=e
  ·have q':H b=some (.own x):=by
    rcases he with z|z
    ·exact absurd (hbe.trans z) hb
    ·rw[hbe];exact z
   rw[q]at q';cases q';obtain⟨v,hv⟩:=heo
   exact⟨v,by rw[hbe];exact hv⟩
  ·refine(ok b u q).stay (λc v hc r=>k c v ?_ r) (λc r=>by rw[Qf (nown c b r)];exact r) λc xs r=>by rw[Qf (ntup c xs r)];exact r
   rcases hc with rfl|hc
   ·exact hbe
   ·rintro rfl
    rcases he with z|z
    ·exact nown c b hc z
    ·rw[hc]at z;cases z;exact hb rfl
end
structure Un(fs ex:List Addr)(H H':Hp)(h h':Heap):Prop where
 keep:∀b o,h.get? b=some o->H b=none->b∉fs->b∉ex->h'.get? b=some o
 slot:∀b o,h.get? b=some o->H b=none->b∈fs->b∉ex->∃sl,h'.get? b=some {o with slots:=sl}
 free:∀b o,h.get? b=some o->H b=none->b∉ex->H' b=none
 there:∀b o,h.get? b=some o->b∉ex->∃o',h'.get? b=some o'
 tups:∀b xs,H b=some (.tup xs)->H' b=some (.tup xs)
 frzs:∀b o u,H b=some (.frz o u)->H' b=some (.frz o u)
 tbls:∀b ps,H b=some (.tbl ps)->∃more,H' b=some (.tbl (ps++more))
section
variable {fs ex:List Addr}{H H1:Hp}{h1:Heap}{x e:Addr}{o:HO}
def Un.any(u:Un fs ex H H1 h h1){b:Addr}{ob:Obj}(q:h.get? b=some ob)(n:H b=none)(hx:b∉ex):∃sl,h1.get? b=some {ob with slots:=sl}:=by
 by_cases hb:b∈fs
 ·exact u.slot b ob q n hb hx
 ·exact⟨ob.slots,u.keep b ob q n hb hx⟩
def Un.kept(k:∀b u,h.get? b=some u->h'.get? b=some u):Un fs ex H H h h' :=
 ⟨λb ob q z z z=>k b ob q,λb ob q z z z=>⟨ob.slots,k b ob q⟩,λz z z n z=>n,λb ob q z=>⟨ob,k b ob q⟩,λz z q=>q,λz z z q=>q,λz ps q=>⟨#[],by rw[q];simp⟩⟩
def Un.refl:Un fs ex H H h h:=Un.kept λz z q=>q
def Un.laid(k:∀b u,h.get? b=some u->h'.get? b=some u)(hp:h.objs.size<=a)(hn:H a=none):Un fs ex H (upd H a o) h h' where
 keep:=λb u q z z z=>k b u q
 slot:=λb u q z z z=>⟨u.slots,k b u q⟩
 free:=λb u q n z=>by rw[Qf (Xo (Xr (Xk q) hp))];exact n
 there:=λb u q z=>⟨u,k b u q⟩
 tups:=λb xs q=>by rw[Qf (QW q hn)];exact q
 frzs:=λb u xs q=>by rw[Qf (QW q hn)];exact q
 tbls:=λb ps q=>⟨#[],by rw[Qf (QW q hn),q];simp⟩
def Un.write(mu:Mut (H x))(he:e=x\/H e=some (.own x))(k:∀b u,b≠e->h.get? b=some u->h'.get? b=some u)(heo:∃u,h'.get? e=some u):Un fs ex H (upd H x o) h h':=by
 have hx:∀b,H b=none->b≠x:=λb n z=>by subst z;rw[n]at mu;exact mu
 have hb:∀b,H b=none->b≠e:=λb n z=>by
  subst z
  rcases he with r|r
  ·exact hx b n r
  ·rw[n]at r;cases r
 have hm:∀b u,H b=some u->¬Mut (some u)->b≠x:=λb u q nm z=>by subst z;rw[q]at mu;exact nm mu
 refine⟨λb u q n y y=>k b u (hb b n) q,λb u q n y y=>⟨u.slots,k b u (hb b n) q⟩,λb u q n y=>by rw[Qf (hx b n)];exact n,λb u q y=>?_,
  λb xs q=>by rw[Qf (hm b _ q λz=>z)];exact q,λb u xs q=>by rw[Qf (hm b _ q λz=>z)];exact q,λb ps q=>⟨#[],by rw[Qf (hm b _ q λz=>z),q];simp⟩⟩
 by_cases hbe:b=e
 ·subst hbe;exact heo
 ·exact⟨u,k b u hbe q⟩
end
noncomputable def trk(h:Heap)(H:Hp):List Addr:=(List.range h.objs.size).filter λa=>(H a).isSome
noncomputable def QgO(h:Heap)(H:Hp):Heap:=W.hideAll h (trk h H)
def QeK(h:Heap)(H:Hp):(QgO h H).objs.size=h.objs.size:=W.hideAll_size _ _
def QgN{H:Hp}{b:Addr}{o:Obj}(e:h.get? b=some o)(n:H b=none):(QgO h H).get? b=some o :=
 W.hideAll_get _ e λhm=>by
  have q:(H b).isSome=true:=(U5.mp hm).2;rw[n]at q;simp at q
def Qjr{H:Hp}{b:Addr}{o:Obj}(e:(QgO h H).get? b=some o):h.get? b=some o/\H b=none:=by
 have e':h.get? b=some o:=W.of_hideAll (trk h H) e;refine⟨e',?_⟩
 cases q:H b with
 |none=>rfl
 |some x=>
  have hm:b∈trk h H:=U5.mpr ⟨V1.mpr (Xk e'),by simp[q]⟩
  have z:(QgO h H).get? b=none:=W.hideAll_none (trk h H) hm;rw[z]at e;cases e
end
section
variable {A:Around}{ch:List Addr}{M:Model}{i t':Nat}{x:Str}
structure Mod(K:W.Frag)(mg:Str->Option Value)(base:Heap):Prop where
 kin:K.In base
 glob:base.Ns mainGlobals mg
 blt:∃mb,base.Ns builtinsNs mb/\∀x:Str,x≠"__name__"->mb x=bootBuiltins x
 nolimit:base.NoLimit
structure Cx where
 prog:Program
 w:World
 K:W.Frag
 mg:Str->Option Value
 base:Heap
 A:Around
 N:List Str
 s₀:Shared
 H₀:Hp
 env:Env
 outer:List Env
 stack:List Env
 ex:List Addr
 fn:Str->Bool
 calm:Bool
 pn:List (Addr×Obj)
 xe:Value->Shared->Prop
noncomputable def frs(l:List Env):List Addr:=l.filterMap (·.frame)
noncomputable abbrev Cx.fs(X:Cx):List Addr:=frs X.outer
def Vis(sc:Scope)(x:Str):Prop:=sc.names.lookup x=some .local\/sc.names.lookup x=some .cell\/sc.names.lookup x=some .free
def Loc(sc:Scope)(x:Str):Prop:=sc.names.lookup x=some .local\/sc.names.lookup x=some .cell
noncomputable def Qsb(env:Env)(h:Heap)(m:Str->Option Value)(x:Str)(u:Value):Prop :=
 (env.kindOf x=some .local/\m x=some u)\/((env.kindOf x=some .cell\/env.kindOf x=some .free)/\∃c,env.cells.lookup x=some c/\h.IsCell c (some u))
structure Cx.Ok(X:Cx):Prop where
 mod:Mod X.K X.mg X.base
 kind:X.env.scope.kind=.function
 glob:X.env.globals=mainGlobals
 blt:X.env.builtins=builtinsNs
 above:X.s₀.heap.objs.size<=X.env.locals
 inj:∀x y c,X.env.cells.lookup x=some c->X.env.cells.lookup y=some c->x=y
 has:∀x,(X.env.kindOf x=some .cell\/X.env.kindOf x=some .free)->∃c,X.env.cells.lookup x=some c
 cab:∀x c,X.fn x=true->X.env.cells.lookup x=some c->X.s₀.heap.objs.size<=c
 hd:X.calm=true->X.A.handled=none
 frames:X.A.frames=some X.stack
 stk:X.stack=X.outer\/(X.stack=X.env::X.outer/\X.env.frame=some X.env.locals)
 exf:∀b∈X.ex,b≠X.env.locals/\∀x c,X.env.cells.lookup x=some c->c≠b
 bs:∀b o,X.base.get? b=some o->X.s₀.heap.get? b=some o/\X.H₀ b=none
 bsz:X.base.objs.size<=X.s₀.heap.objs.size
 noex:∀b o,X.base.get? b=some o->b∉X.ex
 exfs:∀b∈X.ex,b∉X.fs
 funs:X.s₀.heap.FunFrames X.base X.outer
 frf:∀b∈X.fs,X.H₀ b=none
structure Inv(X:Cx)(pins:List (Addr×Obj))(Y:List (Option V))(H:Hp)(s:Shared):Prop where
 ok:X.Ok
 os:s.os=X.s₀.os
 bare:AllBare s.gens
 base:Un X.fs X.ex X.H₀ H X.s₀.heap s.heap
 loc:∃m,s.heap.Ns X.env.locals m/\∀(i:Nat) (x:Str) (v:V),X.N[i]?=some x->Y[i]?=some (some v)->Vis X.env.scope x->∃u,RelV v u/\Qsb X.env s.heap m x u
 cell:∀x c,X.env.cells.lookup x=some c->∃v,s.heap.IsCell c v
 free:H X.env.locals=none
 freeC:∀x c,X.env.cells.lookup x=some c->H c=none
 pin:∀p∈X.pn++pins,s.heap.get? p.1=some p.2/\H p.1=none/\p.1≠X.env.locals/\p.1∉X.fs/\∀v,p.2.data≠.cell v
 hok:HOk X.prog X.w H s.heap
 len:Y.length=X.N.length
section
variable {X:Cx}{pins:List (Addr×Obj)}{Y:List (Option V)}{H H':Hp}{s:Shared}{h':Heap}
def Cx.Ok.nofr(ok:X.Ok){b:Addr}{o:Obj}(e:X.base.get? b=some o):b∉X.fs:=λhb=>by
 have:=(ok.funs.mem hb).1;rw[e]at this;cases this
theorem Inv.bs(I:Inv X pins Y H s):∀b o,X.base.get? b=some o->s.heap.get? b=some o/\H b=none:=λb o e=>
 ⟨I.base.keep b o (I.ok.bs b o e).1 (I.ok.bs b o e).2 (I.ok.nofr e) (I.ok.noex b o e),I.base.free b o (I.ok.bs b o e).1 (I.ok.bs b o e).2 (I.ok.noex b o e)⟩
def Inv.bk(I:Inv X pins Y H s):∀b o,X.base.get? b=some o->s.heap.get? b=some o:=λb o e=>(I.bs b o e).1
theorem Inv.mod(I:Inv X pins Y H s):Mod X.K X.mg X.base:=I.ok.mod
def Inv.kIn(I:Inv X pins Y H s):X.K.In s.heap:=I.ok.mod.kin.keeps I.bk
theorem Inv.lt(I:Inv X pins Y H s):X.env.locals<s.heap.objs.size:=by obtain⟨_,hn,_⟩:=I.loc;exact hn.lt
def Inv.sz(I:Inv X pins Y H s):X.s₀.heap.objs.size<=s.heap.objs.size:=Wf I.ok.above (Nat.le_of_lt I.lt)
def Inv.nofs(I:Inv X pins Y H s){a:Addr}(h:s.heap.objs.size<=a):a∉X.fs:=λhb=>by
 obtain⟨_,o,ho,_⟩:=I.ok.funs.mem hb;exact absurd (Xr (Xk ho) (Wf I.sz h)) (Wx _)
def Inv.cne(I:Inv X pins Y H s):∀x c,X.env.cells.lookup x=some c->c≠X.env.locals:=λx c e z=>by
 obtain⟨v,o,ho,hd⟩:=I.cell x c e;obtain⟨m,⟨o',es,ep,ho',hd',_⟩,_⟩:=I.loc;rw[z,ho']at ho;cases ho;rw[hd']at hd;cases hd
theorem Inv.funs(I:Inv X pins Y H s):s.heap.FunFrames X.base X.outer:=by
 have all:∀(l:List Env),(∀b∈frs l,b∈X.fs)->X.s₀.heap.FunFrames X.base l->s.heap.FunFrames X.base l:=by
  intro l
  induction l with
  |nil=>intro _ _;trivial
  |cons env r ih=>
   intro hs hl;obtain⟨hk,⟨L,o,hf,hn,ho,hd⟩,hr⟩:=hl
   have hL:L∈X.fs:=hs L (by unfold frs;rw[Si,hf];exact Xq)
   obtain⟨sl,e⟩:=I.base.slot L o ho (I.ok.frf L hL) hL λz=>I.ok.exfs L z hL
   exact⟨hk,⟨L,_,hf,hn,e,hd⟩,ih (λb hb=>hs b (by unfold frs;rw[Si,hf];exact Xm _ hb)) hr⟩
 exact all X.outer (λy hb=>hb) I.ok.funs
theorem Inv.stack(I:Inv X pins Y H s):s.heap.FunFrames X.base X.stack:=by
 rcases I.ok.stk with e|⟨e,hf⟩
 ·rw[e];exact I.funs
 ·rw[e];obtain⟨m,hn,_⟩:=I.loc
  refine .cons (by rw[I.ok.kind];decide) hf hn ?_ I.funs
  exact Heap.get?_none_of_le (Wf I.ok.bsz I.ok.above)
def Inv.stkSub(I:Inv X pins Y H s):∀b∈frs X.stack,b∈X.env.locals::X.fs:=λb hb=>by
 rcases I.ok.stk with e|⟨e,hf⟩
 ·rw[e]at hb;exact Xm _ hb
 ·rw[e]at hb;unfold frs at hb;rw[Si,hf]at hb;exact hb
def Inv.stkFree(I:Inv X pins Y H s):∀b∈frs X.stack,H b=none:=λb hb=>by
 rcases X5.mp (I.stkSub b hb)with e|hb
 ·rw[e];exact I.free
 ·obtain⟨_,o,ho,_⟩:=I.ok.funs.mem hb;exact I.base.free b o ho (I.ok.frf b hb) λz=>I.ok.exfs b z hb
def Inv.step{g':Array GenState}{d':Drawn}(I:Inv X pins Y H s)
  (hch:∀b∈ch,(b∈X.ex\/X.s₀.heap.objs.size<=b)/\b≠X.env.locals/\(∀x c,X.env.cells.lookup x=some c->c≠b)/\∀p∈X.pn++pins,p.1≠b)
  (keep:∀b o,b≠X.env.locals->b∉X.fs->b∉ch->s.heap.get? b=some o->H b=none->h'.get? b=some o)
  (slot:∀b o,b≠X.env.locals->b∈X.fs->b∉ch->s.heap.get? b=some o->H b=none->∃sl,h'.get? b=some {o with slots:=sl}) (free:∀b o,b∉ch->s.heap.get? b=some o->H b=none->H' b=none)
  (there:∀b o,b∉ch->s.heap.get? b=some o->∃o',h'.get? b=some o')
  (tups:∀b xs,H b=some (.tup xs)->H' b=some (.tup xs)) (frzs:∀b o u,H b=some (.frz o u)->H' b=some (.frz o u)) (tbls:∀b ps,H b=some (.tbl ps)->∃more,H' b=some (.tbl (ps++more)))
  (ns:∀m,s.heap.Ns X.env.locals m->h'.Ns X.env.locals m) (hok:HOk X.prog X.w H' h') (hg:AllBare g'):
  Inv X pins Y H' {s with heap:=h',gens:=g',drawn:=d',toks:=t'}:=by
 have neL:∀b o,X.s₀.heap.get? b=some o->b≠X.env.locals:=λb o e=>Xo (Xr (Xk e) I.ok.above)
 have neC:∀b o,X.s₀.heap.get? b=some o->b∉X.ex->b∉ch:=λb o e hx hb=>by
  rcases (hch b hb).1 with z|z
  ·exact hx z
  ·exact absurd (Xr (Xk e) z) (Wx _)
 have cellK:∀x c,X.env.cells.lookup x=some c->∀v,s.heap.IsCell c v->h'.IsCell c v:=λx c e v y=>by
  obtain⟨o,ho,hd⟩:=y
  have nch:c∉ch:=λz=>(hch c z).2.2.1 x c e rfl;by_cases hc:c∈X.fs
  ·obtain⟨sl,q⟩:=slot c o (I.cne x c e) hc nch ho (I.freeC x c e);exact⟨_,q,hd⟩
  ·exact⟨o,keep c o (I.cne x c e) hc nch ho (I.freeC x c e),hd⟩
 refine⟨I.ok,I.os,hg,⟨λb o e n hb hx=>?_,λb o e n hb hx=>?_,λb o e n hx=>?_,λb o e hx=>?_,λb xs e=>tups b xs (I.base.tups b xs e),λb o xs e=>frzs b o xs (I.base.frzs b o xs e),λb ps e=>?_⟩,?_,λx c e=>?_,?_,λx c e=>?_,λp hp=>?_,hok,I.len⟩
 ·exact keep b o (neL b o e) hb (neC b o e hx) (I.base.keep b o e n hb hx) (I.base.free b o e n hx)
 ·obtain⟨sl,e1⟩:=I.base.slot b o e n hb hx;obtain⟨sl',e2⟩:=slot b _ (neL b o e) hb (neC b o e hx) e1 (I.base.free b o e n hx);exact⟨sl',e2⟩
 ·obtain⟨o',e1⟩:=I.base.there b o e hx;exact free b o' (neC b o e hx) e1 (I.base.free b o e n hx)
 ·obtain⟨o',e1⟩:=I.base.there b o e hx;exact there b o' (neC b o e hx) e1
 ·obtain⟨m1,e1⟩:=I.base.tbls b ps e;obtain⟨m2,e2⟩:=tbls b _ e1
  exact⟨m1++m2,by rw[e2,Array.append_assoc]⟩
 ·obtain⟨m,hn,hl⟩:=I.loc;refine⟨m,ns m hn,λi x v e1 e2 e3=>?_⟩;obtain⟨u,r,l⟩:=hl i x v e1 e2 e3;refine⟨u,r,?_⟩
  rcases l with l|⟨k,c,e,z⟩
  ·exact .inl l
  ·exact .inr ⟨k,c,e,cellK x c e _ z⟩
 ·obtain⟨v,z⟩:=I.cell x c e;exact⟨v,cellK x c e v z⟩
 ·obtain⟨m,⟨o,_,_,ho,_⟩,_⟩:=I.loc;exact free _ o (λz=>(hch _ z).2.1 rfl) ho I.free
 ·obtain⟨v,o,ho,hd⟩:=I.cell x c e;exact free c o (λz=>(hch c z).2.2.1 x c e rfl) ho (I.freeC x c e)
 ·obtain⟨e,n,ne,nf,d⟩:=I.pin p hp;have nch:p.1∉ch:=λz=>(hch p.1 z).2.2.2 p hp rfl;exact⟨keep p.1 p.2 ne nf nch e n,free p.1 p.2 nch e n,ne,nf,d⟩
def Inv.un(I:Inv X pins Y H s)(u:Un X.fs [] H H' s.heap h')(hok:HOk X.prog X.w H' h'):Inv X pins Y H' {s with heap:=h',toks:=t'}:=by
 obtain⟨m,⟨o,es,ep,ho,r⟩,_⟩:=id I.loc
 obtain⟨sl,hL⟩:=u.any ho I.free (by simp)
 exact I.step (g':=s.gens) (d':=s.drawn) (ch:=[]) (λy z=>nomatch z) (λb o y hb y e n=>u.keep b o e n hb (by simp)) (λb o y hb y e n=>u.slot b o e n hb (by simp)) (λb o y e n=>u.free b o e n (by simp)) (λb o y e=>u.there b o e (by simp)) u.tups u.frzs u.tbls (λm' hm=>by
  obtain⟨o',es',ep',ho',r'⟩:=hm;rw[ho]at ho';cases ho'
  exact⟨_,es',ep',hL,r'⟩) hok I.bare
def Inv.call{g':Array GenState}{d':Drawn}(I:Inv X pins Y H s)(u:Un (frs X.stack) ch H H' s.heap h')(hok:HOk X.prog X.w H' h')(hg:AllBare g')
  (hch:∀b∈ch,(b∈X.ex\/X.s₀.heap.objs.size<=b)/\b≠X.env.locals/\(∀x c,X.env.cells.lookup x=some c->c≠b)/\∀p∈X.pn++pins,p.1≠b):
  Inv X pins Y H' {s with heap:=h',gens:=g',drawn:=d',toks:=t'}:=by
 obtain⟨m,⟨o,es,ep,ho,r⟩,_⟩:=id I.loc;obtain⟨sl,hL⟩:=u.any ho I.free λz=>(hch _ z).2.1 rfl
 exact I.step (ch:=ch) hch (λb o hL hb hc e n=>u.keep b o e n (λz=>(X5.mp (I.stkSub b z)).elim hL hb) hc) (λb o y y hc e n=>u.any e n hc) (λb o hc e n=>u.free b o e n hc) (λb o hc e=>u.there b o e hc) u.tups u.frzs u.tbls (λm' hm=>by
  obtain⟨o',es',ep',ho',r'⟩:=hm;rw[ho]at ho';cases ho'
  exact⟨_,es',ep',hL,r'⟩) hok hg
def Inv.turned{it:Addr}(I:Inv X pins Y H s)(k:∀b o,b≠it->s.heap.get? b=some o->h'.get? b=some o)(hn:H it=none)(hL:it≠X.env.locals)
  (h1:it∈X.ex\/X.s₀.heap.objs.size<=it) (h2:∀x c,X.env.cells.lookup x=some c->c≠it) (h3:∀p∈X.pn++pins,p.1≠it):Inv X pins Y H {s with heap:=h',toks:=t'}:=by
 have nit:∀b u,H b=some u->b≠it:=λb u e z=>by rw[z,hn]at e;cases e
 refine I.step (g':=s.gens) (d':=s.drawn) (ch:=[it]) (λb hb=>?_) (λb o y y hc e y=>k b o (λz=>hc (by simp[z])) e) (λb o y y hc e y=>⟨o.slots,k b o (λz=>hc (by simp[z])) e⟩) (λy y y y n=>n)
  (λb o hc e=>⟨o,k b o (λz=>hc (by simp[z])) e⟩) (λy y e=>e) (λy y y e=>e) (λb ps e=>⟨#[],by rw[e];simp⟩) (λm hm=>?_) (λb u e=>?_) I.bare
 ·have e:b=it:=by simpa using hb
  subst e;exact⟨h1,hL,h2,h3⟩
 ·obtain⟨o,es,ep,ho,r⟩:=hm;exact⟨o,es,ep,k _ o (Wq hL) ho,r⟩
 ·refine(I.hok b u e).stay (λc v hc q=>k c v ?_ q) (λy q=>q) λy y q=>q
  rcases hc with z|z
  ·rw[z];exact nit b u e
  ·exact nit c _ z
def Inv.tok(I:Inv X pins Y H s)(t:Nat):Inv X pins Y H {s with toks:=t}:=I.un (h':=s.heap) (t':=t) Un.refl I.hok
theorem Inv.kept(I:Inv X pins Y H s)(k:∀b u,s.heap.get? b=some u->h'.get? b=some u):Inv X pins Y H {s with heap:=h',toks:=t'}:=I.un (Un.kept k) (I.hok.kept k)
theorem Inv.laid{a:Addr}{o:HO}(I:Inv X pins Y H s)(k:∀b u,s.heap.get? b=some u->h'.get? b=some u)(hp:s.heap.objs.size<=a)(new:ObjOk X.prog X.w (upd H a o) h' a o):
  Inv X pins Y (upd H a o) {s with heap:=h',toks:=t'}:=I.un (Un.laid k hp (I.hok.fresh hp)) (I.hok.laid k hp new)
theorem Inv.write{x e:Addr}{o:HO}(I:Inv X pins Y H s)(mu:Mut (H x))(he:e=x\/H e=some (.own x))(k:∀b u,b≠e->s.heap.get? b=some u->h'.get? b=some u)(heo:∃u,h'.get? e=some u)
  (new:ObjOk X.prog X.w (upd H x o) h' x o):Inv X pins Y (upd H x o) {s with heap:=h',toks:=t'}:=I.un (Un.write mu he k heo) (I.hok.write mu he k heo new)
def Inv.pins_of{pins':List (Addr×Obj)}(I:Inv X pins Y H s)(h:∀p∈pins',s.heap.get? p.1=some p.2/\H p.1=none/\p.1≠X.env.locals/\p.1∉X.fs/\∀v,p.2.data≠.cell v):Inv X pins' Y H s :=
 ⟨I.ok,I.os,I.bare,I.base,I.loc,I.cell,I.free,I.freeC,λp hp=>(Wo.mp hp).elim (λz=>I.pin p (Ue _ z)) (h p),I.hok,I.len⟩
def JT{N:List Str}(hN:N.Nodup){j:Nat}(a:N[i]?=some x)(b:N[j]?=some x):i=j:=by
 obtain⟨h1,e1⟩:=Xc.mp a;obtain⟨h2,e2⟩:=Xc.mp b;exact(List.getElem_inj hN).mp (e1.trans e2.symm)
def QdO{E:Value->Shared->Prop}{v:V}{u:Value}{Q:Unit->Shared->Prop}(I:Inv X pins Y H s)(hN:X.N.Nodup)(hi:X.N[i]?=some x)(hx:Loc X.env.scope x)(r:RelV v u)
  (h:∀s',Inv X pins (Y.set i (some v)) H s'->(∃a,Heap.SameBut a s.heap s'.heap/\(a=X.env.locals\/X.env.cells.lookup x=some a))->Q () s') (hf:X.fn x=true\/X.env.scope.names.lookup x=some .local:=by first|exact .inl rfl|exact .inr rfl|assumption):wpAny M A (storeName X.env x u) Q E s:=by
 obtain⟨m,hn,hl⟩:=id I.loc
 have hcls:(X.env.scope.kind==.class||(X.env.scope.kind==.module&&X.env.locals != X.env.globals))=false:=by rw[I.ok.kind];rfl
 have hiY:i < Y.length:=by rw[I.len];exact(Xc.mp hi).1
 have cne:=I.cne
 have tracked:∀{a:Addr} {h':Heap},(∃o,s.heap.get? a=some o/\H a=none)->Heap.SameBut a s.heap h'->HOk X.prog X.w H h':=λ{a h'} ha hs b ob e=>by
  obtain⟨_,_,hfree⟩:=ha;refine(I.hok b ob e).stay (λc w' hc q=>(hs.2 c ?_).trans q) (λt q=>q) λt t q=>q;rintro rfl
  rcases hc with rfl|hc
  ·rw[hfree]at e;cases e
  ·rw[hfree]at hc;cases hc
 rcases hx with hk|hk
 ·refine wpAny_storeName_local hk hn (λh' hn' hs=>?_) hcls;obtain⟨oL,_,_,hoL,_⟩:=id hn
  refine h _ ⟨I.ok,I.os,I.bare,⟨λb o e n hb hx=>?_,λb o e n hb hx=>?_,I.base.free,λb o e hx=>?_,I.base.tups,I.base.frzs,I.base.tbls⟩,⟨_,hn',λj y v' e1 e2 e3=>?_⟩,λy c e=>?_,I.free,I.freeC,λp hp=>?_,tracked ⟨oL,hoL,I.free⟩ hs,by simpa using I.len⟩ ⟨_,hs,.inl rfl⟩
  ·exact(hs.2 b (Xo (Xr (Xk e) I.ok.above))).trans (I.base.keep b o e n hb hx)
  ·obtain⟨sl,e1⟩:=I.base.slot b o e n hb hx;exact⟨sl,(hs.2 b (Xo (Xr (Xk e) I.ok.above))).trans e1⟩
  ·obtain⟨o',e1⟩:=I.base.there b o e hx;exact⟨o',(hs.2 b (Xo (Xr (Xk e) I.ok.above))).trans e1⟩
  ·by_cases hj:j=i
   ·subst hj;rw[hi]at e1;cases e1;rw[X0 hiY]at e2;cases e2
    exact⟨u,r,.inl ⟨hk,by simp⟩⟩
   ·rw[Xs (Wq hj)]at e2;obtain⟨u',r',q⟩:=hl j y v' e1 e2 e3;refine⟨u',r',?_⟩
    rcases q with⟨k,e⟩|⟨k,c,e,z⟩
    ·refine .inl ⟨k,?_⟩;have:y≠x:=λe=>hj (JT hN e1 (e▸hi));simp[this,e]
    ·exact .inr ⟨k,c,e,z.sameBut hs (cne y c e)⟩
  ·obtain⟨w',z⟩:=I.cell y c e;exact⟨w',z.sameBut hs (cne y c e)⟩
  ·obtain⟨e,n,ne,nf,d⟩:=I.pin p hp;exact⟨(hs.2 p.1 ne).trans e,n,ne,nf,d⟩
 ·have hfn:X.fn x=true:=by
   rcases hf with z|z
   ·exact z
   ·rw[z]at hk;cases hk
  obtain⟨c,hc⟩:=I.ok.has x (.inl hk);obtain⟨w',z⟩:=I.cell x c hc;refine wpAny_storeName_cell I.ok.kind hk hc z (λh' hc' hs=>?_);obtain⟨oc,hoc,hocd⟩:=id z
  refine h {s with heap:=h'} ⟨I.ok,I.os,I.bare,⟨λb o e n hb hx=>?_,λb o e n hb hx=>?_,I.base.free,λb o e hx=>?_,I.base.tups,I.base.frzs,I.base.tbls⟩,⟨m,hn.sameBut hs (Wq (cne x c hc)),λj y v' e1 e2 e3=>?_⟩,λy c' e=>?_,I.free,I.freeC,λp hp=>?_,tracked ⟨oc,hoc,I.freeC x c hc⟩ hs,by simpa using I.len⟩ ⟨c,hs,.inr hc⟩
  ·exact(hs.2 b (Xo (Xr (Xk e) (I.ok.cab x c hfn hc)))).trans (I.base.keep b o e n hb hx)
  ·obtain⟨sl,e1⟩:=I.base.slot b o e n hb hx;exact⟨sl,(hs.2 b (Xo (Xr (Xk e) (I.ok.cab x c hfn hc)))).trans e1⟩
  ·obtain⟨o',e1⟩:=I.base.there b o e hx;exact⟨o',(hs.2 b (Xo (Xr (Xk e) (I.ok.cab x c hfn hc)))).trans e1⟩
  ·by_cases hj:j=i
   ·subst hj;rw[hi]at e1;cases e1;rw[X0 hiY]at e2;cases e2;exact⟨u,r,.inr ⟨.inl hk,c,hc,hc'⟩⟩
   ·rw[Xs (Wq hj)]at e2;obtain⟨u',r',q⟩:=hl j y v' e1 e2 e3;refine⟨u',r',?_⟩
    rcases q with q|⟨k,c',e,z'⟩
    ·exact .inl q
    ·refine .inr ⟨k,c',e,z'.sameBut hs ?_⟩;rintro rfl;exact hj (JT hN e1 (I.ok.inj _ _ _ e hc▸hi))
  ·by_cases hcc:c'=c
   ·subst hcc;exact⟨_,hc'⟩
   ·obtain⟨w2,z2⟩:=I.cell y c' e;exact⟨w2,z2.sameBut hs hcc⟩
  ·obtain⟨e,n,ne,nf,d⟩:=I.pin p hp;refine⟨(hs.2 p.1 ?_).trans e,n,ne,nf,d⟩;intro q;rw[q,hoc]at e;have q':oc=p.2:=X3 e
   exact d w' (by rw[<-q'];exact hocd)
def JN{E:Value->Shared->Prop}{v:V}{u:Value}{Q:Unit->Shared->Prop}(I:Inv X pins Y H s)(hN:X.N.Nodup)(hi:X.N[i]?=some x)(hx:Loc X.env.scope x)(r:RelV v u)
  (h:∀s',Inv X pins (Y.set i (some v)) H s'->Q () s') (hf:X.fn x=true\/X.env.scope.names.lookup x=some .local:=by first|exact .inl rfl|exact .inr rfl|assumption):wpAny M A (storeName X.env x u) Q E s :=
 QdO I hN hi hx r (λs' I' z=>h s' I') hf
def Inv.call'{s':Shared}(I:Inv X pins Y H s)(ho:s'.os=s.os)(u:Un (frs X.stack) ch H H' s.heap s'.heap)(hok:HOk X.prog X.w H' s'.heap)(hg:AllBare s'.gens)
  (hch:∀b∈ch,(b∈X.ex\/X.s₀.heap.objs.size<=b)/\b≠X.env.locals/\(∀x c,X.env.cells.lookup x=some c->c≠b)/\∀p∈X.pn++pins,p.1≠b):Inv X pins Y H' s':=by
 obtain⟨h',g',d',t',o'⟩:=s';have e:o'=s.os:=ho;subst e;exact I.call (g':=g') (t':=t') (d':=d') u hok hg hch
end
abbrev XK:=Value->Option Addr->Hp->Prop
abbrev St:=List (Option V)
abbrev VK:=V->Hp->Prop
abbrev TE:=St->Hp->VK->Prop
abbrev TT:=St->Hp->(Bool->Hp->Prop)->Prop
abbrev TA:=St->Hp->(List V->Hp->Prop)->Prop
structure Ends where
 nx:St->Hp->Prop
 rt:VK
 bk:St->Hp->Prop:=λ_ _=>False
 ct:St->Hp->Prop:=λ_ _=>False
abbrev TS:=Ends->St->Hp->Prop
def EP(X:Cx)(pins:List (Addr×Obj))(Y:St)(Q:VK)(u:Value)(s':Shared):Prop:=∃v H',Inv X pins Y H' s'/\RelV v u/\Q v H'
def TP(X:Cx)(pins:List (Addr×Obj))(Y:St)(Q:Bool->Hp->Prop)(b:Bool)(s':Shared):Prop:=∃H',Inv X pins Y H' s'/\Q b H'
def AP(X:Cx)(pins:List (Addr×Obj))(Y:St)(Q:List V->Hp->Prop)(us:List Value)(s':Shared):Prop:=∃vs H',Inv X pins Y H' s'/\Vals vs us/\Q vs H'
noncomputable def SP(X:Cx)(pins:List (Addr×Obj))(D:Ends)(f:Flow)(s':Shared):Prop :=
 match f with
 |.next=>∃Y' H',Inv X pins Y' H' s'/\D.nx Y' H'
 |.brk=>∃Y' H',Inv X pins Y' H' s'/\D.bk Y' H'
 |.cont=>∃Y' H',Inv X pins Y' H' s'/\D.ct Y' H'
 |.ret u=>∃v Y' H',Inv X pins Y' H' s'/\RelV v u/\D.rt v H'
noncomputable def PE(X:Cx)(e:Expr)(t:TE):Prop :=
 ∀(pins:List (Addr×Obj)) (s:Shared) (Y:St) (H:Hp) (Q:VK),Inv X pins Y H s->t Y H Q->wpAny (model X.prog X.w) X.A (eval e X.env) (EP X pins Y Q) X.xe s
noncomputable def PT(X:Cx)(e:Expr)(t:TT):Prop :=
 ∀(pins:List (Addr×Obj)) (s:Shared) (Y:St) (H:Hp) (Q:Bool->Hp->Prop),Inv X pins Y H s->t Y H Q->wpAny (model X.prog X.w) X.A (isTrue e X.env (eval e X.env)) (TP X pins Y Q) X.xe s
noncomputable def PW(X:Cx)(e:Expr)(t:TT):Prop :=
 ∀(whole:Sem Value) (pins:List (Addr×Obj)) (s:Shared) (Y:St) (H:Hp) (Q:Bool->Hp->Prop),Inv X pins Y H s->t Y H Q->wpAny (model X.prog X.w) X.A (isTrue e X.env whole) (TP X pins Y Q) X.xe s
def PW.pt{X:Cx}{e:Expr}{t:TT}(h:PW X e t):PT X e t:=h _
noncomputable def PA(X:Cx)(es:List Expr)(t:TA):Prop :=
 ∀(pos:Pos) (pins:List (Addr×Obj)) (s:Shared) (Y:St) (H:Hp) (Q:List V->Hp->Prop),Inv X pins Y H s->t Y H Q->wpAny (model X.prog X.w) X.A (spliced (backTo pos (starEach es X.env))) (AP X pins Y Q) X.xe s
noncomputable def PS(X:Cx)(st:Stmt)(t:TS):Prop :=
 ∀(pins:List (Addr×Obj)) (s:Shared) (Y:St) (H:Hp) (D:Ends),Inv X pins Y H s->t D Y H->wpAny (model X.prog X.w) X.A (exec st X.env) (SP X pins D) X.xe s
noncomputable def PSs(X:Cx)(st:List Stmt)(t:TS):Prop :=
 ∀(pins:List (Addr×Obj)) (s:Shared) (Y:St) (H:Hp) (D:Ends),Inv X pins Y H s->t D Y H->wpAny (model X.prog X.w) X.A (execs st X.env) (SP X pins D) X.xe s
def thn{α:Type}{t:Sem α}{Q Q':α->Shared->Prop}{E:Value->Shared->Prop}{s:Shared}(h:wpAny M A t Q E s)(hQ:∀a s,Q a s->Q' a s):wpAny M A t Q' E s:=X2 h hQ λz z x=>x
end
section
variable {pos:Pos}{x:Str}{u:Value}
section
variable {X:Cx}
def QqM(i:Nat):TE:=λY H Q=>∃v,Y[i]?=some (some v)/\Q v H
def tC(v:V):TE:=λz H Q=>Q v H
def QlM{i:Nat}(hN:X.N[i]?=some x)(hv:Vis X.env.scope x)(hd:(x==("__debug__":Str))=false:=by decide)(hcd:(x==("__classdict__":Str))=false:=by decide):PE X (.Name x pos) (QqM i):=by
 intro pins s Y H Q I h;obtain⟨v,e,h⟩:=h;obtain⟨m,hn,hl⟩:=I.loc;obtain⟨u,r,l⟩:=hl i x v hN e hv;have fin:EP X pins Y Q u s:=⟨v,H,I,r,h⟩
 rcases l with⟨hk,hm⟩|⟨hk,c,hc,hcell⟩
 ·exact wpAny_Name (wpAny_loadName_local I.ok.kind hk hn hm fin) hd
 ·rcases hk with hk|hk
  ·exact wpAny_Name (wpAny_loadName_cell I.ok.kind hk hc hcell fin) hd
  ·exact wpAny_Name (wpAny_loadName_free I.ok.kind hk hc hcell fin hcd) hd
def Qed{i j pos}:PE X (.Constant (.int i) j pos) (tC (.int i)):=λz z z H z I h=>wpAny_Constant_int ⟨.int i,H,I.tok _,⟨_,rfl⟩,h⟩
def Qot{b j pos}:PE X (.Constant (.bool b) j pos) (tC (.bl b)):=λz z z H z I h=>Constant_bool ⟨.bl b,H,I,rfl,h⟩
def QlQ{j pos}:PE X (.Constant .none j pos) (tC .non):=λz z z H z I h=>Constant_none ⟨.non,H,I,rfl,h⟩
def QhS{x j pos}:PE X (.Constant (.str x) j pos) (tC (.str x)):=λz z z H z I h=>Calls.Constant_str ⟨.str x,H,I.tok _,⟨_,rfl⟩,h⟩
def Gl(X:Cx)(x:Str):Prop:=X.env.kindOf x=some .globalImplicit
def ZJ{E:Value->Shared->Prop}{pins:List (Addr×Obj)}{s:Shared}{Y:St}{H:Hp}{Q:Value->Shared->Prop}(I:Inv X pins Y H s)(hg:Gl X x)(hm:X.mg x=some u)(h:Q u s)
  (hd:(x==("__debug__":Str))=false:=by decide):wpAny (model X.prog X.w) X.A (eval (.Name x pos) X.env) Q E s :=
 U2 I.ok.kind hg (Calls.loadGlobal_global (by rw[I.ok.glob];exact I.mod.glob.keeps I.bk) hm h) hd
def ZE{E:Value->Shared->Prop}{pins:List (Addr×Obj)}{s:Shared}{Y:St}{H:Hp}{Q:Value->Shared->Prop}(I:Inv X pins Y H s)(hg:Gl X x)(hm:X.mg x=none)(hv:bootBuiltins x=some u)(h:Q u s)
  (hn:x≠"__name__":=by decide) (hd:(x==("__debug__":Str))=false:=by decide):wpAny (model X.prog X.w) X.A (eval (.Name x pos) X.env) Q E s:=by
 obtain⟨mb,h1,h2⟩:=I.mod.blt
 exact U2 I.ok.kind hg (Calls.loadGlobal_builtin (by rw[I.ok.glob];exact I.mod.glob.keeps I.bk) hm (by rw[I.ok.blt];exact h1.keeps I.bk) ((h2 x hn).trans hv) h) hd
def Qbp{v:V}(hg:Gl X x)(hm:X.mg x=some u)(r:RelV v u)(hd:(x==("__debug__":Str))=false:=by decide):PE X (.Name x pos) (tC v):=
 λz z z H z I h=>ZJ I hg hm ⟨v,H,I,r,h⟩ hd
def Qji{v:V}(hg:Gl X x)(hm:X.mg x=none)(hv:bootBuiltins x=some u)(r:RelV v u)(hn:x≠"__name__":=by decide)(hd:(x==("__debug__":Str))=false:=by decide):PE X (.Name x pos) (tC v):=
 λz z z H z I h=>ZE I hg hm hv ⟨v,H,I,r,h⟩ hn hd
variable {a b:Expr}{ta tb:TE}
variable {tA tB':TT}{rest:List Expr}
def QqW(t u:TT):TT:=λY H Q=>t Y H λc H1=>if c=true then u Y H1 Q else Q false H1
def tOr(t u:TT):TT:=λY H Q=>t Y H λc H1=>if c=true then Q true H1 else u Y H1 Q
def QqR(t:TT):TT:=λY H Q=>t Y H λc H1=>Q (!c) H1
def QiY(ha:PT X a tA):PW X (.BoolOp .And [a] pos) tA:=by
 intro wh pins s Y H Q I h;refine isTrue_and (thn (ha pins s Y H Q I h) λc s1 e=>?_)
 cases c with
 |true=>exact isTrue_and_nil e
 |false=>exact e
def Qly(ha:PT X a tA):PW X (.BoolOp .Or [a] pos) tA:=by
 intro wh pins s Y H Q I h;refine isTrue_or (thn (ha pins s Y H Q I h) λc s1 e=>?_)
 cases c with
 |false=>exact isTrue_or_nil e
 |true=>exact e
def Qlz(ha:PT X a tA)(hb:PW X (.BoolOp .And (b::rest) pos) tB'):PW X (.BoolOp .And (a::b::rest) pos) (QqW tA tB'):=by
 intro wh pins s Y H Q I h;refine isTrue_and (thn (ha pins s Y H _ I h) λc s1 z=>?_);obtain⟨H1,I1,q1⟩:=z
 cases c with
 |true=>exact hb wh pins s1 Y H1 Q I1 q1
 |false=>exact⟨H1,I1,q1⟩
def Qoo(ha:PT X a tA)(hb:PW X (.BoolOp .Or (b::rest) pos) tB'):PW X (.BoolOp .Or (a::b::rest) pos) (tOr tA tB'):=by
 intro wh pins s Y H Q I h;refine isTrue_or (thn (ha pins s Y H _ I h) λc s1 z=>?_);obtain⟨H1,I1,q1⟩:=z
 cases c with
 |true=>exact⟨H1,I1,q1⟩
 |false=>exact hb wh pins s1 Y H1 Q I1 q1
def QlB(ha:PT X a tA):PT X (.UnaryOp .Not a pos) (QqR tA):=by
 intro pins s Y H Q I h;exact isTrue_not (ha pins s Y H (λc H1=>Q (!c) H1) I h)
def Qn2(ta tb:TE):TE:=λY H Q=>ta Y H λx H1=>∃c,x=.bl c/\if c=true then tb Y H1 Q else Q (.bl false) H1
def QqQ(ta tb:TE):TE:=λY H Q=>ta Y H λx H1=>∃c,x=.bl c/\if c=true then Q (.bl true) H1 else tb Y H1 Q
def QhT{op}{t:TE}(h:PE X a t):PE X (.BoolOp op [a] pos) t:=λpins s Y H Q I hw=>BoolOp_one (h pins s Y H Q I hw)
def QlT(ha:PE X a ta)(hb:PE X (.BoolOp .And (b::rest) pos) tb):PE X (.BoolOp .And (a::b::rest) pos) (Qn2 ta tb):=by
 intro pins s Y H Q I h;refine BoolOp_and (thn (ha pins s Y H _ I h) λv s1 z=>?_);obtain⟨x,H1,I1,r1,q1⟩:=z;obtain⟨c,rfl,q1⟩:=q1;cases r1;refine Ut ?_
 cases c with
 |true=>exact hb pins s1 Y H1 Q I1 q1
 |false=>exact⟨.bl false,H1,I1,rfl,q1⟩
def Qop(ha:PE X a ta)(hb:PE X (.BoolOp .Or (b::rest) pos) tb):PE X (.BoolOp .Or (a::b::rest) pos) (QqQ ta tb):=by
 intro pins s Y H Q I h;refine BoolOp_or (thn (ha pins s Y H _ I h) λv s1 z=>?_);obtain⟨x,H1,I1,r1,q1⟩:=z;obtain⟨c,rfl,q1⟩:=q1;cases r1;refine Ut ?_
 cases c with
 |false=>exact hb pins s1 Y H1 Q I1 q1
 |true=>exact⟨.bl true,H1,I1,rfl,q1⟩
end
end
section
variable {X:Cx}{e tg:Expr}{H:Hp}{pins:List (Addr×Obj)}{pos:Pos}{P:Program}{s:Shared}{Y:St}{te:TE}{u:Value}{w:World}
noncomputable def SqL(K:W.Frag)(H:Hp)(a:Addr)(xs:List V):Prop :=
 Rd H a (.lst xs) \/
  ∃(o:Obj) (its:Array Value) (n:Nat),K.lookup a=some o/\o.cls=.type "list"/\o.dict=none/\o.data=.seq its n/\its.size<=sizeLine/\Vals xs its.toList
noncomputable def SqT(K:W.Frag)(H:Hp)(a:Addr)(xs:List V):Prop :=
 Rd H a (.tup xs) \/
  ∃(o:Obj) (its:Array Value) (n:Nat),K.lookup a=some o/\o.cls=.type "tuple"/\o.data=.seq its n/\its.size<=sizeLine/\Vals xs its.toList
noncomputable def Qr9:Value->Option V
 |.none=>some .non
 |.bool b=>some (.bl b)
 |.int i _=>some (.int i)
 |.str x _=>some (.str x)
 |.bytes b _=>some (.byt b)
 |.float b _=>some (.flt b)
 |.ref a=>some (.ref a)
 |.type n=>some (.ty n)
 |_=>none
def RelV.abs{x:V}(r:RelV x u):Qr9 u=some x:=by
 cases x with
 |non=>cases r;rfl
 |bl _=>cases r;rfl
 |int _=>obtain⟨t,rfl⟩:=r;rfl
 |str _=>obtain⟨t,rfl⟩:=r;rfl
 |byt _=>obtain⟨t,rfl⟩:=r;rfl
 |flt _=>obtain⟨t,rfl⟩:=r;rfl
 |ref _=>cases r;rfl
 |ty _=>cases r;rfl
def RelV.inj{x y:V}(r:RelV x u)(q:RelV y u):x=y:=X3 (r.abs.symm.trans q.abs)
theorem Vals.inj{xs ys:List V}{us:List Value}(h:Vals xs us)(h':Vals ys us):xs=ys:=by
 induction h generalizing ys with
 |nil=>cases h';rfl
 |cons r _ ih=>
  cases h' with
  |cons r' t'=>rw[r.inj r',ih t']
section
variable {a:Addr}{xs ys:List V}
def SqL.of{K:W.Frag}(h:H a=some (.lst xs)):SqL K H a xs:=.inl (.inl h)
def SqT.of{K:W.Frag}(h:H a=some (.tup xs)):SqT K H a xs:=.inl (.inl h)
def Inv.list(I:Inv X pins Y H s)(h:SqL X.K H a xs):∃its:List Value,Vals xs its/\PlainL s.heap a its.toArray/\xs.length<=sizeLine:=by
 rcases h with h|⟨o,its,n,hk,hc,hd,hs,hz,r⟩
 ·obtain⟨z,its,n,r,e⟩:=h.ok I.hok;exact⟨its,r,⟨_,n,e,rfl,rfl,rfl⟩,z⟩
 ·refine⟨its.toList,r,⟨o,n,I.kIn a o hk,hc,hd,by simpa using hs⟩,?_⟩
  have e:=r.length;simp only[Uj]at e;omega
def Inv.tuple(I:Inv X pins Y H s)(h:SqT X.K H a xs):∃its:List Value,Vals xs its/\IsTup s.heap a its.toArray/\xs.length<=sizeLine:=by
 rcases h with h|⟨o,its,n,hk,hc,hs,hz,r⟩
 ·obtain⟨z,its,r,p⟩:=h.ok I.hok;exact⟨its,r,p,z⟩
 ·refine⟨its.toList,r,⟨o,I.kIn a o hk,hc,n,by simpa using hs⟩,?_⟩
  have e:=r.length;simp only[Uj]at e;omega
def Inv.list_inj(I:Inv X pins Y H s)(h:SqL X.K H a xs)(h':SqL X.K H a ys):xs=ys:=by
 obtain⟨its,r,⟨o,n,e,_,_,d⟩,_⟩:=I.list h;obtain⟨its',r',⟨o',n',e',_,_,d'⟩,_⟩:=I.list h';rw[e]at e';cases e';rw[d]at d';injection d' with d1 _
 have:its=its':=by simpa using congrArg Array.toList d1
 subst this;exact r.inj r'
def Inv.tuple_inj(I:Inv X pins Y H s)(h:SqT X.K H a xs)(h':SqT X.K H a ys):xs=ys:=by
 obtain⟨its,r,⟨o,e,_,n,d⟩,_⟩:=I.tuple h;obtain⟨its',r',⟨o',e',_,n',d'⟩,_⟩:=I.tuple h';rw[e]at e';cases e';rw[d]at d';injection d' with d1 _
 have:its=its':=by simpa using congrArg Array.toList d1
 subst this;exact r.inj r'
end
noncomputable abbrev Cx.wish(X:Cx)(E:Value->Shared->Prop):Cx:={X with xe:=E}
noncomputable abbrev Cx.nox(X:Cx):Cx:=X.wish λz z=>False
theorem Cx.Ok.wish(ok:X.Ok)(E:Value->Shared->Prop):(X.wish E).Ok :=
 ⟨ok.mod,ok.kind,ok.glob,ok.blt,ok.above,ok.inj,ok.has,ok.cab,ok.hd,ok.frames,ok.stk,ok.exf,ok.bs,ok.bsz,ok.noex,ok.exfs,ok.funs,ok.frf⟩
def Cx.Ok.unwish{E:Value->Shared->Prop}(ok:(X.wish E).Ok):X.Ok :=
 ⟨ok.mod,ok.kind,ok.glob,ok.blt,ok.above,ok.inj,ok.has,ok.cab,ok.hd,ok.frames,ok.stk,ok.exf,ok.bs,ok.bsz,ok.noex,ok.exfs,ok.funs,ok.frf⟩
section
variable {E:Value->Shared->Prop}
theorem Inv.wish(I:Inv X pins Y H s)(E:Value->Shared->Prop):Inv (X.wish E) pins Y H s:=⟨I.ok.wish E,I.os,I.bare,I.base,I.loc,I.cell,I.free,I.freeC,I.pin,I.hok,I.len⟩
theorem Inv.unwish(I:Inv (X.wish E) pins Y H s):Inv X pins Y H s:=⟨I.ok.unwish,I.os,I.bare,I.base,I.loc,I.cell,I.free,I.freeC,I.pin,I.hok,I.len⟩
theorem SP.unwish{D:Ends}{f:Flow}{s':Shared}(h:SP (X.wish E) pins D f s'):SP X pins D f s':=by
 cases f with
 |next=>obtain⟨Y',H',I,q⟩:=h;exact⟨Y',H',I.unwish,q⟩
 |brk=>obtain⟨Y',H',I,q⟩:=h;exact⟨Y',H',I.unwish,q⟩
 |cont=>obtain⟨Y',H',I,q⟩:=h;exact⟨Y',H',I.unwish,q⟩
 |ret u=>obtain⟨v,Y',H',I,r,q⟩:=h;exact⟨v,Y',H',I.unwish,r,q⟩
theorem PT.nox{t:TT}(h:PT X.nox e t):PT X e t:=λpins s Y H Q I hw=>
 X2 (h pins s Y H Q (I.wish _) hw) (λy y x=>by obtain⟨H',I',q⟩:=x;exact⟨H',I'.unwish,q⟩) λy y z=>False.elim z
theorem PSs.nox{st:List Stmt}{t:TS}(h:PSs X.nox st t):PSs X st t:=λpins s Y H D I hw=>
 X2 (h pins s Y H D (I.wish _) hw) (λy y q=>q.unwish) λy y z=>False.elim z
end
section
variable {st:Stmt}{rest:List Stmt}{t u:TS}
def Qiv:TS:=λD Y H=>D.nx Y H
def QqO(t u:TS):TS:=λD Y H=>t {D with nx:=u D} Y H
def Qd2:PSs X [] Qiv:=λz z Y H z I h=>U6 ⟨Y,H,I,h⟩
def YA(h1:PS X st t)(h2:PSs X rest u):PSs X (st::rest) (QqO t u):=by
 intro pins s Y H D I h;refine wpAny_execs_cons (thn (h1 pins s Y H {D with nx:=u D} I h) λf s1 q=>?_)
 cases f with
 |next=>
  obtain⟨Y',H',I',q⟩:=q;exact h2 pins s1 Y' H' D I' q
 |ret v=>exact q
 |brk=>exact q
 |cont=>exact q
def Qi1(h1:PS X st t):PSs X [st] t:=by
 intro pins s Y H D I h;refine wpAny_execs_cons (thn (h1 pins s Y H D I h) λf s1 q=>?_)
 cases f with
 |next=>exact U6 q
 |ret v=>exact q
 |brk=>exact q
 |cont=>exact q
def Qk7:TS:=λD Y H=>D.bk Y H
def Qn0:TS:=λD Y H=>D.ct Y H
def Qi3:PS X (.Pass pos) Qiv:=λz z Y H z I h=>wpAny_Pass ⟨Y,H,I,h⟩
def Qgj:PS X (.Break pos) Qk7:=λz z Y H z I h=>wpAny_Break ⟨Y,H,I,h⟩
def Qbl:PS X (.Continue pos) Qn0:=λz z Y H z I h=>wpAny_Continue ⟨Y,H,I,h⟩
def Inv.quiet(I:Inv X pins Y H s):interactive X.env=false:=by simp[interactive,I.ok.kind]
def QlD{x j pos pos'}:PS X (.Expr (.Constant (.str x) j pos) pos') Qiv:=λz s Y H z I h=>wpAny_Expr (Calls.Constant_str (show SP X _ _ .next {s with toks:=s.toks+1}from⟨Y,H,I.tok _,h⟩)) I.quiet
def QnY(te:TE):TS:=λD Y H=>te Y H λz H1=>D.nx Y H1
def Qbk(he:PE X e te)(hs:swapsWith e none pos.line X.env=pure false:=by rfl):PS X (.Expr e pos) (QnY te):=by
 intro pins s Y H D I h;exact wpAny_Expr_any (thn (he pins s Y H _ I h) λv s1 z=>by obtain⟨x,H1,I1,r1,q1⟩:=z;exact⟨Y,H1,I1,q1⟩) I.quiet hs
def QqP(te:TE):TS:=λD Y H=>te Y H D.rt
def QhK(he:PE X e te):PS X (.Return (some e) pos) (QqP te):=by
 intro pins s Y H D I h;exact wpAny_Return_some (thn (he pins s Y H _ I h) λv s1 z=>by obtain⟨x,H1,I1,r1,q1⟩:=z;exact⟨x,Y,H1,I1,r1,q1⟩)
def QnX:TS:=λD z H=>D.rt .non H
def Qi2:PS X (.Return none pos) QnX:=λz z Y H z I h=>wpAny_Return_none ⟨.non,Y,H,I,rfl,h⟩
def QqT(c:TT)(t u:TS):TS:=λD Y H=>c Y H λb H1=>if b=true then t D Y H1 else u D Y H1
def QlC{c:Expr}{a b:List Stmt}{tc:TT}(hc:PT X c tc)(ha:PSs X a t)(hb:PSs X b u):PS X (.If c a b pos) (QqT tc t u):=by
 intro pins s Y H D I h;refine wpAny_If (thn (hc pins s Y H _ I h) λd s1 z=>?_);obtain⟨H1,I1,q1⟩:=z
 cases d with
 |true=>exact ha pins s1 Y H1 D I1 q1
 |false=>exact hb pins s1 Y H1 D I1 q1
end
abbrev TG:=V->St->Hp->(St->Hp->Prop)->Prop
abbrev TGs:=List V->St->Hp->(St->Hp->Prop)->Prop
noncomputable def PG(X:Cx)(target:Expr)(t:TG):Prop :=
 ∀(pins:List (Addr×Obj)) (s:Shared) (Y:St) (H:Hp) (v:V) (u:Value) (Q:St->Hp->Prop),Inv X pins Y H s->RelV v u->t v Y H Q ->
  wpAny (model X.prog X.w) X.A (assign target X.env u) (λz s'=>∃Y' H',Inv X pins Y' H' s'/\Q Y' H') X.xe s
noncomputable def PGs(X:Cx)(ts:List Expr)(t:TGs):Prop :=
 ∀(pins:List (Addr×Obj)) (s:Shared) (Y:St) (H:Hp) (vs:List V) (us:List Value) (Q:St->Hp->Prop),Inv X pins Y H s->Vals vs us->t vs Y H Q ->
  wpAny (model X.prog X.w) X.A (assignInOrder ((assignEach ts X.env).map (·.2)) us) (λz s'=>∃Y' H',Inv X pins Y' H' s'/\Q Y' H') X.xe s
abbrev QpG:=V->V->V->Hp->(Hp->Prop)->Prop
noncomputable def QqC(X:Cx)(t:QpG):Prop :=
 ∀(pins:List (Addr×Obj)) (s:Shared) (Y:St) (H:Hp) (o i v:V) (ov iv u:Value) (Q:Hp->Prop),Inv X pins Y H s->RelV o ov->RelV i iv->RelV v u->t o i v H Q ->
  wpAny (model X.prog X.w) X.A (setItem ov iv u) (λz s'=>∃H',Inv X pins Y H' s'/\Q H') X.xe s
abbrev TIp:=V->V->Hp->VK->Prop
section

def QaO(i:Nat):TG:=λv Y H Q=>Q (Y.set i (some v)) H
def Qbo{i:Nat}{x:Str}(hN:X.N.Nodup)(hi:X.N[i]?=some x)(hx:Loc X.env.scope x)(hf:X.fn x=true\/X.env.scope.names.lookup x=some .local:=by first|exact .inl rfl|exact .inr rfl|assumption):PG X (.Name x pos) (QaO i):=by
 intro pins s Y H v u Q I r h;exact wpAny_assign_Name (JN I hN hi hx r (λs' I'=>⟨_,H,I',h⟩) hf)
def Qqr:TGs:=λvs Y H Q=>vs=[]/\Q Y H
def QjN(t:TG)(u:TGs):TGs:=λvs Y H Q=>∃v r,vs=v::r/\t v Y H λY' H'=>u r Y' H' Q
def Qec:PGs X [] Qqr:=by
 intro pins s Y H vs us Q I r h;obtain⟨e,h⟩:=h;subst e;cases r;exact assignInOrder_nil ⟨Y,H,I,h⟩
def YB{es:List Expr}{t:TG}{u:TGs}(h1:PG X e t)(h2:PGs X es u)
  (hs:(assignEach (e::es) X.env).map (·.2)=assign e X.env::(assignEach es X.env).map (·.2):=by rfl):PGs X (e::es) (QjN t u):=by
 intro pins s Y H vs us Q I r h;obtain⟨v,vr,e1,h⟩:=h;subst e1
 cases r with
 |cons r rr=>
  rw[hs];refine assignInOrder_cons (thn (h1 pins s Y H _ _ _ I r h) λz s1 y=>?_);obtain⟨σ1,H1,I1,q1⟩:=y;exact h2 pins s1 σ1 H1 _ _ Q I1 rr q1
def Qqq(K:W.Frag)(n:Nat)(t:TGs):TG:=λv Y H Q=>∃a xs,v=.ref a/\SqT K H a xs/\xs.length=n/\t xs Y H Q
def QhR{es:List Expr}{k:Nat}{t:TGs}{n:Nat}(hc:X.calm=true)(h:PGs X es t)
  (hn:(assignEach es X.env).length=n:=by rfl) (hst:(assignEach es X.env).findIdx? (·.1)=none:=by rfl):PG X (.Tuple es k pos) (Qqq X.K n t):=by
 intro pins s Y H v u Q I r hw;obtain⟨a,xs,e1,hq,hl,hw⟩:=hw;subst e1;cases r;obtain⟨its,rv,ht,hz⟩:=I.tuple hq
 refine assign_Tuple_tuple (I.ok.hd hc) ht (by simp[hn,<-hl,rv.length]) hst λh' hx=>?_
 have I1:Inv X pins Y H {s with heap:=h'}:=I.kept (t':=s.toks) λb o e=>hx b o (Xo (Xk e)) e
 exact h pins _ Y H xs _ Q I1 (by simpa using rv) hw
def Qro(to ti:TE)(t:QpG):TG:=λv Y H Q=>to Y H λo H1=>ti Y H1 λi H2=>t o i v H2 λH3=>Q Y H3
def QlL{o i:Expr}{to ti:TE}{t:QpG}(ho:PE X o to)(hi:PE X i ti)(hs:QqC X t)
  (ha:∀v,assign (.Subscript o i pos) X.env v=(do
   let ov <-holding [v] (eval o X.env);let iv <-holding [v,ov] (eval i X.env)
   standAt pos
   holding [v,ov,iv] (setItem ov iv v)
   release [v,ov,iv] []):=by intro _;rfl):PG X (.Subscript o i pos) (Qro to ti t):=by
 intro pins s Y H v u Q I r h;rw[ha];refine Xa (W4 (thn (ho pins s Y H _ I h) λov s1 z=>?_));obtain⟨x,H1,I1,r1,q1⟩:=z;refine Xa (W4 (thn (hi pins s1 Y H1 _ I1 q1) λiv s2 w=>?_));obtain⟨y,H2,I2,r2,q2⟩:=w;refine Xa (wpAny_standAt (Xa (W4 (thn (hs pins s2 Y H2 x y v ov iv u _ I2 r1 r2 r q2) λq s3 p=>?_))));obtain⟨H3,I3,q3⟩:=p;exact wpAny_release ⟨Y,H3,I3,q3⟩
def QpT(te:TE)(g:TG):TS:=λD Y H=>te Y H λx H1=>g x Y H1 D.nx
def QlE{g:TG}(he:PE X e te)(hg:PG X tg g)(hs:swapsWithSole [tg] e pos.line X.env=pure false:=by rfl)(hw:swappedStores [tg] e X.env=pure none:=by rfl)
  (h1:(assignEach [tg] X.env).map (·.2)=[assign tg X.env]:=by rfl):PS X (.Assign [tg] e pos) (QpT te g):=by
 intro pins s Y H D I h;refine wpAny_Assign_stores (thn (he pins s Y H _ I h) λv s1 z=>?_) hs hw;obtain⟨x,H1,I1,r1,q1⟩:=z;rw[h1];exact thn (hg pins s1 Y H1 x v _ I1 r1 q1) λy s2 q=>q
def QaA{i:Nat}{x:Str}{pos':Pos}(hN:X.N.Nodup)(hi:X.N[i]?=some x)(hx:Loc X.env.scope x)(he:PE X e te)(hs:swapsWith e (some (.Name x pos')) pos.line X.env=pure false:=by rfl)(hf:X.fn x=true\/X.env.scope.names.lookup x=some .local:=by first|exact .inl rfl|exact .inr rfl|assumption):
  PS X (.Assign [.Name x pos'] e pos) (QpT te (QaO i)):=by
 intro pins s Y H D I h;refine wpAny_Assign_Name (thn (he pins s Y H _ I h) λv s1 z=>?_) hs;obtain⟨y,H1,I1,r1,q1⟩:=z;exact JN I1 hN hi hx r1 (λs2 I2=>⟨_,H1,I2,q1⟩) hf
end
section

def Qhy(c:TT)(tb:TS):TS:=λD Y H=>∃W:Nat->St->Hp->Prop,(∃m,W m Y H)/\∀m Y H,W m Y H ->
 c Y H λb H1=>if b=true then ∃N:St->Hp->Prop,(∀Y' H',N Y' H'->∃m',m'<m/\W m' Y' H')/\tb {D with nx:=N,ct:=N,bk:=D.nx} Y H1 else D.nx Y H1
def Qgh{c:Expr}{body:List Stmt}{tc:TT}{tb:TS}(hp:PassesOwn (model X.prog X.w) X.A X.env X.xe)(hc:PT X c tc)(hb:PSs X body tb):PS X (.While c body [] pos) (Qhy tc tb):=by
 intro pins s Y H D I h;obtain⟨W,⟨m0,w0⟩,turn⟩:=h;refine wpAny_While (codeAny_whileLoop (λn s'=>∃Y' H',Inv X pins Y' H' s'/\W n Y' H') ?_ m0 ⟨Y,H,I,w0⟩);rintro n s1 ⟨σ1,H1,I1,w1⟩;refine V8 hp (thn (hc pins s1 σ1 H1 _ I1 (turn n σ1 H1 w1)) λb s2 z=>?_);obtain⟨H2,I2,q2⟩:=z
 cases b with
 |true=>
  obtain⟨N,hN,q2⟩:=q2;rw[if_pos rfl];refine V8 hp (thn (hb pins s2 σ1 H2 _ I2 q2) λf s3 q3=>?_)
  cases f with
  |next=>
   obtain⟨σ3,H3,I3,n3⟩:=q3;obtain⟨m',hm,w3⟩:=hN σ3 H3 n3;exact⟨m',hm,σ3,H3,I3,w3⟩
  |cont=>
   obtain⟨σ3,H3,I3,n3⟩:=q3;obtain⟨m',hm,w3⟩:=hN σ3 H3 n3;exact⟨m',hm,σ3,H3,I3,w3⟩
  |brk=>exact q3
  |ret v=>exact q3
 |false=>
  rw[if_neg Xz];exact U6 ⟨σ1,H2,I2,q2⟩
end
structure It where
 go:Nat->Hp->Prop
 yld:Nat->Hp->V->Hp->Prop
 stop:Nat->Hp->Prop
noncomputable def QcE(X:Cx)(pins:List (Addr×Obj))(H:Hp)(b:Addr):Prop :=
 H b=none/\b≠X.env.locals/\b∉X.fs/\(b∈X.ex\/X.s₀.heap.objs.size<=b)/\(∀x c,X.env.cells.lookup x=some c->c≠b)/\∀p∈X.pn++pins,p.1≠b
def Inv.fpOk{H':Hp}{b:Addr}(I:Inv X pins Y H s)(hb:s.heap.objs.size<=b)(hn:H' b=none):QcE X pins H' b:=by
 refine⟨hn,Nat.ne_of_gt (Xr I.lt hb),I.nofs hb,.inr (Wf I.sz hb),λx c e z=>?_,λp hp z=>?_⟩
 ·obtain⟨v,q⟩:=I.cell x c e
  exact absurd (Xr q.lt (by rw[z];exact hb)) (Wx _)
 ·exact absurd (Xr (Xk (I.pin p hp).1) (by rw[z];exact hb)) (Wx _)
structure Turn(P:Program)(w:World)(K:W.Frag)(tg:Expr)(J:It)(fp:List Addr)(it:Addr)(tn:Nat->Heap->Prop):Prop where
 mem:it∈fp
 obj:∀i h,tn i h->∀b∈fp,∃o,h.get? b=some o/\∀v,o.data≠.cell v
 keep:∀i h h',tn i h->(∀b∈fp,∀o,h.get? b=some o->h'.get? b=some o)->tn i h'
 item:∀(X:Cx),X.prog=P->X.w=w->X.K=K->X.calm=true->∀(i:Nat) (pins:List (Addr×Obj)) (s:Shared) (Y:St) (H:Hp) (E:Value->Shared->Prop),Inv X pins Y H s->(∀b∈fp,QcE X pins H b)->tn i s.heap->J.go i H ->
  wpAny (model P w) X.A (pyNext (.ref it)) (λr s1=>∃u,r=some u /\
   wpAny (model P w) X.A (letOwnedTupleGo tg (.ref it) u) (λ_ s2=>∃x H',Inv X pins Y H' s2/\RelV x u/\J.yld i H x H'/\tn (i+1) s2.heap/\∀b∈fp,H' b=none) E s1) E s
 done:∀(X:Cx),X.prog=P->X.w=w->X.K=K->X.calm=true->∀(i:Nat) (pins:List (Addr×Obj)) (s:Shared) (Y:St) (H:Hp) (E:Value->Shared->Prop),Inv X pins Y H s->(∀b∈fp,QcE X pins H b)->tn i s.heap->J.stop i H ->
  wpAny (model P w) X.A (pyNext (.ref it)) (λr s1=>r=none/\Inv X pins Y H s1) E s
 self:∀(A:Around) (i:Nat) (s:Shared) (Q:Value->Shared->Prop) (E:Value->Shared->Prop),tn i s.heap->Q (.ref it) s->wpAny (model P w) A (pyIter (.ref it)) Q E s
abbrev TI:=St->Hp->(It->Hp->Prop)->Prop
noncomputable def PIE(X:Cx)(pins:List (Addr×Obj))(Y:St)(tg:Expr)(R:It->Hp->Prop)(itv:Value)(s2:Shared):Prop :=
 ∃(it:Addr) (fp:List Addr) (tn:Nat->Heap->Prop) (J:It) (H':Hp),itv=.ref it/\Inv X pins Y H' s2/\Turn X.prog X.w X.K tg J fp it tn/\tn 0 s2.heap/\(∀b∈fp,QcE X pins H' b)/\R J H'
noncomputable def PI(X:Cx)(tg iter:Expr)(wi:TI):Prop :=
 ∀(pins:List (Addr×Obj)) (s:Shared) (Y:St) (H:Hp) (R:It->Hp->Prop),Inv X pins Y H s->wi Y H R ->
  wpAny (model X.prog X.w) X.A (eval iter X.env) (λv s1=>wpAny (model X.prog X.w) X.A (pyIter v) (PIE X pins Y tg R) X.xe s1) X.xe s
def Qc0{M:Model}{A:Around}{E:Value->Shared->Prop}{it:Addr}{o:Obj}{n:String}{vs:Array Value}{Q:Unit->Shared->Prop}(ho:s.heap.get? it=some o)(hc:o.cls=.type n)(hd:o.data=.fields vs)
  (hn:["enumerate","zip","dict_itemiterator","dict_reverseitemiterator","odict_iterator","itertools.zip_longest","itertools.pairwise"].contains n=false) (hQ:Q () s):wpAny M A (letOwnedTupleGo tg (.ref it) u) Q E s:=by
 unfold letOwnedTupleGo
 cases tg<;>first
  |exact Xj hQ
  | (cases u<;>first
    |exact Xj hQ
    | (refine Xa (wpAny_load ho ?_)
       rw[hc,hd];show wpAny M A (if(["enumerate","zip","dict_itemiterator","dict_reverseitemiterator","odict_iterator","itertools.zip_longest","itertools.pairwise"].contains n&&vs[0]?==some (rawInt _))=true then _ else _) Q E s
       rw[if_neg (by intro h;rw[hn,Bool.false_and]at h;cases h)]
       exact Xj hQ))
noncomputable def Itl(K:W.Frag)(a:Addr):It :=
 ⟨λi H=>∃xs x,SqL K H a xs/\xs[i]?=some x,λi H x H'=>H'=H/\∀xs,SqL K H a xs->xs[i]?=some x,λi H=>∃xs,SqL K H a xs/\xs.length<=i⟩
noncomputable def Itt(K:W.Frag)(a:Addr):It :=
 ⟨λi H=>∃xs x,SqT K H a xs/\xs[i]?=some x,λi H x H'=>H'=H/\∀xs,SqT K H a xs->xs[i]?=some x,λi H=>∃xs,SqT K H a xs/\xs.length<=i⟩
noncomputable def Itr(lo:Int)(n:Nat):It:=⟨λi z=>i<n,λi H x H'=>H'=H/\x=.int (lo+i),λi z=>n<=i⟩
def QdC{K:W.Frag}(a it:Addr):Turn P w K tg (Itl K a) [it] it (λi h=>h.IsListIter it a i) where
 mem:=by simp
 obj:=λi h st b hb=>by
  have e:b=it:=by simpa using hb
  subst e;obtain⟨o,e,c,d⟩:=st
  exact⟨o,e,λv z=>by rw[d]at z;cases z⟩
 keep:=λi h h' st k=>st.at λo e=>k it (by simp) o e
 item:=by
  intro X hP hw hK hc i pins s Y H E I hf st hg;subst hP hw hK;obtain⟨xs,x,hq,hx⟩:=hg;obtain⟨its,rv,p,hz⟩:=I.list hq;obtain⟨u,hu,ru⟩:=rv.get hx
  obtain⟨f0,f1,f2,f3,f4,f5⟩:=hf it (by simp)
  refine wpAny_pyNext_list_item st p.isList (x:=u) (by simpa using hu) λh' st' sb=>?_
  have I1:Inv X pins Y H {s with heap:=h'}:=I.turned (t':=s.toks) (λb o hb e=>(sb.2 b hb).trans e) f0 f1 f3 f4 f5;obtain⟨o,e,c,d⟩:=id st'
  exact⟨u,rfl,Qc0 (s:={s with heap:=h'}) e c d (by decide) ⟨x,H,I1,ru,⟨rfl,λys hy=>by rw[I.list_inj hy hq];exact hx⟩,st',λb hb=>(hf b hb).1⟩⟩
 done:=by
  intro X hP hw hK hc i pins s Y H E I hf st hg;subst hP hw hK;obtain⟨xs,hq,hx⟩:=hg;obtain⟨its,rv,p,hz⟩:=I.list hq
  obtain⟨f0,f1,f2,f3,f4,f5⟩:=hf it (by simp)
  have hl:=rv.length
  exact wpAny_pyNext_list_end (I.ok.hd hc) st p.isList (by simp;omega) λh' eb=>⟨rfl,I.turned (t':=s.toks) (λb o hb e=>eb b o hb e) f0 f1 f3 f4 f5⟩
 self:=λy y y y y st h=>wpAny_pyIter_listiter st h
def QcJ{K:W.Frag}(a it:Addr):Turn P w K tg (Itt K a) [it] it (λi h=>h.IsTupleIter it a i) where
 mem:=by simp
 obj:=λi h st b hb=>by
  have e:b=it:=by simpa using hb
  subst e;obtain⟨o,e,c,d⟩:=st
  exact⟨o,e,λv z=>by rw[d]at z;cases z⟩
 keep:=λi h h' st k=>st.at λo e=>k it (by simp) o e
 item:=by
  intro X hP hw hK hc i pins s Y H E I hf st hg;subst hP hw hK;obtain⟨xs,x,hq,hx⟩:=hg;obtain⟨its,rv,p,hz⟩:=I.tuple hq;obtain⟨u,hu,ru⟩:=rv.get hx
  obtain⟨f0,f1,f2,f3,f4,f5⟩:=hf it (by simp)
  refine wpAny_pyNext_tuple_item st (show s.heap.IsTuple a its.toArray from p) (x:=u) (by simpa using hu) λh' st' sb=>?_
  have I1:Inv X pins Y H {s with heap:=h'}:=I.turned (t':=s.toks) (λb o hb e=>(sb.2 b hb).trans e) f0 f1 f3 f4 f5;obtain⟨o,e,c,d⟩:=id st'
  exact⟨u,rfl,Qc0 (s:={s with heap:=h'}) e c d (by decide) ⟨x,H,I1,ru,⟨rfl,λys hy=>by rw[I.tuple_inj hy hq];exact hx⟩,st',λb hb=>(hf b hb).1⟩⟩
 done:=by
  intro X hP hw hK hc i pins s Y H E I hf st hg;subst hP hw hK;obtain⟨xs,hq,hx⟩:=hg;obtain⟨its,rv,p,hz⟩:=I.tuple hq
  obtain⟨f0,f1,f2,f3,f4,f5⟩:=hf it (by simp)
  have hl:=rv.length
  exact wpAny_pyNext_tuple_end (I.ok.hd hc) st (show s.heap.IsTuple a its.toArray from p) (by simp;omega) λh' eb=>⟨rfl,I.turned (t':=s.toks) (λb o hb e=>eb b o hb e) f0 f1 f3 f4 f5⟩
 self:=λy y y y y st h=>wpAny_pyIter_tupleiter st h
def QcK{K:PySem.W.Frag}(it:Addr)(lo:Int)(n:Nat):Turn P w K tg (Itr lo n) [it] it (λi h=>IsRangeIter h it (lo+(i:Nat)*1) ((n:Int) - (i:Nat)) 1) where
 mem:=by simp
 obj:=λi h st b hb=>by
  have e:b=it:=by simpa using hb
  subst e
  exact⟨_,st,λv z=>by
   have z':Data.fields _=Data.cell v:=z
   cases z'⟩
 keep:=λi h h' st k=>k it (by simp) _ st
 item:=by
  intro X hP hw hK hc i pins s Y H E I hf st hg;subst hP hw hK
  obtain⟨f0,f1,f2,f3,f4,f5⟩:=hf it (by simp)
  have W:=Walks.range (prog:=X.prog) (w:=X.w) (I.ok.hd hc) it lo 1 n;refine W.item i s _ _ hg st λv h' tk hv st' kk=>?_;obtain⟨t,rfl⟩:=hv
  have I1:Inv X pins Y H {s with heap:=h',toks:=tk}:=I.turned (λb o hb e=>kk b o (by simpa using hb) e) f0 f1 f3 f4 f5
  refine⟨_,rfl,Qc0 (s:={s with heap:=h',toks:=tk}) (n:="range_iterator") st' rfl rfl (by decide) ⟨.int (lo+i),H,I1,⟨t,?_⟩,⟨rfl,rfl⟩,st',λb hb=>(hf b hb).1⟩⟩
  rw[Int.mul_one]
 done:=by
  intro X hP hw hK hc i pins s Y H E I hf st hg;subst hP hw hK
  obtain⟨f0,f1,f2,f3,f4,f5⟩:=hf it (by simp)
  exact wpAny_pyNext_range_end (I.ok.hd hc) st (by have:n<=i:=hg;omega) λh' eb=>⟨rfl,I.turned (t':=s.toks) (λb o hb e=>eb b o hb e) f0 f1 f3 f4 f5⟩
 self:=λy y y y y st h=>Tw st h
end
section
variable {H:Hp}{pins:List (Addr×Obj)}{fp:List Addr}{s:Shared}{Y:St}
section
variable {X:Cx}{tg:Expr}
def QoX(K:W.Frag)(tl:TE):TI:=λY H R=>tl Y H λx H1=>∃a,x=.ref a/\(∃xs,SqL K H1 a xs)/\R (Itl K a) H1
def Qrk(K:W.Frag)(tl:TE):TI:=λY H R=>tl Y H λx H1=>∃a,x=.ref a/\(∃xs,SqT K H1 a xs)/\R (Itt K a) H1
def Qja{l:Expr}{tl:TE}(hl:PE X l tl):PI X tg l (QoX X.K tl):=by
 intro pins s Y H R I h;refine thn (hl pins s Y H _ I h) λv s1 z=>?_;obtain⟨x,H1,I1,r1,q1⟩:=z;obtain⟨a,e,⟨xs,hq⟩,q⟩:=q1;subst e;cases r1;obtain⟨its,rv,p,hz⟩:=I1.list hq;refine wpAny_pyIter_list p.isList ?_;refine⟨s1.heap.objs.size,[s1.heap.objs.size],_,_,H1,rfl,I1.kept (t':=s1.toks) λb o e=>Xg _ e,QdC a _,⟨_,Xy _ rfl,rfl,rfl⟩,λb hb=>?_,q⟩
 have e:b=s1.heap.objs.size:=by simpa using hb
 subst e;exact I1.fpOk (Xi _) (I1.hok.fresh (Xi _))
def QlH{l:Expr}{tl:TE}(hl:PE X l tl):PI X tg l (Qrk X.K tl):=by
 intro pins s Y H R I h;refine thn (hl pins s Y H _ I h) λv s1 z=>?_;obtain⟨x,H1,I1,r1,q1⟩:=z;obtain⟨a,e,⟨xs,hq⟩,q⟩:=q1;subst e;cases r1;obtain⟨its,rv,p,hz⟩:=I1.tuple hq;refine wpAny_pyIter_tuple (show s1.heap.IsTuple a its.toArray from p) ?_;refine⟨s1.heap.objs.size,[s1.heap.objs.size],_,_,H1,rfl,I1.kept (t':=s1.toks) λb o e=>Xg _ e,QcJ a _,⟨_,Xy _ rfl,rfl,rfl⟩,λb hb=>?_,q⟩
 have e:b=s1.heap.objs.size:=by simpa using hb
 subst e;exact I1.fpOk (Xi _) (I1.hok.fresh (Xi _))
def Qgc{R:It->Hp->Prop}{E:Value->Shared->Prop}{lo hi:Int}{t u v:Tok}{tk:Nat}(I:Inv X pins Y H s)(h1:-(2 ^ 62)<=lo)(h2:lo<2 ^ 62)(h3:-(2 ^ 62)<=hi)(h4:hi<2 ^ 62)
  (q:R (Itr lo (hi-lo).toNat) H):wpAny (model X.prog X.w) X.A (pyIter (.ref s.heap.objs.size)) (PIE X pins Y tg R) E {s with heap:=s.heap.push {cls:=.type "range",data:=.fields #[.int lo t,.int hi u,.int 1 v]},toks:=tk}:=by
 refine wpAny_pyIter_range (IsRange.new ..) (small_one h1 h2 h3 h4) ?_;have I1:Inv X pins Y H {s with heap:=s.heap.push {cls:=.type "range",data:=.fields #[.int lo t,.int hi u,.int 1 v]},toks:=tk}:=I.kept λb o e=>Xg _ e
 refine⟨(s.heap.push {cls:=.type "range",data:=.fields #[.int lo t,.int hi u,.int 1 v]}).objs.size,[(s.heap.push {cls:=.type "range",data:=.fields #[.int lo t,.int hi u,.int 1 v]}).objs.size],_,_,H,rfl,
  I1.kept (t':=tk) λb o e=>Xg _ e,QcK _ lo (hi-lo).toNat,?_,λb hb=>?_,q⟩
 ·have e1:lo+((0:Nat):Int)*1=lo:=by simp
  have e2:(((hi-lo).toNat:Nat):Int) - ((0:Nat):Int)=Builtin.Range.rangeSize lo hi 1:=by rw[rangeSize_one];split<;>omega
  show IsRangeIter _ _ (lo+((0:Nat):Int)*1) ((((hi-lo).toNat:Nat):Int) - ((0:Nat):Int)) 1;rw[e1,e2];exact Xy _ rfl
 ·have e:b=(s.heap.push {cls:=.type "range",data:=.fields #[.int lo t,.int hi u,.int 1 v]}).objs.size:=by simpa using hb
  subst e;exact I1.fpOk (Xi _) (I1.hok.fresh (Xi _))
def QoV(ta:TA):TI:=λY H R=>ta Y H λvs H1=>∃j:Int,vs=[.int j]/\-(2 ^ 62)<=j/\j<2 ^ 62/\R (Itr 0 j.toNat) H1
def Qeb{a:Expr}{ta:TA}{p pos:Pos}(hg:Gl X "range")(hm:X.mg "range"=none)(ha:PA X [a] ta)(hs:starEach [a] X.env=[(false,eval a X.env)]:=by rfl):PI X tg (.Call (.Name "range" p) [a] [] pos) (QoV ta):=by
 intro pins s Y H R I h;refine Call_ (ZE I hg hm boot_range (Wu (thn (ha pos pins s Y H _ I h) λus s1 z=>?_) hs rfl));obtain⟨vs,H1,I1,r1,q1⟩:=z;obtain⟨j,e,q1,q2,q⟩:=q1;subst e
 cases r1 with
 |cons r rr=>
  cases rr;obtain⟨t,rfl⟩:=r
  exact call_range_1 (Qgc I1 (by omega) (by omega) q1 q2 (by simpa using q))
def QqU(wi:TI)(g:TG)(tb:TS):TS:=λD Y H=>wi Y H λJ H1=>∃W:Nat->Nat->St->Hp->Prop,(∃m,W 0 m Y H1)/\∀i m Y H,W i m Y H ->
 (J.stop i H/\D.nx Y H)\/(J.go i H/\∃N:St->Hp->Prop,(∀Y' H',N Y' H'->∃m',m'<m/\W (i+1) m' Y' H')/\∀x H',J.yld i H x H'->g x Y H' λσ2 H2=>tb {D with nx:=N,ct:=N,bk:=D.nx} σ2 H2)
noncomputable def YR(fp:List Addr)(h:Heap):List (Addr×Obj):=fp.filterMap λb=>(h.get? b).map λo=>(b,o)
def Zl{h:Heap}{b:Addr}{o:Obj}(hb:b∈fp)(e:h.get? b=some o):(b,o)∈YR fp h:=Sm.mpr ⟨b,hb,by rw[e];rfl⟩
def Qei{h:Heap}{p:Addr×Obj}(hp:p∈YR fp h):p.1∈fp/\h.get? p.1=some p.2:=by
 obtain⟨b,hb,e⟩:=Sm.mp hp
 cases q:h.get? b with
 |none=>rw[q]at e;cases e
 |some o=>
  rw[q]at e;have e':(b,o)=p:=X3 e;subst e';exact⟨hb,q⟩
def Inv.pinned(I:Inv X pins Y H s)(hf:∀b∈fp,QcE X pins H b)(ho:∀b∈fp,∃o,s.heap.get? b=some o/\∀v,o.data≠.cell v):Inv X (pins++YR fp s.heap) Y H s :=
 I.pins_of λp hp=>(Wo.mp hp).elim (λz=>I.pin p (Wm _ z)) λz=>by
  obtain⟨hb,e⟩:=Qei z;obtain⟨f0,f1,f2,_⟩:=hf p.1 hb;obtain⟨o,e',d⟩:=ho p.1 hb;rw[e]at e';cases e';exact⟨e,f0,f1,f2,d⟩
def Inv.unpinned{pl:List (Addr×Obj)}(I:Inv X (pins++pl) Y H s):Inv X pins Y H s:=I.pins_of λp hp=>I.pin p (Wm _ (Ue _ hp))
def Qb7{iter:Expr}{body:List Stmt}{wi:TI}{g:TG}{tb:TS}{pos:Pos}(hp:PassesOwn (model X.prog X.w) X.A X.env X.xe)(hc:X.calm=true)(hi:PI X tg iter wi)(hg:PG X tg g)(hb:PSs X body tb)
  (hs:∀x,foldedSetIterable iter X.env x=pure x:=by intro _;rfl):PS X (.For tg iter body [] pos) (QqU wi g tb):=by
 intro pins s Y H D I h;refine wpAny_For (thn (hi pins s Y H _ I h) λv s1 h1=>thn h1 λitv s2 h2=>?_) hs;obtain⟨it,fp,tn,J,H2,e,I2,T,st2,f2,W,⟨m0,w0⟩,turn⟩:=h2;subst e
 have stat:∀{H':Hp},(∀b∈fp,H' b=none)->∀b∈fp,QcE X pins H' b:=λhn b hb=>⟨hn b hb,(f2 b hb).2⟩;refine codeAny_forLoop_any (λn s'=>∃i Y' H',Inv X pins Y' H' s'/\tn i s'.heap/\(∀b∈fp,H' b=none)/\W i n Y' H') ?_ m0 ⟨0,Y,H2,I2,st2,λb hb=>(f2 b hb).1,w0⟩;rintro n s3 ⟨i,σ3,H3,I3,st3,fr3,w3⟩
 rcases turn i n σ3 H3 w3 with⟨stop,qn⟩|⟨go,N,hN,step⟩
 ·refine V8 hp (thn (T.done X rfl rfl rfl hc i pins s3 σ3 H3 X.xe I3 (stat fr3) st3 stop) λr s4 z=>?_);obtain⟨hr,I4⟩:=z;subst hr;exact U6 ⟨σ3,H3,I4,qn⟩
 ·refine V8 hp (thn (T.item X rfl rfl rfl hc i pins s3 σ3 H3 X.xe I3 (stat fr3) st3 go) λr s4 y=>?_);obtain⟨u,hr,h4⟩:=y;subst hr;refine V8 hp (thn h4 λt s5 q=>?_);obtain⟨x,H5,I5,r5,y5,st5,fr5⟩:=q;have I5':=I5.pinned (stat fr5) (T.obj _ _ st5);refine V8 hp (thn (hg _ s5 σ3 H5 x u _ I5' r5 (step x H5 y5)) λt s6 p=>?_);obtain⟨σ6,H6,I6,q6⟩:=p;refine V8 hp (thn (hb _ s6 σ6 H6 _ I6 q6) λf s7 q7=>?_)
  have again:∀{σ7:St} {H7:Hp},Inv X (pins++YR fp s5.heap) σ7 H7 s7->N σ7 H7->∃m,m<n/\∃i Y' H',Inv X pins Y' H' s7/\tn i s7.heap/\(∀b∈fp,H' b=none)/\W i m Y' H':=λ{σ7 H7} I7 n7=>by
   obtain⟨m',hm,w7⟩:=hN σ7 H7 n7;refine⟨m',hm,i+1,σ7,H7,I7.unpinned,T.keep _ _ _ st5 λb hb o e=>(I7.pin (b,o) (Wm _ (Wm _ (Zl hb e)))).1,λb hb=>?_,w7⟩;obtain⟨o,e,d⟩:=T.obj _ _ st5 b hb;exact(I7.pin (b,o) (Wm _ (Wm _ (Zl hb e)))).2.1
  cases f with
  |next=>obtain⟨σ7,H7,I7,n7⟩:=q7;exact again I7 n7
  |cont=>obtain⟨σ7,H7,I7,n7⟩:=q7;exact again I7 n7
  |brk=>obtain⟨σ7,H7,I7,q7⟩:=q7;exact⟨σ7,H7,I7.unpinned,q7⟩
  |ret v=>obtain⟨x7,σ7,H7,I7,r7,q7⟩:=q7;exact⟨x7,σ7,H7,I7.unpinned,r7,q7⟩
end
end
section
variable {f:Value->Value->Sem Value}
abbrev R2:=V->V->Hp->VK->Prop
noncomputable def OpR(X:Cx)(f:Value->Value->Sem Value)(r:R2):Prop :=
 ∀(pins:List (Addr×Obj)) (s:Shared) (Y:St) (H:Hp) (x y:V) (v u:Value) (Q:VK),Inv X pins Y H s->RelV x v->RelV y u->r x y H Q ->
  wpAny (model X.prog X.w) X.A (f v u) (EP X pins Y Q) X.xe s
noncomputable def UnR(X:Cx)(f:Value->Sem Value)(r:V->Hp->VK->Prop):Prop :=
 ∀(pins:List (Addr×Obj)) (s:Shared) (Y:St) (H:Hp) (x:V) (v:Value) (Q:VK),Inv X pins Y H s->RelV x v->r x H Q ->
  wpAny (model X.prog X.w) X.A (f v) (EP X pins Y Q) X.xe s
noncomputable def CallR(X:Cx)(f:Value)(r:List V->Hp->VK->Prop):Prop :=
 ∀(pins:List (Addr×Obj)) (s:Shared) (Y:St) (H:Hp) (xs:List V) (us:List Value) (Q:VK),Inv X pins Y H s->Vals xs us->r xs H Q ->
  wpAny (model X.prog X.w) X.A (call f us) (EP X pins Y Q) X.xe s
noncomputable def Qsa(X:Cx)(r:V->Hp->(Bool->Hp->Prop)->Prop):Prop :=
 ∀(pins:List (Addr×Obj)) (s:Shared) (Y:St) (H:Hp) (x:V) (v:Value) (Q:Bool->Hp->Prop),Inv X pins Y H s->RelV x v->r x H Q ->
  wpAny (model X.prog X.w) X.A (truthy v) (TP X pins Y Q) X.xe s
def tOp(r:R2)(ta tb:TE):TE:=λY H Q=>ta Y H λx H1=>tb Y H1 λy H2=>r x y H2 Q
def tUn(r:V->Hp->VK->Prop)(ta:TE):TE:=λY H Q=>ta Y H λx H1=>r x H1 Q
def rI(C:Int->Int->Prop)(g:Int->Int->V):R2:=λx y H Q=>∃i j,x=.int i/\y=.int j/\C i j/\Q (g i j) H
def rI0(g:Int->Int->V):R2:=λx y H Q=>∃i j,x=.int i/\y=.int j/\Q (g i j) H
def rU(g:Int->V):V->Hp->VK->Prop:=λx H Q=>∃i,x=.int i/\Q (g i) H
section
variable {X:Cx}{a b:Expr}{ta tb:TE}{pos:Pos}
def Qpt(ha:PE X a ta)(hb:PE X b tb){pins:List (Addr×Obj)}{s:Shared}{Y:St}{H:Hp}{R:V->V->Hp->Prop}(I:Inv X pins Y H s)
  (h:ta Y H λx H1=>tb Y H1 λy H2=>R x y H2) {Q:Value->Shared->Prop}
  (hf:∀v u s2 x y H2,Inv X pins Y H2 s2->RelV x v->RelV y u->R x y H2->wpAny (model X.prog X.w) X.A (f v u) Q X.xe s2):
  wpAny (model X.prog X.w) X.A (eval a X.env) (λv s₁=>wpAny (model X.prog X.w) X.A (eval b X.env) (λu s₂=>wpAny (model X.prog X.w) X.A (f v u) Q X.xe s₂) X.xe s₁) X.xe s:=by
 refine thn (ha pins s Y H _ I h) λv s1 z=>?_;obtain⟨x,H1,I1,r1,q1⟩:=z;refine thn (hb pins s1 Y H1 _ I1 q1) λu s2 t=>?_;obtain⟨y,H2,I2,r2,q2⟩:=t;exact hf v u s2 x y H2 I2 r1 r2 q2
def Qoq{op:Operator}{r:R2}(ho:OpR X (binaryOp op) r)(ha:PE X a ta)(hb:PE X b tb):PE X (.BinOp a op b pos) (tOp r ta tb):=by
 intro pins s Y H Q I h;exact wpAny_BinOp (Qpt ha hb I h λv u s2 x y H2 I2 rx ry q=>ho pins s2 Y H2 x y v u Q I2 rx ry q)
def QlN{op:UnaryOp}{r:V->Hp->VK->Prop}(ho:UnR X (unaryOp op) r)(ha:PE X a ta):PE X (.UnaryOp op a pos) (tUn r ta):=by
 intro pins s Y H Q I h;exact UnaryOp_ (thn (ha pins s Y H _ I h) λv s1 z=>by obtain⟨x,H1,I1,r1,q1⟩:=z;exact ho pins s1 Y H1 x v Q I1 r1 q1)
def opI{C:Int->Int->Prop}{g:Int->Int->Int}
  (rule:∀(i j:Int) (t u:Tok) (s:Shared) (Q:Value->Shared->Prop) (E:Value->Shared->Prop),C i j->Q (.int (g i j) s.toks) {s with toks:=s.toks+1}->wpAny (model X.prog X.w) X.A (f (.int i t) (.int j u)) Q E s):
  OpR X f (rI C λi j=>.int (g i j)):=by
 intro pins s Y H x y v u Q I rx ry h;obtain⟨i,j,rfl,rfl,hc,q⟩:=h;obtain⟨t,rfl⟩:=rx;obtain⟨t',rfl⟩:=ry;exact rule i j t t' s _ _ hc ⟨.int (g i j),H,I.tok _,⟨_,rfl⟩,q⟩
def Qqi{g:Int->Int->Int}
  (rule:∀(i j:Int) (t u:Tok) (s:Shared) (Q:Value->Shared->Prop) (E:Value->Shared->Prop),Q (.int (g i j) s.toks) {s with toks:=s.toks+1}->wpAny (model X.prog X.w) X.A (f (.int i t) (.int j u)) Q E s):
  OpR X f (rI0 λi j=>.int (g i j)):=by
 intro pins s Y H x y v u Q I rx ry h;obtain⟨i,j,rfl,rfl,q⟩:=h;obtain⟨t,rfl⟩:=rx;obtain⟨t',rfl⟩:=ry;exact rule i j t t' s _ _ ⟨.int (g i j),H,I.tok _,⟨_,rfl⟩,q⟩
def Qnw{g:Int->Int->Bool}
  (rule:∀(i j:Int) (t u:Tok) (s:Shared) (Q:Value->Shared->Prop) (E:Value->Shared->Prop),Q (.bool (g i j)) s->wpAny (model X.prog X.w) X.A (f (.int i t) (.int j u)) Q E s):
  OpR X f (rI0 λi j=>.bl (g i j)):=by
 intro pins s Y H x y v u Q I rx ry h;obtain⟨i,j,rfl,rfl,q⟩:=h;obtain⟨t,rfl⟩:=rx;obtain⟨t',rfl⟩:=ry;exact rule i j t t' s _ _ ⟨.bl (g i j),H,I,rfl,q⟩
def CMul(i j:Int):Prop:=(-(2 ^ 64) < i/\i<2 ^ 64)\/(-(2 ^ 64) < j/\j<2 ^ 64)
def CMul.ok{i j:Int}(h:CMul i j):IntMulOk i j:=by
 rcases h with⟨h1,h2⟩|⟨h1,h2⟩
 ·exact .of_left (intBits_le_64 h1 h2)
 ·exact .of_right (intBits_le_64 h1 h2)
def Ql6:OpR X (binaryOp .Add) (rI0 λi j=>.int (i+j)):=Qqi λz z z z z z z q=>add_int q
def QlV:OpR X (binaryOp .Sub) (rI0 λi j=>.int (i-j)):=Qqi λz z z z z z z q=>sub_int q
def QlZ:OpR X (binaryOp .Mod) (rI (λz j=>0<j) λi j=>.int (i % j)):=opI λi j z z z z z hc q=>by
 have h1:(0:Int) < j:=hc
 exact mod_int' (by omega) (by rw[Int.fmod_eq_emod_of_nonneg i (by omega)];exact q)
def unI{f:Value->Sem Value}{g:Int->Int}
  (rule:∀(i:Int) (t:Tok) (s:Shared) (Q:Value->Shared->Prop) (E:Value->Shared->Prop),Q (.int (g i) s.toks) {s with toks:=s.toks+1}->wpAny (model X.prog X.w) X.A (f (.int i t)) Q E s):
  UnR X f (rU λi=>.int (g i)):=by
 intro pins s Y H x v Q I rx h;obtain⟨i,rfl,q⟩:=h;obtain⟨t,rfl⟩:=rx;exact rule i t s _ _ ⟨.int (g i),H,I.tok _,⟨_,rfl⟩,q⟩
def Qhu:UnR X (unaryOp .USub) (rU λi=>.int (-i)):=unI λz z z z z q=>neg_int q
end
noncomputable def scal:V->V->Bool
 |.non,.non=>true|.non,.int _=>true|.int _,.non=>true|.non,.bl _=>true|.bl _,.non=>true|.non,.str _=>true|.str _,.non=>true
 |.int _,.int _=>true|.bl _,.bl _=>true|.str _,.str _=>true|.byt _,.byt _=>true
 |.int _,.str _=>true|.str _,.int _=>true|.bl _,.str _=>true|.str _,.bl _=>true
 |_,_=>false
def rEq:R2:=λx y H Q=>scal x y=true/\Q (.bl (decide (x=y))) H
def rNe:R2:=λx y H Q=>scal x y=true/\Q (.bl (!decide (x=y))) H
def Qe7{i j:Int}:decide (V.int i=V.int j)=(i==j):=by
 rw[Um];simp
def Qh8{i j:Bool}:decide (V.bl i=V.bl j)=(i==j):=by
 rw[Um];simp
def Qe6{i j:Str}:decide (V.str i=V.str j)=(i==j):=by
 rw[Um];simp
def Qe8{i j:Array UInt8}:decide (V.byt i=V.byt j)=(i.toList==j.toList):=by
 rw[Um];cases i;cases j;simp
section
variable {X:Cx}{a b c:Expr}{ta tb:TE}{pos:Pos}
def Qv{pins:List (Addr×Obj)}{Y:St}{H:Hp}{s:Shared}{Q:VK}{k k':Bool}(I:Inv X pins Y H s)(q:Q (.bl k) H)(e:k=k'):EP X pins Y Q (.bool k') s:=by
 subst e;exact⟨.bl k,H,I,rfl,q⟩
def Qoz:OpR X (compareOp .Eq) rEq:=by
 intro pins s Y H x y v u Q I rx ry h;obtain⟨hs,q⟩:=h
 cases x with
 |non=>
  cases rx
  cases y with
  |non=>cases ry;exact PySem.EqNone.eq_none_none (Qv I q (by simp))
  |bl j=>cases ry;exact PySem.EqNone.eq_none_bool (Qv I q (by simp))
  |int j=>obtain⟨t',rfl⟩:=ry;exact PySem.EqNone.eq_none_int (Qv I q (by simp))
  |str j=>obtain⟨t',rfl⟩:=ry;exact PySem.EqNone.eq_none_str (Qv I q (by simp))
  |_=>exact absurd (show false=true from hs) Xz
 |bl i=>
  cases rx
  cases y with
  |non=>cases ry;exact PySem.EqNone.eq_bool_none (Qv I q (by simp))
  |bl j=>cases ry;exact eq_bool (Qv I q Qh8)
  |str j=>obtain⟨t',rfl⟩:=ry;exact PySem.EqMixed.eq_bool_str (Qv I q (by simp))
  |_=>exact absurd (show false=true from hs) Xz
 |int i=>
  obtain⟨t,rfl⟩:=rx
  cases y with
  |non=>cases ry;exact PySem.EqNone.eq_int_none (Qv I q (by simp))
  |int j=>obtain⟨t',rfl⟩:=ry;exact eq_int (Qv I q Qe7)
  |str j=>obtain⟨t',rfl⟩:=ry;exact PySem.EqMixed.eq_int_str (Qv I q (by simp))
  |_=>exact absurd (show false=true from hs) Xz
 |str i=>
  obtain⟨t,rfl⟩:=rx
  cases y with
  |non=>cases ry;exact PySem.EqNone.eq_str_none (Qv I q (by simp))
  |bl j=>cases ry;exact PySem.EqMixed.eq_str_bool (Qv I q (by simp))
  |int j=>obtain⟨t',rfl⟩:=ry;exact PySem.EqMixed.eq_str_int (Qv I q (by simp))
  |str j=>obtain⟨t',rfl⟩:=ry;exact eq_str (Qv I q Qe6)
  |_=>exact absurd (show false=true from hs) Xz
 |byt i=>
  obtain⟨t,rfl⟩:=rx
  cases y with
  |byt j=>obtain⟨t',rfl⟩:=ry;exact W.eq_bytes (Qv I q Qe8)
  |_=>exact absurd (show false=true from hs) Xz
 |_=>cases y<;>exact absurd (show false=true from hs) Xz
def Qou:OpR X (compareOp .NotEq) rNe:=by
 intro pins s Y H x y v u Q I rx ry h;obtain⟨hs,q⟩:=h
 cases x with
 |non=>
  cases rx
  cases y with
  |non=>cases ry;exact PySem.EqNone.ne_none_none (Qv I q (by simp))
  |bl j=>cases ry;exact PySem.EqNone.ne_none_bool (Qv I q (by simp))
  |int j=>obtain⟨t',rfl⟩:=ry;exact PySem.EqNone.ne_none_int (Qv I q (by simp))
  |str j=>obtain⟨t',rfl⟩:=ry;exact PySem.EqNone.ne_none_str (Qv I q (by simp))
  |_=>exact absurd (show false=true from hs) Xz
 |bl i=>
  cases rx
  cases y with
  |non=>cases ry;exact PySem.EqNone.ne_bool_none (Qv I q (by simp))
  |bl j=>cases ry;exact ne_bool (Qv I q (congrArg not Qh8))
  |str j=>obtain⟨t',rfl⟩:=ry;exact PySem.EqMixed.ne_bool_str (Qv I q (by simp))
  |_=>exact absurd (show false=true from hs) Xz
 |int i=>
  obtain⟨t,rfl⟩:=rx
  cases y with
  |non=>cases ry;exact PySem.EqNone.ne_int_none (Qv I q (by simp))
  |int j=>obtain⟨t',rfl⟩:=ry;exact ne_int (Qv I q (congrArg not Qe7))
  |str j=>obtain⟨t',rfl⟩:=ry;exact PySem.EqMixed.ne_int_str (Qv I q (by simp))
  |_=>exact absurd (show false=true from hs) Xz
 |str i=>
  obtain⟨t,rfl⟩:=rx
  cases y with
  |non=>cases ry;exact PySem.EqNone.ne_str_none (Qv I q (by simp))
  |bl j=>cases ry;exact PySem.EqMixed.ne_str_bool (Qv I q (by simp))
  |int j=>obtain⟨t',rfl⟩:=ry;exact PySem.EqMixed.ne_str_int (Qv I q (by simp))
  |str j=>obtain⟨t',rfl⟩:=ry;exact ne_str (Qv I q (congrArg not Qe6))
  |_=>exact absurd (show false=true from hs) Xz
 |byt i=>
  obtain⟨t,rfl⟩:=rx
  cases y with
  |byt j=>obtain⟨t',rfl⟩:=ry;exact W.ne_bytes (Qv I q (congrArg not Qe8))
  |_=>exact absurd (show false=true from hs) Xz
 |_=>cases y<;>exact absurd (show false=true from hs) Xz
def Qov:OpR X (compareOp .Lt) (rI0 λi j=>.bl (decide (i<j))):=Qnw λz z z z z z z q=>lt_int q
def Qow:OpR X (compareOp .LtE) (rI0 λi j=>.bl (decide (i<=j))):=Qnw λz z z z z z z q=>le_int q
def Qox:OpR X (compareOp .Gt) (rI0 λi j=>.bl (decide (j<i))):=Qnw λz z z z z z z q=>gt_int q
def Qoy:OpR X (compareOp .GtE) (rI0 λi j=>.bl (decide (j<=i))):=Qnw λz z z z z z z q=>ge_int q
def Ql0:OpR X (compareOp .Is) (λx y H Q=>y=.non/\Q (.bl (decide (x=.non))) H):=by
 intro pins s Y H x y v u Q I rx ry h;obtain⟨rfl,q⟩:=h;cases ry;refine is_none_gen (Qv I q ?_)
 cases x<;>first
  | (cases rx;rfl)
  | (obtain⟨t,rfl⟩:=rx;rfl)
def Qjk:OpR X (compareOp .IsNot) (λx y H Q=>y=.non/\Q (.bl (!decide (x=.non))) H):=by
 intro pins s Y H x y v u Q I rx ry h;obtain⟨rfl,q⟩:=h;cases ry;refine isnot_none_gen (Qv I q ?_)
 cases x<;>first
  | (cases rx;rfl)
  | (obtain⟨t,rfl⟩:=rx;rfl)
def OpR.or{r r':R2}(h:OpR X f r)(h':OpR X f r'):OpR X f (λx y H Q=>r x y H Q\/r' x y H Q):=by
 intro pins s Y H x y v u Q I rx ry q
 rcases q with q|q
 ·exact h pins s Y H x y v u Q I rx ry q
 ·exact h' pins s Y H x y v u Q I rx ry q
def Qjg{op:CmpOp}{r:R2}(ho:OpR X (compareOp op) r)(ha:PE X a ta)(hb:PE X b tb)(hm:behindInMarks op b=false):PE X (.Compare a [op] [b] pos) (tOp r ta tb):=by
 intro pins s Y H Q I h;exact wpAny_Compare1 (Qpt ha hb I h λv u s2 x y H2 I2 rx ry q=>ho pins s2 Y H2 x y v u Q I2 rx ry q) hm
def QnW(t:TE):TT:=λY H Q=>t Y H λx H'=>∃k,x=.bl k/\Q k H'
def Qi0{op:CmpOp}{r:R2}(ho:OpR X (compareOp op) r)(ha:PE X a ta)(hb:PE X b tb)(hm:behindInMarks op b=false):PT X (.Compare a [op] [b] pos) (QnW (tOp r ta tb)):=by
 intro pins s Y H Q I h
 refine wpAny_isTrue_Compare1 (thn (ha pins s Y H _ I h) λv s1 ⟨x,H1,I1,r1,q1⟩=>thn (hb pins s1 Y H1 _ I1 q1) λu s2 ⟨y,H2,I2,r2,q2⟩=>
  thn (ho pins s2 Y H2 x y v u _ I2 r1 r2 q2) λc s3 ⟨z,H3,I3,r3,k,e,q3⟩=>?_) hm
 subst e;cases r3;exact Ut ⟨H3,I3,q3⟩
noncomputable def Qnf(K:W.Frag)(x:V)(H:Hp)(k:Bool):Prop :=
 match x with
 |.non=>k=false
 |.bl b=>k=b
 |.int i=>k=(i != 0)
 |.str y=>y.length<=sizeLine/\k=((y.length:Int) != 0)
 |.byt y=>y.size<=sizeLine/\k=((y.size:Int) != 0)
 |.ref p=>(∃xs,SqL K H p xs/\k=!xs.isEmpty)\/(∃xs,SqT K H p xs/\k=!xs.isEmpty)\/∃kvs,H p=some (.dK kvs)/\k=!kvs.isEmpty
 |_=>False
def QcY{κ:Type}{kvs:List (κ×V)}{vs:List (κ×Value)}(r:KV kvs vs):(!vs.isEmpty)=!kvs.isEmpty:=by
 cases r<;>rfl
def Jz{xs:List V}{its:List Value}(r:Vals xs its):(!its.toArray.isEmpty)=!xs.isEmpty:=by
 cases r<;>simp
def Ju:(sizeLine:Nat) < 2 ^ 63:=by rw[Vu];decide
def Qhw:Qsa X (λx H Q=>∃k,Qnf X.K x H k/\Q k H):=by
 intro pins s Y H x v Q I rx h;obtain⟨k,e,q⟩:=h;have hl:=Ju;have hs:sizeLine=16777216:=Vu
 cases x with
 |non=>
  cases rx;have e':k=false:=e;subst e';exact truthy_none ⟨H,I,q⟩
 |bl b=>
  cases rx;have e':k=b:=e;subst e';exact Ut ⟨H,I,q⟩
 |int i=>
  obtain⟨t,rfl⟩:=rx;have e':k=(i != 0):=e;subst e';exact PySem.P.truthy_int ⟨H,I,q⟩
 |str y=>
  obtain⟨t,rfl⟩:=rx;obtain⟨hy,e'⟩:y.length<=sizeLine/\k=((y.length:Int) != 0):=e;subst e'
  exact PySem.P.truthy_str (by omega) ⟨H,I.tok _,q⟩
 |byt y=>
  obtain⟨t,rfl⟩:=rx;obtain⟨hy,e'⟩:y.size<=sizeLine/\k=((y.size:Int) != 0):=e;subst e'
  exact W.truthy_bytes (by omega) ⟨H,I.tok _,q⟩
 |ref p=>
  cases rx;have e':(∃xs,SqL X.K H p xs/\k=!xs.isEmpty)\/(∃xs,SqT X.K H p xs/\k=!xs.isEmpty)\/∃kvs,H p=some (.dK kvs)/\k=!kvs.isEmpty:=e
  rcases e' with⟨xs,hx,e'⟩|⟨xs,hx,e'⟩|⟨kvs,hx,e'⟩
  ·subst e';obtain⟨its,r,pl,hz⟩:=I.list hx;have hlen:=r.length
   exact wpAny_truthy_list pl.isList (by simp only[Xw];omega) ⟨H,I.tok _,by rw[Jz r];exact q⟩
  ·subst e';obtain⟨its,r,pl,hz⟩:=I.tuple hx;have hlen:=r.length
   exact truthy_tuple pl (by simp only[Xw];omega) ⟨H,I.tok _,by rw[Jz r];exact q⟩
  ·subst e';obtain⟨hz,hS,vs,r,m⟩:kvs.length<=sizeLine/\(p==sysModules)=false/\∃vs,KV kvs vs/\s.heap.DictOf (Ql X.prog X.w) p vs:=I.hok p _ hx;have hlen:kvs.length=vs.length:=Wn r
   exact wpAny_truthy_dict hS m (by omega) ⟨H,I.tok _,by rw[QcY r];exact q⟩
 |_=>exact(show False from e).elim
def Qgg(ha:PE X a ta)(he:∀whole,isTrue a X.env whole=(do let v <-whole;standAt a.pos;holding [v] (truthy v))):
  PT X a (λY H Q=>ta Y H λx H'=>∃k,Qnf X.K x H' k/\Q k H'):=by
 intro pins s Y H Q I h;exact isTrue_plain (thn (ha pins s Y H _ I h) λv s1 z=>by obtain⟨x,H1,I1,r1,q1⟩:=z;exact Qhw pins s1 Y H1 x v Q I1 r1 q1) (he _)
def Jc{x:V}{us:List Value}(r:Vals [x] us):∃u,us=[u]/\RelV x u:=by
 cases r with
 |cons r1 r2=>cases r2;exact⟨_,rfl,r1⟩
def QcI{x y:V}{us:List Value}(r:Vals [x,y] us):∃u w',us=[u,w']/\RelV x u/\RelV y w':=by
 cases r with
 |cons r1 r2=>
  cases r2 with
  |cons r3 r4=>cases r4;exact⟨_,_,rfl,r1,r3⟩
def Qfo(hc:X.calm=true): CallR X (.builtin "max") (λxs H Q=>∃i j,xs=[.int i,.int j]/\Q (.int (if j>i then j else i)) H):= by
 intro pins s Y H xs us Q I r h;obtain⟨i,j,rfl,q⟩:=h;obtain⟨u,w',rfl,⟨t,rfl⟩,⟨t',rfl⟩⟩:=QcI r;refine max_two_ints (I.ok.hd hc) λh' tk k=>⟨_,H,I.kept k,?_,q⟩;by_cases hj:j>i
 ·rw[if_pos hj,if_pos hj];exact⟨_,rfl⟩
 ·rw[if_neg hj,if_neg hj];exact⟨_,rfl⟩
end
end
section
variable {C dx:Addr}{A:Around}{X:Cx}{h:Heap}{H:Hp}{s:Shared}{mA:Str->Option Value}
structure ObjM(h:Heap)(x dx C:Addr)(mA:Str->Option Value):Prop where
 obj:h.get? x=some (W.instObj C dx)
 ns:h.Ns1 dx mA
 ne:dx≠x
def Qex(n:h.Ns1 dx mA):∃od,h.get? dx=some od/\∀name,W.lookIn name od=some (mA name):=by
 obtain⟨o,es,ep,ho,hd,hk,_,hm⟩:=n;refine⟨o,ho,λname=>?_⟩;have e:=hm name;unfold nsFind findBy at e;rw[<-Array.find?_toList]at e;unfold W.lookIn;rw[hd];dsimp only;split
 ·rename_i y q;rw[q]at e;exact congrArg some e
 ·rename_i q;rw[q]at e
  have a:es.toList.any (·.refKey)=false:=by
   rw[List.any_eq_false];intro y hy;obtain⟨z,t,hkey⟩:=hk y (Array.mem_toList_iff.mp hy);simp[DictEntry.refKey,hkey]
  have a':¬es.toList.any (·.refKey)=true:=by rw[a];exact Xz
  rw[if_neg a'];exact congrArg some e
def ObjM.look{x:Addr}(I:ObjM h x dx C mA):∃od,W.InstAt h x (W.instObj C dx) C (some od)/\∀name,W.lookIn name od=some (mA name):=
 let ⟨od,ho,hl⟩:=Qex I.ns
 ⟨od,⟨I.obj,rfl,rfl,ho⟩,hl⟩
def RelO.some_of{v:V}{o:Option Value}(r:RelO (some v) o):∃u,o=some u/\RelV v u:=by
 cases o with
 |none=>exact(show False from r).elim
 |some u=>exact⟨u,rfl,r⟩
section
variable {P:Program}{w:World}{a:Addr}{fs:List (Str×V)}
def QjJ(hok:HOk P w H h)(e:H a=some (.ins C dx fs)):∃mA,ObjM h a dx C mA/\(∀f,RelO (fs.lookup f) (mA f))/\PySem.Within mA (fs.map (·.1))/\fs.length<=1000/\H dx=some (.own a):=by
 obtain⟨d,z,ne,ob,mA,n,r,q⟩:=(show ObjOk P w H h a (.ins C dx fs)from hok a _ e);exact⟨mA,⟨ob,n,ne⟩,r,q,z,d⟩
end
structure Cls(K:W.Frag)(C:Addr):Prop where
 pg:W.plainGet K C Str.empty=true
 hd:W.hasDictIn K C=true
 po:W.plainOver K C=true
 sa:W.findIn K (.ref C) "__setattr__"=some (some (.builtin "object.__setattr__"))
def Cls.get{K:W.Frag}(c:Cls K C)(f:Str):W.plainGet K C f=true:=c.pg
def Qnl(K:W.Frag)(C:Addr)(f:Str):Prop:=W.findIn K (.ref C) f=some none
structure Meth(K:W.Frag)(C:Addr)(m:Str)(f:Addr):Prop where
 at_:W.findIn K (.ref C) m=some (some (.ref f))
 fn:W.isFn K (.ref f)=true
 kp:W.keepIn K (.ref f)=true
section
variable {pins:List (Addr×Obj)}{Y:St}{E:Value->Shared->Prop}{Q:Value->Shared->Prop}{c:Value}{b:Bool}
inductive TyOf(K:W.Frag)(H:Hp):V->Value->Prop where
 |non:TyOf K H .non (.type "NoneType")
 |bl (x:Bool):TyOf K H (.bl x) (.type "bool")
 |int (i:Int):TyOf K H (.int i) (.type "int")
 |str (x:Str):TyOf K H (.str x) (.type "str")
 |flt (x:UInt64):TyOf K H (.flt x) (.type "float")
 |lst {a:Addr} {xs:List V} (e:H a=some (.lst xs)):TyOf K H (.ref a) (.type "list")
 |frz {a:Addr} {o:Obj} {xs:List V} (e:H a=some (.frz o (.lst xs))):TyOf K H (.ref a) (.type "list")
 |tup {a:Addr} {xs:List V} (e:H a=some (.tup xs)):TyOf K H (.ref a) (.type "tuple")
 |dK {a:Addr} {kvs:List (Key×V)} (e:H a=some (.dK kvs)):TyOf K H (.ref a) (.type "dict")
 |dT {a:Addr} {kvs:List (List Key×V)} (e:H a=some (.dT kvs)):TyOf K H (.ref a) (.type "dict")
 |ins {a C dx:Addr} {fs:List (Str×V)} (e:H a=some (.ins C dx fs)) (cl:Cls K C) (ha:W.findIn K (.ref C) "__class__"=some (some (.builtin "object.__class__")))
   (hn:W.specialIn K (.builtin "object.__class__") "__get__"=some (some (.builtin "getset_descriptor.__get__"))) (htk:W.takesIn K (.builtin "object.__class__")=some true)
   (hm:W.mroIn K C (.type "object")=some true):TyOf K H (.ref a) (.ref C)
def QeF{x:V}{u t:Value}(I:Inv X pins Y H s)(rx:RelV x u)(ty:TyOf X.K H x t)(e:W.kitOne X.K t c=some b)(h:∀tk,Q (.bool b) {s with toks:=tk}):
  wpAny (model X.prog X.w) A (call (.builtin "isinstance") [u,c]) Q E s:=by
 cases ty with
 |non=>cases(show u=Value.none from rx);exact V5 W.kitx_none I.kIn True.intro e (λz=>nomatch z) h
 |bl y=>cases(show u=Value.bool y from rx);exact V5 W.kitx_bool I.kIn True.intro e (λz=>nomatch z) h
 |int i=>obtain⟨t,q⟩:=(show ∃t,u=Value.int i t from rx);cases q;exact V5 W.kitx_int I.kIn True.intro e (λz=>nomatch z) h
 |str y=>obtain⟨t,q⟩:=(show ∃t,u=Value.str y t from rx);cases q;exact V5 W.kitx_str I.kIn True.intro e (λz=>nomatch z) h
 |flt y=>obtain⟨t,q⟩:=(show ∃t,u=Value.float y t from rx);cases q;exact V5 W.kitx_float I.kIn True.intro e (λz=>nomatch z) h
 | @lst a xs ea=>
  cases(show u=Value.ref a from rx);obtain⟨_,_,n,_,h1⟩:=(show ObjOk X.prog X.w H s.heap a (.lst xs)from I.hok a _ ea);exact V5 W.kitx_list I.kIn ⟨_,h1,rfl⟩ e (λz=>nomatch z) h
 | @frz a ob xs ea=>
  cases(show u=Value.ref a from rx);obtain⟨_,_,_,n,_,h1⟩:=(show ObjOk X.prog X.w H s.heap a (.frz ob (.lst xs))from I.hok a _ ea);exact V5 W.kitx_list I.kIn ⟨_,h1,rfl⟩ e (λz=>nomatch z) h
 | @tup a xs ea=>
  cases(show u=Value.ref a from rx);obtain⟨_,_,_,p⟩:=(show ObjOk X.prog X.w H s.heap a (.tup xs)from I.hok a _ ea);obtain⟨o,h1,h2,_⟩:=p;exact V5 W.kitx_tuple I.kIn ⟨o,h1,h2⟩ e (λz=>nomatch z) h
 | @dK a kvs ea=>
  cases(show u=Value.ref a from rx);obtain⟨_,_,vs,_,p⟩:=(show ObjOk X.prog X.w H s.heap a (.dK kvs)from I.hok a _ ea);obtain⟨o,es,ep,h1,h2,_⟩:=p;exact V5 W.kitx_dict I.kIn ⟨o,h1,h2.1⟩ e (λz=>nomatch z) h
 | @dT a kvs ea=>
  cases(show u=Value.ref a from rx);obtain⟨_,_,xs,_,o,es,ep,h1,h2,_⟩:=(show ObjOk X.prog X.w H s.heap a (.dT kvs)from I.hok a _ ea);exact V5 W.kitx_dict I.kIn ⟨o,h1,h2.1⟩ e (λz=>nomatch z) h
 | @ins a C dx fs ea cl ha hn htk hm=>
  cases(show u=Value.ref a from rx);obtain⟨mA,O,_⟩:=QjJ I.hok ea;obtain⟨od,J,_⟩:=O.look;exact V5 (W.kitx_own (cl.get _) cl.hd ha hn htk hm) I.kIn J e (λz=>nomatch z) h
end
end
section
variable {f:Addr}{A:Around}{X:Cx}{e:Expr}{fd:FuncData}{base:Heap}{H:Hp}{es:List Expr}{ps:List Str}{pos:Pos}{P:Program}{s:Shared}{x:Str}{mg:Str->Option Value}{w:World}
structure Room(k:Nat)(A:Around):Prop where
 hd:A.handled=none
 dp:A.depth+3*k+5<recursionLimit
 un:A.units+16*k+200<cLine
def Room.mono{j k:Nat}(r:Room k A)(h:j<=k):Room j A:=⟨r.hd,by have:=r.dp;omega,by have:=r.un;omega⟩
theorem Room.deeper{k:Nat}(r:Room (k+1) A)(env:Env):Room k (A.deeper env):=
 ⟨r.hd,by have:=r.dp;show A.depth+1+3*k+5<_;omega,by have:=r.un;show A.units+3+16*k+200<_;omega⟩
theorem Room.depth{k:Nat}(r:Room k A):A.depth<recursionLimit:=by have:=r.dp;omega
theorem Room.units{k:Nat}(r:Room k A):A.units+64<cLine:=by have:=r.un;omega
def QpS:TA:=λz H Q=>Q [] H
def Qn1(ta:TE)(tr:TA):TA:=λY H Q=>ta Y H λx H1=>tr Y H1 λxs H2=>Q (x::xs) H2
section
variable {te:TE}{t:TA}
def Qef:PA X [] QpS:=λz z z z H Q I h=>Ua ⟨[],H,I,.nil,h⟩
def JR(ha:PE X e te)(hr:PA X es t)(hs:starEach (e::es) X.env=(false,eval e X.env)::starEach es X.env:=by rfl):PA X (e::es) (Qn1 te t):=by
 intro pos pins s Y H Q I h;rw[hs];show wpAny _ _ (spliced ((false,eval e X.env)::backTo pos (starEach es X.env))) _ _ s;refine V6 (thn (ha pins s Y H _ I h) λu s1 z=>?_);obtain⟨x,H1,I1,r1,q1⟩:=z;exact thn (hr pos pins s1 Y H1 _ I1 q1) λus s2 y=>by obtain⟨xs,H2,I2,r2,q2⟩:=y;exact⟨x::xs,H2,I2,.cons r1 r2,q2⟩
def QqN(t:TA):TE:=λY H Q=>t Y H λxs H1=>xs.length<=sizeLine/\∀p,H1 p=none->Q (.ref p) (upd H1 p (.tup xs))
def QqS(t:TA):TE:=λY H Q=>t Y H λxs H1=>xs.length<=sizeLine/\∀p,H1 p=none->Q (.ref p) (upd H1 p (.lst xs))
def QlO{x1}(h:PA X es t):PE X (.Tuple es x1 pos) (QqN t):=by
 intro pins s Y H Q I hq
 refine wpAny_Tuple_spliced (thn (h pos pins s Y H _ I hq) λus s1 ⟨xs,H1,I1,r,z,q⟩=>⟨by rw[<-r.length];exact z,?_⟩)
 have hf:H1 s1.heap.objs.size=none:=I1.hok.fresh (Xi _);refine⟨.ref s1.heap.objs.size,upd H1 s1.heap.objs.size (.tup xs),I1.laid (t':=s1.toks) (λb u e=>Xg _ e) (Xi _) ?_,rfl,q _ hf⟩;exact⟨z,us,r,⟨_,Xy _ rfl,rfl,_,rfl⟩⟩
def QlR(h:PA X es t):PE X (.List es pos) (QqS t):=by
 intro pins s Y H Q I hq
 refine wpAny_List_spliced (thn (h pos pins s Y H _ I hq) λus s1 ⟨xs,H1,I1,r,z,q⟩=>⟨by rw[<-r.length];exact z,?_⟩)
 have hf:H1 s1.heap.objs.size=none:=I1.hok.fresh (Xi _);refine⟨.ref s1.heap.objs.size,upd H1 s1.heap.objs.size (.lst xs),I1.laid (t':=s1.toks) (λb u e=>Xg _ e) (Xi _) ?_,rfl,q _ hf⟩;exact⟨z,us,0,r,Xy _ rfl⟩
end
abbrev Sp:=List V->Hp->VK->XK->Prop
abbrev CXT:=List Env->Hp->Shared->XK->Value->Shared->Prop
structure Env0(P:Program)(w:World)(K:W.Frag)(mg:Str->Option Value)(base:Heap)(A:Around)(outer:List Env)(s:Shared)(H:Hp):Prop where
 frames:A.frames=some outer
 mod:Mod K mg base
 bs:∀b o,base.get? b=some o->s.heap.get? b=some o/\H b=none
 bsz:base.objs.size<=s.heap.objs.size
 funs:s.heap.FunFrames base outer
 frf:∀b∈frs outer,H b=none
 hok:HOk P w H s.heap
 bare:AllBare s.gens
noncomputable def CE(outer:List Env)(P:Program)(w:World)(H:Hp)(s:Shared)(Q:VK)(u:Value)(s':Shared):Prop :=
 ∃v H',s'.os=s.os/\AllBare s'.gens/\Un (frs outer) [] H H' s.heap s'.heap/\HOk P w H' s'.heap/\RelV v u/\Q v H'
noncomputable def CR(CX:CXT)(outer:List Env)(P:Program)(w:World)(H:Hp)(s:Shared)(Q:VK)(E:XK)(r:Result)(s':Shared):Prop :=
 match r with
 |.ok (.ret u)=>CE outer P w H s Q u s'
 |.ok _=>False
 |.error e=>CX outer H s E e s'
structure FnOk(P:Program)(w:World)(K:W.Frag)(mg:Str->Option Value)(base:Heap)(CX:CXT)(k:Nat)(f:Addr)(fd:FuncData)(ps:List Str)(sp:Sp):Prop where
 len:∀vs H Q E,sp vs H Q E->vs.length=ps.length
 run:∀(A:Around) (outer:List Env) (s:Shared) (H:Hp) (args:Args) (us:List Value) (vs:List V) (Q:VK) (E:XK),Room k A->Env0 P w K mg base A outer s H->BindsTo s fd args (ps.zip us)->Vals vs us->sp vs H Q E ->
  codeAny (model P w) A (.call (.ref f) args) (CR CX outer P w H s Q E) s
theorem FnOk.mono{K:W.Frag}{CX:CXT}{j k:Nat}{sp:Sp}(F:FnOk P w K mg base CX j f fd ps sp)(h:j<=k):
  FnOk P w K mg base CX k f fd ps sp:=⟨F.len,λA outer s H args us vs Q E hr=>F.run A outer s H args us vs Q E (hr.mono h)⟩
def FnOk.imp{K:W.Frag}{CX:CXT}{k:Nat}{sp sp':Sp}(F:FnOk P w K mg base CX k f fd ps sp)
  (h:∀vs H Q E,sp' vs H Q E->sp vs H Q E):FnOk P w K mg base CX k f fd ps sp' :=
 ⟨λvs H Q E q=>F.len vs H Q E (h _ _ _ _ q),λA outer s H args us vs Q E hr he hb hv hs=>F.run A outer s H args us vs Q E hr he hb hv (h _ _ _ _ hs)⟩
section
variable {pins:List (Addr×Obj)}{Y:St}{s':Shared}
def Inv.env0(I:Inv X pins Y H s):Env0 X.prog X.w X.K X.mg X.base X.A X.stack s H :=
 ⟨I.ok.frames,I.ok.mod,I.bs,Wf I.ok.bsz I.sz,I.stack,I.stkFree,I.hok,I.bare⟩
def Inv.after{Q:VK}{u:Value}(I:Inv X pins Y H s)(h:CE X.stack X.prog X.w H s Q u s'):EP X pins Y Q u s':=by
 obtain⟨v,H',os,bare,un,hok,r,q⟩:=h;obtain⟨hh,g,d,t,os'⟩:=s';obtain rfl:os'=s.os:=os
 exact⟨v,H',I.call (h':=hh) (g':=g) (d':=d) (t':=t) (ch:=[]) un hok bare (λb z=>absurd z (by simp)),r,q⟩
end
def Qiw(sp:Sp)(dvs:List V)(E:XK)(t:TA):TE:=λY H Q=>t Y H λvs H1=>sp (vs++dvs) H1 Q E
noncomputable def Binds(K:W.Frag)(fd:FuncData)(ps:List Str)(ds:List Value):Prop :=
 ∀(s:Shared) (us:List Value),K.In s.heap->(us++ds).length=ps.length->BindsTo s fd ⟨us,[]⟩ (ps.zip (us++ds))
def Binds.all{K:W.Frag}(h:∀us:List Value,us.length=ps.length->bindArgs fd ⟨us,[]⟩=pure (ps.zip us)):Binds K fd ps []:=λs us z hl=>by
 rw[Vd]at hl ⊢;exact .of_eq (h us hl)
def QcB(CX:CXT)(X:Cx)(E:XK):Prop:=∀(pins:List (Addr×Obj)) (Y:St) (H:Hp) (s:Shared) (e:Value) (s':Shared),Inv X pins Y H s->CX X.stack H s E e s'->X.xe e s'
section
variable {CX:CXT}{k:Nat}{sp:Sp}{dvs:List V}{ds:List Value}{E:XK}{p:Pos}{t:TA}
def QhE{pins:List (Addr×Obj)}{Y:St}{Q:VK}{us:List Value}{vs:List V}(F:FnOk X.prog X.w X.K X.mg X.base CX k f fd ps sp)(hr:Room k X.A)(hb:Binds X.K fd ps ds)(hd:Vals dvs ds)(hx:QcB CX X E)
  (I:Inv X pins Y H s) (r:Vals vs us) (h:sp (vs++dvs) H Q E):wpAny (model X.prog X.w) X.A (call (.ref f) us) (EP X pins Y Q) X.xe s:=by
 have r2:Vals (vs++dvs) (us++ds):=r.append hd
 have hl:(us++ds).length=ps.length:=by rw[<-r2.length];exact F.len _ _ _ _ h
 refine wpAny_call (T8 (F.run X.A X.stack s H ⟨us,[]⟩ (us++ds) (vs++dvs) Q E hr I.env0 (hb s us I.kIn hl) r2 h) λr s' hq=>?_)
 cases r with
 |error e=>exact hx pins Y H s e s' I hq
 |ok fl=>
  cases fl with
  |ret u=>exact I.after hq
  |next=>exact False.elim hq
  |brk=>exact False.elim hq
  |cont=>exact False.elim hq
def Qjh(F:FnOk X.prog X.w X.K X.mg X.base CX k f fd ps sp)(hr:Room k X.A)(hg:Gl X x)(hm:X.mg x=some (.ref f))(hk:W.keepIn X.K (.ref f)=true)(hb:Binds X.K fd ps ds)(hd:Vals dvs ds)(hx:QcB CX X E)
  (ha:PA X (e::es) t) (hdb:(x==("__debug__":Str))=false:=by decide) (he:starEach (e::es) X.env=(false,eval e X.env)::starEach es X.env:=by rfl) (hpl:(backTo pos (starEach es X.env)).any (·.1)=false:=by rfl):
  PE X (.Call (.Name x p) (e::es) [] pos) (Qiw sp dvs E t):=by
 intro pins s Y H Q I h;refine Va (ZJ I hg hm ?_ hdb);refine W.callWith_K (h₀:=X.base) I.ok.mod.kin hk (thn (ha pos pins s Y H _ I h) λus s1 ⟨vs,H1,I1,r,q⟩=>⟨I1.kIn,?_⟩) he hpl;exact QhE F hr hb hd hx I1 r q
def Qgr(F:FnOk X.prog X.w X.K X.mg X.base CX k f fd ps sp)(hr:Room k X.A)(hg:Gl X x)(hm:X.mg x=some (.ref f))(hk:W.keepIn X.K (.ref f)=true)(hb:Binds X.K fd ps ds)(hd:Vals dvs ds)(hx:QcB CX X E)
  (hdb:(x==("__debug__":Str))=false:=by decide):PE X (.Call (.Name x p) [] [] pos) (Qiw sp dvs E QpS):=by
 intro pins s Y H Q I h;refine Va (ZJ I hg hm ?_ hdb);exact W.callWith_K0 I.kIn hk (QhE (us:=[]) F hr hb hd hx I .nil h)
end
structure FnScope(N P:List Str)(sc:Scope):Prop where
 kind:sc.kind=.function
 co:sc.isCoroutine=false
 gen:sc.isGenerator=false
 nd:N.Nodup
 pre:N.take P.length=P
 par:∀x∈P,sc.names.lookup x=some .local\/sc.names.lookup x=some .cell
 nofree:∀y∈sc.names,y.2≠.free
theorem Qa1{kindOf:Str->Option NameKind}{x:Str}:∀{binds:List (Str×Value)} {m:Str->Option Value},(∀v,(x,v)∉binds)->bindL kindOf binds m x=m x
 |[],_,_=>rfl
 | (n,v)::r,m,h=>by
  unfold bindL;rw[Qa1 λw hw=>h w (Xm _ hw)];split
  ·have:x≠n:=by rintro rfl;exact h v Xq
   simp[this]
  ·rfl
theorem Qa3{kindOf:Str->Option NameKind}{x:Str}:∀{binds:List (Str×Value)} {m:Str->Option Value},(∀v,(x,v)∉binds)->bindC kindOf binds m x=m x
 |[],_,_=>rfl
 | (n,v)::r,m,h=>by
  unfold bindC;rw[Qa3 λw hw=>h w (Xm _ hw)];split
  ·rfl
  ·have:x≠n:=by rintro rfl;exact h v Xq
   simp[this]
theorem Qa2{kindOf:Str->Option NameKind}{x:Str}{v:Value}:∀{P:List Str} {vs:List Value} {i:Nat} {m:Str->Option Value},P.Nodup->P[i]?=some x->vs[i]?=some v->kindOf x=some .local ->
  bindL kindOf (P.zip vs) m x=some v
 |[],_,_,_,_,h,_,_=>by simp at h
 |_::_,[],_,_,_,_,h,_=>by simp at h
 |p::P,w::vs,0,m,nd,h1,h2,hk=>by
  simp at h1 h2;subst h1;subst h2;show bindL kindOf ((p,w)::P.zip vs) m p=_;unfold bindL;rw[Qa1 λv hv=>(Vw.mp nd).1 (List.of_mem_zip hv).1,if_pos hk];simp
 |p::P,w::vs,i+1,m,nd,h1,h2,hk=>by
  show bindL kindOf ((p,w)::P.zip vs) m x=_;unfold bindL
  exact Qa2 (i:=i) (Vw.mp nd).2 (by simpa using h1) (by simpa using h2) hk
theorem Qa4{kindOf:Str->Option NameKind}{x:Str}{v:Value}:∀{P:List Str} {vs:List Value} {i:Nat} {m:Str->Option Value},P.Nodup->P[i]?=some x->vs[i]?=some v->kindOf x≠some .local ->
  bindC kindOf (P.zip vs) m x=some v
 |[],_,_,_,_,h,_,_=>by simp at h
 |_::_,[],_,_,_,_,h,_=>by simp at h
 |p::P,w::vs,0,m,nd,h1,h2,hk=>by
  simp at h1 h2;subst h1;subst h2;show bindC kindOf ((p,w)::P.zip vs) m p=_;unfold bindC;rw[Qa3 λv hv=>(Vw.mp nd).1 (List.of_mem_zip hv).1,if_neg hk];simp
 |p::P,w::vs,i+1,m,nd,h1,h2,hk=>by
  show bindC kindOf ((p,w)::P.zip vs) m x=_;unfold bindC
  exact Qa4 (i:=i) (Vw.mp nd).2 (by simpa using h1) (by simpa using h2) hk
noncomputable def start(N:List Str)(vs:List V):St:=vs.map some++List.replicate (N.length-vs.length) none
noncomputable def Qfb(CX:CXT)(P:Program)(w:World)(K:W.Frag)(mg:Str->Option Value)(base:Heap)(N:List Str)(qual:Str)(scope:Scope)(f:Addr)(cd:Value)(A:Around)(outer:List Env)(s:Shared)(H:Hp)(E:XK):Cx where
 prog:=P
 w:=w
 K:=K
 mg:=mg
 base:=base
 A:=A.deeper (envOfC qual scope s.heap.objs.size f cd)
 N:=N
 s₀:=s
 H₀:=H
 env:=envOfC qual scope s.heap.objs.size f cd
 outer:=outer
 stack:=envOfC qual scope s.heap.objs.size f cd::outer
 ex:=[]
 calm:=true
 fn:=λz=>true
 pn:=[]
 xe:=λe s'=>wpAny (model P w) (A.deeper (envOfC qual scope s.heap.objs.size f cd)) (leaving (envOfC qual scope s.heap.objs.size f cd) e) (λz s''=>CX outer H s E e s'') (λe' s''=>CX outer H s E e' s'') s'
def Qcx{sc:Scope}{n:Nat}(h:sc.names.lookup x=some .cell):∃c,(cellsFrom n sc.names []).lookup x=some c:=by
 have q:=W.cellsFrom_some sc.names n [] (.inl h);exact Ug.mp q
def QeI{CX:CXT}{K:W.Frag}{N:List Str}{qual:Str}{scope:Scope}{cd:Value}{outer:List Env}{s1:Shared}{E:XK}{us:List Value}{vs:List V}
  (S:FnScope N ps scope) (hd:A.handled=none) (e0:Env0 P w K mg base A outer s H) (hl:vs.length=ps.length) (r:Vals vs us)
  (x:InCallC s s.heap.objs.size (bindL (envOfC qual scope s.heap.objs.size f cd).kindOf (ps.zip us) λt=>none) (cellsFrom (s.heap.objs.size+1) scope.names []) (bindC (envOfC qual scope s.heap.objs.size f cd).kindOf (ps.zip us) λt=>none) s1):
  Inv (Qfb CX P w K mg base N qual scope f cd A outer s H E) [] (start N vs) H s1:=by
 have hpl:ps.length<=N.length:=by have:=congrArg List.length S.pre;rw[W7]at this;omega
 obtain⟨h1,tk,rfl,hk⟩:=x.done
 have noA:∀b:Addr,b∉(Qfb CX P w K mg base N qual scope f cd A outer s H E).ex:=λb z=>absurd (show b∈([]:List Addr)from z) (by simp)
 refine⟨⟨e0.mod,S.kind,rfl,rfl,Xi _,λy z c h1 h2=>?_,λy hy=>?_,λy c t h=>?_,λt=>hd,Around.frames_deeper e0.frames,.inr ⟨rfl,rfl⟩,λb z=>absurd z (noA b),e0.bs,e0.bsz,λb t t=>noA b,λb z=>absurd z (noA b),e0.funs,e0.frf⟩,
  rfl,e0.bare,Un.kept hk,⟨_,x.toInCall.ns,λi y v h1 h2 h3=>?_⟩,λy c h=>⟨_,x.cell y c h⟩,e0.hok.fresh (Xi _),λy c h=>?_,λp hp=>absurd (show p∈([]:List (Addr×Obj))from hp) (by simp),e0.hok.kept hk,?_⟩
 ·exact name_of_addr x.apart (Uk h1) (Uk h2)
 ·have hy:scope.names.lookup y=some .cell\/scope.names.lookup y=some .free:=hy
  rcases hy with hy|hy
  ·exact Qcx hy
  ·exact absurd rfl (S.nofree _ (Uk hy))
 ·exact Nat.le_of_lt (x.above y c (Uk h))
 ·have hi:i<vs.length:=by
   unfold start at h2;by_cases hi:i<vs.length
   ·exact hi
   ·rw[X7 (by simpa using hi)]at h2
    rw[Tj]at h2;split at h2<;>cases h2
  have ha:vs[i]?=some v:=by
   unfold start at h2
   rw[Xp (by simpa using hi),Wt]at h2
   cases e:vs[i]? with
   |none=>rw[e]at h2;cases h2
   |some a=>rw[e]at h2;cases h2;rfl
  obtain⟨u,hu,rv⟩:=r.get ha
  have hp:ps[i]?=some y:=by
   rw[<-S.pre,U9 (by omega)];exact h1
  have ndP:ps.Nodup:=by rw[<-S.pre];exact S.nd.sublist (List.take_sublist _ _)
  refine⟨u,rv,?_⟩
  rcases S.par y (Xv hp)with k|k
  ·exact .inl ⟨k,Qa2 ndP hp hu k⟩
  ·obtain⟨c,e⟩:=Qcx (n:=s.heap.objs.size+1) k;refine .inr ⟨.inl k,c,e,?_⟩;have q:=x.cell y c e
   rw[Qa4 ndP hp hu (by show scope.names.lookup y≠_;rw[k];decide)]at q
   exact q
 ·exact e0.hok.fresh (Nat.le_of_lt (x.above y c (Uk h)))
 ·unfold start;show _=N.length;rw[Xn,Wd,List.length_replicate];omega
def QmE{CX:CXT}{K:W.Frag}{k:Nat}{name qual:Str}{params:Arguments}{body:List Stmt}{scope:Scope}{dV kV doc pm cdv ct oc:Value}{an od:Option Addr}
  {osl:Array (Option Value)} {N:List Str} {sp:Sp} (lk:K.lookup f=some ⟨oc,od,.func (W.fnOf name qual params body scope dV kV doc pm an cdv ct),osl⟩) (hcd:W.codeIn K cdv qual=true) (S:FnScope N ps scope)
  (len:∀vs H Q E,sp vs H Q E->vs.length=ps.length)
  (hbody:∀(A:Around) (outer:List Env) (s:Shared) (H:Hp) (vs:List V) (Q:VK) (E:XK),Room k (A.deeper (envOfC qual scope s.heap.objs.size f cdv))->sp vs H Q E ->
   ∃t,PSs (Qfb CX P w K mg base N qual scope f cdv A outer s H E) body t/\t {nx:=λz H'=>Q .non H',rt:=Q} (start N vs) H):
  FnOk P w K mg base CX (k+1) f (W.fnOf name qual params body scope dV kV doc pm an cdv ct) ps sp:=by
 refine⟨len,λA outer s H args us vs Q E hr e0 hb r hsp=>?_⟩;have hl:=len _ _ _ _ hsp;have KX:K.In s.heap:=e0.mod.kin.keeps λb o e=>(e0.bs b o e).1;have lim:s.heap.NoLimit:=e0.mod.nolimit.keeps λb o e=>(e0.bs b o e).1
 have hkind:∀y∈ps.zip us,scope.names.lookup y.1=some .local\/(scope.names.lookup y.1=some .cell/\((cellsFrom (s.heap.objs.size+1) scope.names []).lookup y.1).isSome=true):=λp hy=>by
  obtain⟨n,v⟩:=p
  rcases S.par n (List.of_mem_zip hy).1 with q|q
  ·exact .inl q
  ·exact .inr ⟨q,W.cellsFrom_some _ _ _ (.inl q)⟩
 refine codeAny_call_function hr.depth (KX _ _ lk) rfl S.co S.gen rfl (W.codeRec_of KX hcd) (hb _ _ _ _ ?_);refine wpAny_newFunctionEnv_cells S.kind hkind λenv he s1 x=>?_;subst he;refine⟨lim.keeps x.toInCall.keep,codeAny_func ?_⟩;obtain⟨t,ht,hq⟩:=hbody A outer s H vs Q E (hr.deeper _) hsp;have I:Inv (Qfb CX P w K mg base N qual scope f cdv A outer s H E) [] (start N vs) H s1:=QeI S hr.hd e0 hl r x;refine X2 (ht [] s1 (start N vs) H _ I hq) (λfl s' hs=>?_) λe s' hs=>hs
 have fin:∀{Y':St} {H':Hp} {v:V} {u:Value},Inv (Qfb CX P w K mg base N qual scope f cdv A outer s H E) [] Y' H' s'->RelV v u->Q v H'->CE outer P w H s Q u s' :=
  λ{Y' H' v u} J rv q=>⟨v,H',J.os,J.bare,J.base,J.hok,rv,q⟩
 cases fl with
 |ret u=>
  obtain⟨v,Y',H',J,rv,q⟩:=hs;exact fin J rv q
 |next=>
  obtain⟨Y',H',J,q⟩:=hs;exact fin (v:=V.non) (u:=Value.none) J rfl q
 |brk=>
  obtain⟨_,_,_,q⟩:=hs;exact False.elim q
 |cont=>
  obtain⟨_,_,_,q⟩:=hs;exact False.elim q
end
section
section
variable {X:Cx}{x:Str}{p pos:Pos}{e:Expr}{es:List Expr}{t:TA}{id T:String}{r:List V->Hp->VK->Prop}
def tCB(r:List V->Hp->VK->Prop)(t:TA):TE:=λY H Q=>t Y H λvs H1=>r vs H1 Q
def ZZ(hc:CallR X (.builtin id) r)(hg:Gl X x)(hm:X.mg x=none)(hv:bootBuiltins x=some (.builtin id))(ha:PA X (e::es) t)(hn:x≠"__name__":=by decide)(hdb:(x==("__debug__":Str))=false:=by decide)
  (he:starEach (e::es) X.env=(false,eval e X.env)::starEach es X.env:=by rfl) (hpl:(backTo pos (starEach es X.env)).any (·.1)=false:=by rfl):PE X (.Call (.Name x p) (e::es) [] pos) (tCB r t):=by
 intro pins s Y H Q I h;refine Va (ZE I hg hm hv ?_ hn hdb);exact PyProof.Rows.callWith_builtin1 (thn (ha pos pins s Y H _ I h) λus s1 z=>by obtain⟨vs,H1,I1,r1,q1⟩:=z;exact hc pins s1 Y H1 vs us Q I1 r1 q1) he hpl
def YS(hc:CallR X (.type T) r)(hg:Gl X x)(hm:X.mg x=none)(hv:bootBuiltins x=some (.type T))(ha:PA X (e::es) t)(hn:x≠"__name__":=by decide)(hdb:(x==("__debug__":Str))=false:=by decide)
  (he:starEach (e::es) X.env=(false,eval e X.env)::starEach es X.env:=by rfl) (hpl:(backTo pos (starEach es X.env)).any (·.1)=false:=by rfl):PE X (.Call (.Name x p) (e::es) [] pos) (tCB r t):=by
 intro pins s Y H Q I h;refine Va (ZE I hg hm hv ?_ hn hdb);exact Wu (thn (ha pos pins s Y H _ I h) λus s1 z=>by obtain⟨vs,H1,I1,r1,q1⟩:=z;exact hc pins s1 Y H1 vs us Q I1 r1 q1) he hpl
end
end
end L2
namespace HT
open PySem PyProof.Rows
section
open PySem.SeqAt
open PySem.AutoSeq1 (wpAny_loadPart')
open PySem.MeetsSeq PySem.MeetsSeq2 PySem.MeetsSeq3
end
section
noncomputable def sIx(n d:Nat):Option Int->Nat
 |none=>d
 |some v=>if v<0 then(v+(n:Int)).toNat else min v.toNat n
end
end HT
namespace L2
open PySem PySem.Spec PyProof.Rows
section
abbrev TO:=St->Hp->(Option Int->Hp->Prop)->Prop
noncomputable def PO(X:Cx)(e:Option Expr)(t:TO):Prop :=
 ∀(pins:List (Addr×Obj)) (s:Shared) (Y:St) (H:Hp) (Q:Option Int->Hp->Prop),Inv X pins Y H s->t Y H Q ->
  wpAny (model X.prog X.w) X.A (evalPart e X.env) (λu s'=>∃o H',Inv X pins Y H' s'/\IsPart u o/\Q o H') X.xe s
def Qiu:TO:=λz H Q=>Q none H
def Qk4(t:TE):TO:=λY H Q=>t Y H λx H1=>∃i,x=.int i/\Q (some i) H1
def QcZ{ns:List Int}:∀{us:List Value},Vals (ns.map V.int) us->IntsAre us ns:=by
 induction ns with
 |nil=>intro us r;rw[V7]at r;cases r;exact .nil
 |cons n ns ih=>
  intro us r;rw[Xu]at r
  cases r with
  |cons r1 r2=>
   obtain⟨t,e⟩:=r1;subst e;exact .cons n t (ih r2)
section
variable {X:Cx}{e:Expr}{te:TE}{lo hi:Option Expr}{tl th:TO}{pos p2:Pos}
def Qi7:PO X none Qiu:=by
 intro pins s Y H Q I h;rw[evalPart_none];exact Xj ⟨none,H,I,.none,h⟩
def Qd8(h:PE X e te):PO X (some e) (Qk4 te):=by
 intro pins s Y H Q I hw;rw[evalPart_some];refine thn (h pins s Y H _ I hw) λu s1 z=>?_;obtain⟨x,H1,I1,r1,q1⟩:=z;obtain⟨i,rfl,q⟩:=q1;obtain⟨t,rfl⟩:=r1;exact⟨some i,H1,I1,.int i t,q⟩
noncomputable def SlR(X:Cx)(r:V->Option Int->Option Int->Hp->VK->Prop):Prop :=
 ∀(pins:List (Addr×Obj)) (s:Shared) (Y:St) (H:Hp) (x:V) (v vl vu:Value) (lo hi:Option Int) (sl:Addr) (Q:VK),Inv X pins Y H s->RelV x v->s.heap.IsSliceOf sl vl vu .none->IsPart vl lo->IsPart vu hi->r x lo hi H Q ->
  ∃T id,typeLookup (.type T) "__getitem__"=pure (some (.builtin id))/\s.TypeIs v T/\wpAny (model X.prog X.w) X.A (getItem v (.ref sl)) (EP X pins Y Q) X.xe s
def tSl(r:V->Option Int->Option Int->Hp->VK->Prop)(te:TE)(tl th:TO):TE:=λY H Q=>te Y H λx H1=>tl Y H1 λl H2=>th Y H2 λu H3=>r x l u H3 Q
def Qgo{r:V->Option Int->Option Int->Hp->VK->Prop}(hr:SlR X r)(he:PE X e te)(hl:PO X lo tl)(hu:PO X hi th):PE X (.Subscript e (.Slice lo hi none p2) pos) (tSl r te tl th):=by
 intro pins s Y H Q I h;refine Subscript_ (thn (he pins s Y H _ I h) λv s1 z=>?_);obtain⟨x,H1,I1,r1,q1⟩:=z;refine wpAny_Slice (thn (hl pins s1 Y H1 _ I1 q1) λvl s2 ⟨l,H2,I2,pl,q2⟩=>thn (hu pins s2 Y H2 _ I2 q2) λvu s3 y=>?_);obtain⟨u,H3,I3,pu,q3⟩:=y;rw[evalPart_none];refine Xj ?_;have I4:Inv X pins Y H3 {s3 with heap:=s3.heap.push {cls:=.type "slice",data:=.fields #[vl,vu,.none]} }:=I3.kept (t':=s3.toks) λb ob q=>Xg _ q;obtain⟨T,id,hT,ht,hg⟩:=hr pins {s3 with heap:=s3.heap.push {cls:=.type "slice",data:=.fields #[vl,vu,.none]} } Y H3 x v vl vu l u s3.heap.objs.size Q I4 r1 (Heap.IsSliceOf.new ..) pl pu q3;show wpAny (model X.prog X.w) X.A (subscriptTail e (.Slice lo hi none p2) v (.ref s3.heap.objs.size)) (EP X pins Y Q) X.xe {s3 with heap:=s3.heap.push {cls:=.type "slice",data:=.fields #[vl,vu,.none]} }
 exact tail_any (ops:=[.ref s3.heap.objs.size,v]) ht hT hg (by with_unfolding_all rfl)
noncomputable def Qky(xs:List V)(lo hi:Option Int):List V:=(xs.drop (HT.sIx xs.length 0 lo)).take (HT.sIx xs.length xs.length hi-HT.sIx xs.length 0 lo)
def QbJ(xs:List V)(lo hi:Option Int):(Qky xs lo hi).length<=xs.length:=by
 unfold Qky;rw[W7,Uz];omega
end
end
section
noncomputable def ixN(n:Nat)(i:Int):Option Nat:=if 0<=i then(if i<n then some i.toNat else none)else if -(n:Int)<=i then some (i+n).toNat else none
noncomputable def atI{α:Type}(xs:List α)(i:Int):Option α:=(ixN xs.length i).bind λj=>xs[j]?
def QjG{n:Nat}{i:Int}{j:Nat}(h:ixN n i=some j):seqIndex? i n=some j/\j<n/\-(n:Int)<=i/\i<n:=by
 unfold ixN at h;by_cases h0:0<=i
 ·rw[if_pos h0]at h;by_cases h1:i<n
  ·rw[if_pos h1]at h;have e:i.toNat=j:=X3 h
   exact⟨by rw[seqIndex_of h0 h1,e],by omega,by omega,h1⟩
  ·rw[if_neg h1]at h;cases h
 ·rw[if_neg h0]at h;by_cases h1:-(n:Int)<=i
  ·rw[if_pos h1]at h;have e:(i+n).toNat=j:=X3 h
   exact⟨by rw[seqIndex_neg (by omega) h1,e],by omega,h1,by omega⟩
  ·rw[if_neg h1]at h;cases h
def QbN{α:Type}{xs:List α}{i:Int}{v:α}(h:atI xs i=some v):∃j,seqIndex? i xs.length=some j/\xs[j]?=some v/\j<xs.length/\-(xs.length:Int)<=i/\i<xs.length:=by
 unfold atI at h
 cases e:ixN xs.length i with
 |none=>rw[e]at h;cases h
 |some j=>
  rw[e]at h;obtain⟨h1,h2,h3,h4⟩:=QjG e;exact⟨j,h1,h,h2,h3,h4⟩
def QfE(b:Expr):Prop:=∀o i,subscripted b false o i=operate [o,i] (getItem o i)
noncomputable def IxR(X:Cx)(r:R2):Prop :=
 ∀(value slice:Expr) (pins:List (Addr×Obj)) (s:Shared) (Y:St) (H:Hp) (x y:V) (v u:Value) (Q:VK),Inv X pins Y H s->RelV x v->RelV y u->r x y H Q ->
  subscripted slice false v u=operate [v,u] (getItem v u)->wpAny (model X.prog X.w) X.A (subscriptTail value slice v u) (EP X pins Y Q) X.xe s
noncomputable def MtR(X:Cx)(id:String)(r:V->List V->Hp->VK->Prop):Prop :=
 ∀(pins:List (Addr×Obj)) (s:Shared) (Y:St) (H:Hp) (x:V) (xs:List V) (v:Value) (us:List Value) (Q:VK),Inv X pins Y H s->RelV x v->Vals xs us->r x xs H Q ->
  wpAny (model X.prog X.w) X.A (call (.builtin id) (v::us)) (EP X pins Y Q) X.xe s
section
variable {X:Cx}{a b:Expr}{ta tb:TE}{pos:Pos}
def IxR.or{r r':R2}(h:IxR X r)(h':IxR X r'):IxR X (λx y H Q=>r x y H Q\/r' x y H Q):=by
 intro value slice pins s Y H x y v u Q I rx ry q hs
 rcases q with q|q
 ·exact h value slice pins s Y H x y v u Q I rx ry q hs
 ·exact h' value slice pins s Y H x y v u Q I rx ry q hs
def Qor{r:R2}(hr:IxR X r)(ha:PE X a ta)(hb:PE X b tb)(hs:QfE b):PE X (.Subscript a b pos) (tOp r ta tb):=by
 intro pins s Y H Q I h;exact Subscript_ (Qpt ha hb I h λv u s2 x y H2 I2 rx ry q=>hr a b pins s2 Y H2 x y v u Q I2 rx ry q (hs _ _))
def Qqg(K:W.Frag):R2:=λx y H Q=>∃p xs i v,x=.ref p/\y=.int i/\SqL K H p xs/\atI xs i=some v/\Q v H
def Qqe(K:W.Frag):R2:=λx y H Q=>∃p xs i v,x=.ref p/\y=.int i/\SqT K H p xs/\atI xs i=some v/\Q v H
def Qqf:R2:=λx y H Q=>∃z i c,x=.str z/\y=.int i/\z.length<=sizeLine/\atI z.cps.toList i=some c/\Q (.str ⟨#[c]⟩) H
def ix_list:IxR X (Qqg X.K):=by
 intro value slice pins s Y H x y v u Q I rx ry h hs;obtain⟨p,xs,i,z,rfl,rfl,hq,he,q⟩:=h;cases rx;obtain⟨t,rfl⟩:=ry;obtain⟨its,r,pl,hz⟩:=I.list hq;obtain⟨j,h1,h2,h3,h4,h5⟩:=QbN he;obtain⟨w,ew,rw'⟩:=r.get h2;have hl:=r.length;have hn:=Ju;have fin:EP X pins Y Q w s:=⟨z,H,I,rw',q⟩;by_cases h0:0<=i
 ·have hj:i.toNat=j:=by
   rw[seqIndex_of h0 h5]at h1;exact X3 h1
  exact item_listR pl.isList h0 (by omega) (by rw[hj];simpa using ew) fin hs
 ·have hj:(i+(its.toArray.size:Int)).toNat=j:=by
   rw[seqIndex_neg (by omega) h4]at h1
   rw[Xw,<-hl];exact X3 h1
  exact subscriptTail_builtinR (x:=w) pl.isList.typeIs slot_list_getitem.lookup
   (wpAny_getItem_list_neg (Q:=λr s'=>r=w/\EP X pins Y Q r s') pl.isList (by omega) (by rw[Xw]<;>omega) (by omega) (by rw[hj];simpa using ew) ⟨rfl,fin⟩) hs
def ix_tup:IxR X (Qqe X.K):=by
 intro value slice pins s Y H x y v u Q I rx ry h hs;obtain⟨p,xs,i,z,rfl,rfl,hq,he,q⟩:=h;cases rx;obtain⟨t,rfl⟩:=ry;obtain⟨its,r,pl,hz⟩:=I.tuple hq;obtain⟨j,h1,h2,h3,h4,h5⟩:=QbN he;obtain⟨w,ew,rw'⟩:=r.get h2;have hl:=r.length;have hn:=Ju;have fin:EP X pins Y Q w s:=⟨z,H,I,rw',q⟩
 exact subscriptTail_builtinR (x:=w) pl.typeIs slot_tuple_getitem.lookup
  (getItem_tuple (j:=j) (Q:=λr s'=>r=w/\EP X pins Y Q r s') pl (by omega) (by omega) (by rw[Xw,<-hl];exact h1) (by simpa using ew) ⟨rfl,fin⟩) hs
def Qmu:IxR X Qqf:=by
 intro value slice pins s Y H x y v u Q I rx ry h hs;obtain⟨z,i,c,rfl,rfl,hz,he,q⟩:=h;obtain⟨t,rfl⟩:=rx;obtain⟨t',rfl⟩:=ry;obtain⟨j,h1,h2,h3,h4,h5⟩:=QbN he
 have hl:z.cps.toList.length=z.length:=by simp[Str.length]
 rw[hl]at h1 h4 h5;have hn:=Ju
 exact tail_any (typeIs_str s z t) slot_str_getitem.lookup (getItem_str (c:=c) (by
  have e1:decide (i < -(2 ^ 63:Int))=false:=Wa (by omega)
  have e2:decide (i≥2 ^ 63)=false:=Wa (by omega)
  rw[e1,e2,Bool.or_false]) (by rw[h1];simpa using h2) ⟨.str ⟨#[c]⟩,H,I.tok _,⟨_,rfl⟩,q⟩) hs
def rIx(K:W.Frag):R2:=λx y H Q=>Qqg K x y H Q\/Qqe K x y H Q\/Qqf x y H Q
def ix_seq:IxR X (rIx X.K):=ix_list.or (ix_tup.or Qmu)
def Qau(lo hi:Option Int)(n:Nat):(sliceBounds lo hi none n).1=((HT.sIx n 0 lo:Nat):Int)/\(sliceBounds lo hi none n).2.1=((HT.sIx n n hi:Nat):Int)/\(sliceBounds lo hi none n).2.2=1:=by
 refine⟨?_,?_,rfl⟩
 ·cases lo with
  |none=>simp[sliceBounds,HT.sIx]
  |some i=>
   simp only[sliceBounds,HT.sIx,Option.getD_none,show(1:Int) > 0 by decide,We]
   by_cases h:i<0
   ·simp only[h,We]<;>omega
   ·simp only[h,Wv]<;>omega
 ·cases hi with
  |none=>simp[sliceBounds,HT.sIx]
  |some i=>
   simp only[sliceBounds,HT.sIx,Option.getD_none,show(1:Int) > 0 by decide,We]
   by_cases h:i<0
   ·simp only[h,We]<;>omega
   ·simp only[h,Wv]<;>omega
def JP(its:List Value)(lo hi:Option Int):slicePick its.toArray lo hi none=((its.drop (HT.sIx its.length 0 lo)).take (HT.sIx its.length its.length hi-HT.sIx its.length 0 lo)).toArray:=by
 obtain⟨h1,h2,h3⟩:=Qau lo hi its.toArray.size;unfold slicePick;rw[h1,h2,h3];simp only[sliceRange_one,pick_run,Xw]<;>rfl
def Qqc(K:W.Frag):V->Option Int->Option Int->Hp->VK->Prop:=λx lo hi H Q=>∃a xs,x=.ref a/\SqL K H a xs/\∀p,H p=none->Q (.ref p) (upd H p (.lst (Qky xs lo hi)))
def QiE:SlR X (Qqc X.K):=by
 intro pins s Y H x v vl vu lo hi sl Q I rx hs pl pu h;obtain⟨a,xs,rfl,hx,q⟩:=h;cases rx;obtain⟨its,r,ht,hz⟩:=I.list hx;have hlen:=r.length;refine⟨"list",_,slot_list_getitem.lookup,ht.isList.typeIs,?_⟩
 refine wpAny_getItem_list_slice ht.isList hs pl pu .none (by simp) ?_ (by rw[Xw]<;>omega)
 rw[JP,<-hlen];refine⟨.ref s.heap.objs.size,_,I.laid (t':=s.toks) (o:=.lst (Qky xs lo hi)) (λb ob q=>Xg _ q) (Xi _) ?_,rfl,q _ (I.hok.fresh (Xi _))⟩;exact⟨Wf (QbJ xs lo hi) hz,_,0,(r.drop (HT.sIx xs.length 0 lo)).take (HT.sIx xs.length xs.length hi-HT.sIx xs.length 0 lo),Xy _ rfl⟩
def QaX:CallR X (.builtin "len") (λxs H Q=>∃p ys,xs=[.ref p]/\(SqL X.K H p ys\/SqT X.K H p ys)/\Q (.int ys.length) H):= by
 intro pins s Y H xs us Q I r h;obtain⟨p,ys,rfl,hq,q⟩:=h;obtain⟨u,rfl,rx⟩:=Jc r;cases rx;have hn:=Ju
 rcases hq with hq|hq
 ·obtain⟨its,r',pl,hz⟩:=I.list hq;have hlen:=r'.length
  exact Calls.call_len_list pl.isList (by simp only[Xw]<;>omega) ⟨.int ys.length,H,I.tok _,⟨s.toks+1,by rw[Xw,hlen]⟩,q⟩
 ·obtain⟨its,r',pl,hz⟩:=I.tuple hq;have hlen:=r'.length
  exact len_tuple pl (by simp only[Xw]<;>omega) ⟨.int ys.length,H,I.tok _,⟨s.toks+1,by rw[Xw,hlen]⟩,q⟩
def QaW:CallR X (.builtin "len") (λxs H Q=>∃z,xs=[.str z]/\z.length<=sizeLine/\Q (.int z.length) H):= by
 intro pins s Y H xs us Q I r h;obtain⟨z,rfl,hz,q⟩:=h;obtain⟨u,rfl,t,rfl⟩:=Jc r;have hn:=Ju
 exact len_str (by omega) ⟨.int z.length,H,I.tok _,⟨_,rfl⟩,q⟩
def CallR.or{f:Value}{r r':List V->Hp->VK->Prop}(h:CallR X f r)(h':CallR X f r'):CallR X f (λxs H Q=>r xs H Q\/r' xs H Q):=by
 intro pins s Y H xs us Q I rs q
 rcases q with q|q
 ·exact h pins s Y H xs us Q I rs q
 ·exact h' pins s Y H xs us Q I rs q
def QaV:CallR X (.type "list") (λxs H Q=>∃p ys,xs=[.ref p]/\(SqL X.K H p ys\/SqT X.K H p ys)/\∀l,H l=none->Q (.ref l) (upd H l (.lst ys))):= by
 intro pins s Y H xs us Q I r h;obtain⟨p,ys,rfl,hq,q⟩:=h;obtain⟨u,rfl,rx⟩:=Jc r;cases rx
 have fin:∀(its:List Value),Vals ys its->ys.length<=sizeLine->∀(h':Heap) (c':Nat),(∀b o',s.heap.get? b=some o'->h'.get? b=some o') ->
   h'.get? s.heap.objs.size=some {cls:=.type "list",dict:=none,data:=.seq its.toArray c',slots:=#[]}->EP X pins Y Q (.ref s.heap.objs.size) {s with heap:=h'}:=λits r' hz h' c' kp e=>
  ⟨.ref s.heap.objs.size,_,I.laid (t':=s.toks) kp (Xi _) (show ObjOk X.prog X.w _ h' _ (.lst ys)from⟨hz,its,c',r',e⟩),rfl,q _ (I.hok.fresh (Xi _))⟩
 rcases hq with hq|hq
 ·obtain⟨its,r',pl,hz⟩:=I.list hq;have hlen:=r'.length;obtain⟨o,ho,hc,n,hd⟩:=pl.isList
  exact call_list_seq p (.inl rfl) ho hc hd (λh' c' kp e=>fin its r' hz h' c' kp e) (by simp only[Xw]<;>omega)
 ·obtain⟨its,r',pl,hz⟩:=I.tuple hq;have hlen:=r'.length;obtain⟨o,ho,hc,n,hd⟩:=pl
  exact call_list_seq p (.inr rfl) ho hc hd (λh' c' kp e=>fin its r' hz h' c' kp e) (by simp only[Xw]<;>omega)
def Qai:CallR X (.type "tuple") (λxs H Q=>∃p ys,xs=[.ref p]/\((SqL X.K H p ys/\∀l,H l=none->Q (.ref l) (upd H l (.tup ys)))\/(SqT X.K H p ys/\Q (.ref p) H))):= by
 intro pins s Y H xs us Q I r h;obtain⟨p,ys,rfl,h⟩:=h;obtain⟨u,rfl,rx⟩:=Jc r;cases rx
 rcases h with⟨hq,q⟩|⟨hq,q⟩
 ·obtain⟨its,r',pl,hz⟩:=I.list hq;have hlen:=r'.length
  refine call_tuple_list pl.isList (λh' kp=>?_) (by simp only[Xw]<;>omega)
  have I1:Inv X pins Y H {s with heap:=h'}:=I.kept (t':=s.toks) kp
  have I2:Inv X pins Y (upd H h'.objs.size (.tup ys)) {s with heap:=h'.push {cls:=.type "tuple",data:=.seq its.toArray} }:=
   I1.laid (t':=s.toks) (λb o e=>Xg _ e) (Xi _) (show ObjOk X.prog X.w _ _ _ (.tup ys)from⟨hz,its,r',IsTup.new _ _⟩)
  exact⟨.ref h'.objs.size,_,I2,rfl,q _ (I1.hok.fresh (Xi _))⟩
 ·obtain⟨its,r',pl,hz⟩:=I.tuple hq;exact call_tuple_same pl ⟨.ref p,H,I,rfl,q⟩
def tyV(K:W.Frag)(T:String)(x:V)(H:Hp):Prop:=match x with
 |.str _=>T="str"
 |.int _=>T="int"
 |.ref p=>(T="list"/\∃xs,SqL K H p xs)\/(T="tuple"/\∃o,K.lookup p=some o/\o.cls=.type "tuple"/\o.dict=none) \/
   (T="dict"/\((∃kvs,H p=some (.dK kvs))\/∃kvs,H p=some (.dT kvs)))\/(T="set"/\∃S n,H p=some (.set S n))
 |_=>False
def Qhv{pins:List (Addr×Obj)}{Y:St}{H:Hp}{s:Shared}{T:String}{x:V}{v:Value}(I:Inv X pins Y H s)(r:RelV x v)(ty:tyV X.K T x H):
  s.TypeIs v T/\∀a,v=.ref a->∃ob,s.heap.get? a=some ob/\ob.dict=none:=by
 cases x with
 |str z=>
  obtain⟨t,rfl⟩:=r;cases(show T="str" from ty);exact⟨typeIs_str s z t,λy e=>nomatch e⟩
 |int i=>
  obtain⟨t,rfl⟩:=r;cases(show T="int" from ty);exact⟨typeIs_int s i t,λy e=>nomatch e⟩
 |ref p=>
  cases r
  rcases ty with⟨rfl,xs,hq⟩|⟨rfl,o,hk,hc,hd⟩|⟨rfl,hk⟩|⟨rfl,S,n,hk⟩
  ·obtain⟨its,_,pl,_⟩:=I.list hq;refine⟨pl.isList.typeIs,λa e=>?_⟩;cases e;obtain⟨o,n,e,c,hd,_⟩:=pl;exact⟨o,e,hd⟩
  ·refine⟨⟨o,I.kIn p o hk,hc⟩,λa e=>?_⟩;cases e;exact⟨o,I.kIn _ o hk,hd⟩
  ·have z:∃o,s.heap.get? p=some o/\o.ExactDict:=by
    rcases hk with⟨kvs,hk⟩|⟨kvs,hk⟩
    ·obtain⟨_,_,_,_,o,_,_,e,ex,_⟩:=I.hok p _ hk;exact⟨o,e,ex⟩
    ·obtain⟨_,_,_,_,o,_,_,e,ex,_⟩:=I.hok p _ hk;exact⟨o,e,ex⟩
   obtain⟨o,e,ex⟩:=z;refine⟨⟨o,e,ex.1⟩,λa e2=>?_⟩;cases e2;exact⟨o,e,ex.2.1⟩
  ·obtain⟨o,_,_,_,e,ex,_⟩:=I.hok p _ hk;refine⟨⟨o,e,ex.1⟩,λa e2=>?_⟩;cases e2;exact⟨o,e,ex.2.1⟩
 |_=>exact False.elim ty
def QqV(K:W.Frag)(T:String)(r:V->List V->Hp->VK->Prop)(to:TE):TE:=λY H Q=>to Y H λx H1=>tyV K T x H1/\r x [] H1 Q
def tBM(K:W.Frag)(T:String)(r:V->List V->Hp->VK->Prop)(to:TE)(t:TA):TE:=λY H Q=>to Y H λx H1=>tyV K T x H1/\t Y H1 λxs H2=>r x xs H2 Q
variable {o e:Expr}{es:List Expr}{to:TE}{t:TA}{name:Str}{apos cpos:Pos}{T id:String}{r:V->List V->Hp->VK->Prop}
def QlS(pa:PlainAttrs T)(slot:Slot T name id)(hty:typeOf (.builtin id)=pure (.type "method_descriptor"))(hm:MtR X id r)(ho:PE X o to)
  (hbase:attributeBase o name X.env (eval o X.env)=eval o X.env:=by rfl) (hline:(apos.endLine==cpos.line)=true:=by rfl):PE X (.Call (.Attribute o name apos) [] [] cpos) (QqV X.K T r to):=by
 intro pins s Y H Q I h;refine wpAny_Call_method0_late hbase hline (thn (ho pins s Y H _ I h) λv s1 z=>?_);obtain⟨x,H1,I1,r1,ty,q1⟩:=z;obtain⟨h1,h2⟩:=Qhv I1 r1 ty;exact⟨T,id,pa,slot,hty,h1,h2,Calls.callWith_builtin rfl (PySem.evalArgs_none (hm pins s1 Y H1 x [] v [] Q I1 r1 .nil q1))⟩
def Qos(pa:PlainAttrs T)(slot:Slot T name id)(hty:typeOf (.builtin id)=pure (.type "method_descriptor"))(hm:MtR X id r)(ho:PE X o to)(ha:PA X (e::es) t)
  (hbase:attributeBase o name X.env (eval o X.env)=eval o X.env:=by rfl)
  (hfew:((backTo cpos (starEach (e::es) X.env)).all (λx=>!x.1)&&(backToKw cpos (keywordEach [] X.env)).all (λx=>x.1.isSome)
   && decide ((e::es).length+([]:List Keyword).length+(if([]:List Keyword).isEmpty then 0 else 1) < 30))=true:=by rfl)
  (hline:(apos.endLine==cpos.line)=true:=by rfl) (hs:starEach (e::es) X.env=(false,eval e X.env)::starEach es X.env:=by rfl) (hplain:(backTo cpos (starEach es X.env)).any (·.1)=false:=by rfl):
  PE X (.Call (.Attribute o name apos) (e::es) [] cpos) (tBM X.K T r to t):=by
 intro pins s Y H Q I h;refine wpAny_Call_method_late hbase hfew hline rfl (thn (ho pins s Y H _ I h) λv s1 z=>?_);obtain⟨x,H1,I1,r1,ty,q1⟩:=z;obtain⟨h1,h2⟩:=Qhv I1 r1 ty;refine⟨T,id,pa,slot,hty,h1,h2,?_⟩;have hA:=ha cpos pins s1 Y H1 _ I1 q1;rw[hs]at hA ⊢
 refine Calls.callWith_builtin (by show(false||(backTo cpos (starEach es X.env)).any (·.1))=false;rw[hplain]<;>rfl) (Calls.evalArgs_plain ?_)
 exact thn hA λus s2 y=>by obtain⟨vs,H2,I2,r2,q2⟩:=y;exact hm pins s2 Y H2 x vs v us Q I2 r1 r2 q2
end
end
section
variable {X:Cx}{us:List Value}
noncomputable def MtM(X:Cx)(id:String)(r:V->List V->Hp->VK->Prop):Prop :=
 ∀(pins:List (Addr×Obj)) (s:Shared) (Y:St) (H:Hp) (x:V) (xs:List V) (v:Value) (us:List Value) (Q:VK),Inv X pins Y H s->RelV x v->Vals xs us->r x xs H Q ->
  wpAny (model X.prog X.w) X.A (call (.builtin id) (v::us)) (EP X pins Y Q) X.xe s
def Vals.one{x:V}(h:Vals [x] us):∃u,us=[u]/\RelV x u:=by
 cases h with
 |cons r t=>cases t;exact⟨_,rfl,r⟩
def Vals.two{x y:V}(h:Vals [x,y] us):∃u v,us=[u,v]/\RelV x u/\RelV y v:=by
 cases h with
 |cons r t=>obtain⟨v,rfl,q⟩:=Vals.one t;exact⟨_,_,rfl,r,q⟩
theorem Vals.reverse{xs:List V}(h:Vals xs us):Vals xs.reverse us.reverse:=by
 induction h with
 |nil=>exact .nil
 |cons r t ih=>rw[Tp,Tp];exact Vals.append ih (.cons r .nil)
section
variable {pins:List (Addr×Obj)}{Y:St}{H:Hp}{s:Shared}{l:Addr}{xs ys:List V}
def Inv.lset{its its':List Value}{n:Nat}{f:Array Value->Array Value}{t':Nat}(I:Inv X pins Y H s)(hH:H l=some (.lst xs))
  (e:s.heap.get? l=some {cls:=.type "list",data:=.seq its.toArray n}) (hf:f its.toArray=its'.toArray) (hv:Vals ys its') (hz:ys.length<=sizeLine):
  Inv X pins Y (upd H l (.lst ys)) {s with heap:=s.heap.update l (Obj.mapSeq f),toks:=t'}:=by
 have q:=PySem.IsL.update e f;rw[hf]at q
 refine I.write (x:=l) (e:=l) (by rw[hH];exact trivial) (.inl rfl) (λb' u hb hu=>(Vc s.heap (Obj.mapSeq f) (Wq hb)).trans hu) ⟨_,q⟩ ?_
 exact⟨hz,its',_,hv,q⟩
def Inv.lnew{its:List Value}{t':Nat}(I:Inv X pins Y H s)(hv:Vals ys its)(hz:ys.length<=sizeLine):
  Inv X pins Y (upd H s.heap.objs.size (.lst ys)) {s with heap:=s.heap.push {cls:=.type "list",data:=.seq its.toArray},toks:=t'}:=
 I.laid (λz z q=>Xg _ q) (Xi _) ⟨hz,its,0,hv,Xy _ rfl⟩
theorem Inv.fresh(I:Inv X pins Y H s):H s.heap.objs.size=none:=I.hok.fresh (Xi _)
def Inv.lstM(I:Inv X pins Y H s)(hH:H l=some (.lst xs)): xs.length<=sizeLine/\∃(its:List Value) (n:Nat),Vals xs its/\xs.length=its.length/\s.heap.get? l=some {cls:=.type "list",data:=.seq its.toArray n}:= by
 obtain⟨z,its,n,r,e⟩:=I.hok l _ hH;exact⟨z,its,n,r,r.length,e⟩
def Qgx{n:Nat}(h:n<=sizeLine):Builtin.List.listTooLong n=false:=by
 unfold Builtin.List.listTooLong
 exact Wa (by omega)
end
section

def QiT:V->List V->Hp->VK->Prop:=λx vs H Q=>∃l xs y,x=.ref l/\vs=[y]/\H l=some (.lst xs)/\xs.length<sizeLine/\Q .non (upd H l (.lst (xs++[y])))
def QaE:MtM X "list.append" QiT:=by
 intro pins s Y H x vs v us Q I rx rv h;obtain⟨l,xs,y,rfl,rfl,hH,hz,q⟩:=h;cases rx;obtain⟨u,rfl,ru⟩:=rv.one;obtain⟨z,its,n,r,hl,e⟩:=I.lstM hH
 refine call_meets F.slot_list_append ⟨_,e,rfl⟩ F.entry_list_append (F.args_list_append_2 _ _) (PySem.list_append l its.toArray n u (by rw[Xw];omega)) ⟨e,?_⟩
 refine⟨.non,_,I.lset (its':=its++[u]) hH e (by simp) (r.append (.cons ru .nil)) ?_,rfl,q⟩
 rw[Xn,Vn];omega
def QiS:V->List V->Hp->VK->Prop:=λx vs H Q=>∃l b xs zs,x=.ref l/\vs=[.ref b]/\H l=some (.lst xs)/\H b=some (.lst zs)/\xs.length+zs.length<=sizeLine/\Q .non (upd H l (.lst (xs++zs)))
def Qeo:MtM X "list.extend" QiS:=by
 intro pins s Y H x vs v us Q I rx rv h;obtain⟨l,b,xs,zs,rfl,rfl,hH,hB,hz,q⟩:=h;cases rx;obtain⟨u,rfl,ru⟩:=rv.one;cases ru;obtain⟨z,its,n,r,hl,e⟩:=I.lstM hH;obtain⟨z2,its2,n2,r2,hl2,e2⟩:=I.lstM hB
 have hsz:its.toArray.size+its2.toArray.size<=sizeLine:=by rw[Xw,Xw];omega
 have hlong:¬(!its.toArray.isEmpty&&Builtin.List.listTooLong (its.toArray.size+its2.toArray.size))=true:=by
  rw[Qgx hsz,Bool.and_false];exact Xz
 refine call_meets F.slot_list_extend ⟨_,e,rfl⟩ F.entry_list_extend (F.args_list_extend_2 _ _)
  (AutoSeq1.list_extend_list_list_0 l its.toArray n b its2.toArray n2 hlong (by rw[Xw];omega) (by omega)) ⟨e,e2,?_⟩
 refine⟨.non,_,I.lset (its':=its++its2) hH e (by simp) (r.append r2) ?_,rfl,q⟩
 rw[Xn];omega
def Qq4:R2:=λx y H Q=>∃l b xs zs,x=.ref l/\y=.ref b/\H l=some (.lst xs)/\H b=some (.lst zs)/\xs.length+zs.length<=sizeLine/\∀p,H p=none->Q (.ref p) (upd H p (.lst (xs++zs)))
def Ql5:OpR X (binaryOp .Add) Qq4:=by
 intro pins s Y H x y v u Q I rx ry h;obtain⟨l,b,xs,zs,rfl,rfl,hH,hB,hz,q⟩:=h;cases rx;cases ry;obtain⟨z,its,n,r,hl,e⟩:=I.lstM hH;obtain⟨z2,its2,n2,r2,hl2,e2⟩:=I.lstM hB
 refine PySem.P.add_list e e2 ?_ (by rw[Xw,Xw];omega)
 have ea:its.toArray++its2.toArray=(its++its2).toArray:=by simp
 rw[ea]
 exact⟨.ref _,_,I.lnew (t':=s.toks) (r.append r2) (by rw[Xn];omega),rfl,q _ I.fresh⟩
end
section
set_option maxRecDepth 100000 in
end
section

end
end
section
variable {a:Addr}{A:Around}{X:Cx}{H H':Hp}{pins:List (Addr×Obj)}{xs:List (List Key×Addr×Value)}{kvs:List (List Key×V)}{o:Option V}{pos:Pos}{P:Program}{s:Shared}{Y:St}{y:V}{u:Value}{Q:Value->Shared->Prop}{w:World}
section
variable {κ:Type}[DecidableEq κ]
noncomputable def ZT(kvs:List (κ×V))(k:κ):Option V:=(kvs.find? λkv=>decide (kv.1=k)).map (·.2)
noncomputable def ZY(kvs:List (κ×V))(k:κ)(v:V):List (κ×V):=
 if(kvs.any λkv=>decide (kv.1=k))=true then kvs.map (λkv=>if kv.1=k then(kv.1,v)else kv)else kvs++[(k,v)]
def Yx{p:κ×V}{r:List (κ×V)}{k:κ}(e:p.1=k):ZT (p::r) k=some p.2:=by simp[ZT,Ve,e]
def Yy{p:κ×V}{r:List (κ×V)}{k:κ}(e:¬p.1=k):ZT (p::r) k=ZT r k:=by simp[ZT,Ve,e]
theorem JK(k:κ):∀kvs:List (κ×V),(kvs.any λkv=>decide (kv.1=k))=(ZT kvs k).isSome
 |[]=>rfl
 |p::r=>by
  rw[U3];by_cases e:p.1=k
  ·simp only[Yx e,W5 e,Bool.true_or,Option.isSome_some]
  ·rw[Yy e,Wa e,Bool.false_or];exact JK k r
def Q7(kvs:List (κ×V))(k:κ)(v:V):(ZY kvs k v).length<=kvs.length+1:=by
 unfold ZY;split
 ·rw[Wd];omega
 ·rw[Xn,X8,W6];omega
def Qge{kvs:List (κ×V)}{k:κ}(v:V)(h:ZT kvs k=none):ZY kvs k v=kvs++[(k,v)]:=by
 unfold ZY;rw[JK,h]
 exact if_neg (by decide)
def RelO.isSome_eq{u:Option Value}(r:RelO o u):o.isSome=u.isSome:=by
 cases o with
 |none=>cases u with
  |none=>rfl
  |some _=>exact(show False from r).elim
 |some _=>cases u with
  |none=>exact(show False from r).elim
  |some _=>rfl
theorem RelO.getD{u:Option Value}{d:V}{d':Value}(r:RelO o u)(rd:RelV d d'):RelV (o.getD d) (u.getD d'):=by
 cases o with
 |none=>cases u with
  |none=>exact rd
  |some _=>exact(show False from r).elim
 |some _=>cases u with
  |none=>exact(show False from r).elim
  |some _=>exact r
def KV.val{kvs:List (κ×V)}{vs:List (κ×Value)}(r:KV kvs vs)(k:κ):RelO (ZT kvs k) (valueAt vs k):=by
 unfold KV at r
 induction r with
 |nil=>exact True.intro
 | @cons p q ps qs h t ih=>
  obtain⟨h1,h2⟩:=h;by_cases e:p.1=k
  ·have e':q.1=k:=h1.symm.trans e
   have b:valueAt (q::qs) k=some q.2:=by simp[valueAt,Ve,e']
   rw[Yx e,b];exact h2
  ·have e':¬q.1=k:=λz=>e (h1.trans z)
   have b:valueAt (q::qs) k=valueAt qs k:=by simp[valueAt,Ve,e']
   rw[Yy e,b];exact ih
theorem KV.any{kvs:List (κ×V)}{vs:List (κ×Value)}(r:KV kvs vs)(k:κ):(kvs.any λkv=>decide (kv.1=k))=vs.any λkv=>decide (kv.1=k):=by
 unfold KV at r
 induction r with
 |nil=>rfl
 |cons h t ih=>rw[U3,U3,ih,h.1]
def KV.repl{kvs:List (κ×V)}{vs:List (κ×Value)}(r:KV kvs vs)(k:κ)(ry:RelV y u):
  KV (kvs.map λkv=>if kv.1=k then(kv.1,y)else kv) (vs.map λkv=>if kv.1=k then(kv.1,u)else kv):=by
 unfold KV at r ⊢
 induction r with
 |nil=>exact .nil
 | @cons p q ps qs h t ih=>
  rw[Xu,Xu];refine .cons ?_ ih;obtain⟨h1,h2⟩:=h;by_cases e:p.1=k
  ·rw[if_pos e,if_pos (h1.symm.trans e)];exact⟨h1,ry⟩
  ·rw[if_neg e,if_neg (λz=>e (h1.trans z))];exact⟨h1,h2⟩
def KV.put{kvs:List (κ×V)}{vs:List (κ×Value)}(r:KV kvs vs)(k:κ)(ry:RelV y u):KV (ZY kvs k y) (stored vs k u):=by
 unfold ZY stored;rw[r.any k];by_cases e:(vs.any λkv=>decide (kv.1=k))=true
 ·rw[if_pos e,if_pos e];exact r.repl k ry
 ·rw[if_neg e,if_neg e];exact Paired.snoc r ⟨rfl,ry⟩
theorem KV.length{kvs:List (κ×V)}{vs:List (κ×Value)}(r:KV kvs vs):kvs.length=vs.length:=Wn r
end
def QaJ{k:Key}(r:RelV (kV k) u):(Ql P w).is k u=true:=by
 cases k with
 |inl i=>obtain⟨t,e⟩:=(show ∃t,u=Value.int i t from r);subst e;exact Qbv P w i t
 |inr x=>obtain⟨t,e⟩:=(show ∃t,u=Value.str x t from r);subst e;exact Qbu P w x t
theorem QaK{P:Program}{w:World}:∀{ks:List Key} {us:List Value},Vals (ks.map kV) us->ItemsAre (Ql P w) ks us
 |[],_,r=>by rw[V7]at r;cases r;exact .nil
 |k::ks,_,r=>by
  rw[Xu]at r
  cases r with
  |cons h t=>exact .cons (QaJ h) (QaK t)
abbrev KT(H:Hp):List (List Key×V)->List (List Key×Addr×Value)->Prop:=Paired λp q=>p.1=q.1/\H q.2.1=some (.tup (p.1.map kV))/\RelV p.2 q.2.2
def KT.val(r:KT H kvs xs)(k:List Key):RelO (ZT kvs k) ((atKey xs k).map (·.2)):=by
 induction r with
 |nil=>exact True.intro
 | @cons p q ps qs h t ih=>
  obtain⟨h1,_,h2⟩:=h;by_cases e:p.1=k
  ·have e':q.1=k:=h1.symm.trans e
   have b:atKey (q::qs) k=some q.2:=by simp[atKey,Ve,e']
   rw[Yx e,b];exact h2
  ·have e':¬q.1=k:=λz=>e (h1.trans z)
   have b:atKey (q::qs) k=atKey qs k:=by simp[atKey,Ve,e']
   rw[Yy e,b];exact ih
def KT.repl(r:KT H kvs xs)(k:List Key)(ry:RelV y u):
  KT H (kvs.map λkv=>if kv.1=k then(kv.1,y)else kv) (xs.map (putAt k u)):=by
 induction r with
 |nil=>exact .nil
 | @cons p q ps qs h t ih=>
  rw[Xu,Xu];refine .cons ?_ ih;obtain⟨h1,h2,h3⟩:=h;unfold putAt;by_cases e:p.1=k
  ·rw[if_pos e,if_pos (h1.symm.trans e)];exact⟨h1,h2,ry⟩
  ·rw[if_neg e,if_neg (λz=>e (h1.trans z))];exact⟨h1,h2,h3⟩
def KT.put(r:KT H kvs xs)(k:List Key){b:Addr}(hb:H b=some (.tup (k.map kV)))(ry:RelV y u):
  KT H (ZY kvs k y) (storedH xs k b u):=by
 have e:(kvs.any λkv=>decide (kv.1=k))=(atKey xs k).isSome:=by
  rw[JK,(r.val k).isSome_eq,Tq]
 unfold ZY storedH;rw[e];by_cases q:(atKey xs k).isSome=true
 ·rw[if_pos q,if_pos q];exact r.repl k ry
 ·rw[if_neg q,if_neg q];exact Paired.snoc r ⟨rfl,hb,ry⟩
def KT.keeps(r:KT H kvs xs)(ht:∀b ys,H b=some (.tup ys)->H' b=some (.tup ys)):KT H' kvs xs :=
 Paired.mapP r λy y z=>⟨z.1,ht _ _ z.2.1,z.2.2⟩
section
variable {h:Heap}
def Qlu{u:HO}(ok:HOk P w H h)(e:Rd H a u):ObjOk P w H h a u:=e.ok ok
def Qc7{kvs:List (Key×V)}(ok:HOk P w H h)(e:Rd H a (.dK kvs)):kvs.length<=sizeLine/\(a==sysModules)=false/\∃vs,KV kvs vs/\h.DictOf (Ql P w) a vs :=
 show ObjOk P w H h a (.dK kvs)from Qlu ok e
def QbF{kvs:List (Key×V)}(ok:HOk P w H h)(e:H a=some (.dK kvs)):kvs.length<=sizeLine/\(a==sysModules)=false/\∃vs,KV kvs vs/\h.DictOf (Ql P w) a vs:=Qc7 ok (.inl e)
def YX{ks:List Key}(ok:HOk P w H h)(e:H a=some (.tup (ks.map kV))):(tupleKind (Ql P w)).is h ks a:=by
 obtain⟨_,its,r,o,h1,h2,n,h3⟩:=(show ObjOk P w H h a (.tup (ks.map kV))from ok a _ e)
 exact⟨o,its.toArray,n,h1,h2,h3,by simpa using QaK r⟩
def Qc6(ok:HOk P w H h)(e:Rd H a (.dT kvs)):kvs.length<=sizeLine/\(a==sysModules)=false /\
  ∃xs,KT H kvs xs/\h.DictOfH (tupleKind (Ql P w)) a xs:=by
 obtain⟨z,y,xs,r,o,es,ep,h1,h2,h3,h4,h5⟩:=(show ObjOk P w H h a (.dT kvs)from Qlu ok e);refine⟨z,y,xs,r,o,es,ep,h1,h2,h3,h4,λx hx=>?_,h5⟩
 have all:∀{l:List (List Key×V)} {m:List (List Key×Addr×Value)},KT H l m->∀x∈m,(tupleKind (Ql P w)).is h x.1 x.2.1:=by
  intro l m q
  induction q with
  |nil=>intro x hx;exact nomatch hx
  | @cons p q ps qs hq t ih=>
   intro x hx
   rcases X5.mp hx with e|hx
   ·subst e
    exact YX ok (by rw[<-hq.1];exact hq.2.1)
   ·exact ih x hx
 exact all r x hx
def Qo8(ok:HOk P w H h)(e:H a=some (.dT kvs)):kvs.length<=sizeLine/\(a==sysModules)=false /\
  ∃xs,KT H kvs xs/\h.DictOfH (tupleKind (Ql P w)) a xs:=Qc6 ok (.inl e)
end
noncomputable def DGet(H:Hp)(a:Addr)(y:V)(r:Option V):Prop :=
 (∃kvs k,Rd H a (.dK kvs)/\y=kV k/\r=ZT kvs k)\/∃kvs k b,Rd H a (.dT kvs)/\y=.ref b/\H b=some (.tup (k.map kV))/\r=ZT kvs k
noncomputable def DPut(H:Hp)(a:Addr)(y v:V)(H':Hp):Prop :=
 (∃kvs k,H a=some (.dK kvs)/\y=kV k/\kvs.length<sizeLine/\H'=upd H a (.dK (ZY kvs k v))) \/
 ∃kvs k b,H a=some (.dT kvs)/\y=.ref b/\H b=some (.tup (k.map kV))/\kvs.length<sizeLine/\H'=upd H a (.dT (ZY kvs k v))
theorem DGet.k{H:Hp}{a:Addr}{kvs:List (Key×V)}{k:Key}(e:H a=some (.dK kvs)):DGet H a (kV k) (ZT kvs k):=.inl ⟨kvs,k,.inl e,rfl,rfl⟩
def DGet.t{b:Addr}{k:List Key}(e:H a=some (.dT kvs))(eb:H b=some (.tup (k.map kV))):DGet H a (.ref b) (ZT kvs k):=.inr ⟨kvs,k,b,.inl e,rfl,eb,rfl⟩
theorem DPut.k{H:Hp}{a:Addr}{kvs:List (Key×V)}{k:Key}{v:V}(e:H a=some (.dK kvs))(hl:kvs.length<sizeLine):DPut H a (kV k) v (upd H a (.dK (ZY kvs k v))):=.inl ⟨kvs,k,e,rfl,hl,rfl⟩
def DPut.t{b:Addr}{k:List Key}{v:V}(e:H a=some (.dT kvs))(eb:H b=some (.tup (k.map kV)))(hl:kvs.length<sizeLine):
  DPut H a (.ref b) v (upd H a (.dT (ZY kvs k v))):=.inr ⟨kvs,k,b,e,rfl,eb,hl,rfl⟩
section
variable {v:V}{r:Value}{E:Value->Shared->Prop}
def Inv.big(I:Inv X pins Y H s):sysModules<s.heap.objs.size:=by
 have h:mainGlobals<s.heap.objs.size:=(I.mod.glob.keeps I.bk).lt
 exact Nat.lt_trans (by decide) h
def Qfa(hu:A.units+1<cLine)(I:Inv X pins Y H s)(g:DGet H a y (some v))(ry:RelV y u)(h:∀w' s',Inv X pins Y H s'->RelV v w'->Q w' s'):
  wpAny (model X.prog X.w) A (getItem (.ref a) u) Q E s:=by
 rcases g with⟨kvs,k,e,ey,l⟩|⟨kvs,k,b,e,ey,eb,l⟩
 ·subst ey;obtain⟨z,hd,vs,rel,dd⟩:=Qc7 I.hok e
  obtain⟨w',hw,rw'⟩:=RelO.some_of (v:=v) (o:=valueAt vs k) (by rw[l];exact rel.val k)
  exact wpAny_getItem_of (QaJ ry) dd.mapOf hw (h w' _ (I.tok _) rw')
 ·subst ey;cases(show u=Value.ref b from ry);obtain⟨z,hd,xs,rel,dd⟩:=Qc6 I.hok e
  obtain⟨w',hw,rw'⟩:=RelO.some_of (v:=v) (o:=(atKey xs k).map (·.2)) (by rw[l];exact rel.val k)
  obtain⟨p,hp,hp2⟩:=Xd.mp hw;refine wpAny_getItem_heap (Uo hu) (YX I.hok eb) dd hp ?_;rw[hp2];exact h w' _ (I.tok _) rw'
def QrB(hu:A.units+1<cLine)(I:Inv X pins Y H s)(g:DGet H a y o)(ry:RelV y u)(h:∀s',Inv X pins Y H s'->Q (.bool o.isSome) s'):
  wpAny (model X.prog X.w) A (compareOp .In u (.ref a)) Q E s:=by
 rcases g with⟨kvs,k,e,ey,l⟩|⟨kvs,k,b,e,ey,eb,l⟩
 ·subst ey;obtain⟨z,hd,vs,rel,dd⟩:=Qc7 I.hok e;refine wpAny_in_of (QaJ ry) hd dd.mapOf ?_;rw[<-(rel.val k).isSome_eq,<-l];exact h _ (I.tok _)
 ·subst ey;cases(show u=Value.ref b from ry);obtain⟨z,hd,xs,rel,dd⟩:=Qc6 I.hok e;refine wpAny_in_heap (Uo hu) (YX I.hok eb) hd dd ?_;have q:=(rel.val k).isSome_eq;rw[Tq]at q;rw[<-q,<-l];exact h _ (I.tok _)
def Qj1(hu:A.units+1<cLine)(I:Inv X pins Y H s)(g:DGet H a y o)(ry:RelV y u)(h:∀s',Inv X pins Y H s'->Q (.bool (!o.isSome)) s'):
  wpAny (model X.prog X.w) A (compareOp .NotIn u (.ref a)) Q E s:=by
 rcases g with⟨kvs,k,e,ey,l⟩|⟨kvs,k,b,e,ey,eb,l⟩
 ·subst ey;obtain⟨z,hd,vs,rel,dd⟩:=Qc7 I.hok e;refine wpAny_notIn_of (QaJ ry) hd dd.mapOf ?_;rw[<-(rel.val k).isSome_eq,<-l];exact h _ (I.tok _)
 ·subst ey;cases(show u=Value.ref b from ry);obtain⟨z,hd,xs,rel,dd⟩:=Qc6 I.hok e;refine wpAny_notIn_heap (Uo hu) (YX I.hok eb) hd dd ?_;have q:=(rel.val k).isSome_eq;rw[Tq]at q;rw[<-q,<-l];exact h _ (I.tok _)
def Y3{h':Heap}{t':Nat}{ob:HO}(I:Inv X pins Y H s)(mu:Mut (H a))(hs:Heap.SameBut a s.heap h')(he:∃q,h'.get? a=some q)(new:ObjOk X.prog X.w (upd H a ob) h' a ob):
  Inv X pins Y (upd H a ob) {s with heap:=h',toks:=t'}:=
 I.write (x:=a) (e:=a) mu (.inl rfl) (λb q hb z=>(hs.2 b hb).trans z) he new
def Qcs{h':Heap}{kvs:List (Key×V)}{vs:List (Key×Value)}(z:kvs.length<=sizeLine)(hd:(a==sysModules)=false)(rel:KV kvs vs)(dd:h'.DictOf (Ql P w) a vs):
  ObjOk P w H' h' a (.dK kvs):=⟨z,hd,vs,rel,dd⟩
def Qe9{Q:Unit->Shared->Prop}(hu:A.units+1<cLine)(I:Inv X pins Y H s)(g:DPut H a y v H')(ry:RelV y u)(rv:RelV v r)(h:∀s',Inv X pins Y H' s'->Q () s'):
  wpAny (model X.prog X.w) A (setItem (.ref a) u r) Q E s:=by
 rcases g with⟨kvs,k,e,ey,l,eH⟩|⟨kvs,k,b,e,ey,eb,l,eH⟩
 ·subst ey eH;obtain⟨z,hd,vs,rel,dd⟩:=QbF I.hok e
  have hz:vs.length<=sizeLine:=by rw[<-rel.length];exact z
  have hl:(ZY kvs k v).length<=sizeLine:=by have:=Q7 kvs k v;omega
  refine wpAny_setItem_pairs (hsz:=hz) (QaJ ry) dd λh' dd' hs=>h _ ?_;have he:∃q,h'.get? a=some q:=let ⟨q,_,_,hq,_⟩:=dd';⟨q,hq⟩
  exact Y3 I (by rw[e];exact True.intro) hs he (Qcs hl hd (rel.put k rv) dd')
 ·subst ey eH;cases(show u=Value.ref b from ry);obtain⟨z,hd,xs,rel,dd⟩:=Qo8 I.hok e
  have hz:xs.length<=sizeLine:=by rw[<-Wn rel];exact z
  have hl:(ZY kvs k v).length<=sizeLine:=by have:=Q7 kvs k v;omega
  refine wpAny_setItem_heap (hsz:=hz) (Uo hu) (YX I.hok eb) dd λh' dd' hs=>h _ ?_;obtain⟨q,es,ep,hq,h2,h3,h4,_,h5⟩:=dd'
  refine Y3 I (by rw[e];exact True.intro) hs ⟨q,hq⟩ ⟨hl,hd,_,(rel.put k eb rv).keeps λc ys ec=>?_,q,es,ep,hq,h2,h3,h4,h5⟩
  rw[Qf (QoD ec e (λz=>nomatch z))];exact ec
end
def QbG(I:Inv X pins Y H s)(g:DGet H a y o):s.TypeIs (.ref a) "dict":=by
 rcases g with⟨kvs,k,e,_,_⟩|⟨kvs,k,b,e,_,_,_⟩
 ·obtain⟨_,_,vs,_,dd⟩:=Qc7 I.hok e;exact dd.typeIs
 ·obtain⟨_,_,xs,_,dd⟩:=Qc6 I.hok e;exact dd.typeIs
def Qct(h:Heap)(hb:sysModules<h.objs.size):ObjOk P w H (h.push {cls:=.type "dict",data:=.dict #[]}) h.objs.size (.dK []):=
 ⟨Ww _,V0.mpr (Wq (Xo hb)),[],.nil,Heap.DictOf.new h⟩
def Qg1(h:Heap)(hb:sysModules<h.objs.size):ObjOk P w H (h.push {cls:=.type "dict",data:=.dict #[]}) h.objs.size (.dT []):=
 ⟨Ww _,V0.mpr (Wq (Xo hb)),[],.nil,_,#[],0,Xy _ rfl,⟨rfl,rfl,rfl⟩,rfl,rfl,List.nodup_nil⟩
def Qk6:TE:=λz H Q=>∀p,H p=none->Q (.ref p) (upd H p (.dK []))
def Qk5:TE:=λz H Q=>∀p,H p=none->Q (.ref p) (upd H p (.dT []))
section

def Qgq:PE X (.Dict [] [] pos) Qk6:=λpins s Y H Q I h=>
 wpAny_Dict_empty ⟨.ref s.heap.objs.size,_,I.laid (a:=s.heap.objs.size) (o:=.dK []) (t':=s.toks) (λz z q=>Xg _ q) (Xi _) (Qct s.heap I.big),rfl,h _ (I.hok.fresh (Xi _))⟩
def Qgp:PE X (.Dict [] [] pos) Qk5:=λpins s Y H Q I h=>
 wpAny_Dict_empty ⟨.ref s.heap.objs.size,_,I.laid (a:=s.heap.objs.size) (o:=.dT []) (t':=s.toks) (λz z q=>Xg _ q) (Xi _) (Qg1 s.heap I.big),rfl,h _ (I.hok.fresh (Xi _))⟩
end
def QbW:List (TE×TE)->St->Hp->(List (V×V)->Hp->Prop)->Prop
 |[],_,H,Q=>Q [] H
 | (tk,tv)::r,Y,H,Q=>tk Y H λx H1=>tv Y H1 λy H2=>QbW r Y H2 λps H3=>Q ((x,y)::ps) H3
abbrev VV:List (V×V)->List (Value×Value)->Prop:=Paired λp q=>RelV p.1 q.1/\RelV p.2 q.2
noncomputable def PPs(X:Cx)(pos:Pos)(keys:List (Option Expr))(values:List Expr)(trs:List (TE×TE)):Prop :=
 ∀(pins:List (Addr×Obj)) (s:Shared) (Y:St) (H:Hp) (Q:List (V×V)->Hp->Prop),Inv X pins Y H s->QbW trs Y H Q ->
  wpAny (model X.prog X.w) X.A (evalPairs (pairTrees keys values X.env pos)) (λvs s'=>∃ps H',Inv X pins Y H' s'/\VV ps vs/\Q ps H') X.xe s
def Qi6:PPs X pos [] [] []:=λpins s Y H Q I h=>pairTrees_nil_walk ⟨[],H,I,.nil,h⟩
def Qgn{k v:Expr}{ks:List (Option Expr)}{vs:List Expr}{tk tv:TE}{trs:List (TE×TE)}(hk:PE X k tk)(hv:PE X v tv)(hr:PPs X pos ks vs trs):
  PPs X pos (some k::ks) (v::vs) ((tk,tv)::trs):=λpins s Y H Q I h=>
 pairTrees_cons_walk (thn (hk pins s Y H _ I h) λu s1 ⟨x,H1,I1,rx,q1⟩=>thn (hv pins s1 Y H1 _ I1 q1) λw2 s2 ⟨y,H2,I2,ry,q2⟩=>
  thn (hr pins s2 Y H2 _ I2 q2) λws s3 z=>by obtain⟨ps,H3,I3,rel,q3⟩:=z;exact⟨(x,y)::ps,H3,I3,.cons ⟨rx,ry⟩ rel,q3⟩)
noncomputable def Z1(kvs more:List (Key×V)):List (Key×V):=more.foldl (λacc kv=>ZY acc kv.1 kv.2) kvs
def KV.merge:∀{more:List (Key×V)} {rs:List (Key×Value)} {kvs:List (Key×V)} {vs:List (Key×Value)},KV more rs->KV kvs vs->KV (Z1 kvs more) (merged vs rs):=by
 intro more rs kvs vs r;unfold KV at r
 induction r generalizing kvs vs with
 |nil=>intro q;exact q
 | @cons p q ps qs h t ih=>
  intro r0
  have e:KV (ZY kvs p.1 p.2) (stored vs q.1 q.2):=by
   have:=r0.put p.1 h.2;rw[<-h.1];exact this
  exact ih e
theorem Zp:∀(more kvs:List (Key×V)),(Z1 kvs more).length<=kvs.length+more.length
 |[],kvs=>by show kvs.length<=kvs.length+0;omega
 |p::r,kvs=>by
  have h1:=Zp r (ZY kvs p.1 p.2);have h2:=Q7 kvs p.1 p.2;show(Z1 (ZY kvs p.1 p.2) r).length<=_;rw[X8];omega
theorem JG{P:Program}{w:World}:∀{kvs:List (Key×V)} {ws:List (Value×Value)},VV (kvs.map λkv=>(kV kv.1,kv.2)) ws->∃rs,Carries (Ql P w) ws rs/\KV kvs rs
 |[],_,r=>by rw[V7]at r;cases r;exact⟨[],True.intro,.nil⟩
 |p::kvs,_,r=>by
  rw[Xu]at r
  cases r with
  | @cons a b as bs h t=>
   obtain⟨rs,c,q⟩:=JG (P:=P) (w:=w) t;obtain⟨b1,b2⟩:=b;exact⟨(p.1,b2)::rs,⟨QaJ h.1,rfl,c⟩,.cons ⟨rfl,h.2⟩ q⟩
def QnZ(trs:List (TE×TE)):TE:=λY H Q=>∀p,H p=none->QbW trs Y (upd H p (.dK [])) λps H2=>H2 p=some (.dK [])/\∃kvs:List (Key×V),ps=kvs.map (λkv=>(kV kv.1,kv.2))/\kvs.length<=15/\Q (.ref p) (upd H2 p (.dK (Z1 [] kvs)))
def Qjf{keys:List (Option Expr)}{values:List Expr}{trs:List (TE×TE)}(h:PPs X pos keys values trs)(hall:keys.all (·.isSome)=true)(hl:keys.length=values.length)(h0:keys≠[])
  (h15:keys.length<=15):PE X (.Dict keys values pos) (QnZ trs):=by
 intro pins s Y H Q I q;have hn:=I.hok.fresh (Xi s.heap.objs.size);have I1:=I.laid (a:=s.heap.objs.size) (o:=.dK []) (h':=s.heap.push {cls:=.type "dict",data:=.dict #[]}) (t':=s.toks) (λy y q=>Xg _ q) (Xi _) (Qct s.heap I.big);refine wpAny_Dict_walk (knd:=Ql X.prog X.w) hall hl h0 h15 (thn (h pins _ Y _ _ I1 (q _ hn)) λws s2 x=>?_);obtain⟨ps,H2,I2,rel,e,kvs,ep,lk,q2⟩:=x;subst ep;obtain⟨rs,c,rk⟩:=JG (P:=X.prog) (w:=X.w) rel;obtain⟨z,hd,vs0,r0,dd⟩:=QbF I2.hok e;cases r0;refine⟨rs,c,dd,λh' dd' hs=>⟨.ref s.heap.objs.size,_,?_,rfl,q2⟩⟩
 have hz:(Z1 [] kvs).length<=sizeLine:=by
  have h1:=Zp kvs [];rw[W6]at h1;rw[Vu];omega
 have he:∃q,h'.get? s.heap.objs.size=some q:=let ⟨q,_,_,hq,_⟩:=dd';⟨q,hq⟩
 exact Y3 I2 (by rw[e];exact True.intro) hs he (Qcs hz hd (rk.merge .nil) dd')
section
variable {d:V}{r:Value}{E:Value->Shared->Prop}
def QmP(hu:A.units+1<cLine)(I:Inv X pins Y H s)(g:DGet H a y o)(ry:RelV y u)(rd:RelV d r)(h:∀w' s',Inv X pins Y H s'->RelV (o.getD d) w'->Q w' s'):
  wpAny (model X.prog X.w) A (call (.builtin "dict.get") [.ref a,u,r]) Q E s:=by
 rcases g with⟨kvs,k,e,ey,l⟩|⟨kvs,k,b,e,ey,eb,l⟩
 ·subst ey;obtain⟨z,hd,vs,rel,dd⟩:=Qc7 I.hok e;refine T9 T3 dd.typeIs PySem.F.entry_dict_get (PySem.F.args_dict_get_3 _ _ _) (meets_dict_get_default (Ql X.prog X.w) a (QaJ ry) hd r) ⟨_,dd.mapOf,h _ _ (I.tok _) ?_⟩;rw[l];exact(rel.val k).getD rd
 ·subst ey;cases(show u=Value.ref b from ry);obtain⟨z,hd,xs,rel,dd⟩:=Qc6 I.hok e;refine T9 T3 dd.typeIs PySem.F.entry_dict_get (PySem.F.args_dict_get_3 _ _ _) (meetsH_dict_get_default (tupleKind (Ql X.prog X.w)) a b hd r) ⟨Uo hu,k,xs,YX I.hok eb,dd,h _ _ (I.tok _) ?_⟩;rw[l];exact(rel.val k).getD rd
end
end
end L2
namespace Att
open PySem PySem.W PySem.Calls PyProof.Rows
def YY{P:Params}{h:Heap}:∀(ns:List Int) (vs:List Value),WellAll P h vs (ns.map WData.int)->IntsAre vs ns:=by
 intro ns
 induction ns with
 |nil=>
  intro vs w;rw[V7]at w;cases w;exact .nil
 |cons n ns ih=>
  intro vs w;rw[Xu]at w
  cases w with
  |cons a b=>
   cases a;exact .cons _ _ (ih _ b)
def QdU{l:OpenLaw}{n:Nat}(hn:l.most=some n){P:Params}{h:Heap}{args:List WData}{vals:List Value}
  (hpre:l.row.toRowW.claim.pre args=true) (hwl:WellAll P h vals args):
  ∃a vs ns,vals=[Value.ref a]/\args=[WData.list (ns.map WData.int)]/\h.get? a=some {cls:=.type "list",data:=.seq vs.toArray}/\IntsAre vs ns/\ns.length<=n:=by
 have hsh:WShape.hasAll [] args [.list .int]=true:=(pre_splitW hpre).1;have hc:l.pre.holds [] {args:=args}=true:=(pre_splitW hpre).2;obtain⟨d,r,rfl,h1,h2⟩:=hasAllW_cons hsh;obtain rfl:=hasAllW_nil h2;obtain⟨xs,rfl,h3⟩:=hasW_list h1;obtain⟨ns,rfl⟩:=items_int h3
 have hlen:ns.length<=n:=by
  unfold OpenLaw.pre at hc
  have h4:(WTm.not (.lt (.lit (.int (n:Int))) (.len (.arg 0)))).holds [] {args:=[.list (ns.map .int)]}=true:=by
   have h4:=(holds_andW hc).1;rw[hn]at h4;exact h4
  have h5:=condW_of h4 (w_not (w_lt w_lit (w_len_list (w_arg rfl))));rw[Wd]at h5;refine T1 λq=>?_
  have q':(n:Int) < ((ns.length:Nat):Int):=by omega
  first
   | (rw[W5 q']at h5;exact absurd h5 (by decide))
   | (simp at h5;omega)
 cases hwl with
 |cons w1 w2=>
  cases w2
  cases w1 with
  |list ho hall=>exact⟨_,_,ns,rfl,rfl,ho,YY ns _ hall,hlen⟩
def Qd7(l:OpenLaw)(args:List WData):l.row.toRowW.claim.post args (.bool true) args=true :=
 postW_of (r:=l.row.toRowW) (X:=(true==true))
  (show WShape.has [] (.bool true) .bool=true by first|rfl|decide|simp[WShape.has,WShape.arms,WShape.armsAll])
  (show(WTm.eq .res (.lit (.bool true))).value [] {args:=args,res:=some (.bool true),after:=args}=some (.bool (true==true))from w_eq_bool (w_res rfl) w_lit) rfl
def attach_call{l:OpenLaw}{n:Nat}{q:Program}{loose:List Str}{XP:(Str->Option Value)->Heap->Prop}{YP:World->Heap->Prop}{d:DefRec}
  (hn:l.most=some n) (hdf:d.params.defaults=[])
  (call:∀(w:World) (s₀ s₁:Shared) (mg mb:Str->Option Value) (fa:Addr) (o:Obj) (pm cd doc:Value) (a:Addr) (vs:List Value) (ns:List Int),
   Ground q loose [] XP w s₀ mg mb s₁.heap->YP w s₁.heap ->
   s₁.heap.get? fa=some o->o.data=.func (docDef d.name d.params d.body d.scope pm cd doc)->s₁.heap.CodeRec cd d.name->mg d.name=some (.ref fa) ->
   s₁.heap.get? a=some {cls:=.type "list",data:=.seq vs.toArray}->IntsAre vs ns->ns.length<=n->s₁.gens=#[] ->
   codeAny (model l.prog w) callerA (.call (.ref fa) ⟨[.ref a],[]⟩) (λr s'=>r=.ok (.ret (.bool true))/\OldK s₁.heap s'.heap/\s'.os=s₁.os/\AllBare s'.gens) s₁):
  WalkO q loose XP YP l.row.toRowW d [] (λf vs=>PySem.call f vs):=by
 intro w s₀ s₁ mg mb G Yyy fa o pm cd doc dV kV ho hd hcd hD hmg hg args vals as hpre hlay hrd hwl hlo;obtain rfl:dV=.none:=Dflts.none hD hdf;obtain rfl:kV=.none:=Dflts.noKw hD;obtain⟨a,vs,ns,rfl,rfl,hobj,hints,hlen⟩:=QdU hn hpre hwl;refine enter_call (T8 (call w s₀ s₁ mg mb fa o pm cd doc a vs ns G Yyy ho (fd_plain hd) hcd hmg hobj hints hlen hg) λr s' hq=>?_);obtain⟨rfl,h2,h3,h4⟩:=hq;exact⟨.inl ⟨.bool true,.bool true,[],rfl,λz=>rfl,.bool true,Qd7 l _,λz=>⟨List.Pairwise.nil,λz hm=>(nomatch hm)⟩⟩,h2,h3,h4⟩
end Att
namespace L2
open PySem PySem.Spec PyProof.Rows
section
theorem Qar:∀{vs:List Value} {ns:List Int},IntsAre vs ns->Vals (ns.map V.int) vs
 |_,_,.nil=>.nil
 |_,_,.cons n t h=>.cons ⟨t,rfl⟩ (Qar h)
def QnG(H:Hp):Prop:=∀b,H b=none\/∃o xs,H b=some (.frz o (.lst xs))
def QgF{P:Program}{w:World}{K:W.Frag}{mg mb:Str->Option Value}{CX:CXT}{k:Nat}{fa a:Addr}{fd:FuncData}{x:Str}{sp:Sp}{s₁:Shared}{vs:List Value}{ns:List Int}
  (KX:K.In s₁.heap) (hns:s₁.heap.Ns mainGlobals mg) (hb:s₁.heap.Ns builtinsNs mb) (hbb:∀x:Str,x≠"__name__"->mb x=bootBuiltins x) (hlim:s₁.heap.NoLimit) (hg:s₁.gens=#[])
  (ha:s₁.heap.get? a=some {cls:=.type "list",data:=.seq vs.toArray}) (hi:IntsAre vs ns) (hl:ns.length<=sizeLine) (hr:Room k callerA)
  (F:∀base:Heap,K.In base->base.Ns mainGlobals mg->FnOk P w K mg base CX k fa fd [x] sp) (hbind:∀(s:Shared) (u:Value),BindsTo s fd ⟨[u],[]⟩ [(x,u)])
  (hsp:∀H:Hp,QnG H->SqL K H a (ns.map V.int)->sp [.ref a] H (λv y=>v=.bl true) λy y y=>False)
  (hCX:∀H e s',CX [] H s₁ (λy y y=>False) e s'->False):
  codeAny (model P w) callerA (.call (.ref fa) ⟨[.ref a],[]⟩) (λr s'=>r=.ok (.ret (.bool true))/\OldK s₁.heap s'.heap/\s'.os=s₁.os/\AllBare s'.gens) s₁:=by
 have rv:=Qar hi;have lenV:=hi.length
 have core:∀H:Hp,QnG H->SqL K H a (ns.map V.int)->HOk P w H s₁.heap->(∀b,H b≠none->b=a)->(H a≠none->K.lookup a=none) ->
   codeAny (model P w) callerA (.call (.ref fa) ⟨[.ref a],[]⟩) (λr s'=>r=.ok (.ret (.bool true))/\OldK s₁.heap s'.heap/\s'.os=s₁.os/\AllBare s'.gens) s₁:=by
  intro H hO hS hok hA hK;have base_of:∀{b:Addr} {o:Obj},s₁.heap.get? b=some o->H b=none->(QgO s₁.heap H).get? b=some o:=λe n=>QgN e n
  have noA:∀{b:Addr} {o:Obj} {es:Array DictEntry} {ep:Nat},s₁.heap.get? b=some o->o.data=.dict es ep->H b=none:=λ{b o es ep} e d=>by
   cases q:H b with
   |none=>rfl
   |some u=>
    have e':b=a:=hA b (by rw[q];simp)
    subst e';rw[ha]at e;cases e;have d':Data.seq vs.toArray _=Data.dict es ep:=d;cases d'
  have nsK:∀{b:Addr} {m:Str->Option Value},s₁.heap.Ns b m->(QgO s₁.heap H).Ns b m:=λ{b m} ⟨o,es,ep,e,d,r⟩=>⟨o,es,ep,base_of e (noA e d),d,r⟩
  have hKb:K.In (QgO s₁.heap H):=λb o e=>base_of (KX b o e) (by
   cases q:H b with
   |none=>rfl
   |some u=>
    have e':b=a:=hA b (by rw[q];simp)
    subst e'
    rw[hK (by rw[q];simp)]at e;cases e)
  have hM:Mod K mg (QgO s₁.heap H):=⟨hKb,nsK hns,⟨mb,nsK hb,hbb⟩,let ⟨mc,h1,h2⟩:=hlim;⟨mc,nsK h1,h2⟩⟩
  have e0:Env0 P w K mg (QgO s₁.heap H) callerA [] s₁ H:=⟨rfl,hM,λb o e=>Qjr e,Nat.le_of_eq (QeK _ _),trivial,λb hb=>absurd (show b∈([]:List Addr)from hb) (by simp),hok,.of_eq hg⟩
  refine T8 ((F _ hKb (nsK hns)).run callerA [] s₁ H ⟨[.ref a],[]⟩ [.ref a] [.ref a] _ _ hr e0 (hbind s₁ (.ref a)) (.cons rfl .nil) (hsp H hO hS)) λr s' h=>?_
  cases r with
  |error e=>exact(hCX H e s' h).elim
  |ok fl=>
   cases fl with
   |next=>exact False.elim h
   |brk=>exact False.elim h
   |cont=>exact False.elim h
   |ret u=>
    obtain⟨v,H',os,bare,un,hok',r',q⟩:=h;have q':v=.bl true:=q;subst q';obtain rfl:u=Value.bool true:=r';refine⟨rfl,OldK.of_keep λb o e=>?_,os,bare⟩
    cases q:H b with
    |none=>exact un.keep b o e q (by intro z;exact absurd (show b∈([]:List Addr)from z) (by simp)) (by simp)
    |some u=>
     rcases hO b with z|⟨ob,xs,z⟩
     ·rw[q]at z;cases z
     ·have z2:=un.frzs b ob _ z;obtain⟨e1,_⟩:=hok b _ z;obtain⟨e2,_⟩:=hok' b _ z2;rw[e]at e1;cases e1;exact e2
 cases hk:K.lookup a with
 |some o=>
  have e:=KX a o hk;rw[ha]at e;cases e
  refine core (λy=>none) (λy=>.inl rfl) (.inr ⟨_,vs.toArray,_,hk,rfl,rfl,rfl,by rw[Xw,lenV];exact hl,by simpa using rv⟩) (λb u z=>by have z':(none:Option HO)=some u:=z;cases z') (λb z=>absurd rfl z) λz=>absurd rfl z
 |none=>
  refine core (λb=>if b=a then some (.frz {cls:=.type "list",data:=.seq vs.toArray} (.lst (ns.map V.int)))else none) (λb=>?_) (.inl (.inr ⟨{cls:=.type "list",data:=.seq vs.toArray},if_pos rfl⟩)) (λb u z=>?_) (λb z=>?_) λy=>hk
  ·by_cases hb:b=a
   ·exact .inr ⟨_,_,if_pos hb⟩
   ·exact .inl (if_neg hb)
  ·by_cases hb:b=a
   ·have z':=(if_pos hb).symm.trans z;cases z';subst hb
    exact⟨ha,by rw[Wd];exact hl,vs,_,rv,ha⟩
   ·have z':=(if_neg hb).symm.trans z;cases z'
  ·by_cases hb:b=a
   ·exact hb
   ·exact absurd (if_neg hb) z
end
section
noncomputable abbrev KOf{K:W.Frag}{h:Heap}(_:K.In h):W.Frag:=K
def walk_of{l:W.OpenLaw}{n k:Nat}{q:Program}{loose:List Str}{XP:(Str->Option Value)->Heap->Prop}{YP:World->Heap->Prop}{d:DefRec}{K:Params->W.Frag}{CX:World->CXT}{sp:World->Sp}{x:Str}
  (hn:l.most=some n) (hn2:n<=sizeLine) (hdf:d.params.defaults=[]) (hr:Room k callerA)
  (hY:∀(w:World) (h:Heap),YP w h->(K w.params).In h)
  (F:∀(w:World) (mg:Str->Option Value) (fa:Addr) (h:Heap),(K w.params).In h->h.Ns mainGlobals mg->mg d.name=some (.ref fa) ->
   ∃fd:FuncData,(∀(s:Shared) (u:Value),BindsTo s fd ⟨[u],[]⟩ [(x,u)]) /\
    ∀base:Heap,(K w.params).In base->base.Ns mainGlobals mg->FnOk l.prog w (K w.params) mg base (CX w) k fa fd [x] (sp w))
  (hsp:∀(w:World) (H:Hp) (a:Addr) (ns:List Int),ns.length<=n->QnG H->SqL (K w.params) H a (ns.map V.int)->sp w [.ref a] H (λv z=>v=.bl true) λz z z=>False)
  (hCX:∀(w:World) (H:Hp) (s:Shared) (e:Value) (s':Shared),CX w [] H s (λz z z=>False) e s'->False):
  W.WalkO q loose XP YP l.row.toRowW d [] (λf vs=>PySem.call f vs):=by
 refine Att.attach_call hn hdf λw s₀ s₁ mg mb fa o pm cd doc a vs ns G Yyy ho hd hcd hmg hobj hints hlen hg=>?_;have KX:=hY w _ Yyy;obtain⟨fd,hb,hF⟩:=F w mg fa _ KX G.T.g hmg;exact QgF KX G.T.g G.T.b G.T.builtins G.T.nolimit hg hobj hints (Wf hlen hn2) hr hF hb (λH hO hS=>hsp w H a ns hlen hO hS) λH e s'=>hCX w H s₁ e s'
end
section
noncomputable def QbI(s:Stmt):Arguments:=match s with
 |.FunctionDef _ a _ _ _ _ _ _ _ _=>a
 |_=>{posonlyargs:=[],args:=[],vararg:=none,kwonlyargs:=[],kw_defaults:=[],kwarg:=none,defaults:=[]}
noncomputable def ZA(s:Stmt):List Stmt:=match s with
 |.FunctionDef _ _ b _ _ _ _ _ _ _=>b
 |_=>[]
noncomputable def Qr(s:Stmt):Scope:=match s with
 |.FunctionDef _ _ _ _ _ _ sc _ _ _=>sc
 |_=>{kind:=.function,names:=[],isGenerator:=false,isCoroutine:=false}
abbrev CX0:CXT:=λz z z z z z=>False
abbrev E0:XK:=λz z z=>False
def QlU{X:Cx}:QcB CX0 X E0:=λz z z z z z z h=>h.elim
def Qo0{A:Around}{k:Nat}(hr:Room k A):A.units+1<cLine:=Nat.lt_of_le_of_lt (Nat.add_le_add_left (by decide:1<=64) _) hr.units
section
variable {κ:Type}[DecidableEq κ]
end
end
end L2
namespace Iv
open PySem
noncomputable def QoK(sep:List Nat):List (List Nat)->List Nat
 |[]=>[]
 |[x]=>x
 |x::y::r=>x++sep++QoK sep (y::r)
noncomputable def QhA(c:Nat):List Nat->List (List Nat)
 |[]=>[[]]
 |a::r=>if a=c then []::QhA c r else match QhA c r with
  |[]=>[[a]]
  |p::ps=>(a::p)::ps
end Iv
namespace L2
open PySem PySem.Spec PyProof.Rows Builtin Builtin.Str
section
variable {X:Cx}
def QiR:V->List V->Hp->VK->Prop:=λx vs H Q=>∃a k y kvs,x=.ref a/\vs=[kV k,y]/\H a=some (.dK kvs)/\kvs.length<sizeLine/\(∀z,ZT kvs k=some z->Q z H)/\(ZT kvs k=none->Q y (upd H a (.dK (kvs++[(k,y)]))))
def Qen:MtR X "dict.setdefault" QiR:=by
 intro pins s Y H x vs v us Q I rx rv h;obtain⟨a,k,y,kvs,rfl,rfl,hH,hz,q1,q2⟩:=h;cases rx;obtain⟨uk,uy,rfl,rk,ry⟩:=QcI rv;obtain⟨z,hd,ws,rel,dd⟩:=QbF I.hok hH
 refine T9 F.slot_dict_setdefault dd.typeIs F.entry_dict_setdefault (F.args_dict_setdefault_3 _ _ _) (kt_meets_setdefault (Ql X.prog X.w) a (QaJ rk) hd uy)
  ⟨ws,dd,by rw[<-rel.length];exact z,λw' hw=>?_,λhn h' dd' hs=>?_⟩
 ·have rr:=rel.val k;rw[hw]at rr
  cases e:ZT kvs k with
  |none=>rw[e]at rr;exact(show False from rr).elim
  |some z=>rw[e]at rr;exact⟨z,H,I.tok _,rr,q1 z e⟩
 ·have e:ZT kvs k=none:=by
   have rr:=rel.val k;rw[hn]at rr
   cases e:ZT kvs k with
   |none=>rfl
   |some z=>rw[e]at rr;exact(show False from rr).elim
  have he:∃q,h'.get? a=some q:=(by obtain⟨q,_,_,hq,_⟩:=dd';exact⟨q,hq⟩);have e2:=Qge y e
  have hl:(ZY kvs k y).length<=sizeLine:=by have:=Q7 kvs k y;omega
  have I2:=Y3 (t':=s.toks+1) I (by rw[hH];exact True.intro) hs he (Qcs hl hd (rel.put k ry) dd')
  rw[e2]at I2;exact⟨y,_,I2,ry,q2 e⟩
end
end L2
namespace L2
open PySem PySem.Spec PyProof.Rows
section
variable {X:Cx}
theorem QaZ:∀{bs:List Bool} {us:List Value},Vals (bs.map V.bl) us->∀(i:Nat) v,us[i]?=some v->∃b,bs[i]?=some b/\v=.bool b
 |[],us,r,i,v,e=>by rw[V7]at r;cases r;simp at e
 |b::bs,us,r,i,v,e=>by
  rw[Xu]at r
  cases r with
  |cons h t=>
   cases(show _=Value.bool b from h)
   cases i with
   |zero=>simp at e;exact⟨b,rfl,e.symm⟩
   |succ i=>simpa using QaZ t i v (by simpa using e)
def Qr8(bs:List Bool):((List.range bs.length).all λi=>(bs[i]?).getD true)=bs.all id:=LSm.range_all bs
def Qfr(hc:X.calm=true): CallR X (.builtin "all") (λxs H Q=>∃(a:Addr) (bs:List Bool),xs=[.ref a]/\SqL X.K H a (bs.map V.bl)/\Q (.bl (bs.all id)) H):= by
 intro pins s Y H xs us Q I r h;obtain⟨a,bs,rfl,hq,q⟩:=h;obtain⟨u,rfl,rx⟩:=Jc r;cases rx;obtain⟨its,rr,pl,hz⟩:=I.list hq;have hl:=pl.isList
 have hlt:a<s.heap.objs.size:=by obtain⟨_,e,_⟩:=hl;exact Xk e
 have hlen:=rr.length;rw[Wd]at hlen;refine call_all_walk (wpAny_pyIter_list hl ?_)
 refine⟨s.heap.objs.size,[s.heap.objs.size,a],[s.heap.objs.size],its.toArray.size,_,_,λi=>(bs[i]?).getD true,rfl,Walks.list (A:=X.A.in1) (I.ok.hd hc) _ a (Xo hlt) its.toArray,
  ⟨⟨_,Xy _ rfl,rfl,rfl⟩,hl.push _⟩,λi v s' Q' E' hP hQ=>?_,λh' tk hk=>?_⟩
 ·obtain⟨b,e,rfl⟩:=QaZ rr i v (by simpa using hP)
  simp only[e,Uh]at hQ;exact Ut hQ
 ·have e:((List.range its.toArray.size).all λi=>(bs[i]?).getD true)=bs.all id:=by
   rw[Xw,<-hlen];exact Qr8 bs
  rw[e];exact⟨.bl _,H,I.kept (t':=tk) (LSm.kept_iter hk),rfl,q⟩
def Qfn(hc:X.calm=true): CallR X (.builtin "max") (λxs H Q=>∃(a:Addr) (ns:List Int),xs=[.ref a]/\SqL X.K H a (ns.map V.int)/\0<ns.length/\∀m,m∈ns->(∀b∈ns,b<=m)->Q (.int m) H):= by
 intro pins s Y H xs us Q I r h;obtain⟨a,ns,rfl,hq,hz0,q⟩:=h;obtain⟨u,rfl,rx⟩:=Jc r;cases rx;obtain⟨its,rr,pl,hz⟩:=I.list hq;have hl:=pl.isList;have hi:=QcZ rr;obtain⟨xs,e⟩:=hi.allInts.items
 have hns:ns=xs.toList.map (·.1):=by
  rw[<-hi.numsOf,<-nums_intItems,<-e]
 have hsz:0<xs.size:=by
  have h3:=hz0;rw[hns,Wd,Uj]at h3;exact h3
 rw[e]at hl;refine max_intList (I.ok.hd hc) hl hsz λv h' tk hv hk=>?_;obtain⟨t,rfl⟩:=intItems_at hv;obtain⟨h1,h2⟩:=argBest_gt (numAt xs) (xs.size-1);refine⟨.int _,H,I.kept hk,⟨_,rfl⟩,q _ ?_ λb hb=>?_⟩
 ·rw[hns,numAt_eq];exact getD_mem (by rw[Wd,Uj];omega)
 ·rw[hns]at hb;obtain⟨j,hj,rfl⟩:=mem_getD hb;rw[Wd,Uj]at hj
  rw[<-numAt_eq];exact h2 j (by omega)
end
end L2
namespace L2
open PySem PySem.Spec PySem.W PyProof.Rows
section
variable {p:Array Nat}{m n:Nat}
noncomputable def QhF{α:Type}(lt:Nat->Nat->Bool):KasT α->α
 |.ret a=>a
 |.ask i j k=>QhF lt (k (lt i j))
def InR{α:Type}(n:Nat)(P:α->Prop):KasT α->Prop
 |.ret a=>P a
 |.ask i j k=>i<n/\j<n/\∀b,InR n P (k b)
theorem InR.bind{α β:Type}{n:Nat}{P:α->Prop}{R:β->Prop}{f:α->KasT β}:∀{t:KasT α},InR n P t->(∀a,P a->InR n R (f a))->InR n R (t.bind f)
 |.ret a,h,hf=>hf a h
 |.ask i j k,h,hf=>⟨h.1,h.2.1,λb=>InR.bind (h.2.2 b) hf⟩
theorem InR.run{α:Type}{n:Nat}{P:α->Prop}{lt:Nat->Nat->Bool}:∀{t:KasT α},InR n P t->P (QhF lt t)
 |.ret a,h=>h
 |.ask i j k,h=>show P (QhF lt (k (lt i j)))from InR.run (t:=k (lt i j)) (h.2.2 (lt i j))
theorem InR.wp{α:Type}{n:Nat}{P:α->Prop}{lt:Nat->Nat->Bool}{cmp:Nat->Nat->(Bool->Shared->Prop)->Shared->Prop}{s:Shared}{Q:α->Shared->Prop}(hc:∀i j C,i<n->j<n->C (lt i j) s->cmp i j C s):
  ∀{t:KasT α},InR n P t->Q (QhF lt t) s->t.kasWp cmp Q s
 |.ret a,h,q=>q
 |.ask i j k,h,q=>hc i j _ h.1 h.2.1 (InR.wp hc (t:=k (lt i j)) (h.2.2 (lt i j)) q)
def Bd(n:Nat)(p:Array Nat):Prop:=0<n/\p.Perm (List.toArray (List.range n))
def Bd.get(h:Bd n p)(i:Nat):p.getD i 0<n:=by
 by_cases hi:i<p.size
 ·have e:p.getD i 0=p[i]:=by simp[Array.getD,hi]
  rw[e];have:=h.2.mem_iff.mp (Array.getElem_mem hi);simpa using this
 ·have e:p.getD i 0=0:=by simp[Array.getD,hi]
  rw[e];exact h.1
def Bd.perm{q:Array Nat}(h:Bd n p)(e:q.Perm p):Bd n q:=⟨h.1,e.trans h.2⟩
def Bd.rev{i j:Nat}(h:Bd n p):Bd n (kas_rev p i j):=h.perm (mirror_perm _ _ _ _)
def Bd.bub{i j:Nat}(h:Bd n p):Bd n (bubble p i j):=h.perm (bubble_perm _ _ _)
theorem QiP{n:Nat}{p:Array Nat}(h:Bd n p):∀f i,InR n (λz=>True) (kas_asc p f i)
 |0,_=>trivial
 |f+1,i=>⟨h.get _,h.get _,λb=>by
  cases b
  ·exact QiP h f (i+1)
  ·exact trivial⟩
theorem Qb2{n:Nat}:∀f (p:Array Nat) i q,Bd n p->InR n (λr=>Bd n r.1) (kas_desc f p i q)
 |0,p,i,q,h=>h
 |f+1,p,i,q,h=>⟨h.get _,h.get _,λb=>by
  cases b
  ·refine⟨h.get _,h.get _,λb=>?_⟩;cases b
   ·exact Qb2 f p _ _ h
   ·exact h
  ·show InR n _ (if q>0 then _ else _);split
   ·exact Qb2 f _ _ _ h.rev
   ·exact Qb2 f _ _ _ h⟩
def QdZ{k:Nat}(h:Bd n p):InR n (λr=>Bd n r.2) (kas_tail3 k m p):=(QiP h.rev _ _).bind λa z=>h.rev
def Jl{k:Nat}(h:Bd n p):InR n (λr=>Bd n r.2) (kas_descPart k m p):=by
 refine(Qb2 _ _ _ _ h).bind λr hr=>?_;split
 ·exact QdZ hr.rev
 ·exact QdZ hr
def QiO(h:Bd n p):InR n (λr=>Bd n r.2) (kas_count m p):=by
 refine(QiP h _ _).bind λk z=>?_;split
 ·exact h
 ·split
  ·refine⟨h.get _,h.get _,λb=>?_⟩;cases b
   ·exact Jl h.rev
   ·exact h
  ·exact Jl h
theorem Qbj{n:Nat}{p:Array Nat}{k:Nat}(h:Bd n p):∀f l r,InR n (λz=>True) (kas_place p k f l r)
 |0,_,_=>trivial
 |f+1,l,r=>by
  unfold kas_place;split
  ·exact trivial
  ·refine⟨h.get _,h.get _,λb=>?_⟩;cases b
   ·exact Qbj h f _ _
   ·exact Qbj h f _ _
theorem Qlv{n:Nat}:∀f (p:Array Nat) k,Bd n p->InR n (Bd n) (kas_bin f p k)
 |0,p,k,h=>h
 |f+1,p,k,h=>(Qbj h _ _ _).bind λl z=>Qlv f _ _ h.bub
def QhI(hn:0<n):InR n (Bd n) (kas_sort n):=by
 have h0:Bd n (List.toArray (List.range n)):=⟨hn,Array.Perm.refl _⟩;refine(QiO h0).bind λr hr=>?_;split
 ·exact Qlv _ _ _ hr
 ·exact hr
noncomputable def Qh2:List Int->List Int->Bool
 |[],[]=>false
 |[],_::_=>true
 |_::_,[]=>false
 |x::xs,y::ys=>if x=y then Qh2 xs ys else decide (x<y)
noncomputable def ltK(ks:List (List Int))(i j:Nat):Bool:=Qh2 (ks.getD i []) (ks.getD j [])
noncomputable def permK(ks:List (List Int))(n:Nat):List Nat:=if n<2 then List.range n else(QhF (ltK ks) (kas_sort n)).toList
section
variable {prog:Program}{w:World}{A:Around}{E:Value->Shared->Prop}{s:Shared}
def Qnc(κ:SortKind)(z:Array Keyed):arrOf (SortSt.mk' κ z #[] 7 none)=z:=rfl
def QdR(vs:List Value)(h:vs.length<2):(arrOf (SortSt.mk' general' (vs.toArray.zip vs.toArray) #[] 7 none)).map (·.2)=List.toArray ((List.range vs.length).map λi=>vs.getD i .none):=by
 rw[Qnc]
 match vs,h with
 |[],_=>simp
 |[v],_=>simp[List.range,List.range.loop]
 |_::_::_,h=>simp at h;omega
def QcL{l:Addr}{vs:List Value}{κ:SortKind}{ks:List (List Int)}{Q:Value->Shared->Prop}(hl:s.heap.IsList l vs.toArray)(h64:vs.length<64)
  (hk:2<=vs.length->∀h' A' (Q':SortKind->Shared->Prop),(∀b o,s.heap.get? b=some o->h'.get? b=some o)->Q' κ {s with heap:=h'}->wpAny (model prog w) A' (keyKind' vs.toArray) Q' (λz z=>False) {s with heap:=h'})
  (hlt:2<=vs.length->∀h' A' (Q':Bool->Shared->Prop) i j,(∀b o,s.heap.get? b=some o->h'.get? b=some o)->i<vs.length->j<vs.length->Q' (ltK ks i j) {s with heap:=h'} ->
   wpAny (model prog w) A' (keyLt' κ (vs.getD i .none) (vs.getD j .none)) Q' (λz z=>False) {s with heap:=h'})
  (hQ:∀h' c D,s.heap.objs.size<=D->(∀b o,s.heap.get? b=some o->h'.get? b=some o)->h'.get? D=some (seqObj "list" (List.toArray ((permK ks vs.length).map λi=>vs.getD i .none)) c)->Q (.ref D) {s with heap:=h'}):
  wpAny (model prog w) A (call (.builtin "sorted") [.ref l]) Q E s:=by
 refine Calls.call_function_entry kind_sorted plain_sorted entry_sorted (args_sorted1 _) ?_;unfold Builtin.«sorted»;refine Xa (m:=checkCount "sorted" 1 1 _) (Xj ?_)
 refine Xa (collect_list hl ?_ (by rw[Vu];omega))
 refine Xa (wpAny_newList ?_ (by rw[Vu];omega))
 have hsz:((s.heap.push (seqObj "list" #[] 0)).update s.heap.objs.size (Obj.mapSeq (·++vs.toArray))).objs.size=s.heap.objs.size+1:=by
  rw[Heap.size_update,size_push']
 generalize hh1:((s.heap.push (seqObj "list" #[] 0)).update s.heap.objs.size (Obj.mapSeq (·++vs.toArray)))=h1 at hsz
 have k1:∀b o,s.heap.get? b=some o->h1.get? b=some o:=λb o q=>by
  have hlt:b<s.heap.objs.size:=Xk q;rw[<-hh1,Heap.get?_update_ne _ _ _ _ (Xo hlt),Heap.get?_push_ne _ _ _ (Xo hlt)];exact q
 have hoL:(h1.push (seqObj "list" vs.toArray 0)).get? h1.objs.size=some (seqObj "list" vs.toArray 0):=Xy _ rfl;show wpAny _ _ _ _ _ {s with heap:=h1.push (seqObj "list" vs.toArray 0)};generalize ha:h1.objs.size=a at hoL hsz;refine Xa (W4 (U0 slot_list_sort ⟨_,hoL,rfl⟩ entry_list_sort ?_ (args_list_sort _)));have k2:∀b o,s.heap.get? b=some o->(h1.push (seqObj "list" vs.toArray 0)).get? b=some o:=λb o q=>Xg _ (k1 b o q);generalize (h1.push (seqObj "list" vs.toArray 0))=h2 at hoL k2;rw[list_sort_plain]
 have hlen:vs.toArray.size=vs.length:=by simp
 refine Xa (listItems_at (s:={s with heap:=h2}) hoL rfl ?_)
 refine Xa (listUpdate_at (s:={s with heap:=h2}) hoL rfl ?_ (by rw[hlen,Vu];omega) (Ww _))
 obtain⟨e1,ho1⟩:∃e1,(h2.update a (Obj.mapSeq λz=>(#[]:Array Value))).get? a=some (seqObj "list" #[] e1):=⟨_,get?_update_seq hoL (λz=>#[])⟩
 have hna:∀b o,s.heap.get? b=some o->b≠a:=λb o q=>Xo (Xr (Xk q) (by rw[hsz];exact Ur _))
 have k3:∀b o,s.heap.get? b=some o->(h2.update a (Obj.mapSeq λz=>(#[]:Array Value))).get? b=some o:=λb o q=>(Vc _ _ (Wq (hna b o q))).trans (k2 b o q);generalize (h2.update a (Obj.mapSeq λz=>(#[]:Array Value)))=h3 at ho1 k3;refine Xa (seqEpoch_at (s:={s with heap:=h3}) ho1 rfl ?_)
 refine Xa (wpAny_newTuple ?_ (by show vs.length<=_;rw[Vu];omega))
 refine Xa (wpAny_newList ?_ (Ww _));refine W4 ?_;show wpAny (model prog w) _ _ _ _ {s with heap:=(h3.push (seqObj "tuple" vs.toArray 0)).push (seqObj "list" #[] 0)};have ho4:((h3.push (seqObj "tuple" vs.toArray 0)).push (seqObj "list" #[] 0)).get? a=some (seqObj "list" #[] e1):=Xg _ (Xg _ ho1);have k4:∀b o,s.heap.get? b=some o->((h3.push (seqObj "tuple" vs.toArray 0)).push (seqObj "list" #[] 0)).get? b=some o:=λb o q=>Xg _ (Xg _ (k3 b o q));generalize ((h3.push (seqObj "tuple" vs.toArray 0)).push (seqObj "list" #[] 0))=h4 at ho4 k4;dsimp only
 have fin:∀out:Array Value,out=List.toArray ((permK ks vs.length).map λi=>vs.getD i .none)->Q (.ref a) {s with heap:=h4.update a (Obj.mapSeq λz=>out)}:=λout eo=>by
  obtain⟨c,hc⟩:∃c,(h4.update a (Obj.mapSeq λz=>out)).get? a=some (seqObj "list" out c):=⟨_,get?_update_seq ho4 (λz=>out)⟩;rw[eo]at hc ⊢
  exact hQ _ c a (by rw[hsz];exact Ur _) (λb o q=>(Vc _ _ (Wq (hna b o q))).trans (k4 b o q)) hc
 by_cases h2:vs.toArray.size<2
 ·rw[if_pos h2,if_pos h2];refine Xa (Xj ?_);rw[StateT.run_pure];refine Xa (Xj ?_);dsimp only;refine Xa (seqEpoch_at (s:={s with heap:=h4}) ho4 rfl ?_)
  refine Xa (listUpdate_at (s:={s with heap:=h4}) ho4 rfl ?_ (Ww _) (hsz2:=by rw[Array.size_map];show(pairsOf vs).size<=_;rw[pairsOf_size,Vu];omega))
  simp only[bne_self_eq_false,X4,Wv];refine Xj ⟨_,rfl,Xj ⟨_,rfl,fin ((arrOf (SortSt.mk' general' (vs.toArray.zip vs.toArray) #[] 7 none)).map (·.2)) ?_⟩⟩;rw[hlen]at h2;unfold permK;rw[if_pos h2];exact QdR vs h2
 ·rw[if_neg h2,if_neg h2];rw[hlen]at h2
  have h2':2<=vs.length:=by omega
  refine Xa (X2 (hk h2' h4 _ (λκ' s'=>κ'=κ/\s'={s with heap:=h4}) k4 ⟨rfl,rfl⟩) (λκ' s' hs=>?_) λz z x=>x.elim);obtain⟨rfl,rfl⟩:=hs
  have R:=QhI (n:=vs.length) (by omega)
  refine Xa (X2 (kat_run (Q:=λst' s'=>s'={s with heap:=h4}/\arrOf st'=(QhF (ltK ks) (kas_sort vs.length)).map (kas_item (vs.toArray.zip vs.toArray))/\failedOf st'=none/\(arrOf st').size=vs.length) (G:=λp s'=>p=QhF (ltK ks) (kas_sort vs.length)/\s'={s with heap:=h4})
   rfl h2' h64 (λp' st' s' a1 a2 a3 a4=>⟨a4.2,a4.1▸a2,a3,by rw[a2,Array.size_map];exact a1⟩) (InR.wp (λi j C hi hj c=>hlt h2' h4 _ C i j k4 hi hj c) R ⟨rfl,rfl⟩)) ?_ λz z e=>e)
  rintro⟨⟨⟩,st'⟩ s' ⟨rfl,har,hf,hsize⟩;dsimp only;have hout:=kat_snds rfl har;rw[hout];refine Xa (seqEpoch_at (s:={s with heap:=h4}) ho4 rfl ?_)
  have hz:(List.toArray ((QhF (ltK ks) (kas_sort vs.length)).toList.map λi=>vs.getD i Value.none)).size<=sizeLine+1:=by
   have e:(arrOf st').size=vs.length:=hsize;have e2:((arrOf st').map (·.2)).size=vs.length:=(Array.size_map ..).trans e;rw[hout]at e2;rw[e2,Vu];omega
  refine Xa (listUpdate_at (s:={s with heap:=h4}) ho4 rfl ?_ (Ww _) hz);rw[hf];simp only[bne_self_eq_false,X4,Wv];refine Xj ⟨_,rfl,Xj ⟨_,rfl,fin _ ?_⟩⟩;unfold permK;rw[if_neg h2]
def permK_perm(ks:List (List Int))(n:Nat):(permK ks n).Perm (List.range n):=by
 unfold permK;split
 ·exact List.Perm.refl _
 ·exact((QhI (n:=n) (by omega)).run (lt:=ltK ks)).2.toList
def permK_length(ks:List (List Int))(n:Nat):(permK ks n).length=n:=by rw[(permK_perm ks n).length_eq,Ts]
theorem Qez{b:Bool}{Q:Bool->Shared->Prop}:∀{k l:List Int} {xs ys:List Value} {fin:Bool} {i:Nat},Vals (k.map V.int) xs->Vals (l.map V.int) ys->fin=decide (k.length<l.length)->Q (Qh2 k l) s->KatLex prog w A true fin Q (xs.zip ys) i s
 |[],l,xs,ys,fin,i,h1,h2,hf,q=>by
  cases h1;rw[List.zip_nil_left];refine kat_nil ?_
  cases l with
  |nil=>rw[hf];exact q
  |cons _ _=>rw[hf];simpa[Qh2]using q
 |x::k,[],xs,ys,fin,i,h1,h2,hf,q=>by
  cases h2;rw[Ta];refine kat_nil ?_;rw[hf];simpa[Qh2]using q
 |x::k,y::l,xs,ys,fin,i,h1,h2,hf,q=>by
  cases h1 with
  |cons r1 t1=>
   cases h2 with
   |cons r2 t2=>
    obtain⟨a1,rfl⟩:=r1;obtain⟨a2,rfl⟩:=r2;rw[Vo];refine kat_cons (wpAny_eqBool_int ?_);by_cases e:x=y
    ·subst e
     rw[show(x==x)=true by simp]
     refine kat_yes (Qez (b:=b) t1 t2 (by rw[hf];simp) ?_)
     simpa[Qh2]using q
    ·rw[show(x==y)=false by simp[e]]
     have q':Q (decide (x<y)) s:=by simpa[Qh2,e]using q
     refine kat_no ?_
     cases i with
     |zero=>exact oneLt_int q'
     |succ i=>exact kat_one _ _ (PyProof.Rows.lt_int q')
theorem QdF{h:Heap}: ∀{vs:List Value},(∀v∈vs,∃a o xs n,∃(i:Int) (t:Tok),v=Value.ref a/\h.get? a=some o/\o.cls=.type "tuple"/\o.data=.seq xs n/\xs[0]?=some (Value.int i t))->∃fs,KatTups h vs fs/\fs.length=vs.length/\∀f∈fs,∃i t,f=Value.int i t
 |[],_=>⟨[],.nil,rfl,by simp⟩
 |v::vs,H=>by
  obtain⟨fs,t,l,f⟩:=QdF λz hz=>H z (Xm _ hz);obtain⟨a,o,xs,n,i,tk,rfl,h1,h2,h3,h4⟩:=H v (Xq ..)
  refine⟨Value.int i tk::fs,KatTups.cons h1 h2 h3 h4 t,by simp[l],λz hz=>?_⟩
  rcases X5.mp hz with rfl|hz
  ·exact⟨_,_,rfl⟩
  ·exact f z hz
end
def Qne(K:W.Frag)(H:Hp)(ys:List V)(ks:List (List Int)):Prop:=ys.length=ks.length/\∀(i:Nat) y k,ys[i]?=some y->ks[i]?=some k->k≠[]/\∃b,y=.ref b/\SqT K H b (k.map V.int)
noncomputable def Qbd(ks:List (List Int))(ys:List V):List V:=(permK ks ys.length).map λi=>ys.getD i .non
section
variable {X:Cx}
theorem Qaq{ys:List V}{its:List Value}(r:Vals ys its):∀(p:List Nat),Vals (p.map λi=>ys.getD i .non) (p.map λi=>its.getD i .none)
 |[]=>.nil
 |i::p=>.cons (by
   show RelV (ys.getD i .non) (its.getD i .none)
   cases e:ys[i]? with
   |none=>
    have:its[i]?=none:=by
     rw[X6]at e ⊢;rw[<-r.length];exact e
    simp[List.getD,e,this,RelV]
   |some v=>
    obtain⟨u,hu,ru⟩:=r.get e
    simpa[List.getD,e,hu]using ru) (Qaq r p)
def Qdb:CallR X (.builtin "sorted") (λxs H Q=>∃(a:Addr) (ys:List V) (ks:List (List Int)),xs=[.ref a]/\SqL X.K H a ys/\ys.length<64/\(2<=ys.length->Qne X.K H ys ks)/\∀p,H p=none->Q (.ref p) (upd H p (.lst (Qbd ks ys)))):= by
 intro pins s Y H xs us Q I r h;obtain⟨a,ys,ks,rfl,hq,h64,ht,q⟩:=h;obtain⟨u,rfl,rx⟩:=Jc r;cases rx;obtain⟨its,rr,pl,hz⟩:=I.list hq;have hlen:=rr.length
 have item:2<=its.length->∀i,i<its.length->∃(b:Addr) (o:Obj) (xs:List Value) (n:Nat) (k:List Int),its.getD i .none=Value.ref b/\s.heap.get? b=some o/\o.cls=.type "tuple"/\o.data=.seq xs.toArray n/\ks.getD i []= k/\k≠[]/\Vals (k.map V.int) xs:=by
  intro h2 i hi
  obtain⟨tl,tt⟩:=ht (by omega)
  have hi':i<ys.length:=by omega
  have hk:i<ks.length:=by omega
  obtain⟨kn,b,ey,sq⟩:=tt i ys[i] ks[i] (Xf hi') (Xf hk);obtain⟨v,hv,rv⟩:=rr.get (Xf hi');rw[ey]at rv;cases rv;obtain⟨xs,rx,⟨o,e1,e2,n,e3⟩,_⟩:=I.tuple sq
  exact⟨b,o,xs,n,ks[i],by simp[List.getD,hv],e1,e2,e3,by simp[List.getD,hk],kn,rx⟩
 refine QcL (κ:=tuples' true) (ks:=ks) pl.isList (by omega) (λh2 h' A' Q' kp q'=>?_) (λh2 h' A' Q' i j kp hi hj q'=>?_) λh' c D hD kp hh=>?_
 ·obtain⟨fs,t,l,f⟩:=QdF (h:=h') (vs:=its) λv hv=>by
   obtain⟨i,hi,rfl⟩:=List.getElem_of_mem hv;obtain⟨b,o,xs,n,k,e0,e1,e2,e3,e4,kn,rx⟩:=item h2 i hi
   have e0':its[i]=Value.ref b:=by simpa[List.getD,hi]using e0
   cases k with
   |nil=>exact absurd rfl kn
   |cons x k=>
    cases rx with
    |cons r1 t1=>
     obtain⟨tk,rfl⟩:=r1
     exact⟨b,o,_,n,x,tk,e0',kp b o e1,e2,e3,by simp⟩
  refine kat_kind (T:=.type "int") t (by omega) (λv hv=>?_) (by decide) ?_
  ·obtain⟨i,t,rfl⟩:=f v hv;exact Looks.of_pure rfl
  ·exact q'
 ·obtain⟨b,o,xs,n,k,e0,e1,e2,e3,e4,kn,rx⟩:=item h2 i hi;obtain⟨b2,o2,xs2,n2,k2,f0,f1,f2,f3,f4,kn2,rx2⟩:=item h2 j hj;rw[e0,f0];refine kat_lt (kp b o e1) e3 (kp b2 o2 f1) f3 ?_
  have q2:Q' (Qh2 k k2) {s with heap:=h'}:=by
   have:=q';unfold ltK at this;rw[e4,f4]at this;exact this
  have l1:=rx.length;have l2:=rx2.length;simp only[Wd]at l1 l2
  exact Qez (b:=true) rx rx2 (by simp[<-l1,<-l2]) q2
 ·refine⟨.ref D,_,I.laid (t':=s.toks) (o:=.lst (Qbd ks ys)) kp hD ?_,rfl,q D (I.hok.fresh hD)⟩
  refine⟨by unfold Qbd;rw[Wd,permK_length];exact hz,_,c,?_,hh⟩
  unfold Qbd;rw[hlen];exact Qaq rr _
end
end
section
def QU:entryFor table "dict.update.loop"=some Builtin.«dict.update.loop»:=entryFor_of_tree (by kernel_rfl)
def Qy:plainId "dict.update.loop"=true:=by decide +kernel
def Je:typeLookup (.type "list") "keys"=pure none:=am_miss_of_fast (by kernel_rfl)
section
variable {prog:Program}{w:World}{A:Around}{s:Shared}{R:Result->Shared->Prop}{E:Value->Shared->Prop}
def Z5{a:Addr}{o:Obj}{xs:Array Value}{k:Nat}{Q:Option Value->Shared->Prop}
  (hx:s.heap.get? a=some o) (hc:o.cls=.type "list") (hdat:o.data=.seq xs k) (hd:o.dict=none) (hA:A.handled=none)
  (h:∀h' tk,(∀b o,s.heap.get? b=some o->h'.get? b=some o)->Q none {s with heap:=h',toks:=tk}):
  wpAny (model prog w) A (getAttr? (.ref a) "keys") Q E s:=by
 obtain⟨c,dct,dat,sl⟩:=o;simp only at hc hdat hd;subst hc hdat hd;obtain⟨hp,g,d,tk,os⟩:=s;have hT:∀tk',(⟨hp,g,d,tk',os⟩:Shared).TypeIs (.ref a) "list":=λz=>⟨_,hx,rfl⟩;have f1:=sub_AttributeError;have f3:=Tb.lookup;have f4:=Tb.bind (.ref a);have f5:=am_list_getattr_none;unfold getAttr? getAttrBy? getAttrBy
 repeat (any_goals (first|assumption|exact hT _|((with_reducible show wpAny _ _ (call (Value.builtin "list.__getattribute__") _ _) _ _ _);refine call_meets Tb (hT _) am_entry_list_getattribute (F.args_list_getattribute_2 _ _) (meets_getattribute_miss_list a xs k sl "keys" _ Je (by decide) (by size_fits)) ⟨hx,hA,λh' tk' e hx'=>?_⟩)|wp_step))
 obtain⟨t',u',he⟩:=hx'.there;show wpAny _ _ (getattributeRaised _ _ _ _ _ _ _) _ _ _;unfold getattributeRaised
 repeat (any_goals (first|assumption|wp_step))
 exact h _ _ hx'.keeps
def QcU{D:Nat->Heap->Prop}{d it l:Addr}{items:Array Value}(n1:d≠it)(n2:d≠l)(n3:it≠l)(hh:A.in1.handled=none)
  (keep:∀i h h',D i h->(∀b o,b≠it->h.get? b=some o->h'.get? b=some o)->D i h')
  (step:∀(i:Nat) u (s:Shared),items[i]?=some u->D i s.heap->∃t key v o n,u=.ref t/\s.heap.get? t=some o/\o.cls=.type "tuple"/\o.data=.seq #[key,v] n /\
   ∀(E:Value->Shared->Prop) (Q:Unit->Shared->Prop),(∀h' tk,D (i+1) h'->Heap.SameBut d s.heap h'->Q () {s with heap:=h',toks:=tk})->wpAny (model prog w) A.in1 (dictSet d key v) Q E s):
  ∀(m i:Nat) (s:Shared),i+m=items.size->s.heap.IsListIter it l i->s.heap.IsList l items->D i s.heap ->
  (∀s',D items.size s'.heap->(∀b o,b≠d->b≠it->s.heap.get? b=some o->s'.heap.get? b=some o)->(∃h' c,s'={s with heap:=h',toks:=c})->R (.ok (.ret .none)) s') ->
  codeAny (model prog w) A (.builtin "dict.update.loop" ⟨[.ref d,.ref it,rawInt i,.none],[]⟩) R s:=by
 intro m
 induction m with
 |zero=>
  intro i s e hi hl hd hR;refine Sa QU ?_;rw[Around.under_plainId Qy _];show wpAny _ A.in1 (pyNext (.ref it) >>= _) _ _ s
  refine Xa (wpAny_pyNext_list_end hh hi hl (by simp;omega) λh' hs'=>?_)
  show wpAny _ A.in1 (Builtin.Dict.addKeywords d [] >>= _) _ _ _;refine Xa (Xj (Xj (hR _ ?_ (λb o b1 b2 e'=>?_) ⟨_,_,rfl⟩)))
  ·have:i=items.size:=by omega
   subst this;exact keep _ _ _ hd λb o nb e=>hs' b o nb e
  ·exact hs' b o b2 e'
 |succ m ih=>
  intro i s e hi hl hd hR
  have lt:i<items.size:=by omega
  obtain⟨u,eu⟩:∃u,items[i]?=some u:=⟨items[i],by simp[lt]⟩
  refine Sa QU ?_;rw[Around.under_plainId Qy _];show wpAny _ A.in1 (pyNext (.ref it) >>= _) _ _ s;refine Xa (wpAny_pyNext_list_item hi hl eu λh1 hi1 hs1=>?_);have g1:∀b o,b≠it->s.heap.get? b=some o->h1.get? b=some o:=λb o nb e=>(hs1.2 b nb).trans e;have hd1:D i h1:=keep _ _ _ hd g1;obtain⟨t,key,v,o,n,rfl,ho1,hc,hdat,st⟩:=step i u {s with heap:=h1} eu hd1;refine Xa (W4 ?_);refine Xa (wpAny_tryCatch ?_);unfold Builtin.Dict.pairItems;refine Xa (wpAny_typeOf_ref ho1 ?_);rw[hc]
  show wpAny _ _ (do return ((<-seqItems? (.ref t)).getD #[]).toList) _ _ _
  refine Xa (wpAny_seqItems ho1 hdat (Xj ?_));show wpAny _ _ (holding [key,v] (dictSet d key v)) _ _ _;refine W4 (st _ _ λh2 tk hd2 hs2=>?_);have g2:∀b o,b≠d->h1.get? b=some o->h2.get? b=some o:=λb o nb e=>(hs2.2 b nb).trans e;refine Xj ⟨T0 Qy _,?_⟩
  refine ih (i+1) _ (by omega) ?_ ?_ hd2 λs' hd' hk' hs'=>?_
  ·obtain⟨oi,hoi,rest⟩:=hi1;exact⟨oi,g2 it oi (Wq n1) hoi,rest⟩
  ·obtain⟨ol,hol,rest⟩:=hl;exact⟨ol,g2 l ol (Wq n2) (g1 l ol (Wq n3) hol),rest⟩
  ·exact hR s' hd' (λb o b1 b2 e'=>hk' b o b1 b2 (g2 b o b1 (g1 b o b2 e'))) (by obtain⟨h3,c3,e3⟩:=hs';exact⟨h3,c3,e3⟩)
def Jh{D:Nat->Heap->Prop}{l:Addr}{ol:Obj}{items:Array Value}{nl:Nat}{Q:Value->Shared->Prop}(hA:A.handled=none)
  (hl:s.heap.get? l=some ol) (hc:ol.cls=.type "list") (hdat:ol.data=.seq items nl) (hdd:ol.dict=none)
  (start:∀h',(∀b o,s.heap.get? b=some o->h'.get? b=some o)->h'.get? s.heap.objs.size=some {cls:=.type "dict",data:=.dict #[]}->D 0 h')
  (keep:∀i h h' it,s.heap.objs.size<it->D i h->(∀b o,b≠it->h.get? b=some o->h'.get? b=some o)->D i h')
  (step:∀(i:Nat) u (s':Shared),items[i]?=some u->D i s'.heap->∃t key v o n,u=.ref t/\s'.heap.get? t=some o/\o.cls=.type "tuple"/\o.data=.seq #[key,v] n /\
   ∀(E:Value->Shared->Prop) (Q:Unit->Shared->Prop),(∀h' tk,D (i+1) h'->Heap.SameBut s.heap.objs.size s'.heap h'->Q () {s' with heap:=h',toks:=tk})->wpAny (model prog w) A.in1.in1 (dictSet s.heap.objs.size key v) Q E s')
  (h:∀h' tk,D items.size h'->(∀b o,s.heap.get? b=some o->h'.get? b=some o)->Q (.ref s.heap.objs.size) {s with heap:=h',toks:=tk}):
  wpAny (model prog w) A (call (.type "dict") [.ref l]) Q E s:=by
 have hlt:l<s.heap.objs.size:=Xk hl;refine callType_codes (Q₁:=λobj s₁=>obj=.ref s.heap.objs.size/\s₁={s with heap:=s.heap.push {cls:=.type "dict",data:=.dict #[]} }) F.kt_called_dict (F.kt_typeCall_dict_1 _) F.entry_dict_init (kt_code_dict_new _ ⟨rfl,rfl⟩) ?_;rintro obj s₁ ⟨rfl,rfl⟩;have hnew:(s.heap.push {cls:=.type "dict",data:=.dict #[]}).get? s.heap.objs.size=some {cls:=.type "dict",data:=.dict #[]}:=Xy _ rfl;have hT:Shared.TypeIs {s with heap:=s.heap.push {cls:=.type "dict",data:=.dict #[]} } (.ref s.heap.objs.size) "dict":=⟨_,hnew,rfl⟩;refine⟨hT,F.args_dict_init_2 _ _,?_⟩;unfold Builtin.«dict.__init__»;refine Xa ?_;unfold Builtin.Dict.selfAndRest;refine Xa (wpAny_notOrdered_dict hT ?_);show wpAny _ _ (pure (s.heap.objs.size,[Value.ref l])) _ _ _;refine Xj ?_;show wpAny _ _ (Builtin.Dict.updateFrom "dict.__init__" s.heap.objs.size (.ref l) [] .none) _ _ _;unfold Builtin.Dict.updateFrom;have hl1:(s.heap.push {cls:=.type "dict",data:=.dict #[]}).get? l=some ol:=Xg _ hl;refine Xa (wpAny_typeOf_ref hl1 ?_);rw[hc]
 rw[if_pos (by decide)]
 refine Xa (Z5 (A:=A.in1.in1) hl1 hc hdat hdd hA λh2 tk2 k2=>?_);rw[if_pos (show(none:Option Value).isNone=true from rfl)];refine Xa (wpAny_rule ?_);have hl2:h2.IsList l items:=⟨ol,k2 _ _ hl1,hc,nl,hdat⟩;refine Xa (wpAny_pyIter_list (s:=⟨h2,_,_,_,_⟩) hl2 ?_);have g3:∀b o,s.heap.get? b=some o->(h2.push {cls:=.type "list_iterator",data:=.fields #[.ref l,.int 0 0]}).get? b=some o:=λb o e=>Xg _ (k2 _ _ (Xg _ e));have hd3:(h2.push {cls:=.type "list_iterator",data:=.fields #[.ref l,.int 0 0]}).get? s.heap.objs.size=some {cls:=.type "dict",data:=.dict #[]}:=Xg _ (k2 _ _ hnew);have lt2:s.heap.objs.size<h2.objs.size:=Xk (k2 _ _ hnew);refine Xj ⟨T0 Qy _,?_⟩
 refine QcU (D:=D) (items:=items) (A:=A.in1) (l:=l) (Xo lt2) (Nat.ne_of_gt hlt) (Nat.ne_of_gt (Nat.lt_trans hlt lt2)) (by simpa using hA)
  (λi h h'=>keep i h h' _ lt2) step items.size 0 _ (by omega) ⟨_,Xy _ rfl,rfl,rfl⟩ ?_ (start _ g3 hd3) λs' hd' hk' hs'=>?_
 ·obtain⟨o4,ho4,rest⟩:=hl2;exact⟨o4,Xg _ ho4,rest⟩
 ·obtain⟨h4,c4,rfl⟩:=hs';exact⟨rfl,h h4 c4 hd' λb o e=>hk' b o (Xo (Xk e)) (Xo (Nat.lt_trans (Xk e) lt2)) (g3 b o e)⟩
end
noncomputable def Qac(kvs:List (List Key×V)):List (List Key×V):=kvs.foldl (λacc p=>ZY acc p.1 p.2) []
def Qlx:List V->Hp->VK->Prop:=λxs H Q=>∃a vs kvs,xs=[.ref a]/\H a=some (.lst vs) /\
 Paired (λ(v:V) (p:List Key×V)=>∃t kb,v=.ref t/\H t=some (.tup [.ref kb,p.2])/\H kb=some (.tup (p.1.map kV))) vs kvs/\∀d,H d=none->Q (.ref d) (upd H d (.dT (Qac kvs)))
def QaP(kvs acc:List (List Key×V)):(kvs.foldl (λacc p=>ZY acc p.1 p.2) acc).length<=acc.length+kvs.length:=by
 induction kvs generalizing acc with
 |nil=>simp
 |cons p r ih=>
  have h1:=ih (ZY acc p.1 p.2);have h2:=Q7 acc p.1 p.2;simp only[Vx,X8];omega
def Qq7{α β:Type}{R:α->β->Prop}{l:List α}{m:List β}{i:Nat}{a:α}(h:Paired R l m)(e:l[i]?=some a):∃b,m[i]?=some b/\R a b:=Jn h e
def QdJ{kvs:List (List Key×V)}{i:Nat}{p:List Key×V}(h:kvs[i]?=some p):Qac (kvs.take (i+1))=ZY (Qac (kvs.take i)) p.1 p.2:=by
 unfold Qac;rw[Vj,h];simp
def Qdd{X:Cx}(hu:X.A.units+2<cLine)(hh:X.calm=true):CallR X (.type "dict") Qlx:=by
 intro pins s Y H xs us Q I r h;obtain⟨a,vs,kvs,rfl,ha,pr,q⟩:=h;obtain⟨u,rfl,ru⟩:=Jc r;cases ru;obtain⟨z,its,n,rv,ho⟩:=(show ObjOk X.prog X.w H s.heap a (.lst vs)from I.hok a _ ha);have hnd:H s.heap.objs.size=none:=I.hok.fresh (Xi _);have lv:vs.length=kvs.length:=Wn pr;have li:vs.length=its.length:=rv.length
 have isK:∀(h':Heap) ks kb,(∀b o,H b≠none->s.heap.get? b=some o->h'.get? b=some o)->H kb=some (.tup (ks.map kV))->(tupleKind (Ql X.prog X.w)).is h' ks kb:=λh' ks kb k e=>by
  obtain⟨o,its,n,h1,h2,h3,h4⟩:=YX I.hok e
  exact⟨o,its,n,k kb o (by rw[e];exact λz=>nomatch z) h1,h2,h3,h4⟩
 have allK:∀(h':Heap) {l:List (List Key×V)} {m:List (List Key×Addr×Value)},(∀b o,H b≠none->s.heap.get? b=some o->h'.get? b=some o)->KT H l m->∀x∈m,(tupleKind (Ql X.prog X.w)).is h' x.1 x.2.1:=by
  intro h' l m k q
  induction q with
  |nil=>intro x hx;exact nomatch hx
  | @cons p q ps qs hq t ih=>
   intro x hx
   rcases X5.mp hx with e|hx
   ·subst e
    exact isK h' _ _ k (by rw[<-hq.1];exact hq.2.1)
   ·exact ih x hx
 refine Jh (D:=λi h'=>∃ms,KT H (Qac (kvs.take i)) ms/\h'.DictOfH (tupleKind (Ql X.prog X.w)) s.heap.objs.size ms/\∀b o,H b≠none->s.heap.get? b=some o->h'.get? b=some o)
  (I.ok.hd hh) ho rfl rfl rfl (λh' k hd=>?_) (λi h1 h' it lt ⟨ms,kt,dd,k⟩ e=>?_) (λi u s' eu ⟨ms,kt,dd,k⟩=>?_) (λh' tk ⟨ms,kt,dd,_⟩ k=>?_)
 ·refine⟨[],.nil,⟨_,#[],0,hd,⟨rfl,rfl,rfl⟩,rfl,rfl,?_,List.nodup_nil⟩,λb o y e=>k b o e⟩;intro x hx;cases hx
 ·have k':∀b o,H b≠none->s.heap.get? b=some o->h'.get? b=some o:=λb o nb e'=>e b o (Xo (Nat.lt_trans (Xk e') lt)) (k b o nb e');obtain⟨o,es,ep,d1,d2,d3,d4,d5,d6⟩:=dd;exact⟨ms,kt,⟨o,es,ep,e _ o (Xo lt) d1,d2,d3,d4,allK h' k' kt,d6⟩,k'⟩
 ·have eu':its[i]?=some u:=by simpa using eu
  have lt:i<its.length:=(Xc.mp eu').1
  obtain⟨v,ev⟩:∃v,vs[i]?=some v:=⟨vs[i],by simp[li,lt]⟩
  obtain⟨u',eu2,rvu⟩:=rv.get ev;rw[eu']at eu2;cases eu2;obtain⟨p,ep,t,kb,rfl,ht,hkb⟩:=Qq7 pr ev;cases(show u=Value.ref t from rvu);obtain⟨_,its2,r2,o,o1,o2,n2,o3⟩:=(show ObjOk X.prog X.w H s.heap t (.tup [.ref kb,p.2])from I.hok t _ ht);obtain⟨x1,x2,rfl,rx1,rx2⟩:=QcI r2;cases(show x1=Value.ref kb from rx1)
  refine⟨t,.ref kb,x2,o,n2,rfl,k t o (by rw[ht];exact λz=>nomatch z) o1,o2,o3,λE Q hQ=>?_⟩
  have hsz:ms.length<=sizeLine:=by
   rw[<-Wn kt];have h1:=QaP (kvs.take i) []
   have h2:(kvs.take i).length<=kvs.length:=by simp[W7];omega
   unfold Qac;simp only[W6]at h1;omega
  refine wpAny_dictSet_heap (hsz:=hsz) (show X.A.units+2<cLine from hu) (isK _ _ _ k hkb) dd λh' dd' hs=>hQ h' _ ⟨_,?_,dd',λb o' nb e=>(hs.2 b (λz=>?_)).trans (k b o' nb e)⟩ hs
  ·rw[QdJ ep];exact kt.put p.1 hkb rx2
  ·subst z;exact nb hnd
 ·have hz:its.toArray.size=kvs.length:=by simp;omega
  rw[hz,Vm]at kt;obtain⟨o,es,ep,d1,d2,d3,d4,d5,d6⟩:=dd;refine⟨.ref s.heap.objs.size,_,I.laid (a:=s.heap.objs.size) (o:=.dT (Qac kvs)) (t':=tk) k (Xi _) ⟨?_,?_,ms,kt.keeps λb ys e=>?_,o,es,ep,d1,d2,d3,d4,d6⟩,rfl,q _ hnd⟩
  ·have:=QaP kvs [];unfold Qac;simp only[W6]at this;omega
  ·exact V0.mpr (Wq (Xo I.big))
  ·rw[Qf (QW e hnd)];exact e
end
end L2
namespace L2
open PySem
variable {env:Env}{scope:Scope}
noncomputable def Qda(cells:List (Str×Addr)):List (Str×NameKind)->List (Str×Addr)->List (Str×Addr)
 |[],cs=>cs
 | (n,k)::r,cs=>Qda cells r (if(k==.free)=true then(match cells.lookup n with|some c=>(n,c)::cs|none=>cs)else cs)
def JF(h:∀y∈scope.names,y.2=.free->∃c,env.cells.lookup y.1=some c):closureFor scope env=pure (Qda env.cells scope.names []):=by
 have all:∀(l:List (Str×NameKind)) (cs:List (Str×Addr)),(∀y∈l,y.2=.free->∃c,env.cells.lookup y.1=some c) ->
   (forIn l cs λ(x:Str×NameKind) (r:List (Str×Addr))=>match x with|(name,kind)=>if(kind==NameKind.free)=true then(do let y <-cellOf env name;pure (ForInStep.yield ((name,y)::r)))else(pure (ForInStep.yield r):Sem _))=(pure (Qda env.cells l cs):Sem _):=by
  intro l
  induction l with
  |nil=>intro cs _;simp only[List.forIn_nil];rfl
  |cons p r ih=>
   obtain⟨n,k⟩:=p;intro cs hy;rw[List.forIn_cons];by_cases hk:(k==NameKind.free)=true
   ·obtain⟨c,hc⟩:=hy (n,k) Xq (by simpa using hk)
    have hc:env.cells.lookup n=some c:=hc
    have e:cellOf env n=pure c:=by unfold cellOf;rw[hc]
    simp only[hk,We,e,pure_bind];rw[ih _ λy m=>hy y (Xm _ m)];simp only[Qda,hk,We,hc]
   ·simp only[hk,X4,Wv,pure_bind];rw[ih _ λy m=>hy y (Xm _ m)];simp only[Qda,hk,X4,Wv]
 have:=all scope.names [] h;unfold closureFor;simp only[bind_pure_comp]at this ⊢;rw[this];rfl
theorem QaU{cells:List (Str×Addr)}{x:Str}{c:Addr}:∀{l:List (Str×NameKind)} {cs:List (Str×Addr)},(Qda cells l cs).lookup x=some c->cs.lookup x=some c\/cells.lookup x=some c
 |[],_,h=>.inl h
 | (n,k)::r,cs,h=>by
  have h:(Qda cells r (if(k==NameKind.free)=true then(match cells.lookup n with|some c=>(n,c)::cs|none=>cs)else cs)).lookup x=some c:=h
  rcases QaU h with h1|h1
  ·clear h;by_cases hk:(k==NameKind.free)=true
   ·rw[if_pos hk]at h1
    cases hc:cells.lookup n with
    |none=>rw[hc]at h1;exact .inl h1
    |some c'=>
     rw[hc]at h1;have h2:List.lookup x ((n,c')::cs)=some c:=h1;clear h1;rw[V2]at h2
     cases hx:x==n with
     |true=>
      rw[hx]at h2;have e:=eq_of_beq hx;subst e;exact .inr (hc.trans h2)
     |false=>rw[hx]at h2;exact .inl h2
   ·rw[if_neg hk]at h1;exact .inl h1
  ·exact .inr h1
theorem Qah{cells:List (Str×Addr)}{x:Str}{c:Addr}(hc:cells.lookup x=some c):∀{l:List (Str×NameKind)} {cs:List (Str×Addr)},((x,NameKind.free)∈l\/cs.lookup x=some c)->(Qda cells l cs).lookup x=some c
 |[],_,h=>by
  rcases h with h|h
  ·cases h
  ·exact h
 | (n,k)::r,cs,h=>by
  show(Qda cells r (if(k==NameKind.free)=true then(match cells.lookup n with|some c=>(n,c)::cs|none=>cs)else cs)).lookup x=some c
  refine Qah (l:=r) hc ?_
  rcases h with h|h
  ·rcases X5.mp h with e|h
   ·cases e;refine .inr ?_
    rw[if_pos (by decide),hc]
    simp[V2]
   ·exact .inl h
  ·refine .inr ?_;split
   ·split
    ·rename_i c' h';rw[V2];split
     ·rename_i e;have e:=eq_of_beq e;subst e;exact h'.symm.trans hc
     ·exact h
    ·exact h
   ·exact h
noncomputable def mang(x:Str):Str:=⟨x.cps.push 33⟩
noncomputable def hideN(xs N:List Str):List Str:=N.map λy=>if xs.contains y then mang y else y
def Z3{xs N:List Str}:(hideN xs N).length=N.length:=by unfold hideN;rw[Wd]
def QgM{xs N:List Str}{i:Nat}{y:Str}(h:(hideN xs N)[i]?=some y):∃z,N[i]?=some z/\((z∈xs/\y=mang z)\/(z∉xs/\y=z)):=by
 unfold hideN at h;rw[Wt,Xd]at h;obtain⟨z,h1,h2⟩:=h;refine⟨z,h1,?_⟩;by_cases c:xs.contains z=true
 ·rw[if_pos c]at h2;exact .inl ⟨Ux.mp c,h2.symm⟩
 ·rw[if_neg c]at h2;exact .inr ⟨λm=>c (Ux.mpr m),h2.symm⟩
noncomputable def relN(outer:List (Str×NameKind))(names:List (Str×NameKind)):List (Str×NameKind):=names.map λ(n,k)=>if(k==.free&&outer.lookup n==some .cell)=true then(n,.cell)else(n,k)
def QO(h:env.scope.kind=.function):(relabel scope env).names=relN env.scope.names scope.names:=by
 unfold relabel relN;refine List.map_congr_left λp z=>?_;obtain⟨n,k⟩:=p;simp only[h,beq_self_eq_true,Bool.and_true];rfl
theorem Zx{outer:List (Str×NameKind)}{x:Str}:∀{l:List (Str×NameKind)},(relN outer l).lookup x=(l.lookup x).map λk=>if(k==.free&&outer.lookup x==some .cell)=true then .cell else k
 |[]=>rfl
 | (n,k)::r=>by
  have ih:=@Zx outer x r;show List.lookup x ((if(k==NameKind.free&&outer.lookup n==some .cell)=true then(n,NameKind.cell)else(n,k))::relN outer r)=_;rw[V2 (as:=r)]
  cases hx:x==n with
  |true=>
   have e:=eq_of_beq hx;subst e;simp only[T4,Wp];by_cases z:(k==NameKind.free&&outer.lookup x==some .cell)=true
   ·rw[if_pos z,if_pos z,T4]
   ·rw[if_neg z,if_neg z,T4]
  |false=>
   split
   ·simp[V2,hx,ih]
   ·simp[V2,hx,ih]
def Yh{κ β:Type}[BEq κ][LawfulBEq κ]{l:List (κ×β)}{k:κ}{b:β}(h:l.lookup k=some b):(k,b)∈l:=by
 induction l with
 |nil=>simp at h
 |cons p r ih=>
  obtain⟨a,c⟩:=p;rw[V2]at h;split at h
  ·rename_i e;have e:=eq_of_beq e;subst e;cases h;exact Xq
  ·exact Xm _ (ih h)
section
variable {prog:Program}{w:World}{A:Around}{R:Result->Shared->Prop}{s:Shared}
def QfP{E:Value->Shared->Prop}{tl:Option Expr}{Q:Bool->Shared->Prop}(h:match tl with|none=>Q true s|some c=>wpAny (model prog w) A (isTrue c env (eval c env)) Q E s):
  wpAny (model prog w) A (forIn tl.toList true λc r=>if r=true then do let ok <-isTrue c env (eval c env);pure (ForInStep.yield ok)else pure (ForInStep.yield r)) Q E s:=by
 cases tl with
 |none=>exact wpAny_tests_nil h
 |some c=>exact wpAny_tests_one h
def QbK{elt target iter:Expr}{tl:Option Expr}{pos:Pos}{it acc:Value}(I:Nat->Shared->Prop)
  (turn:∀n s,I n s->wpAny (model prog w) A (pyNext it) (λr s₁=>match r with
   |none=>R (.ok .next) s₁
   |some v=>wpAny (model prog w) A (letOwnedTupleGo target it v) (λz s₁'=>wpAny (model prog w) A (assign target env v) (λz s₂=>
     wpAny (model prog w) A (forIn tl.toList true λc r=>if r=true then do let ok <-isTrue c env (eval c env);pure (ForInStep.yield ok)else pure (ForInStep.yield r)) (λok s₃=>if ok=true then
      wpAny (model prog w) A (eval elt env) (λx s₄=>
       wpAny (model prog w) A (call (.builtin "list.append") [acc,x]) (λz s₅=>∃m,m<n/\I m s₅) (notedBy (model prog w) A env λe s'=>R (.error e) s') s₄) (notedBy (model prog w) A env λe s'=>R (.error e) s') s₃
      else ∃m,m<n/\I m s₃) (notedBy (model prog w) A env λe s'=>R (.error e) s') s₂)
        (notedBy (model prog w) A env λe s'=>R (.error e) s') s₁') (notedBy (model prog w) A env λe s'=>R (.error e) s') s₁) (notedBy (model prog w) A env λe s'=>R (.error e) s') s)
  (n:Nat) (h:I n s):codeAny (model prog w) A (.compLoop (.ListComp elt [⟨target,iter,tl.toList,0⟩] scope pos) 0 it acc env) R s:=by
 refine codeAny_loop rfl I (λn s hI=>?_) n h
 show wpAny _ A ((compTurn (.ListComp elt [⟨target,iter,tl.toList,0⟩] scope pos) 0 it acc env).onRaise (λx=>do noteFrame x env;theTreesLotGoes x)) _ _ s
 refine wpAny_noted ?_;rw[compTurn_list];refine Xa (wpAny_standAt (Xa (X2 (turn n s hI) (λr s₁ h₁=>?_) λz z h'=>h')))
 cases r with
 |none=>exact Xj h₁
 |some v=>
  refine Xa (X2 h₁ (λz s₁' h₁'=>?_) λz z h'=>h');refine Xa (X2 h₁' (λz s₂ h₂=>Xa (X2 h₂ (λok s₃ h₃=>?_) λz z h'=>h')) λz z h'=>h')
  cases ok with
  |true=>
   rw[if_pos rfl]at h₃;exact Xa (Xa (X2 h₃ (λx s₄ h₄=>Xa (X2 h₄ (λz s₅ h₅=>Xj (Xj ⟨rfl,h₅⟩)) λz z h'=>h')) λz z h'=>h'))
  |false=>
   rw[if_neg Xz]at h₃;exact Xa (Xj (Xj ⟨rfl,h₃⟩))
end
end L2
namespace L2
open PySem PySem.Spec PySem.W PyProof.Rows
variable {env:Env}{α:Type}{e:Value}
def KD{α:Type}:Sem α->Prop
 |.pure _=>True
 |.raise _=>True
 |.unsupported _=>True
 |.rule _ k=>KD (k ())
 |.at _ k=>KD (k ())
 |.load _ _ k=>∀o,KD (k o)
 |.loadIfAlive _ k=>∀o,KD (k o)
 |.update _ _ f k=>(∀o:Obj,(f o).dict=o.dict/\(o.isFreed=false->(f o).isFreed=false))/\KD (k ())
 |.point _ k=>KD (k ())
 |.alloc _ k=>∀a,KD (k a)
 |.fresh k=>∀a,KD (k a)
 |.ask k=>∀a,KD (k a)
 |.handled _ k=>∀a,KD (k a)
 |.stack k=>∀a,KD (k a)
 |.thread k=>∀a,KD (k a)
 |_=>False
theorem KD.bind{β:Type}{f:α->Sem β}(hf:∀a,KD (f a)):∀{m:Sem α},KD m->KD (m.bind f):=by
 intro m
 induction m with
 |pure a=>exact λz=>hf a
 |raise e=>exact λz=>trivial
 |unsupported w=>exact λz=>trivial
 |rule t k ih=>exact λh=>ih () h
 | «at» t k ih=>exact λh=>ih () h
 |load a p k ih=>exact λh o=>ih o (h o)
 |loadIfAlive a k ih=>exact λh o=>ih o (h o)
 |update a p g k ih=>exact λh=>⟨h.1,ih () h.2⟩
 |point l k ih=>exact λh=>ih () h
 |alloc o k ih=>exact λh a=>ih a (h a)
 |fresh k ih=>exact λh a=>ih a (h a)
 |ask k ih=>exact λh a=>ih a (h a)
 |handled o k ih=>exact λh a=>ih a (h a)
 |stack k ih=>exact λh a=>ih a (h a)
 |thread k ih=>exact λh a=>ih a (h a)
 |_=>exact λh=>False.elim h
def DK(h h':Heap):Prop:=∀b o,h.get? b=some o->∃o',h'.get? b=some o'/\o'.dict=o.dict
def DK.refl(h:Heap):DK h h:=λz o e=>⟨o,e,rfl⟩
theorem DK.trans{h h1 h2:Heap}(a:DK h h1)(b:DK h1 h2):DK h h2:=λx o e=>by
 obtain⟨o1,e1,d1⟩:=a x o e;obtain⟨o2,e2,d2⟩:=b x o1 e1;exact⟨o2,e2,d2.trans d1⟩
def DK.kept{h h':Heap}(k:∀b o,h.get? b=some o->h'.get? b=some o):DK h h':=λb o e=>⟨o,k b o e,rfl⟩
def QoJ{M:Model}{Γ:PySem.Ctx}{Q:α->Pos->Shared->Prop}{E:Value->Pos->Shared->Prop}:∀{t:Sem α} {p:Pos} {s:Shared} {h0:Heap},KD t->DK h0 s.heap->Sem.wp M Γ t Q E p s ->
  Sem.wp M Γ t (λa p' s'=>Q a p' s'/\DK h0 s'.heap) (λe p' s'=>E e p' s'/\DK h0 s'.heap) p s:=by
 intro t
 induction t with
 |pure a=>exact λz d q=>⟨q,d⟩
 |raise e=>exact λz d q=>⟨q,d⟩
 |unsupported w=>exact λz z q=>q
 |rule t k ih=>exact λh d q=>ih () h d q
 | «at» t k ih=>exact λh d q=>ih () h d q
 |load a p k ih=>
  intro p s h0 h d q;obtain⟨o,e,q⟩:=q;exact⟨o,e,ih o (h o) d q⟩
 |loadIfAlive a k ih=>exact λh d q=>ih _ (h _) d q
 |update a p g k ih=>
  intro p s h0 h d q;obtain⟨e,q⟩:=q;refine⟨e,ih () h.2 (d.trans λb o ho=>?_) q⟩;by_cases hb:b=a
  ·subst hb;exact⟨g o,Vq _ ho ((h.1 o).2 (Heap.get?_some_iff.mp ho).2),(h.1 o).1⟩
  ·exact⟨o,(Heap.get?_update_ne _ _ _ _ hb).trans ho,rfl⟩
 |point l k ih=>exact λh d q=>ih () h d q
 |alloc o k ih=>exact λh d q=>ih _ (h _) (d.trans (DK.kept λb o e=>Xg _ e)) q
 |fresh k ih=>exact λh d q=>ih _ (h _) d q
 |ask k ih=>exact λh d q=>ih _ (h _) d q
 |handled o k ih=>exact λh d q=>ih _ (h _) d q
 |stack k ih=>exact λh d q=>ih _ (h _) d q
 |thread k ih=>exact λh d q=>ih _ (h _) d q
 |_=>exact λh=>False.elim h
def Jw{M:Model}{A:Around}{t:Sem α}{Q:α->Shared->Prop}{E:Value->Shared->Prop}{s:Shared}(h:KD t)(q:wpAny M A t Q E s):
  wpAny M A t (λa s'=>Q a s'/\DK s.heap s'.heap) (λe s'=>E e s'/\DK s.heap s'.heap) s:=fun Γ p i=>QoJ h (DK.refl _) (q Γ p i)
def Qmt{f:Array Value->Array Value}(o:Obj):(Obj.mapFields f o).dict=o.dict/\(o.isFreed=false->(Obj.mapFields f o).isFreed=false):=by
 obtain⟨c,d,dt,sl⟩:=o;cases dt<;>exact⟨rfl,λh=>h⟩
def KD.b{β:Type}{m:Sem α}{f:α->Sem β}(h:KD m)(hf:∀a,KD (f a)):KD (m >>= f):=KD.bind hf h
def QbA{a:Addr}:KD (load a):=λz=>trivial
def YC{i:Nat}:KD (field e i):=by
 unfold field fieldsOf
 refine KD.b ?_ λvs=>by split<;>exact trivial
 split
 ·exact KD.b QbA λo=>by split<;>exact trivial
 ·exact trivial
def Jv{i:Nat}{x:Value}:KD (setField e i x):=by
 unfold setField;split
 ·unfold updateField;refine KD.b QbA λo=>?_;split
  ·split
   ·exact⟨Qmt,trivial⟩
   ·exact trivial
  ·exact trivial
 ·exact trivial
def Z2{f:Option Addr}:KD (setFlight e f):=by
 unfold setFlight;refine KD.b YC λtb=>?_;split
 ·exact Jv
 ·exact trivial
theorem Qck:∀l:List Env,KD (readyFrames l)
 |[]=>trivial
 |env::outer=>by
  unfold readyFrames;split
  ·refine KD.b QbA λo=>?_;split
   ·exact trivial
   ·refine KD.b ?_ λim=>KD.b ?_ λback=>KD.b (show KD (update _ _)from⟨λo=>⟨rfl,by obtain⟨c,d,dt,sl⟩:=o;cases dt<;>exact λh=>h⟩,trivial⟩) λz=>Qck outer
    ·unfold behindIsImport
     repeat (first|exact trivial|exact KD.b YC λz=>trivial|split|refine KD.b trivial λz=>?_)
    ·unfold keptBack;split
     ·split
      ·exact trivial
      ·unfold underTheClaimsCaller
       repeat (first|exact trivial|exact λz=>trivial|split|refine KD.b ?_ λz=>?_)
     ·exact trivial
  ·exact trivial
def QgI:KD (PySem.frameOf env):=by
 unfold PySem.frameOf frameEnvs
 refine KD.b ?_ λl=>KD.b ?_ λo=>by split<;>exact trivial
 ·exact KD.b (λz=>trivial) λz=>trivial
 ·unfold frameObject;split
  ·exact trivial
  ·exact KD.b (Qck _) λz=>trivial
def QeD:KD (noteFrame e env):=by
 have place:∀{f:Addr} {b:Bool},KD (entryPlaceOf f b):=λ{f b}=>by
  unfold entryPlaceOf
  exact KD.b (λz=>trivial) λacts=>by split<;>exact trivial
 have fin:∀{hd:Value} {f:Addr},KD (do setField e 1 (<-EntryCells.newEntry hd (<-PySem.frameOf env) .none (rawInt f) .none (<-entryPlaceOf f (hd != .none)))):=λ{hd f}=>by
  refine KD.b QgI λa=>KD.b place λpl=>KD.b ?_ λb=>Jv;unfold EntryCells.newEntry newFields newObj newObjAsIs;dsimp only
  split<;>split<;>first|exact trivial|exact λz=>trivial|exact KD.b trivial λz=>KD.b (λz=>trivial) λz=>trivial
 unfold noteFrame;split
 ·refine KD.b YC λhd=>?_;split
  ·refine KD.b YC λfl=>?_;split
   ·exact trivial
   ·exact KD.b Jv λz=>fin
  ·exact fin
 ·exact trivial
def Qcl:KD (leaving env e):=by
 unfold leaving;exact KD.b QeD λz=>Z2
end L2
namespace L2
open PySem PySem.Spec PySem.W PyProof.Rows PySem.Calls PySem.Builtin PySem.Builtin.ObjectAttr PySem.Builtin.Getset_descriptor
variable {C a:Addr}{M:Model}
structure ErrCls(K:W.Frag)(C:Addr):Prop where
 ga:findIn K (.ref C) "__getattribute__"=some (some (.builtin "BaseException.__getattribute__"))
 gh:findIn K (.ref C) "__getattr__"=some none
 cl:findIn K (.ref C) "__class__"=some (some (.builtin "object.__class__"))
 gg:specialIn K (.builtin "object.__class__") "__get__"=some (some (.builtin "getset_descriptor.__get__"))
 tk:takesIn K (.builtin "object.__class__")=some true
 sb:subIn K (.ref C) (.type "BaseException")=some true
 so:subIn K (.ref C) (.type "object")=some true
 is:(clsIn K C).isSome=true
def Ja(a C:Addr)(dd:Option Addr)(h:Heap):Prop:=∃o vs,h.get? a=some o/\o.cls=.ref C/\o.data=.fields vs/\o.dict=dd
section
variable {prog:Program}{w:World}{A:Around}{E:Value->Shared->Prop}{K:W.Frag}{h:Heap}{g:Array GenState}{d:Drawn}{t:Nat}{os:OsState}{dd:Option Addr}
def JB(p:Ja a C dd h):Looks M h (typeOf (.ref a)) (.ref C):=by
 obtain⟨o,vs,h1,h2,_⟩:=p;exact h2▸(Looks.ld h1).andThen .now
def QgY(Yyy:ErrCls K C)(X:K.In h):Looks M h (find (.ref a) (.ref C) "__class__") (.bind (.builtin "getset_descriptor.__get__") (.builtin "object.__class__")):=by
 have L1:=looks_findIn (M:=M) X Yyy.cl;have L2:Looks M h (getOf (some (.builtin "object.__class__"))) (some (.builtin "getset_descriptor.__get__")):=looks_specialIn X Yyy.gg
 have L3:Looks M h (dataDescriptor? (some (.builtin "object.__class__")) (some (.builtin "getset_descriptor.__get__"))) (some (.builtin "getset_descriptor.__get__",.builtin "object.__class__")):=by
  unfold dataDescriptor?;refine(looks_takesIn X Yyy.tk).andThen ?_;exact .now
 refine L1.andThen (L2.andThen (L3.andThen ?_));exact Looks.tag .now
def QbD{R:Result->Shared->Prop}(Yyy:ErrCls K C)(X:K.In h)(p:Ja a C dd h)(hq:R (.ok (.ret (.ref C))) ⟨h,g,d,t,os⟩):
  codeAny (model prog w) A (.call (.builtin "getset_descriptor.__get__") ⟨[.builtin "object.__class__",.ref a,.ref C],[]⟩) R ⟨h,g,d,t,os⟩:=by
 have L1:=looks_subIn (M:=model prog w) X Yyy.so;have L0:=JB (M:=model prog w) p;refine codeAny_call_builtin KF.slot_gs.plain KF.entry_gs (KF.slot_gs.check _ _ _ _ _ _ _ _ KF.type_class (KF.args_gs _ _ _) ?_);unfold Builtin.«getset_descriptor.__get__» descrGet;rw[dga_obj];refine Xa (Xj ?_);unfold descrGetter descrCheckInstance descrNameAndClass isInstance;simp only[KF.owner_class]
 repeat lk
 refine⟨Code.quiet_builtin _ (by decide +kernel),Sa KF.entry_class ?_⟩
 unfold Builtin.«object.__class__» shownTypeOf
 repeat lk
 exact hq
def QeZ{nameV:Value}{Q:Unit->Shared->Prop}(Yyy:ErrCls K C)(X:K.In h)(p:Ja a C dd h)(hq:Q () ⟨h,g,d,t,os⟩):wpAny M A (checkBuiltinCall "BaseException.__getattribute__" ⟨[.ref a,nameV],[]⟩) Q E ⟨h,g,d,t,os⟩:=by
 have hk:builtinKind "BaseException.__getattribute__"=some .slot:=by decide +kernel
 have hsplit:splitId "BaseException.__getattribute__"=some ("BaseException","__getattribute__"):=by decide +kernel
 have ha:=PySem.F.args_bexc_ga (.ref a) nameV;have L2:Looks M h (isInstance (.ref a) (.type "BaseException")) true:=(JB p).andThen (looks_subIn X Yyy.sb);simp only[checkBuiltinCall,hk,hsplit];refine Xa (L2.at ?_)
 repeat (first|wp_step)
 exact hq
def QeX{tk:Tok}{Q:Fin->Shared->Prop}(Yyy:ErrCls K C)(X:K.In h)(p:Ja a C dd h)(hq:Q (.done (.ret (.ref C))) ⟨h,g,d,t,os⟩):
  wpAny (model prog w) A (Builtin.«object.__getattribute__» ⟨[.ref a,.str "__class__" tk],[]⟩) Q E ⟨h,g,d,t,os⟩:=by
 have L0:=JB (M:=model prog w) p;have L1:=QgY (M:=model prog w) (a:=a) Yyy X;unfold Builtin.«object.__getattribute__»;refine Xa (Xj (Xa (Xj (Xa (L0.at (Xa (L1.at ?_)))))));show wpAny _ _ (holding [_] (call (.builtin "getset_descriptor.__get__") [.builtin "object.__class__",.ref a,.ref C]) >>= ret) _ _ _;exact Xa (W4 (wpAny_call (QbD Yyy X p (Xj hq))))
def QeY{Q:Option Value->Shared->Prop}(Yyy:ErrCls K C)(X:K.In h)(p:Ja a C dd h)(hq:Q (some (.ref C)) ⟨h,g,d,t+1,os⟩):
  wpAny (model prog w) A (getAttr? (.ref a) "__class__") Q E ⟨h,g,d,t,os⟩:=by
 have L0:=JB (M:=model prog w) p;have L1:=looks_findIn (M:=model prog w) X Yyy.ga;have L2:=looks_findIn (M:=model prog w) X Yyy.gh;unfold getAttr? getAttrBy? getAttrBy;refine Xa (wpAny_mkText (Xa (wpAny_attempt (W4 (Xa (L0.at (Xa (L1.at ?_))))))));dsimp only
 have hne:¬(onTheHeap (Value.ref C)&&Value.builtin "BaseException.__getattribute__"==Value.builtin "object.__getattribute__")=true:=by
  rw[show(Value.builtin "BaseException.__getattribute__"==Value.builtin "object.__getattribute__")=false from by decide +kernel]
  simp
 rw[if_neg hne];unfold getAttrByItsOwn hookBefore;refine Xa ?_;rw[if_pos (show onTheHeap (Value.ref C)=true from rfl)];refine L2.at ?_;refine Xa (wpAny_attempt (W4 ?_));have f3:=PySem.F.attrBase_ValueError.ga.bind (.ref a);show wpAny _ _ (boundAndCalled (.builtin "BaseException.__getattribute__") (.ref a) _) _ _ _;unfold boundAndCalled;refine Xa (Vv f3 ?_);refine wpAny_call ?_;refine codeAny_call_builtin PySem.F.attrBase_ValueError.ga.plain PySem.F.entry_bexc_ga (QeZ Yyy X p (QeX Yyy X p ?_));show wpAny _ _ (handedOut _) _ _ _;exact Xj (Xj hq)
def QgG(Yyy:ErrCls K C):KitX K (.ref a) (.ref C) (Ja a C dd) where
 ty:=λy y y p=>JB p
 it:=λy y X y=>by
  obtain⟨cdD,hcD⟩:=Ug.mp Yyy.is;unfold clsIn at hcD;split at hcD
  ·rename_i c' d' cd' sl' ho;intro A' Q' E' s' k q;unfold isType loadHead;exact Xa (wpAny_loadPart (k _ _ (X _ _ ho)) (Xj q))
  ·cases hcD
 ne:=λh tp dd its n sl X htp=>by
  obtain⟨cdD,hcD⟩:=Ug.mp Yyy.is;refine Bool.eq_false_iff.mpr λq=>?_;have e:C=tp:=Value.ref.inj (Uf.mp q);subst e;unfold clsIn at hcD;split at hcD
  ·rename_i c' d' cd' sl' ho;have z:=(X _ _ ho).symm.trans htp;cases z
  ·cases hcD
 ca:=λ{_ _ _ _ _ s} X p k=>by
  obtain⟨h,g,d,t,os⟩:=s;exact QeY Yyy X p k
end
noncomputable def QfM(a C:Addr)(dd:Option Addr):HO:=.ext (Ja a C dd)
def QmI{P:Program}{w:World}{H:Hp}{h:Heap}{dd:Option Addr}(p:Ja a C dd h):ObjOk P w H h a (QfM a C dd):=by
 refine⟨p,?_,λh1 h2 q k=>?_⟩
 ·obtain⟨o,_,e,_⟩:=p;exact⟨o,e⟩
 ·obtain⟨o,vs,e,r⟩:=q;exact⟨o,vs,k o e,r⟩
def QgZ{X:Cx}{pins:List (Addr×Obj)}{Y:St}{H:Hp}{s:Shared}{dd:Option Addr}(I:Inv X pins Y H s)(e:H a=some (QfM a C dd)):Ja a C dd s.heap :=
 (show ObjOk X.prog X.w H s.heap a (.ext (Ja a C dd))from I.hok a _ e).1
def Qfq{X:Cx}: CallR X (.builtin "isinstance") (λxs H Q=>∃a c cv C dd b,xs=[.ref a,c]/\(match c with|.ty n=>some (Value.type n)|.ref r=>some (.ref r)|_=>none)= some cv/\H a=some (QfM a C dd)/\ErrCls X.K C/\W.kitOne X.K (.ref C) cv=some b/\Q (.bl b) H):= by
 intro pins s Y H xs us Q I r h;obtain⟨a,c,cv,C,dd,b,rfl,hc,ha,Yyy,e,q⟩:=h;obtain⟨u,w',rfl,rx,rc⟩:=QcI r;cases(show u=Value.ref a from rx)
 have ec:w'=cv:=by
  cases c with
  |ty n=>cases(show w'=Value.type n from rc);exact X3 hc
  |ref r0=>cases(show w'=Value.ref r0 from rc);exact X3 hc
  |_=>cases hc
 subst ec;exact V5 (QgG Yyy) I.kIn (QgZ I ha) e (λz=>nomatch z) λtk=>⟨.bl b,H,I.tok tk,rfl,q⟩
end L2
namespace L2
open PySem PySem.Spec PySem.W PyProof.Rows
section
variable {L:Addr}{h':Heap}{H:Hp}{E2:Value->Shared->Prop}
structure Cov(B:Heap)(H:Hp)(s:Shared)(l:List Env):Prop where
 trk:∀b u,H b=some u->∃o,B.get? b=some o
 old:∀b o,s.heap.get? b=some o->b∉frs l->∃o',B.get? b=some o'
def DictAt(h:Heap)(a:Addr)(dd:Option Addr):Prop:=∃o,h.get? a=some o/\o.dict=dd
def DictAt.dk{h:Heap}{a:Addr}{dd:Option Addr}(d:DictAt h a dd)(k:DK h h'):DictAt h' a dd:=by
 obtain⟨o,e,q⟩:=d;obtain⟨o',e',q'⟩:=k a o e;exact⟨o',e',q'.trans q⟩
noncomputable def CXw(P:Program)(w:World):CXT:=λouter H s E e s'=>∃a C H' B a0 dd,e=.ref a/\s'.os=s.os/\AllBare s'.gens/\Un (frs outer) [] H H' s.heap s'.heap/\HOk P w H' s'.heap /\
 Heap.FlyingW B outer a (.ref C) a0 s'.heap/\Cov B H' s outer/\H' a=none/\s.heap.get? a=none/\DictAt s'.heap a dd/\E (.ref C) dd H'
def ObjOk.there{P:Program}{w:World}{h:Heap}{a:Addr}{o:HO}(x:ObjOk P w H h a o):∃u,h.get? a=some u:=by
 cases o with
 |lst xs=>obtain⟨_,_,_,_,e⟩:=x;exact⟨_,e⟩
 |tup xs=>obtain⟨_,_,_,_,e,_⟩:=x;exact⟨_,e⟩
 |dK kvs=>obtain⟨_,_,_,_,o,_,_,e,_⟩:=x;exact⟨_,e⟩
 |dT kvs=>obtain⟨_,_,_,_,o,_,_,e,_⟩:=x;exact⟨_,e⟩
 |set S n=>obtain⟨o,_,_,_,e,_⟩:=x;exact⟨_,e⟩
 |ins C dx fs=>obtain⟨_,_,_,e,_⟩:=x;exact⟨_,e⟩
 |own y=>obtain⟨_,e⟩:=x;exact⟨_,e⟩
 |xd fs=>obtain⟨_,⟨_,_,_,e,_⟩,_⟩:=x;exact⟨_,e⟩
 |rng lo hi=>obtain⟨_,_,_,e⟩:=x;exact⟨_,e⟩
 |frz ob u=>obtain⟨e,_⟩:=x;exact⟨_,e⟩
 |tbl ps=>exact⟨_,(show h.get? a=some _ from x)⟩
 |met f y=>exact⟨_,(show h.get? a=some _ from x)⟩
 |ext φ=>obtain⟨_,⟨_,e⟩,_⟩:=x;exact⟨_,e⟩
def QdA{P:Program}{w:World}{l:List Env}{H':Hp}{s:Shared}{h1 h2 B base:Heap}(un:Un (frs l) [] H H' s.heap h1)(hok:HOk P w H' h1)(ff:s.heap.FunFrames base l)(fr:∀b∈frs l,H b=none)
  (st1:B.StaysIn h1) (st2:B.StaysIn h2) (up:h1.UpToSlots h2) (cv:Cov B H' s l):Un (frs l) [] H H' s.heap h2/\HOk P w H' h2:=by
 have fsl:∀b o,s.heap.get? b=some o->b∈frs l->∃sl,h2.get? b=some {o with slots:=sl}:=λb o q hb=>by
  obtain⟨sl,e⟩:=un.slot b o q (fr b hb) hb (by simp)
  obtain⟨_,o2,ho2,hd⟩:=ff.mem hb;rw[q]at ho2;cases ho2;obtain⟨sl',e'⟩:=up b _ e hd;exact⟨sl',e'⟩
 refine⟨⟨λb o q n hb hx=>?_,λb o q n hb hx=>fsl b o q hb,un.free,λb o q hx=>?_,un.tups,un.frzs,un.tbls⟩,λa o e=>?_⟩
 ·have e1:=un.keep b o q n hb hx;obtain⟨o',e2⟩:=cv.old b o q hb;have e3:=st1 b o' e2;rw[e1]at e3;cases e3;exact st2 b _ e2
 ·by_cases hb:b∈frs l
  ·obtain⟨sl,e⟩:=fsl b o q hb;exact⟨_,e⟩
  ·obtain⟨o',e2⟩:=cv.old b o q hb;exact⟨o',st2 b _ e2⟩
 ·refine(hok a o e).stay (λb u hb q=>?_) (λy z=>z) λy y z=>z
  have ht:∃x,H' b=some x:=by
   rcases hb with rfl|z
   ·exact⟨_,e⟩
   ·exact⟨_,z⟩
  obtain⟨x,hx⟩:=ht;obtain⟨o',e2⟩:=cv.trk b x hx;have e3:=st1 b o' e2;rw[q]at e3;cases e3;exact st2 b _ e2
section
variable {X:Cx}{pins:List (Addr×Obj)}{Y:St}{H':Hp}{s s':Shared}{e C:Addr}{dd:Option Addr}{B:Heap}{a0:Value}{E:XK}
def Cov.up(I:Inv X pins Y H s)(hex:X.ex=[])(cv:Cov B H' s X.stack):Cov B H' X.s₀ X.outer:=by
 refine⟨cv.trk,λb o q hb=>?_⟩
 obtain⟨o',e⟩:=I.base.there b o q (by rw[hex];simp)
 refine cv.old b o' e λz=>?_
 rcases X5.mp (I.stkSub b z)with z|z
 ·exact Xo (Xr (Xk q) I.ok.above) z
 ·exact hb z
def QeA(hst:X.stack=X.env::X.outer)(hf:X.env.frame=some L)(hex:X.ex=[])(J:Inv X pins Y H' s')(fl:Heap.FlyingW B X.stack e (.ref C) a0 s'.heap)(cv:Cov B H' X.s₀ X.outer)
  (hn:H' e=none) (hsz:X.s₀.heap.get? e=none) (da:DictAt s'.heap e dd) (hE:E (.ref C) dd H'):wpAny (model X.prog X.w) X.A (leaving X.env (.ref e)) (λy s''=>CXw X.prog X.w X.outer X.H₀ X.s₀ E (.ref e) s'') E2 s':=by
 rw[hst]at fl;refine X2 (Jw (E:=λy y=>False) Qcl (wpAny_leaves_onW (Q:=λy s''=>Heap.FlyingW B X.outer e (.ref C) a0 s''.heap/\s'.heap.UpToSlots s''.heap/\s''.os=s'.os/\s''.gens=s'.gens) (hst▸J.ok.frames) hf fl λh' fl' up=>⟨fl',up,rfl,rfl⟩)) (λy s'' x=>?_) λy y z=>z.1.elim;obtain⟨⟨fl',up,eo,eg⟩,dk⟩:=x;have b:=J.base;rw[hex]at b;obtain⟨un,hok⟩:=QdA b J.hok J.ok.funs J.ok.frf fl.1 fl'.1 up cv;exact⟨e,C,H',B,a0,dd,rfl,eo.trans J.os,eg▸J.bare,un,hok,fl',cv,hn,hsz,da.dk dk,hE⟩
def YW{oe:Obj}{vs:Array Value}(hst:X.stack=X.env::X.outer)(hf:X.env.frame=some L)(hex:X.ex=[])(I:Inv X pins Y H s)(hn:H e=none)(h0:X.s₀.heap.get? e=none)(hl:e≠X.env.locals)
  (he:s.heap.get? e=some oe) (hc:oe.cls=.ref C) (hd:oe.data=.fields vs) (v0:vs[0]?=some a0) (v1:vs[1]?=some .none) (hE:E (.ref C) oe.dict H):
  wpAny (model X.prog X.w) X.A (leaving X.env (.ref e)) (λy s''=>CXw X.prog X.w X.outer X.H₀ X.s₀ E (.ref e) s'') E2 s:=by
 have nf:e∉frs X.stack:=λz=>by
  rcases X5.mp (I.stkSub e z)with z|z
  ·exact hl z
  ·obtain⟨_,o,ho,_⟩:=I.ok.funs.mem z;rw[h0]at ho;cases ho
 generalize hB:hideAll s.heap (e::frs X.stack)=B;have stB:B.StaysIn s.heap:=λb o q=>of_hideAll _ (hB▸q);have ff:s.heap.FunFrames B X.stack:=hB▸funFrames_hide I.stack λenv hm a ha=>Xm _ (Sm.mpr ⟨env,hm,ha⟩);have eB:B.get? e=none:=hB▸hideAll_none _ (Xq ..)
 have cv:Cov B H X.s₀ X.outer:=by
  refine⟨λb u q=>?_,λb o q hb=>?_⟩
  ·obtain⟨o,ho⟩:=(I.hok b u q).there;refine⟨o,hB▸hideAll_get _ ho λz=>?_⟩
   rcases X5.mp z with rfl|z
   ·rw[hn]at q;cases q
   ·rw[I.stkFree b z]at q;cases q
  ·obtain⟨o',ho⟩:=I.base.there b o q (by rw[hex];simp)
   refine⟨o',hB▸hideAll_get _ ho λz=>?_⟩
   rcases X5.mp z with rfl|z
   ·rw[h0]at q;cases q
   ·rcases X5.mp (I.stkSub b z)with z|z
    ·exact Xo (Xr (Xk q) I.ok.above) z
    ·exact hb z
 refine X2 (Jw (E:=λy y=>False) Qcl (wpAny_leaving_firstW (base:=B) (Q:=λy s''=>Heap.FlyingW B X.outer e (.ref C) a0 s''.heap/\s.heap.UpToSlots s''.heap/\s''.os=s.os/\s''.gens=s.gens) (hst▸I.ok.frames) (hst▸ff) hf he stB eB hd v1 v0 λh' x=>by obtain⟨k1,⟨_,_,k2⟩,k3,k4⟩:=x;exact⟨⟨k1,eB,k2,hc▸k3⟩,k4,rfl,rfl⟩)) (λy s'' v=>?_) λy y z=>z.1.elim;obtain⟨⟨fl',up,eo,eg⟩,dk⟩:=v;have b:=I.base;rw[hex]at b;obtain⟨un,hok⟩:=QdA b I.hok I.ok.funs I.ok.frf stB fl'.1 up cv;exact⟨e,C,H,B,a0,oe.dict,rfl,eo.trans I.os,eg▸I.bare,un,hok,fl',cv,hn,h0,DictAt.dk ⟨oe,he,rfl⟩ dk,hE⟩
def QcW{vs:List Value}(hst:X.stack=X.env::X.outer)(hf:X.env.frame=some L)(hex:X.ex=[])(I:Inv X pins Y H s)(hx:Heap.MadeExcOf s.heap h' e (.ref C) vs)(hE:E (.ref C) none H):
  wpAny (model X.prog X.w) X.A (leaving X.env (.ref e)) (λy s''=>CXw X.prog X.w X.outer X.H₀ X.s₀ E (.ref e) s'') E2 {s with heap:=h'}:=by
 have hn:H e=none:=by
  cases q:H e with
  |none=>rfl
  |some u=>
   obtain⟨o,ho⟩:=(I.hok e u q).there;rw[hx.new]at ho;cases ho
 have h0:X.s₀.heap.get? e=none:=by
  cases q:X.s₀.heap.get? e with
  |none=>rfl
  |some o=>
   obtain⟨o',ho⟩:=I.base.there e o q (by rw[hex];simp)
   rw[hx.new]at ho;cases ho
 obtain⟨t,he,_,_⟩:=hx.there;refine YW hst hf hex (I.kept (t':=s.toks) hx.keeps) hn h0 (λz=>?_) he rfl rfl rfl rfl hE;obtain⟨m,⟨o,_,_,ho,_⟩,_⟩:=I.loc;rw[<-z,hx.new]at ho;cases ho
def QmF(I:Inv X pins Y H s)(hex:X.ex=[]){v:Value}(h:CXw X.prog X.w X.stack H s E v s'):∃e C H' B a0 dd,v=.ref e/\Inv X pins Y H' s'/\Heap.FlyingW B X.stack e (.ref C) a0 s'.heap/\Cov B H' s X.stack/\H' e=none/\s.heap.get? e=none/\X.s₀.heap.get? e=none/\DictAt s'.heap e dd/\E (.ref C) dd H':=by
 obtain⟨a,C,H',B,a0,dd,e,os,bare,un,hok,fl,cv,hn,hs,da,hE⟩:=h
 refine⟨a,C,H',B,a0,dd,e,I.call' (ch:=[]) os un hok bare (λb z=>absurd z (by simp)),fl,cv,hn,hs,?_,da,hE⟩
 cases q:X.s₀.heap.get? a with
 |none=>rfl
 |some o=>
  obtain⟨o',ho⟩:=I.base.there a o q (by rw[hex];simp)
  rw[hs]at ho;cases ho
def Inv.adopt{ho:HO}(I:Inv X pins Y H s)(hn:H e=none)(h0:X.s₀.heap.get? e=none)(hL:e≠X.env.locals)(hC:∀x c,X.env.cells.lookup x=some c->c≠e)(hp:∀p∈X.pn++pins,p.1≠e)
  (new:ObjOk X.prog X.w (upd H e ho) s.heap e ho):Inv X pins Y (upd H e ho) s:=by
 have ne:∀b u,H b=some u->b≠e:=λb u q z=>by rw[z,hn]at q;cases q
 refine⟨I.ok,I.os,I.bare,⟨I.base.keep,I.base.slot,λb o q n hx=>?_,I.base.there,λb xs q=>?_,λb o u q=>?_,λb ps q=>?_⟩,I.loc,I.cell,?_,λx c q=>?_,λp hp'=>?_,λb u q=>?_,I.len⟩
 ·have hb:b≠e:=λz=>by rw[z,h0]at q;cases q
  rw[Qf hb];exact I.base.free b o q n hx
 ·have z:=I.base.tups b xs q;rw[Qf (ne _ _ z)];exact z
 ·have z:=I.base.frzs b o u q;rw[Qf (ne _ _ z)];exact z
 ·obtain⟨m,z⟩:=I.base.tbls b ps q
  exact⟨m,by rw[Qf (ne _ _ z)];exact z⟩
 ·rw[Qf (Wq hL)];exact I.free
 ·rw[Qf (hC x c q)];exact I.freeC x c q
 ·obtain⟨a1,a2,a3⟩:=I.pin p hp'
  exact⟨a1,by rw[Qf (hp p hp')];exact a2,a3⟩
 ·by_cases hb:b=e
  ·subst hb;rw[Qi]at q;cases q;exact new
  ·rw[Qf hb]at q
   exact(I.hok b u q).stay (λc v y r=>r) (λc r=>by rw[Qf (ne _ _ r)];exact r) λc xs r=>by rw[Qf (ne _ _ r)];exact r
def Inv.gone{n:Str}{j t:Nat}{m:Str->Option Value}{v:Option Value}(I:Inv X pins Y H s)(hN:X.N.Nodup)(hj:X.N[j]?=some n)(hk:X.env.scope.names.lookup n=some .local)(hm:s.heap.Ns X.env.locals m)
  (hn:h'.Ns X.env.locals (λx=>if x=n then v else m x)) (hs:Heap.SameBut X.env.locals s.heap h'):Inv X pins (Y.set j none) H {s with heap:=h',toks:=t}:=by
 obtain⟨m0,hm0,hl⟩:=id I.loc;obtain⟨oL,_,_,hoL,_⟩:=id hm
 have em:∀x,m0 x=m x:=λx=>by
  obtain⟨o1,es1,ep1,a1,a2,a3,a4⟩:=hm0;obtain⟨o2,es2,ep2,b1,b2,b3,b4⟩:=hm;rw[a1]at b1;cases b1;rw[a2]at b2;cases b2;rw[<-a4,<-b4]
 refine⟨I.ok,I.os,I.bare,⟨λb o e n hb hx=>?_,λb o e n hb hx=>?_,I.base.free,λb o e hx=>?_,I.base.tups,I.base.frzs,I.base.tbls⟩,⟨_,hn,λi y v' e1 e2 e3=>?_⟩,λy c e=>?_,I.free,I.freeC,λp hp=>?_,λb ob e=>?_,by simpa using I.len⟩
 ·exact(hs.2 b (Xo (Xr (Xk e) I.ok.above))).trans (I.base.keep b o e n hb hx)
 ·obtain⟨sl,e1⟩:=I.base.slot b o e n hb hx;exact⟨sl,(hs.2 b (Xo (Xr (Xk e) I.ok.above))).trans e1⟩
 ·obtain⟨o',e1⟩:=I.base.there b o e hx;exact⟨o',(hs.2 b (Xo (Xr (Xk e) I.ok.above))).trans e1⟩
 ·have hij:i≠j:=λz=>by
   subst z
   have l:i < Y.length:=by rw[I.len];exact(Xc.mp hj).1
   rw[X0 l]at e2;cases e2
  rw[Xs (Wq hij)]at e2;obtain⟨u',r',q⟩:=hl i y v' e1 e2 e3;refine⟨u',r',?_⟩
  rcases q with⟨k,e⟩|⟨k,c,e,z⟩
  ·refine .inl ⟨k,?_⟩;have:y≠n:=λe=>hij (JT hN e1 (e▸hj));simp[this,<-em,e]
  ·exact .inr ⟨k,c,e,z.sameBut hs (I.cne y c e)⟩
 ·obtain⟨w',z⟩:=I.cell y c e;exact⟨w',z.sameBut hs (I.cne y c e)⟩
 ·obtain⟨e,n,ne,nf,d⟩:=I.pin p hp;exact⟨(hs.2 p.1 ne).trans e,n,ne,nf,d⟩
 ·refine(I.hok b ob e).stay (λc w' hc q=>(hs.2 c ?_).trans q) (λw q=>q) λw w q=>q;rintro rfl
  rcases hc with hc|hc
  ·rw[<-hc,I.free]at e;cases e
  ·rw[I.free]at hc;cases hc
end
end
section
variable {C:Addr}{body:List Stmt}
def QeW{K:W.Frag}{h:Heap}{bmB:List Value}{newId:String}(X:K.In h)(q:excIn K C bmB newId=true):
  ∃bm N nm q bs hdct sn sub ab col dd k0 k1 k2 k3 k5 mN,h.get? C=some (excClassObj nm q C N bs bm hdct sn sub ab col dd k0 k1 k2 k3 k5 newId)/\h.Ns N mN/\mN "__init__"=none/\OwnTail h bmB bm:=by
 unfold excIn at q;split at q
 ·rename_i dd cd sl ho;split at q
  ·rename_i C' bm k0 k1 k2 k3 n k5 hm hs;simp only[Xl,Uf,Uu]at q;obtain⟨⟨⟨⟨⟨rfl,rfl⟩,hdel⟩,ht⟩,hok⟩,hni⟩:=q;obtain⟨nm,bs,mro,ns,qn,hd,sn,sub,ab,col,del⟩:=cd;dsimp only at hm hdel hok hni;subst hm hdel
   have hsl:sl=#[k0,k1,k2,k3,some (.builtin n),k5]:=by
    obtain⟨l⟩:=sl;simp only at hs;rw[hs]
   subst hsl;exact⟨bm,ns,nm,qn,bs,hd,sn,sub,ab,col,dd,k0,k1,k2,k3,k5,_,X _ _ ho,.of_isNs (isNs_of_in X hok),nsMap_none_of_in X hok hni,tail_of_in X ht⟩
  ·cases q
 ·cases q
noncomputable def Qa9:List Value:=[.type "ValueError",.type "Exception",.type "BaseException",.type "object"]
section
variable {X:Cx}{x:Str}{np cpos pos:Pos}{t:TA}{W:Hp->Prop}
def Qlr(t:TA)(W:Hp->Prop):TS:=λz Y H=>t Y H λvs H1=>vs.length<=sizeLine/\W H1
def Qgi{e₀:Expr}{rest:List Expr}(q:excIn X.K C Qa9 "ValueError.__new__"=true)(hg:Gl X x)(hm:X.mg x=some (.ref C))(hc:X.calm=true)(ha:PA X (e₀::rest) t)
  (hw:∀pins Y H s h' e vs,Inv X pins Y H s->Heap.MadeExcOf s.heap h' e (.ref C) vs->W H->X.xe (.ref e) {s with heap:=h'})
  (he:starEach (e₀::rest) X.env=(false,eval e₀ X.env)::starEach rest X.env) (hpl:(backTo cpos (starEach rest X.env)).any (·.1)=false) (hdb:(x==("__debug__":Str))=false):
  PS X (.Raise (some (.Call (.Name x np) (e₀::rest) [] cpos)) none pos) (Qlr t W):=by
 intro pins s Y H D I h;obtain⟨tl,N,nm,qn,bs,hdct,sn,sub,ab,col,dd,k0,k1,k2,k3,k5,mN,hC,hN,hni,T⟩:=QeW I.ok.mod.kin q
 refine wpAny_Raise_call_subT (C:=C) (nm:=nm) (q:=qn) (N:=N) (bs:=bs) (bm:=tl) (hdct:=hdct) (sn:=sn) (sub:=sub) (ab:=ab) (col:=col) (dd:=dd) (k0:=k0) (k1:=k1) (k2:=k2) (k3:=k3) (k5:=k5)
  V9 (mN:=mN) (T.hasType V9.hasBase) (I.ok.hd hc) (by rw[he];show(false||(backTo cpos (starEach rest X.env)).any (·.1))=false;rw[hpl];rfl) hni (ZJ I hg hm ⟨rfl,?_⟩ hdb)
 have h':=ha cpos pins s Y H _ I h;rw[he]at h' ⊢;refine Calls.evalArgs_plain (X2 h' (λus s₂ z=>?_) λv v y=>y);obtain⟨vs,H1,I1,r,l,w⟩:=z
 exact⟨rfl,by rw[<-r.length];exact l,I1.bk _ _ hC,hN.keeps I1.bk,T.keeps I1.bk,λh' e mx=>hw pins Y H1 s₂ h' e us I1 mx w⟩
def Qd4(q:excIn X.K C Qa9 "ValueError.__new__"=true)(hg:Gl X x)(hm:X.mg x=some (.ref C))(hc:X.calm=true)
  (hw:∀pins Y H s h' e vs,Inv X pins Y H s->Heap.MadeExcOf s.heap h' e (.ref C) vs->W H->X.xe (.ref e) {s with heap:=h'}) (hdb:(x==("__debug__":Str))=false):
  PS X (.Raise (some (.Call (.Name x np) [] [] cpos)) none pos) (λz z H=>W H):=by
 intro pins s Y H D I h;obtain⟨tl,N,nm,qn,bs,hdct,sn,sub,ab,col,dd,k0,k1,k2,k3,k5,mN,hC,hN,hni,T⟩:=QeW I.ok.mod.kin q
 refine wpAny_Raise_call_subT (C:=C) (nm:=nm) (q:=qn) (N:=N) (bs:=bs) (bm:=tl) (hdct:=hdct) (sn:=sn) (sub:=sub) (ab:=ab) (col:=col) (dd:=dd) (k0:=k0) (k1:=k1) (k2:=k2) (k3:=k3) (k5:=k5)
  V9 (mN:=mN) (T.hasType V9.hasBase) (I.ok.hd hc) rfl hni (ZJ I hg hm ⟨rfl,?_⟩ hdb)
 exact evalArgs_empty ⟨rfl,Ww _,I.bk _ _ hC,hN.keeps I.bk,T.keeps I.bk,λh' e mx=>hw pins Y H s h' e [] I mx h⟩
end
section
variable {X:Cx}{pins:List (Addr×Obj)}{Y:St}{H H':Hp}{s s':Shared}{e C':Addr}{dd:Option Addr}{B:Heap}{a0:Value}{x n y:Str}{j:Nat}{np pn pos:Pos}{Q:Flow->Shared->Prop}{E:Value->Shared->Prop}
noncomputable def Cx.hd(X:Cx)(v:Value):Cx:={X with A:=X.A.mark (some v),calm:=false}
theorem Inv.hd{v:Value}(I:Inv X pins Y H s):Inv (X.hd v) pins Y H s :=
 ⟨⟨I.ok.mod,I.ok.kind,I.ok.glob,I.ok.blt,I.ok.above,I.ok.inj,I.ok.has,I.ok.cab,(λz=>nomatch z),I.ok.frames,I.ok.stk,I.ok.exf,I.ok.bs,I.ok.bsz,I.ok.noex,I.ok.exfs,I.ok.funs,I.ok.frf⟩,I.os,I.bare,I.base,I.loc,I.cell,I.free,I.freeC,I.pin,I.hok,I.len⟩
def Inv.unhd{v:Value}(ok:X.Ok)(I:Inv (X.hd v) pins Y H s):Inv X pins Y H s:=⟨ok,I.os,I.bare,I.base,I.loc,I.cell,I.free,I.freeC,I.pin,I.hok,I.len⟩
structure Met(X:Cx)(pins:List (Addr×Obj))(Y:St)(H H':Hp)(s s':Shared)(e C:Addr)(dd:Option Addr)(B:Heap)(a0:Value):Prop where
 I:Inv X pins Y H s
 os:s'.os=s.os
 bare:AllBare s'.gens
 un:Un (frs X.stack) [] H H' s.heap s'.heap
 hok:HOk X.prog X.w H' s'.heap
 fl:Heap.FlyingW B X.stack e (.ref C) a0 s'.heap
 cv:Cov B H' s X.stack
 hn:H' e=none
 hs0:s.heap.get? e=none
 h00:X.s₀.heap.get? e=none
 da:DictAt s'.heap e dd
def Met.at(M:Met X pins Y H H' s s' e C dd B a0){h2:Heap}(f2:Heap.FlyingW B X.stack e (.ref C) a0 h2)(up:s'.heap.UpToSlots h2)(tk:Nat):Inv X pins Y H' {s' with heap:=h2,toks:=tk}:=by
 obtain⟨un2,hok2⟩:=QdA M.un M.hok M.I.stack M.I.stkFree M.fl.1 f2.1 up M.cv
 exact M.I.call' (s':={s' with heap:=h2,toks:=tk}) (ch:=[]) M.os un2 hok2 M.bare (λb z=>absurd z (by simp))
def Qh5{h:Heap}{l:List Env}(f:Heap.FlyingW B l e (.ref C) a0 h)(d:DictAt h e dd):Ja e C dd h:=by
 obtain⟨_,_,_,oe,vs,T,oT,ts,he,hc,hd,_⟩:=f;obtain⟨o,e1,e2⟩:=d;cases he.symm.trans e1;exact⟨oe,vs,he,hc.1,hd,e2⟩
def Qcd{nm:Option Str}(hst:X.stack=X.env::X.outer)(hf:X.env.frame=some X.env.locals)(M:Met X pins Y H H' s s' e C dd B a0)
  (hg:Gl X x) (hm:X.mg x=some (.ref C')) (hx:exmOne X.K (.ref C) (.ref C')=some true) (hdb:(x==("__debug__":Str))=false)
  (k:∀h₅,Heap.FlyingW B (X.env::X.outer) e (.ref C) a0 h₅->s'.heap.UpToSlots h₅->DictAt h₅ e dd->codeAny (model X.prog X.w) (X.A.mark (some (.ref e))) (.handlers (.ref e) [.ExceptHandler none nm body pos] X.env) (λr s₂=>match r with
     |.ok f=>(match nm with
      |none=>Q f s₂
      |some n=>wpAny (model X.prog X.w) X.A (do bindName X.env n .none;unbindBehindTheSuite X.env n pos) (λv s₃=>Q f s₃) E s₂)
     |.error y=>cameBackBy (model X.prog X.w) X.A X.env E y s₂) {s' with heap:=h₅}):
  wpAny (model X.prog X.w) X.A (noteFrame (.ref e) X.env) (λv s₂=>wpAny (model X.prog X.w) X.A (setFlight (.ref e) none) (λv s₃=>
   wpAny (model X.prog X.w) X.A (handleBy (.ref e) X.env [.ExceptHandler (some (.Name x np)) nm body pos]) Q E s₃) E s₂) E s':=by
 have fl:=M.fl;rw[hst]at fl;refine X2 (Jw (E:=λv v=>False) QeD (wpAny_looks_onW (Q:=λv s''=>∃h₄,s''={s' with heap:=h₄}/\Heap.HeldW B (X.env::X.outer) e (.ref C) a0 X.env.locals h₄/\s'.heap.UpToSlots h₄) (hst▸M.I.ok.frames) hf fl λh₄ x y=>⟨h₄,rfl,x,y⟩)) (λv s4 u=>?_) λv v z=>z.1.elim;obtain⟨⟨h₄,e4,hl₄,up₄⟩,dk₄⟩:=u;subst e4;refine X2 (Jw (E:=λv v=>False) Z2 (wpAny_landsW (s:={s' with heap:=h₄}) (Q:=λv s''=>∃h₅,s''={s' with heap:=h₅}/\Heap.FlyingW B (X.env::X.outer) e (.ref C) a0 h₅/\h₄.UpToSlots h₅) hl₄ λh₅ x y=>⟨h₅,rfl,x,y⟩)) (λv s5 t=>?_) λv v z=>z.1.elim;obtain⟨⟨h₅,e5,fl₅,up₅'⟩,dk₅⟩:=t;subst e5;have da₅:=(M.da.dk dk₄).dk dk₅;have up₅:=up₄.trans up₅';have J5:=M.at (hst▸fl₅) up₅ s'.toks
 refine wpAny_handleBy_cons (codeAny_handlers_test ?_) (by intro z;cases z)
 refine U2 M.I.ok.kind hg (Calls.loadGlobal_global (by rw[M.I.ok.glob];exact J5.mod.glob.keeps J5.bk) hm ?_) hdb
 refine(exm_one (M:=model X.prog X.w) J5.kIn (JB (Qh5 fl₅ da₅)) hx).here ?_;exact k h₅ fl₅ up₅ da₅
def Qj6{b₀:Stmt}{W:St->Hp->Prop}(hst:X.stack=X.env::X.outer)(hf:X.env.frame=some X.env.locals)(M:Met X pins Y H H' s s' e C dd B a0)
  (hg:Gl X x) (hm:X.mg x=some (.ref C')) (hx:exmOne X.K (.ref C) (.ref C')=some true) (hdb:(x==("__debug__":Str))=false)
  (hS:∀s7,Inv (X.hd (.ref e)) pins Y H' s7->wpAny (model X.prog X.w) (X.hd (.ref e)).A (execs (b₀::body) X.env) (λf s8=>f=.next/\∃σ8 H8,Inv (X.hd (.ref e)) pins σ8 H8 s8/\W σ8 H8) (λv v=>False) s7)
  (k:∀σ8 H8 s'',W σ8 H8->Inv X pins σ8 H8 s''->Q .next s''):
  wpAny (model X.prog X.w) X.A (noteFrame (.ref e) X.env) (λv s₂=>wpAny (model X.prog X.w) X.A (setFlight (.ref e) none) (λv s₃=>
   wpAny (model X.prog X.w) X.A (handleBy (.ref e) X.env [.ExceptHandler (some (.Name x np)) none (b₀::body) pos]) Q E s₃) E s₂) E s':=by
 refine Qcd hst hf M hg hm hx hdb λh₅ fl₅ up₅ da₅=>?_;refine codeAny_handlers_suite ?_;refine X2 (Jw (E:=λv v=>False) Z2 (lands_againW (s:={s' with heap:=h₅}) (Q:=λv s''=>∃h₆,s''={s' with heap:=h₆}/\Heap.FlyingW B (X.env::X.outer) e (.ref C) a0 h₆/\h₅.UpToSlots h₆) fl₅ λh₆ x y=>⟨h₆,rfl,x,y⟩)) (λv s6 u=>?_) λv v z=>z.1.elim;obtain⟨⟨h₆,e6,fl₆,up₆⟩,dk₆⟩:=u;subst e6;have da₆:=da₅.dk dk₆;have J6:=M.at (hst▸fl₆) (up₅.trans up₆) s'.toks;refine X2 (hS _ J6.hd) (λf s8 t=>?_) λv v z=>z.elim;obtain⟨ef,σ8,H8,J8,w⟩:=t;subst ef;exact k σ8 H8 s8 w (J8.unhd M.I.ok)
def Qj7{b₀:Stmt}{W:St->Hp->Prop}(hst:X.stack=X.env::X.outer)(hf:X.env.frame=some X.env.locals)(hN:X.N.Nodup)(M:Met X pins Y H H' s s' e C dd B a0)
  (hg:Gl X x) (hm:X.mg x=some (.ref C')) (hx:exmOne X.K (.ref C) (.ref C')=some true) (hdb:(x==("__debug__":Str))=false)
  (hj:X.N[j]?=some n) (kn:X.env.scope.names.lookup n=some .local)
  (hS:∀s7,Inv (X.hd (.ref e)) pins (Y.set j (some (.ref e))) (upd H' e (QfM e C dd)) s7->wpAny (model X.prog X.w) (X.hd (.ref e)).A (execs (b₀::body) X.env) (λf s8=>f=.next/\∃σ8 H8,Inv (X.hd (.ref e)) pins σ8 H8 s8/\W σ8 H8) (λu u=>False) s7)
  (k:∀σ8 H8 s'',W σ8 H8->Inv X pins (σ8.set j none) H8 s''->Q .next s''):
  wpAny (model X.prog X.w) X.A (noteFrame (.ref e) X.env) (λu s₂=>wpAny (model X.prog X.w) X.A (setFlight (.ref e) none) (λu s₃=>
   wpAny (model X.prog X.w) X.A (handleBy (.ref e) X.env [.ExceptHandler (some (.Name x np)) (some n) (b₀::body) pos]) Q E s₃) E s₂) E s':=by
 refine Qcd hst hf M hg hm hx hdb λh₅ fl₅ up₅ da₅=>?_;refine codeAny_handlers_suite_as ?_;refine X2 (Jw (E:=λu u=>False) Z2 (lands_againW (s:={s' with heap:=h₅}) (Q:=λu s''=>∃h₆,s''={s' with heap:=h₆}/\Heap.FlyingW B (X.env::X.outer) e (.ref C) a0 h₆/\h₅.UpToSlots h₆) fl₅ λh₆ x y=>⟨h₆,rfl,x,y⟩)) (λu s6 r=>?_) λu u z=>z.1.elim;obtain⟨⟨h₆,e6,fl₆,up₆⟩,dk₆⟩:=r;subst e6;have da₆:=da₅.dk dk₆;have J6:=M.at (hst▸fl₆) (up₅.trans up₆) s'.toks;have I:=M.I;have hs0:=M.hs0
 have cne:∀z c,X.env.cells.lookup z=some c->c≠e:=λz c q w=>by
  obtain⟨v,o,ho,_⟩:=I.cell z c q;rw[w,hs0]at ho;cases ho
 have hL:e≠X.env.locals:=λw=>by
  obtain⟨m,⟨o,_,_,ho,_⟩,_⟩:=I.loc;rw[<-w,hs0]at ho;cases ho
 have hp:∀p∈X.pn++pins,p.1≠e:=λp q w=>by
  have:=(I.pin p q).1;rw[w,hs0]at this;cases this
 have J6':Inv X pins Y (upd H' e (QfM e C dd)) {s' with heap:=h₆}:=J6.adopt M.hn M.h00 hL cne hp (QmI (Qh5 fl₆ da₆));refine JN (v:=.ref e) J6' hN hj (.inl kn) rfl (λs7 J7=>?_) (.inr kn);refine X2 (hS _ J7.hd) (λf s8 l=>?_) λu u z=>z.elim;obtain⟨ef,σ8,H8,J8,w⟩:=l;subst ef;have J8:=J8.unhd I.ok;obtain⟨m8,hn8,_⟩:=J8.loc
 refine wpAny_nameGoes_keeps kn hn8 (by rw[I.ok.kind];rfl) λh' v hv hs=>?_
 exact k σ8 H8 _ w (J8.gone (t:=s8.toks+1) hN hj kn hn8 hv hs)
end
end
section
section
open Builtin Builtin.ObjectAttr
end
end
end L2
namespace L2
open PySem PySem.Spec PySem.W PyProof.Rows PySem.Calls PySem.Builtin PySem.Builtin.ObjectAttr
end L2
namespace L2
open PySem PySem.Spec PySem.W PyProof.Rows
end L2
namespace L2
open PySem
open Sem (wp)
open AutoSeq1 (wpAny_loadPart')
end L2
namespace L2
open PySem PySem.Spec PyProof.Rows
section
section
variable {X:Cx}
def QpR(K:W.Frag)(te:TE):TE:=λY H Q=>te Y H λx H1=>∃a xs,x=.ref a/\SqL K H1 a xs/\∀p,H1 p=none->Q (.ref p) (upd H1 p (.lst xs.reverse))
def QlP{e:Expr}{te:TE}{j:Nat}{p1 p3 p2 pos:Pos}(he:PE X e te):PE X (.Subscript e (.Slice none none (some (.UnaryOp .USub (.Constant (.int 1) j p1) p3)) p2) pos) (QpR X.K te):=by
 intro pins s Y H Q I h;refine Subscript_ (thn (he pins s Y H _ I h) λv s1 z=>?_);obtain⟨x,H1,I1,r1,q1⟩:=z;have hk:PO X (some (.UnaryOp .USub (.Constant (.int 1) j p1) p3)) (Qk4 (tUn (rU λi=>.int (-i)) (tC (.int 1)))):=Qd8 (QlN Qhu Qed);refine wpAny_Slice ?_;rw[evalPart_none];refine Xj ?_;refine Xj ?_;refine thn (hk pins s1 Y H1 (λo H2=>o=some (-1)/\H2=H1) I1 ⟨1,rfl,-1,rfl,rfl,rfl⟩) λvk s3 y=>?_;obtain⟨o,H3,I3,pk,eo,eH⟩:=y;subst eo eH;have I4:Inv X pins Y H3 {s3 with heap:=s3.heap.push {cls:=.type "slice",data:=.fields #[.none,.none,vk]} }:=I3.kept (t':=s3.toks) λb ob q=>Xg _ q;obtain⟨a,xs,rfl,hq,q⟩:=q1;cases r1;obtain⟨its,r,ht,hz⟩:=I4.list hq;have hlen:=r.length;show wpAny (model X.prog X.w) X.A (subscriptTail e (.Slice none none (some (.UnaryOp .USub (.Constant (.int 1) j p1) p3)) p2) (.ref a) (.ref s3.heap.objs.size)) (EP X pins Y Q) X.xe {s3 with heap:=s3.heap.push {cls:=.type "slice",data:=.fields #[.none,.none,vk]} }
 refine tail_any (ops:=[.ref a,.ref s3.heap.objs.size]) ht.isList.typeIs slot_list_getitem.lookup ?_ (by with_unfolding_all rfl)
 refine wpAny_getItem_list_slice ht.isList (Heap.IsSliceOf.new ..) .none .none pk (by simp) ?_ (by rw[Xw]<;>omega)
 rw[W.krv_pick];refine⟨.ref _,_,I4.laid (t':=s3.toks) (o:=.lst xs.reverse) (λb ob q=>Xg _ q) (Xi _) ?_,rfl,q _ (I4.hok.fresh (Xi _))⟩
 exact⟨by rw[Sj];exact hz,_,0,by simpa using r.reverse,Xy _ rfl⟩
end
end
section
open Sem (wp)
section
variable {prog:Program}{w:World}{A:Around}{E:Value->Shared->Prop}{s:Shared}
def Qeq:typeLookup (.type "list_reverseiterator") "__len__"=pure none:=by rw[typeLookup_type,T5];kernel_rfl
def Qgz:typeLookup (.type "list_reverseiterator") "__length_hint__"=pure (some (.builtin "list_reverseiterator.__length_hint__")):=by rw[typeLookup_type,T5];kernel_rfl
def Qc4{R:Result->Shared->Prop}{I l:Addr}{items:Array Value}(hh:A.handled=none)(hit:s.heap.IsRevIter I l ((items.size:Int) - 1))(hl:s.heap.IsList l items)(hne:l≠I)(hn:items.size<=sizeLine)(S:Addr)(res:Value)(c₀:Nat)
  (hS:s.heap.get? S=some {cls:=.type "list",data:=.seq #[] c₀}) (hSI:S≠I) (hSl:S≠l)
  (hR:∀h' tk acc' c',(∀b o,b≠S->b≠I->s.heap.get? b=some o->h'.get? b=some o)->h'.get? S=some {cls:=.type "list",dict:=none,data:=.seq acc' c',slots:=#[]} ->
   ItemsOf (λi v=>items[items.size-1-i]?=some v) acc' items.size->R (.ok (.ret res)) {s with heap:=h',toks:=tk}):
  wpAny (model prog w) A.in1 (Builtin.List.listExtendWith (.ref S) (.ref I) res)
   (λfin s'=>match fin with|.done f=>R (.ok f) s'|.again c'=>c'.quiet=true/\codeAny (model prog w) A c' R s') (λe s'=>R (.error e) s') s:=by
 have hTy:s.TypeIs (.ref I) "list_reverseiterator":=hit.typeIs;have W:=(Walks.listRev (prog:=prog) (w:=w) (A:=A.in1) hh I l hne items).toS
 have hSf:S∉[I,l]:=λhm=>by
  rcases X5.mp hm with e|hm
  ·exact hSI e
  ·exact hSl (Wh.mp hm)
 unfold Builtin.List.listExtendWith;refine Xa (wpAny_typeOf hTy ?_)
 have h1:Builtin.List.listSameRef (.ref S) (.ref I)=false:=by simp[Builtin.List.listSameRef,hSI]
 have h2:(Value.type "list_reverseiterator"==Value.type "list")=false:=by decide
 have h3:(Value.type "list_reverseiterator"==Value.type "tuple")=false:=by decide
 simp only[h1,h2,h3,Bool.or_false,X4,Wv];refine Xa (wpAny_pyIter_revIter hit ?_);refine Xa (W4 ?_);unfold Builtin.List.listLengthHint;refine Xa (U7 hTy Qeq ?_);show wpAny _ A.in1 (specialOf (Value.ref I) (Str.ofString "__length_hint__") >>= _) _ _ _;refine Xa (U7 hTy Qgz ?_);generalize hid:("list_reverseiterator.__length_hint__":String)=id0
 wp_delta
 rw[show splitId id0=some ("list_reverseiterator","__length_hint__")from by subst hid;decide +kernel]
 subst hid
 refine Xa (wpAny_isInstance (T:="list_reverseiterator") (b:=true) hTy (by rw[isSubtype_type];kernel_rfl) ?_)
 refine U8 (λhab=>absurd hab (by decide)) (λz=>?_)
 refine U8 (λz=>?_) (λhab=>absurd (by decide +kernel) hab)
 refine U8 (λhab=>absurd hab (by decide +kernel)) (λz=>?_)
 refine Xj ?_
 rw[if_neg (by decide)]
 refine Xj ⟨T0 F.plain_extend_loop _,codeAny_extend_loopS W hn S hSf res items.size 0 _ #[] c₀ rfl (Ww _) ⟨Ww _,by simpa using hit,hl⟩ hS (ItemsOf.nil _) λs' acc' c' hm hS' hacc=>?_⟩
 rw[Moved.eq_with hm];refine hR s'.heap s'.toks acc' c' (λb o hb hb2 e=>hm.heap b o (λhmem=>?_) e) hS' hacc
 rcases X5.mp hmem with e'|hmem
 ·exact hb e'
 ·exact hb2 (Wh.mp hmem)
def Qak{Q:Value->Shared->Prop}{I l:Addr}{items:Array Value}(hh:A.handled=none)(hit:s.heap.IsRevIter I l ((items.size:Int) - 1))(hl:s.heap.IsList l items)(hne:l≠I)(hn:items.size<=sizeLine)
  (hQ:∀h' tk acc' c',(∀b o,b≠I->s.heap.get? b=some o->h'.get? b=some o) ->
   h'.get? s.heap.objs.size=some {cls:=.type "list",dict:=none,data:=.seq acc' c',slots:=#[]}->ItemsOf (λi v=>items[items.size-1-i]?=some v) acc' items.size->Q (.ref s.heap.objs.size) {s with heap:=h',toks:=tk}):
  wpAny (model prog w) A (call (.type "list") [.ref I]) Q E s:=by
 refine callType_codes (Q₁:=λobj s₁=>obj=.ref s.heap.objs.size/\s₁={s with heap:=s.heap.push {cls:=.type "list",data:=.seq #[]} }) F.called_list (F.typeCall_list_1 _) F.entry_list_init
  (code_list_new _ ⟨rfl,rfl⟩) λobj s₁ h₁=>?_
 obtain⟨rfl,rfl⟩:=h₁;have hS:(s.heap.push {cls:=.type "list",data:=.seq #[]}).get? s.heap.objs.size=some {cls:=.type "list",data:=.seq #[]}:=Xy _ rfl
 have hI:s.heap.objs.size≠I:=by
  obtain⟨o,e,_⟩:=hit;exact Wq (Xo (Xk e))
 have hL:s.heap.objs.size≠l:=by
  obtain⟨o,e,_⟩:=hl;exact Wq (Xo (Xk e))
 refine⟨⟨_,hS,rfl⟩,F.args_list_init_2 _ _,?_⟩
 show wpAny _ _ (do let old <-Builtin.List.listItems (.ref s.heap.objs.size);Builtin.List.listUpdate (.ref s.heap.objs.size) (λz=>#[]);letGo old.toList.reverse;Builtin.List.listExtendWith (.ref s.heap.objs.size) (.ref I) .none) _ _ _
 refine Xa ?_;unfold Builtin.List.listItems;refine Xa (wpAny_seqItems hS rfl (Xj ?_));show wpAny _ _ (updateSeq s.heap.objs.size (λz=>#[]) >>= λz=>letGo (#[]:Array Value).toList.reverse >>= λz=>Builtin.List.listExtendWith (.ref s.heap.objs.size) (.ref I) .none) _ _ _;refine Xa (Sb hS rfl ?_);have hS₂:=Vq (Obj.mapSeq (λz=>(#[]:Array Value))) hS rfl
 have oth:∀b o,s.heap.get? b=some o->((s.heap.push {cls:=.type "list",data:=.seq #[]}).update s.heap.objs.size (Obj.mapSeq (λz=>(#[]:Array Value)))).get? b=some o :=
  λb o e=>(Vc _ _ (Wq (Xo (Xk e)))).trans (Xg _ e)
 refine Xa (wpAny_letGo ?_);refine Qc4 (A:=A.in1) hh (l:=l) (items:=items) ?_ ?_ hne hn _ .none _ hS₂ hI hL λh' tk acc' c' hk hS' hacc=>?_
 ·exact hit.at λo e=>oth _ _ e
 ·exact hl.at λo e=>oth _ _ e
 ·exact⟨rfl,hQ h' tk acc' c' (λb o hb e=>hk b o (Xo (Xk e)) hb (oth b o e)) hS' hacc⟩
end
section
variable {X:Cx}
def Qgb{xs:List V}{its:List Value}{acc:Array Value}(r:Vals xs its)(h:ItemsOf (λi v=>its.toArray[its.toArray.size-1-i]?=some v) acc its.toArray.size):Vals xs.reverse acc.toList:=by
 have e:acc.toList=its.reverse:=by
  refine Tt λi=>?_;by_cases hi:i<its.length
  ·rw[List.getElem?_reverse hi]
   have hs:acc.size=its.length:=by simpa using h.1
   have hi':i<acc.size:=by omega
   have h1:=h.2 i acc[i] (by simp[hi'])
   simp only[List.getElem?_toArray,Xw]at h1;rw[h1];simp[hi']
  ·have hs:acc.size=its.length:=by simpa using h.1
   rw[Wr (by simp;omega),Wr (by simp;omega)]
 rw[e];exact r.reverse
def Qje{e:Expr}{te:TE}{p q pos pos2:Pos}(hc:X.calm=true)(hg:Gl X "list")(hm:X.mg "list"=none)(hg2:Gl X "reversed")(hm2:X.mg "reversed"=none)(he:PE X e te)(hs:starEach [e] X.env=[(false,eval e X.env)]):
  PE X (.Call (.Name "list" p) [.Call (.Name "reversed" q) [e] [] pos2] [] pos) (QpR X.K te):=by
 intro pins s Y H Q I h;refine Va (ZE I hg hm PyProof.Rows.boot_list ?_);refine Wu (e:=.Call (.Name "reversed" q) [e] [] pos2) (rest:=[]) ?_ rfl rfl;show wpAny _ _ (spliced ((false,eval (.Call (.Name "reversed" q) [e] [] pos2) X.env)::backTo pos (starEach [] X.env))) _ _ s;refine V6 ?_;refine Va (ZE I hg2 hm2 boot_reversed ?_);refine Wu (e:=e) (rest:=[]) ?_ hs rfl;rw[hs];show wpAny _ _ (spliced ((false,eval e X.env)::backTo pos2 (starEach [] X.env))) _ _ s;refine V6 (thn (he pins s Y H _ I h) λu s1 z=>?_);obtain⟨x,H1,I1,rx,q1⟩:=z;refine Ua ?_;obtain⟨a,xs,ev,hq,q⟩:=q1;subst ev;cases rx;obtain⟨its,rv,pl,hz⟩:=I1.list hq;refine call_reversed_list pl.isList ?_;refine Ua ?_;have I2:Inv X pins Y H1 {s1 with heap:=s1.heap.push (revObj a ((its.toArray.size:Int) - 1))}:=I1.kept (t':=s1.toks) λb o e=>Xg _ e
 have st:(s1.heap.push (revObj a ((its.toArray.size:Int) - 1))).IsRevIter s1.heap.objs.size a ((its.toArray.size:Int) - 1):=⟨_,Xy _ rfl,rfl,by simp[revObj]⟩
 have hl:(s1.heap.push (revObj a ((its.toArray.size:Int) - 1))).IsList a its.toArray:=pl.isList.at λo e=>Xg _ e
 have hne:a≠s1.heap.objs.size:=by
  obtain⟨o,e,_⟩:=pl.isList;exact Xo (Xk e)
 refine Qak (I2.ok.hd hc) st hl hne (by rw[Xw,<-rv.length];exact hz) λh' tk acc c' kp hS hacc=>?_
 have e1:(s1.heap.push (revObj a ((its.toArray.size:Int) - 1))).objs.size=s1.heap.objs.size+1:=by simp[Heap.push]
 have hS':=hS
 refine⟨.ref _,_,I1.laid (t':=tk) (o:=.lst xs.reverse) (a:=(s1.heap.push (revObj a ((its.toArray.size:Int) - 1))).objs.size) (λb o e=>kp b o (Xo (Xk e)) (Xg _ e)) (by rw[e1];exact Ur _) ?_,rfl,q _ (I1.hok.fresh (a:=(s1.heap.push (revObj a ((its.toArray.size:Int) - 1))).objs.size) (by rw[e1];exact Ur _))⟩
 exact⟨by rw[Sj];exact hz,acc.toList,c',Qgb rv hacc,by simpa using hS⟩
noncomputable def Its(x:PySem.Str):It:=⟨λi z=>i<x.cps.size,λi H y H'=>H'=H/\∃c,x.cps[i]?=some c/\y=.str ⟨#[c]⟩,λi z=>x.cps.size<=i⟩
def QfT{P:Program}{w:World}{K:W.Frag}{tg:Expr}(x:PySem.Str)(tk:Tok)(it:Addr)(n:String)(hn:n="str_ascii_iterator"\/n="str_iterator"): Turn P w K tg (Its x) [it] it (λi h=>h.IsStrIter it n x tk i) where
 mem:=by simp
 obj:=λi h st b hb=>by
  have e:b=it:=by simpa using hb
  subst e;obtain⟨o,e,c,d⟩:=st
  exact⟨o,e,λv z=>by rw[d]at z;cases z⟩
 keep:=λi h h' st k=>by
  obtain⟨o,e,r⟩:=st
  exact⟨o,k it (by simp) o e,r⟩
 item:=by
  intro X hP hw hK hc i pins s Y H E I hf st hg;subst hP hw hK
  obtain⟨f0,f1,f2,f3,f4,f5⟩:=hf it (by simp)
  have hg:i<x.cps.size:=hg;have hx:x.cps[i]?=some x.cps[i]:=Array.getElem?_eq_getElem hg
  have fin:∀h',h'.IsStrIter it n x tk (i+1)->Heap.SameBut it s.heap h'->∃u,some (Value.str ⟨#[x.cps[i]]⟩ s.toks)=some u /\
    wpAny (model X.prog X.w) X.A (letOwnedTupleGo tg (.ref it) u) (λt s2=>∃y H',Inv X pins Y H' s2/\RelV y u/\(Its x).yld i H y H'/\s2.heap.IsStrIter it n x tk (i+1)/\∀b∈[it],H' b=none) E {s with heap:=h',toks:=s.toks+1}:=by
   intro h' st' sb;have I1:Inv X pins Y H {s with heap:=h',toks:=s.toks+1}:=I.turned (t':=s.toks+1) (λb o hb e=>(sb.2 b hb).trans e) f0 f1 f3 f4 f5;obtain⟨o,e,c,d⟩:=id st'
   exact⟨_,rfl,Qc0 (s:={s with heap:=h',toks:=s.toks+1}) e c d (by rcases hn with rfl|rfl<;>decide) ⟨.str ⟨#[x.cps[i]]⟩,H,I1,⟨_,rfl⟩,⟨rfl,_,hx,rfl⟩,st',λb hb=>(hf b hb).1⟩⟩
  rcases hn with rfl|rfl
  ·exact wpAny_pyNext_ascii_item st hx fin
  ·exact wpAny_pyNext_wide_item st hx fin
 done:=by
  intro X hP hw hK hc i pins s Y H E I hf st hg;subst hP hw hK;have hg:x.cps.size<=i:=hg;have hx:x.cps[i]?=none:=Array.getElem?_eq_none hg
  obtain⟨f0,f1,f2,f3,f4,f5⟩:=hf it (by simp)
  rcases hn with rfl|rfl
  ·exact wpAny_pyNext_ascii_end (I.ok.hd hc) st hx λh' eb=>⟨rfl,I.turned (t':=s.toks) (λb o hb e=>eb b o hb e) f0 f1 f3 f4 f5⟩
  ·exact wpAny_pyNext_wide_end (I.ok.hd hc) st hx λh' eb=>⟨rfl,I.turned (t':=s.toks) (λb o hb e=>eb b o hb e) f0 f1 f3 f4 f5⟩
 self:=λt t t t t st h=>by
  rcases hn with rfl|rfl
  ·exact wpAny_pyIter_striter_ascii st h
  ·exact wpAny_pyIter_striter_wide st h
def Qrl(te:TE):TI:=λY H R=>te Y H λx H1=>∃t,x=.str t/\R (Its t) H1
def QlI{tg e:Expr}{te:TE}(he:PE X e te):PI X tg e (Qrl te):=by
 intro pins s Y H R I h;refine thn (he pins s Y H _ I h) λu s1 z=>?_;obtain⟨x,H1,I1,rx,q1⟩:=z;obtain⟨t,rfl,q⟩:=q1;obtain⟨tk,rfl⟩:=rx
 have fin:∀(n:String) (o:Obj),n="str_ascii_iterator"\/n="str_iterator"->o={cls:=.type n,data:=.fields #[.str t tk,.int 0 0]}->PIE X pins Y tg R (.ref s1.heap.objs.size) {s1 with heap:=s1.heap.push o}:= by
  intro n o hn ho;subst ho;refine⟨s1.heap.objs.size,[s1.heap.objs.size],_,_,H1,rfl,I1.kept (t':=s1.toks) λb o e=>Xg _ e,QfT t tk _ n hn,⟨_,Xy _ rfl,rfl,rfl⟩,λb hb=>?_,q⟩
  have e:b=s1.heap.objs.size:=by simpa using hb
  subst e;exact I1.fpOk (Xi _) (I1.hok.fresh (Xi _))
 cases ha:t.cps.all (· < 128)
 ·exact wpAny_pyIter_wide ha (fin _ _ (.inr rfl) rfl)
 ·exact wpAny_pyIter_ascii ha (fin _ _ (.inl rfl) rfl)
end
end
section
section
variable {X:Cx}{pins:List (Addr×Obj)}{Y:St}{H:Hp}{s:Shared}{d:Addr}
def Inv.freeze{kv:List (Key×V)}(I:Inv X pins Y H s)(h:H d=some (.dK kv)):∃o es ep,s.heap.get? d=some o/\o.data=.dict es ep/\Inv X pins Y (upd H d (.frz o (.dK kv))) s:=by
 obtain⟨hz,hm,vs,r,o,es,ep,e,c,dt,rr⟩:=QbF I.hok h;refine⟨o,es,ep,e,dt,?_⟩
 have:=I.write (x:=d) (e:=d) (o:=.frz o (.dK kv)) (h':=s.heap) (t':=s.toks) (by rw[h];trivial) (.inl rfl) (λb u z q=>q) ⟨o,e⟩ ⟨e,hz,hm,vs,r,o,es,ep,e,c,dt,rr⟩
 exact this
def Inv.thaw{o:Obj}{kv:List (Key×V)}(I:Inv X pins Y H s)(h:H d=some (.frz o (.dK kv)))(h0:∀o' u',X.H₀ d≠some (.frz o' u')):Inv X pins Y (upd H d (.dK kv)) s:=by
 have ne:∀{b:Addr},H b=none->b≠d:=λq z=>by rw[z,h]at q;cases q
 refine⟨I.ok,I.os,I.bare,⟨I.base.keep,I.base.slot,λb ob q n hx=>?_,I.base.there,λb xs q=>?_,λb ob u q=>?_,λb ps q=>?_⟩,I.loc,I.cell,?_,λx c e=>?_,λp hp=>?_,λb u q=>?_,I.len⟩
 ·have:=I.base.free b ob q n hx;rw[Qf (ne this)];exact this
 ·have:=I.base.tups b xs q
  rw[Qf (λz=>by rw[z,h]at this;cases this)]
  exact this
 ·have:=I.base.frzs b ob u q
  rw[Qf (λz=>by subst z;exact h0 _ _ q)]
  exact this
 ·obtain⟨more,e⟩:=I.base.tbls b ps q;refine⟨more,?_⟩
  rw[Qf (λz=>by rw[z,h]at e;cases e)]
  exact e
 ·rw[Qf (ne I.free)];exact I.free
 ·rw[Qf (ne (I.freeC x c e))];exact I.freeC x c e
 ·obtain⟨a1,a2,a3⟩:=I.pin p hp
  exact⟨a1,by rw[Qf (ne a2)];exact a2,a3⟩
 ·by_cases hb:b=d
  ·subst hb;rw[Qi]at q;cases q;obtain⟨_,ok⟩:=I.hok b _ h;exact ok
  ·rw[Qf hb]at q;refine(I.hok b u q).stay (λc v y r=>r) (λc r=>?_) λc xs r=>?_
   ·rw[Qf (λz=>by rw[z,h]at r;cases r)];exact r
   ·rw[Qf (λz=>by rw[z,h]at r;cases r)];exact r
end
noncomputable def Itk(a:Addr)(o:Obj)(kv:List (Key×V)):It :=
 ⟨λi H=>H a=some (.frz o (.dK kv))/\i<kv.length,λi H x H'=>H'=H/\∃p,kv[i]?=some p/\x=kV p.1,λi H=>H a=some (.frz o (.dK kv))/\kv.length<=i⟩
def QjC{P:Program}{w:World}{k:Key}{u:Value}(h:(Ql P w).is k u=true):RelV (kV k) u:=by
 rcases Qz (show Qbz k u=true from h)with⟨i,t,rfl,rfl⟩|⟨x,t,rfl,rfl⟩
 ·exact⟨t,rfl⟩
 ·exact⟨t,rfl⟩
def Qmn{kv:List (Key×V)}{vs:List (Key×Value)}{i:Nat}{p:Key×V}{q:Key×Value}(h:KV kv vs)(h1:kv[i]?=some p)(h2:vs[i]?=some q):p.1=q.1:=by
 obtain⟨q',e,r⟩:=Jn h h1;rw[h2]at e;cases e;exact r.1
def QdD{P:Program}{w:World}{K:W.Frag}{tg:Expr}(a it:Addr)(o:Obj)(kv:List (Key×V))(es:Array DictEntry)(ep:Nat)(hd:o.data=.dict es ep):
  Turn P w K tg (Itk a o kv) [it] it (λi h=>h.IsKeyIter it a i kv.length ep) where
 mem:=by simp
 obj:=λi h st b hb=>by
  have e:b=it:=by simpa using hb
  subst e;obtain⟨o,e,c,d⟩:=st
  exact⟨o,e,λv z=>by rw[d]at z;cases z⟩
 keep:=λi h h' st k=>by
  obtain⟨o,e,r⟩:=st
  exact⟨o,k it (by simp) o e,r⟩
 item:=by
  intro X hP hw hK hc i pins s Y H E I hf st hg;subst hP hw hK
  obtain⟨f0,f1,f2,f3,f4,f5⟩:=hf it (by simp)
  obtain⟨hg,hi⟩:=hg;obtain⟨eo,hz,hm,vs,rr,o',es',ep',e',c',dt',r'⟩:=I.hok a _ hg;rw[eo]at e';cases e';rw[hd]at dt';cases dt';have hl:=Wn rr
  have hi':i<vs.length:=by omega
  have D:s.heap.DictAt (Ql X.prog X.w) a vs ep:=⟨o,es,eo,c',hd,r'⟩;have st':=st;rw[hl]at st';refine wpAny_pyNext_dict_item st' D (k:=vs[i].1) (v:=vs[i].2) (Xf hi') λkey h' hk hit sb=>?_;have I1:Inv X pins Y H {s with heap:=h'}:=I.turned (t':=s.toks) (λb o hb e=>(sb.2 b hb).trans e) f0 f1 f3 f4 f5;obtain⟨oi,e,c,dd⟩:=id hit
  have ek:kv[i].1=vs[i].1:=by
   exact Qmn rr (Xf hi) (Xf hi')
  refine⟨key,rfl,Qc0 (s:={s with heap:=h'}) e c dd (by decide) ⟨kV kv[i].1,H,I1,by rw[ek];exact QjC hk,⟨rfl,kv[i],Xf hi,rfl⟩,?_,λb hb=>(hf b hb).1⟩⟩
  rw[hl];exact hit
 done:=by
  intro X hP hw hK hc i pins s Y H E I hf st hg;subst hP hw hK
  obtain⟨f0,f1,f2,f3,f4,f5⟩:=hf it (by simp)
  obtain⟨hg,hi⟩:=hg;obtain⟨eo,hz,hm,vs,rr,o',es',ep',e',c',dt',r'⟩:=I.hok a _ hg;rw[eo]at e';cases e';rw[hd]at dt';cases dt';have hl:=Wn rr;have D:s.heap.DictAt (Ql X.prog X.w) a vs ep:=⟨o,es,eo,c',hd,r'⟩;have st':=st;rw[hl]at st'
  exact wpAny_pyNext_dict_end (I.ok.hd hc) st' D (Wr (by omega)) λh' eb=>⟨rfl,I.turned (t':=s.toks) (λb o hb e=>eb b o hb e) f0 f1 f3 f4 f5⟩
 self:=λy y y y y st h=>wpAny_pyIter_keyiter st h
section
variable {X:Cx}
def QoY(te:TE):TI:=λY H R=>te Y H λx H1=>∃a kv,x=.ref a/\H1 a=some (.dK kv)/\∀o,R (Itk a o kv) (upd H1 a (.frz o (.dK kv)))
def Qjb{tg e:Expr}{te:TE}(he:PE X e te):PI X tg e (QoY te):=by
 intro pins s Y H R I h;refine thn (he pins s Y H _ I h) λu s1 z=>?_;obtain⟨x,H1,I1,rx,q1⟩:=z;obtain⟨a,kv,rfl,hk,q⟩:=q1;cases rx;obtain⟨hz,hm,vs,r,dof⟩:=QbF I1.hok hk;obtain⟨o,es,ep,eo,hd,I2⟩:=I1.freeze hk;have hl:=Wn r;obtain⟨ep',D⟩:=dof.dictAt
 have ee:ep'=ep:=by
  obtain⟨o',es',e',c',dt',_⟩:=id D;rw[eo]at e';cases e';rw[hd]at dt';cases dt';rfl
 subst ee;refine wpAny_pyIter_dict hm D ?_
 refine⟨s1.heap.objs.size,[s1.heap.objs.size],_,Itk a o kv,_,rfl,I2.kept (t':=s1.toks) λb o e=>Xg _ e,QdD a _ o kv es ep' hd,⟨_,Xy _ rfl,rfl,by rw[hl];rfl⟩,λb hb=>?_,q o⟩
 have e:b=s1.heap.objs.size:=by simpa using hb
 subst e;exact I2.fpOk (Xi _) (I2.hok.fresh (Xi _))
def QdK(d:Addr)(H:Hp)(P:Hp->Prop)(H':Hp):Prop:=∃o kv,H' d=some (.frz o (.dK kv))/\P (upd H' d (.dK kv))
def Qof(ts:TS):TS:=λD Y H=>∃d kv,H d=some (.dK kv)/\ts ⟨λY'=>QdK d H (D.nx Y'),λv=>QdK d H (D.rt v),λY'=>QdK d H (D.bk Y'),λY'=>QdK d H (D.ct Y')⟩ Y H
def Qd3{st:Stmt}{ts:TS}(h:PS X st ts):PS X st (Qof ts):=by
 intro pins s Y H D I q;obtain⟨d,kv,hk,q⟩:=q
 have h0:∀o' u',X.H₀ d≠some (.frz o' u'):=λo' u' z=>by
  have:=I.base.frzs d o' u' z;rw[hk]at this;cases this
 refine thn (h pins s Y H _ I q) λf s' hf=>?_
 cases f with
 |next=>obtain⟨Y',H',I',o,kv',e,p⟩:=hf;exact⟨Y',_,I'.thaw e h0,p⟩
 |brk=>obtain⟨Y',H',I',o,kv',e,p⟩:=hf;exact⟨Y',_,I'.thaw e h0,p⟩
 |cont=>obtain⟨Y',H',I',o,kv',e,p⟩:=hf;exact⟨Y',_,I'.thaw e h0,p⟩
 |ret u=>obtain⟨v,Y',H',I',rv,o,kv',e,p⟩:=hf;exact⟨v,Y',_,I'.thaw e h0,rv,p⟩
end
end
section
variable {d:Addr}{es:Array DictEntry}{ep:Nat}{od:Obj}
section
variable {prog:Program}{w:World}{A:Around}{E:Value->Shared->Prop}{s:Shared}
def Qgy{it:Addr}{i:Nat}{Q:Option Value->Shared->Prop}(hit:s.heap.IsKeyIter it d i es.size ep)(hod:s.heap.get? d=some od)(hdd:od.data=.dict es ep)(hlt:i<es.size)
  (hQ:∀h',h'.IsKeyIter it d (i+1) es.size ep->Heap.SameBut it s.heap h'->Q (some es[i].key) {s with heap:=h'}):wpAny (model prog w) A (pyNext (.ref it)) Q E s:=by
 obtain⟨o,ho,hc,hd⟩:=id hit;have ty:=hit.typeIs;have sl:=Ub
 have own:Builtin.Dict_items.ownsTuple "dict_keyiterator"=false:=by decide
 have nn:¬((Value.ref d==Value.none)=true):=Xz;unfold pyNext;refine Xa (wpAny_attempt (Tk (name:=Str.ofString "__next__") ty sl (U0 sl ty Th ?_ (Tc _))));refine Xa (Xj (Xa (Xa ?_)))
 first
  |refine Xa (Vz ty (Xj ?_))
  |refine Xa (Ui ty (Xj ?_))
 refine Xa (wpAny_fieldsOf ho hd ?_);simp only[own,X4,Wv];show wpAny _ _ (if(Value.ref d==Value.none)=true then _ else _) _ _ s;rw[if_neg nn];refine Xa (Xj (Xa (Tu hod hdd ?_)))
 rw[if_neg (by simp)]
 refine Xa (Xj (Xa (wpAny_dictEpoch hod hdd ?_)))
 rw[if_neg (by simp)]
 refine Xj ?_
 have i0:¬((i:Int) < 0):=by omega
 simp only[i0,Wv,Tv,Array.getElem?_eq_getElem hlt];refine Xa ?_
 first
  |refine Xa (Vz ty (Xj ?_))
  |refine Xa (Ui ty (Xj ?_))
 refine Xa (wpAny_isOneOf_keyiter ty ?_);show wpAny _ _ (setField (.ref it) 1 (rawInt ((i:Int)+1)) >>= _) _ _ s
 refine Xa (wpAny_setField ho hd (by simp) ?_)
 have nx:(s.heap.update it (Obj.mapFields (·.setIfInBounds 1 (rawInt ((i:Int)+1))))).IsKeyIter it d (i+1) es.size ep:=by
  refine⟨_,Vq _ ho (Obj.isFreed_of_fields (Obj.data_mapFields hd _)),(Obj.cls_mapFields ..).trans hc,?_⟩;rw[Obj.data_mapFields hd];simp[rawInt]
 refine Xa (W4 (Xa ?_));refine wpAny_isOneOf_keyiter (s:={s with heap:=s.heap.update it (Obj.mapFields (·.setIfInBounds 1 (rawInt ((i:Int)+1))))}) nx.typeIs ?_;show wpAny _ _ (pure es[i].key) _ _ _;exact Xj (Xj ⟨_,rfl,Xj (hQ _ nx (Heap.SameBut.update ..))⟩)
def QjT{it:Addr}{i:Nat}{Q:Option Value->Shared->Prop}(hh:A.handled=none)(hit:s.heap.IsKeyIter it d i es.size ep)(hod:s.heap.get? d=some od)(hdd:od.data=.dict es ep)(hge:es.size<=i)
  (hQ:∀h',Heap.ExtBut it s.heap h'->Q none {s with heap:=h'}):wpAny (model prog w) A (pyNext (.ref it)) Q E s:=by
 obtain⟨o,ho,hc,hd⟩:=id hit;have ty:=hit.typeIs;have sl:=Ub
 have own:Builtin.Dict_items.ownsTuple "dict_keyiterator"=false:=by decide
 have nn:¬((Value.ref d==Value.none)=true):=Xz;unfold pyNext;refine Xa (wpAny_attempt (Tk (name:=Str.ofString "__next__") ty sl (U0 sl ty Th ?_ (Tc _))));refine Xa (Xj (Xa (Xa ?_)))
 first
  |refine Xa (Vz ty (Xj ?_))
  |refine Xa (Ui ty (Xj ?_))
 refine Xa (wpAny_fieldsOf ho hd ?_);simp only[own,X4,Wv];show wpAny _ _ (if(Value.ref d==Value.none)=true then _ else _) _ _ s;rw[if_neg nn];refine Xa (Xj (Xa (Tu hod hdd ?_)))
 rw[if_neg (by simp)]
 refine Xa (Xj (Xa (wpAny_dictEpoch hod hdd ?_)))
 rw[if_neg (by simp)]
 refine Xj ?_
 have i0:¬((i:Int) < 0):=by omega
 simp only[i0,Wv,Tv,Array.getElem?_eq_none hge];refine Xa ?_
 first
  |refine Xa (Vz ty (Xj ?_))
  |refine Xa (Ui ty (Xj ?_))
 show wpAny _ _ (setField (.ref it) 0 .none >>= _) _ _ s
 refine Xa (wpAny_setField ho hd (by simp) ?_)
 show wpAny _ _ (newExc (.type "StopIteration") [] >>= _) _ _ _;refine Xa ?_;simp only[newExc,newTuple]
 refine Xa (Uv ?_ (by size_fits))
 refine Xa (m:=firstArgMember _ _) (Vv (a:=Value.none) (by first|rfl|(simp only[firstArgMember];rfl)) (Uv ?_ (by size_fits)))
 simp only[raiseNew];refine Xa (wpAny_handled ?_);rw[show A.in1.handled=none from hh];refine Xa (Xj (wpAny_throw ?_));refine Xa (wpAny_isInstance (T:="StopIteration") (b:=true) ⟨_,Xy _ rfl,rfl⟩ isSubtype_stop (Xj (hQ _ ?_)));exact((Heap.SameBut.update ..).extBut.push _).push _
def QgJ{Q:Value->Shared->Prop}(hm:(d==sysModules)=false)(ho:s.heap.get? d=some od)(hc:od.ExactDict)(hdd:od.data=.dict es ep)
  (hQ:Q (.ref s.heap.objs.size) {s with heap:=s.heap.push {cls:=.type "dict_keyiterator",data:=.fields #[.ref d,.int 0 0,.int es.size 0,.int ep 0]} }):wpAny (model prog w) A (pyIter (.ref d)) Q E s:=by
 have hT:s.TypeIs (.ref d) "dict":=⟨od,ho,hc.1⟩;have sl:=PySem.F.slot_dict_iter;refine wpAny_pyIter_slot hT sl (U0 sl hT PySem.F.entry_dict_iter ?_ (PySem.F.args_dict_iter_1 _));unfold Builtin.«dict.__iter__» Builtin.Dict.dictSlotNone;refine Xa (Xa (wpAny_notOrdered_dict hT ?_));show wpAny _ _ (pure (Value.ref d)) _ _ s;refine Xj ?_;show wpAny _ _ (Builtin.Dict.showsAll d >>= _) _ _ s;unfold Builtin.Dict.showsAll
 rw[if_neg (by rw[hm];exact Xz)]
 refine Xa (Xj (Xa (Tu ho hdd (Xa (wpAny_dictEpoch ho hdd ?_)))));have nxt:=Ub.lookup;refine Xa (Uv (Xj ⟨_,rfl,"dict_keyiterator",_,⟨_,Xy _ rfl,rfl⟩,nxt,?_⟩));simpa[rawInt]using hQ
end
end
section
section
variable {prog:Program}{w:World}{A:Around}{E:Value->Shared->Prop}{s:Shared}
def JW{d:Addr}(hd:(d==sysModules)=false):
  MeetsIn prog w (Builtin.«dict.__len__» ⟨[.ref d],[]⟩) (λz R s=>∃od es ep,s.heap.get? d=some od/\od.data=.dict es ep/\R (.ok (.ret (.int es.size s.toks))) {s with toks:=s.toks+1}):=
 .of_wp λA R s y=>by
  obtain⟨od,es,ep,ho,hdat,h⟩:=y
  show wpAny _ _ (dictSize d >>= _) _ _ s;unfold dictSize;refine Xa (Xa (Tu ho hdat (Xj ?_)));show wpAny _ _ (Builtin.Dict.pendingCount d >>= _) _ _ s;refine Xa (wpAny_pendingCount_other hd (wpAny_ret_mkInt ?_));rw[Nat.add_zero];exact h
def Qjx{d:Addr}{od:Obj}{es:Array DictEntry}{ep:Nat}{Q:Value->Shared->Prop}(hd:(d==sysModules)=false)(ho:s.heap.get? d=some od)(hc:od.ExactDict)(hdat:od.data=.dict es ep)(hfit:(es.size:Int) < 2 ^ 63)
  (h:Q (.int es.size (s.toks+1)) {s with toks:=s.toks+1+1}):wpAny (model prog w) A (call (.builtin "len") [.ref d]) Q E s:=by
 have hT:s.TypeIs (.ref d) "dict":=⟨od,ho,hc.1⟩;have sl:=PySem.F.slot_dict_len;refine Calls.call_function_entry kind_len plain_len entry_len (args_len1 _) ?_;unfold Builtin.«len»;refine Xa (m:=oneArg "len" _) (Xj (Xa (m:=callSpecial? (.ref d) (Str.ofString "__len__")) ?_));refine Tk (name:=Str.ofString "__len__") hT sl (T9 sl hT PySem.F.entry_dict_len (PySem.F.args_dict_len_1 _) (JW hd) ⟨od,es,ep,ho,hdat,?_⟩);show wpAny _ _ _ _ _ {s with toks:=s.toks+1};refine Xa (W4 (Xj (Xa (wpAny_letGo ?_))));show wpAny _ _ (if((es.size:Nat):Int) < 0 then _ else _) _ _ _
 rw[if_neg (by omega)]
 show wpAny _ _ (if((es.size:Nat):Int)≥2 ^ 63 then _ else _) _ _ _
 rw[if_neg (by omega)]
 exact Xa (wpAny_mkInt (Xj ⟨_,rfl,h⟩))
end
def Qfp{X:Cx}: CallR X (.builtin "len") (λxs H Q=>∃a kvs,xs=[V.ref a]/\H a=some (.dT kvs)/\Q (.int kvs.length) H):= by
 intro pins s Y H xs us Q I r h;obtain⟨a,kvs,rfl,ha,q⟩:=h;obtain⟨u,rfl,ru⟩:=Jc r;cases ru;obtain⟨hz,hm,ys,rr,o,es,ep,e,c,dt,r',nd⟩:=(show ObjOk X.prog X.w H s.heap a (.dT kvs)from I.hok a _ ha)
 have ls:es.size=kvs.length:=by
  have:=congrArg List.length r';rw[Wd,<-Wn rr]at this;simpa using this
 refine Qjx hm e c dt (by rw[ls];rw[Vu]at hz;omega) ⟨.int kvs.length,H,?_,⟨_,by rw[ls]⟩,q⟩
 exact I.tok _
end
section
variable {es:Array DictEntry}
section
variable {prog:Program}{w:World}{A:Around}{E:Value->Shared->Prop}{s:Shared}
def Qds(hh:A.handled=none)(I d:Addr)(hne:d≠I)(od:Obj)(es:Array DictEntry)(ep:Nat)(hdd:od.data=.dict es ep):
  Walks prog w A I [I,d] [I] es.size (λi v=>∃e,es[i]?=some e/\v=e.key) (λi h=>h.IsKeyIter I d i es.size ep/\h.get? d=some od) where
 sub:=λb hb=>by simp at hb;simp[hb]
 frame:=λy y y st hk=>⟨st.1.at λo e=>hk I (by simp) o e,hk d (by simp) _ st.2⟩
 item:=λi s Q E hi st hQ=>by
  refine Qgy st.1 st.2 hdd hi λh' hit sb=>?_
  exact hQ _ h' s.toks ⟨es[i],by simp[hi],rfl⟩ ⟨hit,(sb.2 d hne).trans st.2⟩ λb o hb e=>(sb.2 b λz=>hb (by simp[z])).trans e
 done:=λs Q E st hQ=>QjT hh st.1 st.2 hdd (Xi _) λh' eb=>hQ h' s.toks λb o hb e=>eb b o (λz=>hb (by simp[z])) e
 self:=λy y y y st hQ=>wpAny_pyIter_keyiter st.1 hQ
def Qae:typeLookup (.type "dict") "__len__"=pure (some (.builtin "dict.__len__")):=by rw[typeLookup_type,T5];kernel_rfl
def Qc5{R:Result->Shared->Prop}{d:Addr}{od:Obj}{ep:Nat}(hh:A.handled=none)(hm:(d==sysModules)=false)(ho:s.heap.get? d=some od)(hc:od.ExactDict)(hdd:od.data=.dict es ep)(hn:es.size<=sizeLine)(S:Addr)(res:Value)(c₀:Nat)
  (hS:s.heap.get? S=some {cls:=.type "list",data:=.seq #[] c₀}) (hSd:S≠d)
  (hR:∀h' tk acc' c',(∀b o,b≠S->s.heap.get? b=some o->h'.get? b=some o)->h'.get? S=some {cls:=.type "list",dict:=none,data:=.seq acc' c',slots:=#[]} ->
   ItemsOf (λi v=>∃e,es[i]?=some e/\v=e.key) acc' es.size->R (.ok (.ret res)) {s with heap:=h',toks:=tk}):
  wpAny (model prog w) A.in1 (Builtin.List.listExtendWith (.ref S) (.ref d) res)
   (λfin s'=>match fin with|.done f=>R (.ok f) s'|.again c'=>c'.quiet=true/\codeAny (model prog w) A c' R s') (λe s'=>R (.error e) s') s:=by
 have hTy:s.TypeIs (.ref d) "dict":=⟨od,ho,hc.1⟩;unfold Builtin.List.listExtendWith;refine Xa (wpAny_typeOf hTy ?_)
 have h1:Builtin.List.listSameRef (.ref S) (.ref d)=false:=by simp[Builtin.List.listSameRef,hSd]
 have h2:(Value.type "dict"==Value.type "list")=false:=by decide
 have h3:(Value.type "dict"==Value.type "tuple")=false:=by decide
 simp only[h1,h2,h3,Bool.or_false,X4,Wv];refine Xa (QgJ hm ho hc hdd ?_);generalize hI:s.heap.objs.size=I;have ltS:=Xk hS;have ltd:=Xk ho
 have hSI:S≠I:=by rw[<-hI];exact Xo ltS
 have hne:d≠I:=by rw[<-hI];exact Xo ltd
 generalize hit0:({cls:=.type "dict_keyiterator",data:=.fields #[.ref d,.int 0 0,.int es.size 0,.int ep 0]}:Obj)=oI
 have hit:(s.heap.push oI).IsKeyIter I d 0 es.size ep:=by
  rw[<-hI,<-hit0];exact⟨_,Xy _ rfl,rfl,rfl⟩
 have kp:∀b o,s.heap.get? b=some o->(s.heap.push oI).get? b=some o:=λb o e=>Xg _ e;generalize s.heap.push oI=h2' at hit kp ⊢;have hTy2:Shared.TypeIs {s with heap:=h2'} (.ref d) "dict":=⟨od,kp _ _ ho,hc.1⟩;refine Xa (W4 ?_);unfold Builtin.List.listLengthHint;refine Xa (U7 hTy2 Qae ?_);generalize hid:("dict.__len__":String)=id0
 wp_delta
 rw[show splitId id0=some ("dict","__len__")from by subst hid;decide +kernel]
 subst hid
 refine Xa (wpAny_isInstance (T:="dict") (b:=true) hTy2 (by rw[isSubtype_type];kernel_rfl) ?_)
 refine U8 (λhab=>absurd hab (by decide)) (λz=>?_)
 refine U8 (λz=>?_) (λhab=>absurd (by decide +kernel) hab)
 refine Xa (wpAny_typeOf hTy2 ?_);refine Xj ?_
 rw[if_pos (by decide +kernel)]
 refine Xa (wpAny_rule ?_);have hS2:=kp _ _ hS;unfold Builtin.List.listTouch;refine Xa (Xa (Sb (a:=S) (f:=(·.push .none)) hS2 rfl ?_));have hS3:=Vq (Obj.mapSeq (·.push Value.none)) hS2 rfl;refine Sb (a:=S) (f:=(·.pop)) hS3 rfl ?_;have hS4:=Vq (Obj.mapSeq (·.pop)) hS3 rfl
 have oth:∀b o,b≠S->h2'.get? b=some o->((h2'.update S (Obj.mapSeq (·.push Value.none))).update S (Obj.mapSeq (·.pop))).get? b=some o :=
  λb o hb e=>(Vc _ _ (Wq hb)).trans ((Vc _ _ (Wq hb)).trans e)
 have W:=(Qds (prog:=prog) (w:=w) (A:=A.in1) hh I d hne od es ep hdd).toS
 have hSf:S∉[I,d]:=λhm=>by
  rcases X5.mp hm with e|hm
  ·exact hSI e
  ·exact hSd (Wh.mp hm)
 refine Xj ⟨T0 F.plain_extend_loop _,codeAny_extend_loopS W hn S hSf res es.size 0 _ #[] _ rfl (Ww _) ⟨hit.at λo e=>oth _ _ (Wq hSI) e,oth _ _ (Wq hSd) (kp _ _ ho)⟩ hS4 (ItemsOf.nil _) λs' acc' c' hmv hS' hacc=>?_⟩;rw[Moved.eq_with hmv];refine hR s'.heap s'.toks acc' c' (λb o hb e=>hmv.heap b o (λhmem=>?_) (oth b o hb (kp b o e))) hS' hacc
 rcases X5.mp hmem with e'|hmem
 ·exact hb e'
 ·have:=Wh.mp hmem;exact Xo (Xk e) (this.trans hI.symm)
def Qaj{Q:Value->Shared->Prop}{d:Addr}{od:Obj}{ep:Nat}(hh:A.handled=none)(hm:(d==sysModules)=false)(ho:s.heap.get? d=some od)(hc:od.ExactDict)(hdd:od.data=.dict es ep)(hn:es.size<=sizeLine)
  (hQ:∀h' tk acc' c',(∀b o,s.heap.get? b=some o->h'.get? b=some o) ->
   h'.get? s.heap.objs.size=some {cls:=.type "list",dict:=none,data:=.seq acc' c',slots:=#[]}->ItemsOf (λi v=>∃e,es[i]?=some e/\v=e.key) acc' es.size->Q (.ref s.heap.objs.size) {s with heap:=h',toks:=tk}):
  wpAny (model prog w) A (call (.type "list") [.ref d]) Q E s:=by
 refine callType_codes (Q₁:=λobj s₁=>obj=.ref s.heap.objs.size/\s₁={s with heap:=s.heap.push {cls:=.type "list",data:=.seq #[]} }) F.called_list (F.typeCall_list_1 _) F.entry_list_init
  (code_list_new _ ⟨rfl,rfl⟩) λobj s₁ h₁=>?_
 obtain⟨rfl,rfl⟩:=h₁;have hS:(s.heap.push {cls:=.type "list",data:=.seq #[]}).get? s.heap.objs.size=some {cls:=.type "list",data:=.seq #[]}:=Xy _ rfl;have hL:s.heap.objs.size≠d:=Wq (Xo (Xk ho));refine⟨⟨_,hS,rfl⟩,F.args_list_init_2 _ _,?_⟩
 show wpAny _ _ (do let old <-Builtin.List.listItems (.ref s.heap.objs.size);Builtin.List.listUpdate (.ref s.heap.objs.size) (λz=>#[]);letGo old.toList.reverse;Builtin.List.listExtendWith (.ref s.heap.objs.size) (.ref d) .none) _ _ _
 refine Xa ?_;unfold Builtin.List.listItems;refine Xa (wpAny_seqItems hS rfl (Xj ?_));show wpAny _ _ (updateSeq s.heap.objs.size (λz=>#[]) >>= λz=>letGo (#[]:Array Value).toList.reverse >>= λz=>Builtin.List.listExtendWith (.ref s.heap.objs.size) (.ref d) .none) _ _ _;refine Xa (Sb hS rfl ?_);have hS₂:=Vq (Obj.mapSeq (λz=>(#[]:Array Value))) hS rfl
 have oth:∀b o,s.heap.get? b=some o->((s.heap.push {cls:=.type "list",data:=.seq #[]}).update s.heap.objs.size (Obj.mapSeq (λz=>(#[]:Array Value)))).get? b=some o :=
  λb o e=>(Vc _ _ (Wq (Xo (Xk e)))).trans (Xg _ e)
 refine Xa (wpAny_letGo ?_);refine Qc5 (A:=A.in1) hh hm (oth _ _ ho) hc hdd hn _ .none _ hS₂ hL λh' tk acc' c' hk hS' hacc=>?_;exact⟨rfl,hQ h' tk acc' c' (λb o e=>hk b o (Xo (Xk e)) (oth b o e)) hS' hacc⟩
end
theorem ZS:∀ys:List (List Key×Addr×Value),Vals ((ys.map (·.2.1)).map V.ref) (ys.map λy=>Value.ref y.2.1)
 |[]=>.nil
 |y::ys=>.cons rfl (ZS ys)
def Qps{H:Hp}{kvs:List (List Key×V)}{ys:List (List Key×Addr×Value)}(h:Paired (λ(p:List Key×V) (q:List Key×Addr×Value)=>p.1=q.1/\H q.2.1=some (.tup (p.1.map kV))/\RelV p.2 q.2.2) kvs ys):Paired (λ(p:List Key×V) b=>H b=some (.tup (p.1.map kV))) kvs (ys.map (·.2.1)):=by
 induction h with
 |nil=>exact .nil
 |cons h _ ih=>exact .cons h.2.1 ih
def QcX{P:Program}{w:World}{ys:List (List Key×Addr×Value)}{acc:Array Value}(r:es.toList=ys.map (entryOfKey (tupleKind (Ql P w))))(h:ItemsOf (λi v=>∃e,es[i]?=some e/\v=e.key) acc es.size):acc.toList=ys.map λy=>Value.ref y.2.1:=by
 have ls:es.size=ys.length:=by
  have:=congrArg List.length r;simpa using this
 refine Tt λi=>?_;by_cases hi:i<ys.length
 ·have hs:acc.size=es.size:=h.1
  have hi':i<acc.size:=by omega
  obtain⟨e,he,ev⟩:=h.2 i acc[i] (by simp[hi'])
  have z:es.toList[i]?=(ys.map (entryOfKey (tupleKind (Ql P w))))[i]?:=by rw[r]
  rw[Wt,Xf hi,Array.getElem?_toList,he]at z;have ee:e=entryOfKey (tupleKind (Ql P w)) ys[i]:=X3 z;rw[Wt,Xf hi]
  have ea:acc.toList[i]?=some acc[i]:=by simp[hi']
  rw[ea,ev,ee];rfl
 ·have hs:acc.size=es.size:=h.1
  rw[Wr (by simp;omega),Wr (by simp;omega)]
def Qdc{X:Cx}(hc:X.calm=true): CallR X (.type "list") (λxs H Q=>∃a kvs,xs=[V.ref a]/\H a=some (.dT kvs)/\∀bs:List Addr,Paired (λ(p:List Key×V) b=>H b=some (.tup (p.1.map kV))) kvs bs->∀p,H p=none->Q (.ref p) (upd H p (.lst (bs.map V.ref)))):= by
 intro pins s Y H xs us Q I r h;obtain⟨a,kvs,rfl,ha,q⟩:=h;obtain⟨u,rfl,ru⟩:=Jc r;cases ru;obtain⟨hz,hm,ys,rr,o,es,ep,e,c,dt,r',nd⟩:=(show ObjOk X.prog X.w H s.heap a (.dT kvs)from I.hok a _ ha);have lk:=Wn rr
 have ls:es.size=kvs.length:=by
  have:=congrArg List.length r';rw[Wd,<-lk]at this;simpa using this
 refine Qaj (I.ok.hd hc) hm e c dt (by rw[ls];exact hz) λh' tk acc c' kp hS hacc=>?_
 refine⟨.ref s.heap.objs.size,_,I.laid (t':=tk) (o:=.lst ((ys.map (·.2.1)).map V.ref)) (a:=s.heap.objs.size) kp (Xi _) ?_,rfl,q _ (Qps rr) _ (I.hok.fresh (Xi _))⟩;have v:=ZS ys;rw[<-QcX r' hacc]at v
 exact⟨by simp only[Wd];rw[<-lk];exact hz,acc.toList,c',v,by simpa using hS⟩
end
end L2
namespace Iv
open PySem
section
inductive U where
 |non|bl (b:Bool)|int (i:Int) (m:Nat)|str (x:List Nat)|ref (n:Nat)|con (k:Nat)|scr
 deriving DecidableEq,Inhabited
inductive O where
 |lst (xs:List U)|tup (xs:List U)|ins (C:Nat) (fs:List (Nat×U))|dic (kvs:List (U×U))|dct (kvs:List (List U×U))|fzd (kvs:List (U×U))|fzt (kvs:List (List U×U))|err (c:Nat)
 deriving DecidableEq,Inhabited
abbrev Hs:=List O
abbrev Rho:=List (Option U)
inductive Bi where
 |len|int|str|tuple|list|sum|any|all|max|min|abs|sorted|dict|dictS
 deriving DecidableEq,Inhabited
inductive Bm where
 |append|pop|clear|reverse|extend|setdef|get|update|join|split|find|insert|index
 deriving DecidableEq,Inhabited
inductive Ty where
 |non|bool|int|str|list|tuple|dict|cls (c:Nat)|vale
 deriving DecidableEq,Inhabited
mutual
inductive E where
 |c (u:U)|var (i:Nat)|con (k:Nat)
 |op (o:Operator) (a b:E)|neg (a:E)|cmp (o:CmpOp) (a b:E)
 |and (a b:E)|or (a b:E)|not (a:E)|ife (t a b:E)
 |tup (es:List E)|lst (es:List E)|dis (kvs:List (U×U)) (b:E)
 |ix (a b:E)|tab (k:Nat) (b:E)|sl (a:E) (lo hi:Option E)|rev (a:E)|tupR (es:List E)
 |fld (a:E) (f:Nat)
 |call (f:Nat) (es:List E)|meth (m:Nat) (o:E) (es:List E)|make (k:Nat) (es:List E)
 |bi (b:Bi) (es:List E)|isi (a:E) (t:Ty)|bm (b:Bm) (o:E) (es:List E)
 |comp (s:Src) (b:Bool) (t:Option E) (el:E)|dnew|dnewT|zap (e:E)|dsp (ks:List U) (es:List E)|thw (i:Nat) (e:E)|chain (o o':CmpOp) (a b c:E)
inductive Src where
 |seq (e:E)|rng (a:E)|rng2 (a b:E)|rngA (es:List E)|zip (a b:E)|revd (e:E)|enm (e:E)|rngR (a:E)|key (e:E)
inductive Tg where
 |name (i:Nat)|pair (i j:Nat)
end
inductive S where
 |pass|expr (e:E)|set (i:Nat) (e:E)|fld (o:E) (f:Nat) (e:E)|ret (e:E)|retN
 |ite (t:E) (a b:List S)|loop (t:Tg) (s:Src) (body:List S)|loopC (i:Nat) (e:E) (body:List S)|loopK (i:Nat) (e:E) (body:List S)|loopD (i:Nat) (e:E) (body:List S)|while (t:E) (body:List S)
 |brk|cont
 |aug (i:Nat) (o:Operator) (e:E)|bad
 |put (o i e:E)|unp (i j:Nat) (e:E)|par (i j:Nat) (a b:E)|unpN (is:List Nat) (e:E)
 |rse (c:Nat) (es:List E)|tryS (j:Option Nat) (f:Nat) (es:List E) (c:Nat) (body:List S)|cal (n:S) (f:Nat) (es:List E)
inductive Fl where
 |next|brk|cont|ret (u:U)
structure Fn where
 name:Str
 qual:Str
 st:Stmt
 ps:List Str
 N:List Str
 np:Nat
 nN:Nat
 lc:Bool
 body:List S
structure Cl where
 name:Str
 init:Option Nat
 meths:List (Nat×Nat)
 subs:List Nat
inductive Co where
 |tup (xs:List U)|lst (xs:List U)|tab (kvs:List (U×U))
 deriving Inhabited
structure Df where
 ps:List Str
 np:Nat
 last:Str
 ds:List U
structure Tbl where
 fns:List Fn
 cls:List Cl
 cons:List Co
 fns':List Str
 mns:List Str
 scr:List U
 isi:List ((Ty×Ty)×Bool)
 dfl:List (Nat×Df)
 dts:List Str:=[]
 zps:List Str:=[]
 ld:Bool:=false
 ers:List Nat:=[]
 esb:List (Nat×Nat):=[]
 pss:List Nat:=[]
 efl:List (Nat×Nat):=[]
 dks:List Str:=[]
 xf:Nat->List U->Hs->Option (Nat×Hs):=λ_ _ _=>none
noncomputable def bd{α β:Type}(o:Option (α×Hs))(f:α->Hs->Option β):Option β:=match o with
 |none=>none
 |some (a,h)=>f a h
def Qe{α β:Type}{o:Option (α×Hs)}{f:α->Hs->Option β}{r:β}(h:bd o f=some r):∃a h',o=some (a,h')/\f a h'=some r:=by
 unfold bd at h
 cases o with
 |none=>cases h
 |some p=>exact⟨p.1,p.2,rfl,h⟩
noncomputable def gz:Nat->Nat->Nat
 |0,n=>n
 |m+1,n=>Nat.gcd (m+1) n
noncomputable def Qk(i:Int):Bool:=decide (-(2 ^ 64) < i)&&decide (i<2 ^ 64)
noncomputable def Qfy(i:Int):Bool:=decide (i.natAbs<2 ^ 4096)
noncomputable def Qn3:U->U->Option U
 |.int i m,.int j n=>some (.int (i-j) (gz m n))
 |_,_=>none
noncomputable def Qmh:U->U->Option U
 |.int i 0,.int j 0=>if Qk i||Qk j||(Qfy i&&Qfy j)then some (.int (i*j) 0)else none
 |.int i (m+1),.int j 0=>if Qk j then some (.int (i*j) ((m+1)*j.natAbs))else none
 |_,_=>none
noncomputable def QmO:U->U->Option U
 |.int i 0,.int j 0=>if 0<j&&decide (j<1606938044258990275541962092341162602522202993782792835301376)then some (.int (i / j) 0)else none
 |.int i (m+1),.int j 0=>if 0<j&&decide (j<1606938044258990275541962092341162602522202993782792835301376)&&decide ((m+1) % j.toNat=0)then some (.int (i / j) ((m+1) / j.toNat))else none
 |_,_=>none
noncomputable def Qmi:U->U->Option U
 |.int i 0,.int j 0=>if 0<j then some (.int (i % j) 0)else none
 |.int i (m+1),.int j 0=>if 0<j&&decide ((m+1) % j.toNat=0)then some (.int (i % j) 0)else none
 |_,_=>none
noncomputable def Qpn(a b:Nat)(x y:O)(hs:Hs):Option (U×Hs):=match x,y with
 |.lst xs,.lst ys=>if xs.length+ys.length<=1000000 then some (.ref hs.length,hs++[.lst (xs++ys)])else none
 |_,_=>none
noncomputable def Qie(u w:U)(hs:Hs):Option (U×Hs):=match u,w with
 |.int i m,.int j n=>some (.int (i+j) (gz m n),hs)
 |.ref a,.ref b=>match hs[a]?,hs[b]? with
  |some x,some y=>Qpn a b x y hs
  |_,_=>none
 |_,_=>none
noncomputable def opU(o:Operator)(u w:U)(hs:Hs):Option (U×Hs):=match o with
 |.Add=>Qie u w hs
 |.Sub=>(Qn3 u w).map λr=>(r,hs)
 |.Mult=>(Qmh u w).map λr=>(r,hs)
 |.FloorDiv=>(QmO u w).map λr=>(r,hs)
 |.Mod=>(Qmi u w).map λr=>(r,hs)
 |_=>none
noncomputable def eqS:U->U->Option Bool
 |.int i 0,.int j 0=>some (decide (i=j))
 |.str x,.str y=>some (decide (x=y))
 |.bl a,.bl b=>some (decide (a=b))
 |.non,.non=>some true
 |.non,.int _ _=>some false|.int _ _,.non=>some false|.non,.bl _=>some false|.bl _,.non=>some false|.non,.str _=>some false|.str _,.non=>some false
 |.int _ _,.str _=>some false|.str _,.int _ _=>some false|.bl _,.str _=>some false|.str _,.bl _=>some false
 |_,_=>none
noncomputable def ZW(T:Tbl)(u:U)(hs:Hs):Option (List U):=match u with
 |.ref n=>match hs[n]? with
  |some (.lst xs)=>some xs
  |some (.tup xs)=>some xs
  |_=>none
 |.con k=>match T.cons[k]? with
  |some (.lst xs)=>some xs
  |some (.tup xs)=>some xs
  |_=>none
 |.scr=>some T.scr
 |_=>none
noncomputable def QA(T:Tbl)(u:U)(hs:Hs):Option (List U):=match u with
 |.ref n=>match hs[n]? with
  |some (.lst xs)=>some xs
  |_=>none
 |.con k=>match T.cons[k]? with
  |some (.lst xs)=>some xs
  |_=>none
 |.scr=>some T.scr
 |_=>none
noncomputable def Yz(T:Tbl)(u:U)(hs:Hs):Option (List U):=match u with
 |.ref n=>match hs[n]? with
  |some (.tup xs)=>some xs
  |_=>none
 |.con k=>match T.cons[k]? with
  |some (.tup xs)=>some xs
  |_=>none
 |_=>none
noncomputable def okW(T:Tbl):Nat->U->Hs->Bool
 |0,_,_=>false
 |n+1,u,hs=>match QA T u hs with
  |some xs=>xs.all λx=>okW T n x hs
  |none=>match Yz T u hs with
   |some xs=>xs.all λx=>okW T n x hs
   |none=>match u with
    |.non=>true
    |.bl _=>true
    |.int _ m=>m==0
    |.str x=>x.all λc=>decide (c<128)
    |_=>false
noncomputable def eqB:U->U->Bool
 |.non,.non=>true
 |.bl a,.bl b=>a==b
 |.bl a,.int j _=>(if a then 1 else 0)==j
 |.int i _,.bl b=>i==(if b then 1 else 0)
 |.int i _,.int j _=>i==j
 |.str x,.str y=>x==y
 |_,_=>false
noncomputable def eqW(T:Tbl):Nat->U->U->Hs->Bool
 |0,_,_,_=>false
 |n+1,u,w,hs=>match QA T u hs with
  |some xs=>(match QA T w hs with
   |some ys=>(xs.length==ys.length)&&(xs.zip ys).all λp=>eqW T n p.1 p.2 hs
   |none=>false)
  |none=>match Yz T u hs with
   |some xs=>(match QA T w hs with
    |some _=>false
    |none=>match Yz T w hs with
     |some ys=>(xs.length==ys.length)&&(xs.zip ys).all λp=>eqW T n p.1 p.2 hs
     |none=>false)
   |none=>(match QA T w hs with
    |some _=>false
    |none=>match Yz T w hs with
     |some _=>false
     |none=>eqB u w)
noncomputable def Jf(T:Tbl)(u w:U)(hs:Hs):Bool:=match QA T u hs,QA T w hs with
 |some xs,some ys=>decide (xs.length≠ys.length)
 |_,_=>false
noncomputable def Qbe(T:Tbl)(u w:U)(hs:Hs):Bool:=match QA T u hs,QA T w hs with
 |some xs,some ys=>decide (xs=ys)&&xs.all λx=>match x with|.ref _=>true|_=>false
 |_,_=>false
noncomputable def eqA(T:Tbl)(u w:U)(hs:Hs):Option Bool:=match eqS u w with
 |some b=>some b
 |none=>if Jf T u w hs=true then some false else if Qbe T u w hs=true then some true else if okW T 20 u hs&&okW T 20 w hs then some (eqW T 20 u w hs)else none
noncomputable def QcV(kvs:List (U×U))(k:U):Option U:=match kvs with
 |[]=>none
 | (x,v)::r=>if x=k then some v else QcV r k
noncomputable def Qa8:U->Bool
 |.int _ 0=>true
 |.str _=>true
 |_=>false
noncomputable def QB{κ:Type}[DecidableEq κ](kvs:List (κ×U))(k:κ):Option U:=(kvs.find? λp=>decide (p.1=k)).map (·.2)
noncomputable def Zt{κ:Type}[DecidableEq κ](kvs:List (κ×U))(k:κ)(v:U):List (κ×U):=if(kvs.any λp=>decide (p.1=k))=true then kvs.map (λp=>if p.1=k then(p.1,v)else p)else kvs++[(k,v)]
noncomputable def tkU(w:U)(hs:Hs):Option (List U):=match w with
 |.ref m=>(match hs[m]? with
  |some (.tup ks)=>if ks.all Qa8=true then some ks else none
  |_=>none)
 |_=>none
noncomputable def ZM(o:O)(w:U)(hs:Hs):Option (Option U):=match o with
 |.dic kvs=>if Qa8 w=true then some (QB kvs w)else none
 |.fzd kvs=>if Qa8 w=true then some (QB kvs w)else none
 |.dct kvs=>(tkU w hs).map λk=>QB kvs k
 |.fzt kvs=>(tkU w hs).map λk=>QB kvs k
 |_=>none
noncomputable def Jg(n:Nat)(o:O)(k u:U)(hs:Hs):Option Hs:=match o with
 |.dic kvs=>if Qa8 k=true/\kvs.length<1000000 then some (hs.set n (.dic (Zt kvs k u)))else none
 |.dct kvs=>if kvs.length<1000000 then(tkU k hs).map λt=>hs.set n (.dct (Zt kvs t u))else none
 |_=>none
noncomputable def Jr(kvs more:List (U×U)):List (U×U):=more.foldl (λacc p=>Zt acc p.1 p.2) kvs
noncomputable def inD(T:Tbl)(w u:U)(hs:Hs):Option Bool:=match w with
 |.ref n=>(match hs[n]? with
  |some o=>(ZM o u hs).map Option.isSome
  |none=>none)
 |_=>none
noncomputable def ZF(T:Tbl)(o:CmpOp)(u w:U)(hs:Hs):Option Bool:=match o with
 |.Eq=>eqA T u w hs
 |.NotEq=>(eqA T u w hs).map (!·)
 |.Lt=>match u,w with|.int i 0,.int j 0=>some (decide (i<j))|_,_=>none
 |.LtE=>match u,w with|.int i 0,.int j 0=>some (decide (i<=j))|_,_=>none
 |.Gt=>match u,w with|.int i 0,.int j 0=>some (decide (j<i))|_,_=>none
 |.GtE=>match u,w with|.int i 0,.int j 0=>some (decide (j<=i))|_,_=>none
 |.In=>inD T w u hs
 |.NotIn=>(inD T w u hs).map (!·)
 |.Is=>match w with|.non=>some (decide (u=.non))|_=>none
 |.IsNot=>match w with|.non=>some (!decide (u=.non))|_=>none
noncomputable def Yg(T:Tbl)(u:U)(hs:Hs):Option Bool:=match u with
 |.non=>some false
 |.bl b=>some b
 |.int i 0=>some (decide (i≠0))
 |.str x=>if x.length<=1000000 then some (!x.isEmpty)else none
 |u=>(ZW T u hs).map λxs=>!xs.isEmpty
noncomputable def ixU(n:Nat)(i:Int):Option Nat:=if 0<=i then(if i<n then some i.toNat else none)else if -(n:Int)<=i then some (i+n).toNat else none
noncomputable def atU{α:Type}(xs:List α)(i:Int):Option α:=match ixU xs.length i with
 |some j=>xs[j]?
 |none=>none
noncomputable def QF(T:Tbl)(u w:U)(hs:Hs):Option U:=match u,w with
 |.str x,.int i 0=>if x.length<=1000000 then(atU x i).map λc=>.str [c]else none
 |.ref n,w=>match hs[n]?,w with
  |some (.lst xs),.int i 0=>atU xs i
  |some (.tup xs),.int i 0=>atU xs i
  |some o,w=>(ZM o w hs).bind id
  |none,_=>none
 |u,.int i 0=>match ZW T u hs with
  |some xs=>atU xs i
  |none=>none
 |_,_=>none
noncomputable def Qc8(n d:Nat):Option Int->Nat
 |none=>d
 |some v=>if v<0 then(v+(n:Int)).toNat else min v.toNat n
noncomputable def Q1{α:Type}(xs:List α)(lo hi:Option Int):List α:=(xs.drop (Qc8 xs.length 0 lo)).take (Qc8 xs.length xs.length hi-Qc8 xs.length 0 lo)
noncomputable def slU(T:Tbl)(u:U)(lo hi:Option Int)(hs:Hs):Option (U×Hs):=match u with
 |.scr=>some (.ref hs.length,hs++[.lst (Q1 T.scr lo hi)])
 |.ref n=>match hs[n]? with
  |some (.lst xs)=>some (.ref hs.length,hs++[.lst (Q1 xs lo hi)])
  |_=>none
 |_=>none
noncomputable def Qrw(n:Nat):List Nat:=(Nat.toDigits 10 n).map Char.toNat
noncomputable def Qrx(x:List Nat):Bool:=x.all (λc=>decide (48<=c)&&decide (c<=57))&&!x.isEmpty&&decide (x.length<=640)
noncomputable def Qpf(x:List Nat):Nat:=x.foldl (λacc c=>acc*10+(c-48)) 0
noncomputable def QaN:List U->Option (List Int)
 |[]=>some []
 |.int i 0::r=>(QaN r).map (i::·)
 |_=>none
noncomputable def Y7:List U->Option (List Bool)
 |[]=>some []
 |.bl b::r=>(Y7 r).map (b::·)
 |_=>none
noncomputable def QfI:List Int->Int->Int
 |[],z=>z
 |a::r,z=>QfI r (if a>z then a else z)
noncomputable def QoF:List Int->Option Int
 |[]=>none
 |z::r=>some (QfI r z)
theorem Qep:∀(r:List Int) (z:Int),z<=QfI r z/\∀a∈r,a<=QfI r z
 |[],z=>⟨Int.le_refl _,λa h=>by cases h⟩
 |a::r,z=>by
  have ih:=Qep r (if a>z then a else z);unfold QfI;refine⟨?_,λb hb=>?_⟩
  ·have:=ih.1;split at this<;>rename_i c<;>simp only[c,We,Wv]<;>omega
  ·rcases X5.mp hb with rfl|hb
   ·have:=ih.1;split at this<;>rename_i c<;>simp only[c,We,Wv]<;>omega
   ·exact ih.2 b hb
theorem Qce:∀(r:List Int) (z:Int),QfI r z=z\/QfI r z∈r
 |[],z=>.inl rfl
 |a::r,z=>by
  have ih:=Qce r (if a>z then a else z);unfold QfI
  rcases ih with e|m
  ·rw[e];split
   ·exact .inr Xq
   ·exact .inl rfl
  ·exact .inr (Xm _ m)
def Qjv{ns:List Int}{m M:Int}(h:QoF ns=some m)(h1:M∈ns)(h2:∀a∈ns,a<=M):M=m:=by
 cases ns with
 |nil=>cases h
 |cons z r=>
  simp only[QoF,Wz]at h;subst h;have g:=Qep r z
  have a:M<=QfI r z:=by
   rcases X5.mp h1 with rfl|hb
   ·exact g.1
   ·exact g.2 M hb
  have b:QfI r z<=M:=by
   rcases Qce r z with e|e
   ·rw[e];exact h2 z Xq
   ·exact h2 _ (Xm _ e)
  omega
noncomputable def itU(hs:Hs)(u:U):Option (List Int):=match u with
 |.ref m=>(match hs[m]? with
  |some (.tup (k::ks))=>QaN (k::ks)
  |_=>none)
 |_=>none
noncomputable def QjH(hs:Hs):List U->Option (List (List Int))
 |[]=>some []
 |u::us=>(itU hs u).bind λk=>(QjH hs us).map λks=>k::ks
noncomputable def QcM(ks:List (List Int))(xs:List U):List U:=(L2.permK ks xs.length).map λi=>xs.getD i .non
noncomputable def QhM(hs:Hs):List U->Option (List (List U×U))
 |[]=>some []
 |u::r=>match u with
  |.ref p=>(match hs[p]? with
   |some (.tup [k,v])=>(tkU k hs).bind λt=>(QhM hs r).map λl=>(t,v)::l
   |_=>none)
  |_=>none
noncomputable def QbB(kvs:List (List U×U)):List (List U×U):=kvs.foldl (λacc p=>Zt acc p.1 p.2) []
noncomputable def QaF(u:U)(hs:Hs):Option (List U):=match u with
 |.ref p=>(match hs[p]? with
  |some (.lst xs)=>some xs
  |_=>none)
 |_=>none
noncomputable def biL(T:Tbl)(b:Bi)(us:List U)(hs:Hs):Option (U×Hs):=match b,us with
 |.all,[u]=>(QA T u hs).bind λxs=>(Y7 xs).map λbs=>(.bl (bs.all id),hs)
 |.max,[u]=>(QA T u hs).bind λxs=>(QaN xs).bind λns=>(QoF ns).map λm=>(.int m 0,hs)
 |.max,[.int i 0,.int j 0]=>some (.int (if j>i then j else i) 0,hs)
 |.sorted,[u]=>(QA T u hs).bind λxs=>if xs.length<64 then(if xs.length<2 then some []else QjH hs xs).map λks=>(.ref hs.length,hs++[.lst (QcM ks xs)])else none
 |.dict,[u]=>(QaF u hs).bind λxs=>(QhM hs xs).map λkvs=>(.ref hs.length,hs++[.dct (QbB kvs)])
 |_,_=>none
noncomputable def Qj0(u:U)(hs:Hs):Option (List (List U×U)):=match u with
 |.ref p=>(match hs[p]? with
  |some (.dct kvs)=>some kvs
  |_=>none)
 |_=>none
noncomputable def Qaw:Nat->Nat->List U
 |_,0=>[]
 |i,n+1=>.ref i::Qaw (i+1) n
noncomputable def biU(T:Tbl)(b:Bi)(us:List U)(hs:Hs):Option (U×Hs):=match b,us with
 |.len,[.str x]=>if x.length<=1000000 then some (.int x.length 0,hs)else none
 |.len,[u]=>match ZW T u hs with
  |some xs=>some (.int xs.length 0,hs)
  |none=>(Qj0 u hs).map λkvs=>(.int kvs.length 0,hs)
 |.int,[.int i m]=>some (.int i m,hs)
 |.int,[.bl b]=>some (.int (if b then 1 else 0) 0,hs)
 |.int,[.str x]=>if Qrx x then some (.int (Qpf x:Nat) 0,hs)else none
 |.str,[.int i 0]=>if 0<=i&&decide (i.natAbs.log2<1920)then some (.str (Qrw i.toNat),hs)else none
 |.tuple,[.ref n]=>match hs[n]? with
  |some (.lst xs)=>some (.ref hs.length,hs++[.tup xs])
  |some (.tup _)=>some (.ref n,hs)
  |_=>none
 |.list,[u]=>match ZW T u hs with
  |some xs=>some (.ref hs.length,hs++[.lst xs])
  |none=>(Qj0 u hs).map λkvs=>(.ref (hs++kvs.map λp=>O.tup p.1).length,(hs++kvs.map λp=>O.tup p.1)++[.lst (Qaw hs.length kvs.length)])
 |.len,_=>none
 |.int,_=>none
 |.str,_=>none
 |.tuple,_=>none
 |.list,_=>none
 |b,us=>biL T b us hs
noncomputable def QaI(u:U)(hs:Hs):Option Ty:=match u with
 |.non=>some .non
 |.bl _=>some .bool
 |.int _ _=>some .int
 |.str _=>some .str
 |.ref n=>match hs[n]? with
  |some (.lst _)=>some .list
  |some (.tup _)=>some .tuple
  |some (.dic _)=>some .dict
  |some (.dct _)=>some .dict
  |some (.ins c _)=>some (.cls c)
  |some (.err c)=>some (.cls c)
  |_=>none
 |_=>none
noncomputable def QoN(k t:Ty):Option Bool:=match k,t with
 |.cls _,_=>none
 |_,.cls _=>none
 |.bool,.int=>some true
 |k,t=>some (decide (k=t))
noncomputable def Qdm(T:Tbl)(t:Ty)(u:U)(hs:Hs):Option Bool:=match QaI u hs with
 |none=>none
 |some k=>match QoN k t with
  |some b=>some b
  |none=>T.isi.lookup (k,t)
noncomputable def bmL(b:Bm)(n:Nat)(xs:List U)(us:List U)(hs:Hs):Option (U×Hs):=match b,us with
 |.append,[u]=>if xs.length<1000000 then some (.non,hs.set n (.lst (xs++[u])))else none
 |.extend,[.ref m]=>(match hs[m]? with
  |some (.lst ys)=>if xs.length+ys.length<=1000000 then some (.non,hs.set n (.lst (xs++ys)))else none
  |_=>none)
 |_,_=>none
noncomputable def bmS(T:Tbl)(b:Bm)(x:List Nat)(us:List U)(hs:Hs):Option (U×Hs):=match b,us with
 |_,_=>none
noncomputable def bmD(b:Bm)(n:Nat)(kvs:List (U×U))(us:List U)(hs:Hs):Option (U×Hs):=match b with
 |.setdef=>(match us with
  |[k,v]=>if Qa8 k=true/\kvs.length<1000000 then(match QcV kvs k with
   |some x=>some (x,hs)
   |none=>some (v,hs.set n (.dic (kvs++[(k,v)]))))else none
  |_=>none)
 |.get=>(match us with
  |[k,v]=>if Qa8 k=true then some ((QB kvs k).getD v,hs)else none
  |_=>none)
 |.update=>(match us with
  |[.ref m]=>(match hs[m]? with
   |some (.dic more)=>if n≠m/\kvs.length+more.length<=1000000 then some (.non,hs.set n (.dic (Jr kvs more)))else none
   |_=>none)
  |_=>none)
 |_=>none
noncomputable def bmU(T:Tbl)(b:Bm)(o:U)(us:List U)(hs:Hs):Option (U×Hs):=match o with
 |.ref n=>match hs[n]? with
  |some (.lst xs)=>bmL b n xs us hs
  |some (.dic kvs)=>bmD b n kvs us hs
  |_=>none
 |.str x=>bmS T b x us hs
 |_=>none
noncomputable def bL:Bm->Bool
 |.setdef=>false|.get=>false|.update=>false|.join=>false|.split=>false|.find=>false|.index=>false|_=>true
noncomputable def bS:Bm->Bool
 |.join=>true|.split=>true|.find=>true|.index=>true|_=>false
noncomputable def bD:Bm->Bool
 |.setdef=>true|.get=>true|.update=>true|_=>false
noncomputable def Qdk(b:Bm)(u:U)(hs:Hs):Bool:=match u with
 |.ref n=>match hs[n]? with
  |some (.lst _)=>bL b
  |some (.dic _)=>bD b
  |_=>false
 |.str _=>bS b
 |_=>false
inductive Wk where
 |seqL (u:U)|seqT (u:U)|rng (lo:Int) (n:Nat)|zipB (b c:Bool) (x y:U)|revL (u:U) (n:Nat)|rngC (lo c:Int) (n:Nat)|enmL (u:U)|strW (x:List Nat)|keyD (n:Nat)
inductive Im where
 |one (u:U)|two (u w:U)
noncomputable def two(xs ys:List U)(i:Nat):Option Im:=match xs[i]?,ys[i]? with
 |some x,some y=>some (.two x y)
 |_,_=>none
noncomputable def itm(T:Tbl)(k:Wk)(i:Nat)(hs:Hs):Option (Option Im):=match k with
 |.seqL u=>(QA T u hs).map λxs=>(xs[i]?).map .one
 |.seqT u=>(Yz T u hs).map λxs=>(xs[i]?).map .one
 |.rng lo n=>some (if i<n then some (.one (.int (lo+i) 0))else none)
 |.zipB _ _ _ _=>none
 |.revL _ _=>none
 |.rngC lo c n=>some (if i<n then some (.one (.int (lo+i*c) 0))else none)
 |.enmL u=>(QA T u hs).map λxs=>(xs[i]?).map λx=>.two (.int i 0) x
 |.strW x=>some ((x[i]?).map λc=>.one (.str [c]))
 |.keyD _=>none
noncomputable def Qoh(a b c:Int):Nat:=if a<b then((b-a-1) / c+1).toNat else 0
noncomputable def Q3(T:Tbl)(k:Wk)(hs:Hs):Nat:=match k with
 |.seqL u=>((QA T u hs).getD []).length+1
 |.seqT u=>((Yz T u hs).getD []).length+1
 |.rng _ n=>n+1
 |.zipB _ _ _ _=>0
 |.revL _ _=>0
 |.rngC _ _ n=>n+1
 |.enmL u=>((QA T u hs).getD []).length+1
 |.strW x=>x.length+1
 |.keyD _=>0
noncomputable def tgt(t:Tg)(x:Im)(Z:Rho)(hs:Hs):Option Rho:=match t,x with
 |.name i,.one u=>some (Z.set i (some u))
 |.pair i j,.two u w=>some ((Z.set i (some u)).set j (some w))
 |.pair i j,.one (.ref n)=>match hs[n]? with
  |some (.tup [u,w])=>some ((Z.set i (some u)).set j (some w))
  |_=>none
 |_,_=>none
abbrev Cf:=Nat->List U->Hs->Option (U×Hs)
abbrev Ev:=E->Rho->Hs->Option (U×Hs)
noncomputable def evs(f:Ev)(Z:Rho):List E->Hs->Option (List U×Hs)
 |[],hs=>some ([],hs)
 |e::es,hs=>bd (f e Z hs) λu h1=>bd (evs f Z es h1) λus h2=>some (u::us,h2)
noncomputable def evO(f:Ev)(Z:Rho):Option E->Hs->Option (Option Int×Hs)
 |none,hs=>some (none,hs)
 |some e,hs=>bd (f e Z hs) λu h1=>match u with|.int i 0=>some (some i,h1)|_=>none
noncomputable def wkS(T:Tbl)(u:U)(hs:Hs):Option Wk:=match QA T u hs with
 |some _=>some (.seqL u)
 |none=>match Yz T u hs with
  |some _=>some (.seqT u)
  |none=>match u with
   |.str x=>some (.strW x)
   |_=>none
noncomputable def Qe5(u:U)(hs h1:Hs):Option (Nat×List (U×U)):=match u with
 |.ref n=>(match hs[n]? with
  |some (.dic _)=>(match h1[n]? with
   |some (.dic kvs)=>some (n,kvs)
   |_=>none)
  |_=>none)
 |_=>none
noncomputable def Q4(T:Tbl)(f:Ev)(Z:Rho):Src->Hs->Option (Wk×Hs)
 |.seq e,hs=>bd (f e Z hs) λu h1=>(wkS T u h1).map λk=>(k,h1)
 |.rng a,hs=>bd (f a Z hs) λu h1=>match u with|.int i 0=>if Qk (i*4)then some (.rng 0 i.toNat,h1)else none|_=>none
 |.rng2 _ _,_=>none
 |.rngA es,hs=>bd (evs f Z es hs) λus h1=>match us with
  |[.int i 0,.int j 0,.int c 0]=>if Qk (i*16)&&Qk (j*16)&&decide (0<c)&&decide (c<1073741824)then some (.rngC i c (Qoh i j c),h1)else if Qk (i*16)&&Qk (j*16)&&decide (c=-1)then some (.rngC i (-1) (i-j).toNat,h1)else none
  |_=>none
 |.zip _ _,_=>none
 |.revd _,_=>none
 |.enm e,hs=>bd (f e Z hs) λu h1=>match QA T u h1 with|some _=>some (.enmL u,h1)|none=>none
 |.rngR a,hs=>bd (f a Z hs) λu h1=>match u with|.int i 0=>if Qk (i*16)&&decide (0<=i)then some (.rngC (i-1) (-1) i.toNat,h1)else none|_=>none
 |.key _,_=>none
noncomputable def tgN(b:Bool)(n:Nat):Tg:=if b then .pair n (n+1)else .name n
noncomputable def Qdl(b:Bool):Rho:=if b then [none,none]else [none]
noncomputable def QS(T:Tbl)(f:Ev)(ft:Rho->Hs->Option (Bool×Hs))(w:Wk)(b:Bool)(el:E)(Z:Rho):Nat->Nat->List U->Hs->Option (List U×Hs)
 |0,_,_,_=>none
 |k+1,i,acc,hs=>match itm T w i hs with
  |none=>none
  |some none=>some (acc,hs)
  |some (some x)=>match tgt (tgN b Z.length) x (Z++Qdl b) hs with
   |none=>none
   |some ρ'=>if acc.length<1000000 then bd (ft ρ' hs) λc h1=>if c=true then bd (f el ρ' h1) λu h2=>QS T f ft w b el Z k (i+1) (acc++[u]) h2 else QS T f ft w b el Z k (i+1) acc h1 else none
noncomputable def Z9(ft:E->Rho->Hs->Option (Bool×Hs))(t:Option E)(Z:Rho)(hs:Hs):Option (Bool×Hs):=match t with
 |none=>some (true,hs)
 |some e=>ft e Z hs
noncomputable def QcO:U->Bool
 |.ref _=>false
 |_=>true
mutual
noncomputable def ev(T:Tbl)(cf:Cf):Nat->Ev
 |0,_,_,_=>none
 |d+1,e,Z,hs=>match e with
  |.c u=>some (u,hs)
  |.con k=>some (.con k,hs)
  |.var i=>match Z[i]? with
   |some (some u)=>some (u,hs)
   |_=>none
  |.op o a b=>bd (ev T cf d a Z hs) λu h1=>bd (ev T cf d b Z h1) λw h2=>opU o u w h2
  |.neg a=>bd (ev T cf d a Z hs) λu h1=>match u with|.int i m=>some (.int (-i) m,h1)|_=>none
  |.cmp o a b=>bd (ev T cf d a Z hs) λu h1=>bd (ev T cf d b Z h1) λw h2=>(ZF T o u w h2).map λc=>(.bl c,h2)
  |.and a b=>bd (ev T cf d a Z hs) λu h1=>match u with|.bl true=>ev T cf d b Z h1|.bl false=>some (.bl false,h1)|_=>none
  |.or a b=>bd (ev T cf d a Z hs) λu h1=>match u with|.bl true=>some (.bl true,h1)|.bl false=>ev T cf d b Z h1|_=>none
  |.not a=>bd (ev T cf d a Z hs) λu h1=>(Yg T u h1).map λc=>(.bl (!c),h1)
  |.ife _ _ _=>none
  |.tup es=>bd (evs (ev T cf d) Z es hs) λus h1=>some (.ref h1.length,h1++[.tup us])
  |.lst es=>bd (evs (ev T cf d) Z es hs) λus h1=>some (.ref h1.length,h1++[.lst us])
  |.dis _ _=>none
  |.ix a b=>bd (ev T cf d a Z hs) λu h1=>bd (ev T cf d b Z h1) λw h2=>(QF T u w h2).map λx=>(x,h2)
  |.tab _ _=>none
  |.sl a lo hi=>bd (ev T cf d a Z hs) λu h1=>bd (evO (ev T cf d) Z lo h1) λl h2=>bd (evO (ev T cf d) Z hi h2) λr h3=>slU T u l r h3
  |.rev a=>bd (ev T cf d a Z hs) λu h1=>match QA T u h1 with|some xs=>some (.ref h1.length,h1++[.lst xs.reverse])|none=>none
  |.tupR _=>none
  |.fld _ _=>none
  |.call f es=>bd (evs (ev T cf d) Z es hs) λus h1=>cf f us h1
  |.meth _ _ _=>none
  |.make _ _=>none
  |.bi b es=>bd (evs (ev T cf d) Z es hs) λus h1=>biU T b us h1
  |.isi a t=>bd (ev T cf d a Z hs) λu h1=>(Qdm T t u h1).map λb=>(.bl b,h1)
  |.bm b o es=>bd (ev T cf d o Z hs) λu h1=>if Qdk b u h1=true then bd (evs (ev T cf d) Z es h1) λus h2=>bmU T b u us h2 else none
  |.comp s b t el=>bd (Q4 T (ev T cf d) Z s hs) λw h1=>bd (QS T (ev T cf d) (Z9 (evT T cf d) t) w b el Z (Q3 T w h1) 0 [] h1) λus h2=>some (.ref h2.length,h2++[.lst us])
  |.dnew=>some (.ref hs.length,hs++[.dic []])
  |.dnewT=>some (.ref hs.length,hs++[.dct []])
  |.zap _=>none
  |.thw _ _=>none
  |.dsp ks es=>bd (evs (ev T cf d) Z es (hs++[.dic []])) λus h1=>match h1[hs.length]? with
   |some (.dic [])=>some (.ref hs.length,h1.set hs.length (.dic (Jr [] (ks.zip us))))
   |_=>none
  |.chain _ _ _ _ _=>none
noncomputable def evT(T:Tbl)(cf:Cf):Nat->E->Rho->Hs->Option (Bool×Hs)
 |0,_,_,_=>none
 |d+1,e,Z,hs=>match e with
  |.not a=>bd (evT T cf d a Z hs) λc h1=>some (!c,h1)
  |.and a b=>bd (evT T cf d a Z hs) λc h1=>if c=true then evT T cf d b Z h1 else some (false,h1)
  |.or a b=>bd (evT T cf d a Z hs) λc h1=>if c=true then some (true,h1)else evT T cf d b Z h1
  |e=>bd (ev T cf d e Z hs) λu h1=>(Yg T u h1).map λb=>(b,h1)
end
abbrev Ex:=Rho->Hs->Option (Fl×Rho×Hs)
noncomputable def Z6(T:Tbl)(w:Wk)(t:Tg)(body:Ex):Nat->Nat->Ex
 |0,_,_,_=>none
 |k+1,i,Z,hs=>match itm T w i hs with
  |none=>none
  |some none=>some (.next,Z,hs)
  |some (some x)=>match tgt t x Z hs with
   |none=>none
   |some ρ'=>match body ρ' hs with
    |some (.next,ρ2,h2)=>Z6 T w t body k (i+1) ρ2 h2
    |some (.cont,ρ2,h2)=>Z6 T w t body k (i+1) ρ2 h2
    |some (.brk,ρ2,h2)=>some (.next,ρ2,h2)
    |r=>r
noncomputable def Qc2(n:Nat):Option U->Option U
 |some (.ref k)=>if k<n then some (.ref k)else none
 |o=>o
noncomputable def frgN(n:Nat)(Z:Rho):Rho:=Z.map (Qc2 n)
noncomputable def QfL(hs:Hs)(i:Nat)(body:Ex):List U->Rho->Option (Fl×Rho)
 |[],Z=>some (.next,Z)
 |x::xs,Z=>match body (Z.set i (some x)) hs with
  |some (fl,ρ2,h2)=>if h2.take hs.length=hs then(match fl with
   |.next=>QfL hs i body xs (frgN hs.length ρ2)
   |.cont=>QfL hs i body xs (frgN hs.length ρ2)
   |.brk=>some (.next,frgN hs.length ρ2)
   |.ret u=>if QcO u=true then some (.ret u,frgN hs.length ρ2)else none)else none
  |none=>none
noncomputable def QeS(i:Nat)(body:Ex):List U->Ex
 |[],Z,hs=>some (.next,Z,hs)
 |k::ks,Z,hs=>match body (Z.set i (some k)) hs with
  |some (.next,ρ2,h2)=>QeS i body ks ρ2 h2
  |some (.cont,ρ2,h2)=>QeS i body ks ρ2 h2
  |some (.brk,ρ2,h2)=>some (.next,ρ2,h2)
  |r=>r
noncomputable def Qir(n:Nat)(r:Option (Fl×Rho×Hs)):Option (Fl×Rho×Hs):=match r with
 |some (fl,Z,hs)=>(match hs[n]? with
  |some (.fzd kvs)=>some (fl,Z,hs.set n (.dic kvs))
  |_=>none)
 |none=>none
noncomputable def Zu(test:Rho->Hs->Option (Bool×Hs))(body:Ex):Nat->Ex
 |0,_,_=>none
 |k+1,Z,hs=>match test Z hs with
  |none=>none
  |some (false,h1)=>some (.next,Z,h1)
  |some (true,h1)=>match body Z h1 with
   |some (.next,ρ2,h2)=>Zu test body k ρ2 h2
   |some (.cont,ρ2,h2)=>Zu test body k ρ2 h2
   |some (.brk,ρ2,h2)=>some (.next,ρ2,h2)
   |r=>r
noncomputable def Qsc(o:Operator)(u w:U):Option U:=match o with
 |.Add=>(match u,w with|.int i 0,.int j 0=>some (.int (i+j) 0)|_,_=>none)
 |.Sub=>(match u,w with|.int i 0,.int j 0=>some (.int (i-j) 0)|_,_=>none)
 |_=>none
noncomputable def Jd(x k u:U)(hs:Hs):Option Hs:=match x with
 |.ref n=>(match hs[n]? with
  |some o=>Jg n o k u hs
  |none=>none)
 |_=>none
noncomputable def Qp9(j:Option Nat)(u:U)(Z:Rho):Rho:=match j with
 |some j=>Z.set j (some u)
 |none=>Z
noncomputable def QmA(j:Option Nat)(Z:Rho):Rho:=match j with
 |some j=>Z.set j none
 |none=>Z
noncomputable def Qqt(j:Option Nat)(c:Nat)(hs:Hs):Hs:=match j with
 |some _=>hs++[.err c]
 |none=>hs
mutual
noncomputable def ex(T:Tbl)(cf:Cf):Nat->S->Ex
 |0,_,_,_=>none
 |d+1,s,Z,hs=>match s with
  |.pass=>some (.next,Z,hs)
  |.bad=>none
  |.aug _ _ _=>none
  |.brk=>some (.brk,Z,hs)
  |.cont=>some (.cont,Z,hs)
  |.expr e=>bd (ev T cf d e Z hs) λz h1=>some (.next,Z,h1)
  |.set i e=>bd (ev T cf d e Z hs) λu h1=>some (.next,Z.set i (some u),h1)
  |.fld _ _ _=>none
  |.ret e=>bd (ev T cf d e Z hs) λu h1=>some (.ret u,Z,h1)
  |.retN=>some (.ret .non,Z,hs)
  |.ite t a b=>match evT T cf d t Z hs with
   |some (true,h1)=>exs T cf d a Z h1
   |some (false,h1)=>exs T cf d b Z h1
   |none=>none
  |.loop t s body=>bd (Q4 T (ev T cf d) Z s hs) λw h1=>Z6 T w t (exs T cf d body) (Q3 T w h1) 0 Z h1
  |.loopC _ _ _=>none
  |.loopD i e body=>bd (ev T cf d e Z hs) λu h1=>match u with
   |.ref n=>(match h1[n]? with
    |some (.lst xs)=>if n=hs.length/\h1.take hs.length=hs/\xs.all QcO=true then(match QfL hs i (exs T cf d body) xs Z with
     |some (fl,ρ')=>some (fl,ρ',hs)
     |none=>none)else none
    |_=>none)
   |_=>none
  |.loopK i e body=>bd (ev T cf d e Z hs) λu h1=>match Qe5 u hs h1 with
   |some (n,kvs)=>Qir n (QeS i (exs T cf d body) (kvs.map (·.1)) Z (h1.set n (.fzd kvs)))
   |none=>none
  |.while t body=>Zu (evT T cf d t) (exs T cf d body) 1000000 Z hs
  |.put o i e=>bd (ev T cf d e Z hs) λu h1=>bd (ev T cf d o Z h1) λx h2=>bd (ev T cf d i Z h2) λk h3=>(Jd x k u h3).map λh4=>(.next,Z,h4)
  |.unp _ _ _=>none
  |.par _ _ _ _=>none
  |.unpN _ _=>none
  |.rse _ _=>none
  |.tryS j f es c body=>bd (evs (ev T cf d) Z es hs) λus h1=>match cf f us h1 with
   |some (_,h2)=>some (.next,Z,h2)
   |none=>match T.xf f us h1 with
    |some (c',h2)=>if T.ers.contains c'=true/\T.esb.contains (c',c)=true/\(match T.fns[f]? with|some F=>decide (us.length=F.np)|none=>false)=true then(match exs T cf d body (Qp9 j (.ref h2.length) Z) (Qqt j c' h2)with
     |some (.next,ρ2,h3)=>some (.next,QmA j ρ2,h3)
     |_=>none)else none
    |none=>none
  |.cal n _ _=>ex T cf d n Z hs
noncomputable def exs(T:Tbl)(cf:Cf):Nat->List S->Ex
 |0,_,_,_=>none
 |d+1,ss,Z,hs=>match ss with
  |[]=>some (.next,Z,hs)
  |s::r=>match ex T cf d s Z hs with
   |some (.next,ρ1,h1)=>exs T cf d r ρ1 h1
   |x=>x
end
noncomputable def dd:Nat:=100
noncomputable def fin:Option (Fl×Rho×Hs)->Option (U×Hs)
 |some (.ret u,_,h)=>some (u,h)
 |some (.next,_,h)=>some (.non,h)
 |_=>none
noncomputable def Qnu(us:List U)(n:Nat):Rho:=us.map some++List.replicate (n-us.length) none
noncomputable def Qa(T:Tbl):Nat->Cf
 |0,_,_,_=>none
 |n+1,f,us,hs=>match T.fns[f]? with
  |none=>none
  |some F=>if us.length=F.np then fin (exs T (Qa T n) dd F.body (Qnu us F.nN) hs)else none
noncomputable def QfK(T:Tbl)(w:Wk)(t:Tg)(body:Ex)(bx:Rho->Hs->Option (Nat×Hs)):Nat->Nat->Rho->Hs->Option (Nat×Hs)
 |0,_,_,_=>none
 |k+1,i,Z,hs=>match itm T w i hs with
  |none=>none
  |some none=>none
  |some (some x)=>match tgt t x Z hs with
   |none=>none
   |some ρ'=>match body ρ' hs with
    |some (.next,ρ2,h2)=>QfK T w t body bx k (i+1) ρ2 h2
    |some (.cont,ρ2,h2)=>QfK T w t body bx k (i+1) ρ2 h2
    |some _=>none
    |none=>bx ρ' hs
mutual
noncomputable def exX(T:Tbl)(cf:Cf):Nat->S->Rho->Hs->Option (Nat×Hs)
 |0,_,_,_=>none
 |d+1,s,Z,hs=>match s with
  |.rse c es=>bd (evs (ev T cf d) Z es hs) λz h1=>if T.ers.contains c=true/\es.length<=1000/\(es.isEmpty||!(T.efl.any λp=>p.1==c))=true then some (c,h1)else none
  |.ite t a b=>match evT T cf d t Z hs with
   |some (true,h1)=>exsX T cf d a Z h1
   |some (false,h1)=>exsX T cf d b Z h1
   |none=>none
  |.loop t s body=>bd (Q4 T (ev T cf d) Z s hs) λw h1=>QfK T w t (exs T cf d body) (exsX T cf d body) (Q3 T w h1) 0 Z h1
  |.cal _ f es=>bd (evs (ev T cf d) Z es hs) λus h1=>if(match T.fns[f]? with|some F=>decide (us.length=F.np)|none=>false)=true then T.xf f us h1 else none
  |_=>none
noncomputable def exsX(T:Tbl)(cf:Cf):Nat->List S->Rho->Hs->Option (Nat×Hs)
 |0,_,_,_=>none
 |d+1,ss,Z,hs=>match ss with
  |[]=>none
  |s::r=>match ex T cf d s Z hs with
   |some (.next,ρ1,h1)=>exsX T cf d r ρ1 h1
   |some _=>none
   |none=>exX T cf d s Z hs
end
noncomputable def ZO(T:Tbl):Nat->Nat->List U->Hs->Option (Nat×Hs)
 |0,_,_,_=>none
 |n+1,f,us,hs=>match T.fns[f]? with
  |none=>none
  |some F=>if us.length=F.np then exsX T (Qa T n) dd F.body (Qnu us F.nN) hs else none
end
section
variable {m:Nat}
inductive G where
 |fn (i:Nat)|cls (i:Nat)|con (k:Nat)|txt (x:List Nat)
structure Ctx where
 T:Tbl
 N:List Str
 names:List (Str×NameKind)
 gl:List (Str×G)
 bl:List Str
 lc:Bool:=false
noncomputable def idx(x:Str):List Str->Option Nat
 |[]=>none
 |y::r=>if y=x then some 0 else(idx x r).map (· + 1)
noncomputable def QgK(C:Ctx)(x:Str):Bool:=match C.names.lookup x with
 |some .local=>true|some .cell=>true|some .free=>true|_=>false
noncomputable def QaM(C:Ctx)(x:Str):Bool:=match C.names.lookup x with
 |some .local=>true|some .cell=>true|_=>false
noncomputable def ZK(C:Ctx)(x:Str):Bool:=match C.names.lookup x with
 |some .globalImplicit=>true|_=>false
noncomputable def YT:Expr->Bool
 |.Call (.Name _ _) [] [] _=>false
 |_=>true
noncomputable def Z0:Expr->Bool
 |.Slice ..=>false
 |_=>true
noncomputable def QkW(C:Ctx)(x:Str):Option Ty:=match C.gl.lookup x with
 |some (.cls i)=>some (.cls i)
 |some _=>none
 |none=>if C.bl.contains x=false then none else if x="int" then some .int else if x="str" then some .str else if x="bool" then some .bool else if x="list" then some .list else if x="tuple" then some .tuple else if x="dict" then some .dict else if x="ValueError" then some .vale else none
noncomputable def Qm2(b:Bool)(x:Str):Option Bi:=if x="sorted" then some .sorted else if x="dict" then(if b=true then none else some .dict)else none
noncomputable def QnD(C:Ctx)(x:Str):Option Bi:=match C.gl.lookup x with
 |some _=>none
 |none=>if C.bl.contains x=false then none else if x="len" then some .len else if x="tuple" then some .tuple else if x="list" then some .list else if x="all" then some .all else if x="max" then some .max else Qm2 C.T.dts.isEmpty x
noncomputable def Qm1(x:Str):Option Bm:=if x="get" then some .get else if x="update" then some .update else none
noncomputable def QnB(x:Str):Option Bm:=if x="append" then some .append else if x="setdefault" then some .setdef else if x="extend" then some .extend else Qm1 x
noncomputable def QhQ:E->Bool
 |.and _ _=>false
 |.or _ _=>false
 |.not _=>false
 |_=>true
noncomputable def okT:Expr->E->Bool
 |.BoolOp ..,_=>true
 |.UnaryOp .Not ..,_=>true
 |.Compare ..,_=>true
 |_,ir=>QhQ ir
noncomputable def QdX(C:Ctx)(f:Str)(args:List Expr):Option (List Expr):=none
noncomputable def JX(C:Ctx)(f:Str)(args:List Expr):Option Expr:=if f="list" then(match args with
 |[.Call (.Name r _) [a] [] _]=>if r="reversed"&&ZK C r&&(C.gl.lookup r).isNone&&C.bl.contains r then some a else none
 |_=>none)else none
noncomputable def QiK(C:Ctx)(f:Str)(args:List Expr):Option Expr:=if f="reversed" then(match args with
 |[.Call (.Name r _) [a] [] _]=>if r="range"&&ZK C r&&(C.gl.lookup r).isNone&&C.bl.contains r then some a else none
 |_=>none)else none
noncomputable def Qff:Expr->Option U
 |.Constant (.int i) _ _=>some (.int i 0)
 |.Constant (.str x) _ _=>some (.str x.cps.toList)
 |_=>none
noncomputable def QhY{α β:Type}(f:α->Option β):List α->Option (List β)
 |[]=>some []
 |a::r=>(f a).bind λb=>(QhY f r).bind λbs=>some (b::bs)
noncomputable def Qaf:List (Option Expr)->Option (List U)
 |[]=>some []
 |some k::ks=>(Qff k).bind λk'=>(Qaf ks).bind λr=>some (k'::r)
 |none::_=>none
noncomputable def Qpe:List (Option Expr)->List Expr->Option (List (U×U))
 |[],[]=>some []
 |some k::ks,v::vs=>(Qff k).bind λk'=>(Qff v).bind λv'=>(Qpe ks vs).bind λr=>if r.any (λp=>decide (p.1=k'))then none else some ((k',v')::r)
 |_,_=>none
noncomputable def Ctx.inner(C:Ctx)(xs:List Str)(scope:Scope):Ctx:={C with N:=L2.hideN xs C.N++xs,names:=L2.relN C.names scope.names,lc:=false}
noncomputable def hdC(C:Ctx):Bool:=decide (C.bl=[("isinstance":Str)])
noncomputable def JE(C:Ctx)(xs:List Str)(scope:Scope):Bool:=(scope.kind==.function)&&xs.all (λx=>(scope.names.lookup x==some .local)&&(scope.names.lookup (L2.mang x)==none))&&decide (L2.hideN xs C.N++xs).Nodup&&scope.names.all (λy=>match y.2 with
  |.local=>(xs.contains y.1||decide (y.1=".0"))&&(scope.names.lookup y.1==some .local)
  |.free=>(C.names.lookup y.1==some .cell)||(C.names.lookup y.1==some .free)
  |.cell=>false
  |_=>true)&&!(C.N.contains ".0")
noncomputable def Qny:Src->Bool
 |.zip _ _=>true
 |.enm _=>true
 |_=>false
noncomputable def Qbs:Src->Tg->Bool
 |.zip _ _,.name _=>false
 |.enm _,.name _=>false
 |.revd _,.pair _ _=>false
 |_,_=>true
noncomputable def QnT:Expr->Option (Bool×List Str)
 |.Name x _=>some (false,[x])
 |.Tuple es _ _=>(match es with
  |[a,b]=>(match a,b with
   |.Name x _,.Name y _=>some (true,[x,y])
   |_,_=>none)
  |_=>none)
 |_=>none
noncomputable def Qqn:List Expr->Option (Option Expr)
 |[]=>some none
 |[t]=>some (some t)
 |_=>none
structure Gn where
 b:Bool
 xs:List Str
 iter:Expr
 tl:Option Expr
noncomputable def QgR:List Comprehension->Option Gn
 |[g]=>if g.is_async=0 then(QnT g.target).bind λt=>(Qqn g.ifs).map λtl=>⟨t.1,t.2,g.iter,tl⟩else none
 |_=>none
def QnF(tg:Expr)(b:Bool)(xs:List Str):Prop:=(b=false/\∃x p,tg=.Name x p/\xs=[x])\/(b=true/\∃x p y q k pt,tg=.Tuple [.Name x p,.Name y q] k pt/\xs=[x,y])
def Qis{tg:Expr}{b:Bool}{xs:List Str}(h:QnT tg=some (b,xs)):QnF tg b xs:=by
 unfold QnT at h;split at h
 ·cases h;exact .inl ⟨rfl,_,_,rfl,rfl⟩
 ·split at h
  ·split at h
   ·cases h;exact .inr ⟨rfl,_,_,_,_,_,_,rfl,rfl⟩
   ·cases h
  ·cases h
 ·cases h
def Qc1{gens:List Comprehension}{g:Gn}(h:QgR gens=some g):∃tg,gens=[⟨tg,g.iter,g.tl.toList,0⟩]/\QnF tg g.b g.xs:=by
 unfold QgR at h;split at h
 ·rename_i c;split at h
  ·rename_i e;simp only[Xb,Xd]at h;obtain⟨⟨b,xs⟩,h1,tl,h2,rfl⟩:=h;obtain⟨tg,iter,ifs,ia⟩:=c;simp only at e h1 h2;subst e;refine⟨tg,?_,Qis h1⟩
   have:ifs=tl.toList:=by
    unfold Qqn at h2;split at h2<;>cases h2<;>rfl
   rw[this]
  ·cases h
 ·cases h
inductive Sl where
 |cut (lo hi:Option Expr)|rev|bad
noncomputable def QoO:Expr->Bool
 |.UnaryOp .USub (.Constant (.int 1) _ _) _=>true
 |_=>false
noncomputable def QhB:Expr->Option Sl
 |.Slice lo hi st _=>(match st with
  |none=>some (.cut lo hi)
  |some e=>if QoO e&&lo.isNone&&hi.isNone then some .rev else some .bad)
 |_=>none
inductive He where
 |tab (ks:List (Option Expr)) (vs:List Expr)|nm (x:Str)|any
noncomputable def Qo1:Expr->He
 |.Name x _=>.nm x
 |_=>.any
noncomputable def Qk3(C:Ctx)(x:Str):Option Nat:=none
noncomputable def Qnv(C:Ctx)(i:Nat)(es:List E):Option E:=match C.T.dfl.lookup i with
 |none=>some (.call i es)
 |some _=>none
mutual
noncomputable def Qg:Nat->Ctx->Expr->Option E
 |0,_,_=>none
 |m+1,C,e=>match e with
  |.Constant (.int i) _ _=>some (.c (.int i 0))
  |.Constant (.bool b) _ _=>some (.c (.bl b))
  |.Constant .none _ _=>some (.c .non)
  |.Constant (.str x) _ _=>some (.c (.str x.cps.toList))
  |.Name x _=>if x="__debug__"\/x="__classdict__" then none else if QgK C x then(idx x C.N).map .var else if ZK C x then(match C.gl.lookup x with|some (.con k)=> some (.con k)|some (.txt t)=> some (.c (.str t))|_=>none)else none
  |.BinOp a o b _=>(Qg m C a).bind λa'=>(Qg m C b).bind λb'=>some (.op o a' b')
  |.UnaryOp .USub a _=>(Qg m C a).bind λa'=>some (.neg a')
  |.UnaryOp .Not a _=>(compT m C a).bind λa'=>some (.not a')
  |.BoolOp .And (a::r) p=>compAnd m C a r p
  |.BoolOp .Or (a::r) p=>compOr m C a r p
  |.Compare a [o] [b] _=>(Qg m C a).bind λa'=>(Qg m C b).bind λb'=>some (.cmp o a' b')
  |.Tuple es _ _=>if es.length<=1000000 then(compA m C es).bind λes'=>some (.tup es')else none
  |.List es _=>if es.length<=1000000 then(compA m C es).bind λes'=>some (.lst es')else none
  |.Subscript a b _=>match QhB b with
   |some (.cut lo hi)=>(Qg m C a).bind λa'=>(compO m C lo).bind λl=>(compO m C hi).bind λh=>some (.sl a' l h)
   |some .rev=>(Qg m C a).bind λa'=>some (.rev a')
   |some .bad=>none
   |none=>(Qg m C b).bind λb'=>match Qo1 a with
    |.tab ks vs=>if decide (ks.length<=15)&&!ks.isEmpty then(Qpe ks vs).bind λkvs=>some (.dis kvs b')else none
    |.nm x=>(match Qk3 C x with|some k=>some (.tab k b')|none=>(Qg m C a).bind λa'=>some (.ix a' b'))
    |.any=>(Qg m C a).bind λa'=>some (.ix a' b')
  |.Call (.Name f _) args [] _=>if f="__debug__"\/f="__name__"\/ZK C f=false then none else match C.gl.lookup f with
   |some (.fn i)=>if hdC C=true then none else(compA m C args).bind λes=>Qnv C i es
   |some (.cls _)=>none
   |some (.con _)=>none
   |some (.txt _)=>none
   |none=>if C.bl.contains f=false then none else if f="isinstance" then(match args with
     |[a,.Name t _]=> if ZK C t/\t≠"__debug__"/\t≠"__name__" then(Qg m C a).bind λa'=>(QkW C t).bind λty=>some (.isi a' ty)else none
     |_=>none)
    else if hdC C=true then none else match QdX C f args with
     |some ra=>(compA m C ra).bind λes=>some (.tupR es)
     |none=>match JX C f args with
      |some a=>(Qg m C a).bind λa'=>some (.rev a')
      |none=>(QnD C f).bind λb=>(compA m C args).bind λes=>some (.bi b es)
  |.Call (.Attribute o x p) args [] q=>if YT o&&(p.endLine==q.line)&&decide (args.length<29)then match idx x C.T.mns with
   |some _=>none
   |none=>(QnB x).bind λb=>(Qg m C o).bind λo'=>(compA m C args).bind λes=>some (.bm b o' es)else none
  |.ListComp elt gens scope _=>(match QgR gens with
   |some g=>if JE C g.xs scope&&!hdC C then(compSrc m C g.iter).bind λsrc=>if Qbs src (tgN g.b 0)then(compTO m (C.inner g.xs scope) g.tl).bind λt=>(Qg m (C.inner g.xs scope) elt).bind λel=>some (.comp src g.b t el)else none else none
   |none=>none)
  |.Dict [] [] _=>some .dnew
  |.Dict ks vs _=>(Qaf ks).bind λkk=>if kk.length=vs.length/\kk.length<=15/\kk≠[]then(QhY (Qg m C) vs).bind λes=>some (.dsp kk es)else none
  |_=>none
noncomputable def compT:Nat->Ctx->Expr->Option E
 |0,_,_=>none
 |m+1,C,e=>match e with
  |.IfExp ..=>none
  |.NamedExpr ..=>none
  |e=>(Qg m C e).bind λir=>if okT e ir then some ir else none
noncomputable def compTO:Nat->Ctx->Option Expr->Option (Option E)
 |0,_,_=>none
 |m+1,C,none=>some none
 |m+1,C,some e=>(compT m C e).bind λe'=>some (some e')
noncomputable def compAnd:Nat->Ctx->Expr->List Expr->Pos->Option E
 |0,_,_,_,_=>none
 |m+1,C,a,r,p=>match r with
  |[]=>compT m C a
  |b::r=>(compT m C a).bind λa'=>(compAnd m C b r p).bind λb'=>some (.and a' b')
noncomputable def compOr:Nat->Ctx->Expr->List Expr->Pos->Option E
 |0,_,_,_,_=>none
 |m+1,C,a,r,p=>match r with
  |[]=>compT m C a
  |b::r=>(compT m C a).bind λa'=>(compOr m C b r p).bind λb'=>some (.or a' b')
noncomputable def compA:Nat->Ctx->List Expr->Option (List E)
 |0,_,_=>none
 |m+1,C,es=>match es with
  |[]=>some []
  |e::r=>(Qg m C e).bind λe'=>(compA m C r).bind λr'=>some (e'::r')
noncomputable def compO:Nat->Ctx->Option Expr->Option (Option E)
 |0,_,_=>none
 |m+1,C,none=>some none
 |m+1,C,some e=>(Qg m C e).bind λe'=>some (some e')
noncomputable def compSrc:Nat->Ctx->Expr->Option Src
 |0,_,_=>none
 |m+1,C,e=>match e with
  |.Call (.Name f p) args [] q=>if ZK C f then(match C.gl.lookup f with
   |some _=>(Qg m C (.Call (.Name f p) args [] q)).map .seq
   |none=>if C.bl.contains f=false then none else match QiK C f args with
    |some b=>(Qg m C b).map .rngR
    |none=>if f="range" then(match args with
     |[a]=>(Qg m C a).map .rng
     |[a,b,c]=>(compA m C [a,b,c]).map .rngA
     |_=>none)
    else if f="enumerate" then(match args with
     |[a]=>(Qg m C a).map .enm
     |_=>none)
    else(Qg m C (.Call (.Name f p) args [] q)).map .seq)else none
  |e=>(Qg m C e).map .seq
end
def cE4{C:Ctx}{x w1}: Qg (m+1) C (.Name x w1)= (if x="__debug__"\/x="__classdict__" then none else if QgK C x then(idx x C.N).map .var else if ZK C x then(match C.gl.lookup x with|some (.con k)=> some (.con k)|some (.txt t)=> some (.c (.str t))|_=>none)else none):= rfl
def cE5{C:Ctx}{a o b w1}:Qg (m+1) C (.BinOp a o b w1)=((Qg m C a).bind λa'=>(Qg m C b).bind λb'=>some (.op o a' b')):=rfl
def cE6{C:Ctx}{a w1}:Qg (m+1) C (.UnaryOp .USub a w1)=((Qg m C a).bind λa'=>some (.neg a')):=rfl
def cE7{C:Ctx}{a w1}:Qg (m+1) C (.UnaryOp .Not a w1)=((compT m C a).bind λa'=>some (.not a')):=rfl
def Qr5{C:Ctx}{a o b w1}:Qg (m+1) C (.Compare a [o] [b] w1)=((Qg m C a).bind λa'=>(Qg m C b).bind λb'=>some (.cmp o a' b')):=rfl
def Qr4{C:Ctx}{es w1 w2}:Qg (m+1) C (.Tuple es w1 w2)=(if es.length<=1000000 then(compA m C es).bind λes'=>some (.tup es')else none):=rfl
def Qr3{C:Ctx}{es w1}:Qg (m+1) C (.List es w1)=(if es.length<=1000000 then(compA m C es).bind λes'=>some (.lst es')else none):=rfl
def Qr2{C:Ctx}{a b w1}:Qg (m+1) C (.Subscript a b w1)=(match QhB b with
   |some (.cut lo hi)=>(Qg m C a).bind λa'=>(compO m C lo).bind λl=>(compO m C hi).bind λh=>some (.sl a' l h)
   |some .rev=>(Qg m C a).bind λa'=>some (.rev a')
   |some .bad=>none
   |none=>(Qg m C b).bind λb'=>match Qo1 a with
    |.tab ks vs=>if decide (ks.length<=15)&&!ks.isEmpty then(Qpe ks vs).bind λkvs=>some (.dis kvs b')else none
    |.nm x=>(match Qk3 C x with|some k=>some (.tab k b')|none=>(Qg m C a).bind λa'=>some (.ix a' b'))
    |.any=>(Qg m C a).bind λa'=>some (.ix a' b')):=rfl
def Qr1{C:Ctx}{f w1 args w2}: Qg (m+1) C (.Call (.Name f w1) args [] w2)= (if f="__debug__"\/f="__name__"\/ZK C f=false then none else match C.gl.lookup f with
   |some (.fn i)=>if hdC C=true then none else(compA m C args).bind λes=>Qnv C i es
   |some (.cls _)=>none
   |some (.con _)=>none
   |some (.txt _)=>none
   |none=>if C.bl.contains f=false then none else if f="isinstance" then(match args with
     |[a,.Name t _]=> if ZK C t/\t≠"__debug__"/\t≠"__name__" then(Qg m C a).bind λa'=>(QkW C t).bind λty=>some (.isi a' ty)else none
     |_=>none)
    else if hdC C=true then none else match QdX C f args with
     |some ra=>(compA m C ra).bind λes=>some (.tupR es)
     |none=>match JX C f args with
      |some a=>(Qg m C a).bind λa'=>some (.rev a')
      |none=>(QnD C f).bind λb=>(compA m C args).bind λes=>some (.bi b es)):=rfl
def Qr0{C:Ctx}{o x p args q}:Qg (m+1) C (.Call (.Attribute o x p) args [] q)=(if YT o&&(p.endLine==q.line)&&decide (args.length<29)then match idx x C.T.mns with
   |some _=>none
   |none=>(QnB x).bind λb=>(Qg m C o).bind λo'=>(compA m C args).bind λes=>some (.bm b o' es)else none):=rfl
def QqB{C:Ctx}{elt gens scope w1}:Qg (m+1) C (.ListComp elt gens scope w1)=((match QgR gens with
   |some g=>if JE C g.xs scope&&!hdC C then(compSrc m C g.iter).bind λsrc=>if Qbs src (tgN g.b 0)then(compTO m (C.inner g.xs scope) g.tl).bind λt=>(Qg m (C.inner g.xs scope) elt).bind λel=>some (.comp src g.b t el)else none else none
   |none=>none)):=rfl
def QrZ{C:Ctx}{w1}:Qg (m+1) C (.Dict [] [] w1)=(some .dnew):=rfl
def QrY{C:Ctx}{k0 ks vs w1}:Qg (m+1) C (.Dict (k0::ks) vs w1)=((Qaf (k0::ks)).bind λkk=>if kk.length=vs.length/\kk.length<=15/\kk≠[]then(QhY (Qg m C) vs).bind λes=>some (.dsp kk es)else none):=rfl
noncomputable def Yp(C:Ctx):Expr->Option Tg
 |.Name x _=>if QaM C x then(idx x C.N).map .name else none
 |.Tuple [.Name x _,.Name y _] _ _=>if QaM C x&&QaM C y&&decide (x≠y)then(idx x C.N).bind λi=>(idx y C.N).map λj=>.pair i j else none
 |_=>none
noncomputable def Qo5:Expr->Option Bool
 |.Constant c _ _=>(match c with|.str _=>some true|_=>none)
 |.ListComp ..=>some false
 |_=>none
inductive As where
 |nm (x:Str)|at (o:Expr) (f:Str)|sub (o i:Expr)|two (x:Str) (p:Pos) (y:Str) (q:Pos)|many (es:List Expr)
noncomputable def Qiq:Expr->Expr->Option As
 |.Name x p,.Name y q=>some (.two x p y q)
 |_,_=>none
noncomputable def as1:Expr->Option As
 |.Name x _=>some (.nm x)
 |.Attribute o f _=>some (.at o f)
 |.Subscript o i _=>some (.sub o i)
 |.Tuple es _ _=>(match es with|[a,b]=>Qiq a b|[a,b,c]=>some (.many [a,b,c])|[a,b,c,d]=>some (.many [a,b,c,d])|_=>none)
 |_=>none
noncomputable def Qkk:List Expr->Option As
 |[t]=>as1 t
 |_=>none
noncomputable def QrA(C:Ctx)(it:Expr):Bool:=match it with
 |.Name y _=>C.T.dts.contains y||C.T.dks.contains y
 |_=>false
noncomputable def Qql(C:Ctx)(tg it:Expr)(t:Tg):Option Nat:=match tg with
 |.Name x _=>(match t with|.name i=>if C.T.dts.contains x||QrA C it then some i else none|_=>none)
 |_=>none
noncomputable def Jy(C:Ctx)(x:Str):Bool:=match C.names.lookup x with
 |some .local=>true|_=>false
noncomputable def QeH:Expr->Bool
 |.Dict [] [] _=>true
 |_=>false
noncomputable def Qga(C:Ctx)(e f:Option Expr):Option (Nat×List Expr):=match e,f with
 |some (.Call (.Name x _) args [] _),none=>if ZK C x&&decide (x≠"__debug__")then(match C.gl.lookup x with
  |some (.cls c)=>if C.T.ers.contains c then some (c,args)else none
  |_=>none)else none
 |_,_=>none
structure Tr where
 j:Option Nat
 f:Nat
 args:List Expr
 c:Nat
 body:List Stmt
noncomputable def QfX(C:Ctx)(n:Option Str):Option (Option Nat):=match n with
 |none=>some none
 |some n=>if Jy C n&&decide (n≠"__debug__")then(idx n C.N).map some else none
noncomputable def QfZ(C:Ctx)(x:Str):Option Nat:=if ZK C x&&decide (x≠"__debug__")then(match C.gl.lookup x with|some (.cls c)=>some c|_=>none)else none
noncomputable def QdG(C:Ctx)(x:Str):Option Nat:=if ZK C x&&decide (x≠"__debug__")then(match C.gl.lookup x with|some (.fn i)=>some i|_=>none)else none
noncomputable def QfV(C:Ctx)(b:List Stmt)(hs:List ExceptHandler)(o fn:List Stmt):Option Tr:=match b,hs,o,fn with
 |[.Expr (.Call (.Name f _) (a::args) [] _) _],[.ExceptHandler (some (.Name x _)) n (b0::body) _],[],[]=>
   (QfX C n).bind λj=>(QfZ C x).bind λc=>(QdG C f).bind λk=>some ⟨j,k,a::args,c,b0::body⟩
 |_,_,_,_=>none
noncomputable def hdX(C:Ctx):Ctx:={C with bl:=[("isinstance":Str)]}
noncomputable def Qkj(C:Ctx):Stmt->Option (Nat×Expr)
 |.Assign ts e _=>(match Qkk ts with
  |some (.nm y)=>if Jy C y then(idx y C.N).map λi=>(i,e)else none
  |_=>none)
 |_=>none
noncomputable def Qfm(m:Nat)(C:Ctx):List Stmt->Option (List S)
 |[]=>some []
 |s::r=>(Qkj C s).bind λp=>(Qg m (hdX C) p.2).bind λe'=>(Qfm m C r).bind λr'=>some (.set p.1 e'::r')
noncomputable def Qg9(C:Ctx)(f:Str)(as:List Expr):Option (Nat×List Expr):=(QdG C f).bind λk=>if C.T.pss.contains k then some (k,as)else none
noncomputable def QrX(C:Ctx)(f:Str)(as:List Expr)(ks:List Keyword):Option (Nat×List Expr):=match as with
 |[]=>none
 |a::r=>(match ks with|[]=>Qg9 C f (a::r)|_::_=>none)
noncomputable def QrW(C:Ctx)(g:Expr)(as:List Expr)(ks:List Keyword):Option (Nat×List Expr):=match g with
 |.Name f _=>QrX C f as ks
 |_=>none
noncomputable def Qkz(C:Ctx)(e:Expr):Option (Nat×List Expr):=match e with
 |.Call g as ks _=>QrW C g as ks
 |_=>none
noncomputable def Qpo(C:Ctx)(ts:List Expr)(e:Expr):Option (Nat×List Expr):=match Qkk ts with
 |some (.nm x)=>if QaM C x&&(idx x C.N).isSome then Qkz C e else none
 |_=>none
noncomputable def QmW(C:Ctx)(s:Stmt):Option (Nat×List Expr):=match s with
 |.Assign ts e _=>Qpo C ts e
 |.Return v _=>v.bind (Qkz C)
 |.Expr e _=>Qkz C e
 |_=>none
noncomputable def QnA(m:Nat)(C:Ctx)(s:Stmt)(s0:S):Option S:=match QmW C s with
 |some t=>(compA m C t.2).map λes=>.cal s0 t.1 es
 |none=>some s0
mutual
noncomputable def QM:Nat->Ctx->Stmt->Option S
 |0,_,_=>none
 |m+1,C,s=>match s with
  |.Pass _=>some .pass
  |.Break _=>some .brk
  |.Continue _=>some .cont
  |.Expr e _=>(match Qo5 e with
   |some true=>some .pass
   |some false=>none
   |none=>(Qg m C e).map .expr)
  |.Return v _=>(match v with
   |none=>some .retN
   |some e=>(Qg m C e).map .ret)
  |.Assign ts e _=>(match Qkk ts with
   |some (.nm x)=>if QaM C x then(idx x C.N).bind λi=>if QeH e&&C.T.dts.contains x then some (.set i .dnewT)else(Qg m C e).bind λe'=>some (.set i e')else none
   |some (.at _ _)=>none
   |some (.sub o i)=>if Z0 i then(Qg m C e).bind λe'=>(Qg m C o).bind λo'=>(Qg m C i).bind λi'=>some (.put o' i' e')else none
   |some (.two _ _ _ _)=>none
   |some (.many _)=>none
   |none=>none)
  |.Raise e f _=>(match Qga C e f with
   |some (c,args)=>(compA m C args).bind λes=>some (.rse c es)
   |none=>some .bad)
  |.Try b hs o fn _=>if C.bl.contains ("isinstance":Str)then(QfV C b hs o fn).bind λt=>(compA m C t.args).bind λes=>(Qfm m C t.body).bind λbd=>some (.tryS t.j t.f es t.c bd)else none
  |.If t a b _=>(compT m C t).bind λt'=>(compSs m C a).bind λa'=>(compSs m C b).bind λb'=>some (.ite t' a' b')
  |.While t a [] _=>(compT m C t).bind λt'=>(compSs m C a).bind λa'=>some (.while t' a')
  |.For tg it a [] _=>(Yp C tg).bind λtg'=>(compSrc m C it).bind λit'=>match Qql C tg it tg' with
   |some i=>(Qg m C it).bind λe=>(compSs m C a).bind λa'=>some (.loopK i e a')
   |none=>if Qbs it' tg' then(compSs m C a).bind λa'=>(match C.lc,tg',it' with|true,.name i,.seq (.sl (.var 0) lo hi)=>some (.loopD i (.sl (.var 0) lo hi) a')|_,_,_=>some (.loop tg' it' a'))else none
  |_=>none
noncomputable def compSs:Nat->Ctx->List Stmt->Option (List S)
 |0,_,_=>none
 |m+1,C,ss=>match ss with
  |[]=>some []
  |s::r=>(QM m C s).bind λs0=>(QnA m C s s0).bind λs'=>(compSs m C r).bind λr'=>some (s'::r')
end
end
end Iv
namespace L2
open PySem PySem.Spec PyProof.Rows
section
variable {X:Cx}
noncomputable def Qpl:V->Option Value
 |.ty n=>some (.type n)
 |.ref a=>some (.ref a)
 |_=>none
def TyE(K:W.Frag)(H:Hp)(x:V)(t:Value):Prop:=TyOf K H x t\/∃a C dd,x=.ref a/\t=.ref C/\H a=some (QfM a C dd)/\ErrCls K C
def Qg7:CallR X (.builtin "isinstance") (λxs H Q=>∃x c cv t b,xs=[x,c]/\Qpl c=some cv/\TyE X.K H x t/\W.kitOne X.K t cv=some b/\Q (.bl b) H):= by
 intro pins s Y H xs us Q I r h;obtain⟨x,c,cv,t,b,rfl,hc,ty,e,q⟩:=h
 rcases ty with ty|⟨a,C,dd,rfl,rfl,ha,Yyy⟩
 case inr=>exact Qfq pins s Y H _ us Q I r ⟨a,c,cv,C,dd,b,rfl,by unfold Qpl at hc;exact hc,ha,Yyy,e,q⟩
 obtain⟨u,w',rfl,rx,rc⟩:=QcI r
 have ec:w'=cv:=by
  cases c with
  |ty n=>cases(show w'=Value.type n from rc);exact X3 hc
  |ref a=>cases(show w'=Value.ref a from rc);exact X3 hc
  |_=>cases hc
 subst ec;exact QeF I rx ty e λtk=>⟨.bl b,H,I.tok tk,rfl,q⟩
end
end L2
namespace Iv
open PySem PySem.Spec PyProof.Rows L2
section
variable {a p:Addr}{e:Expr}{ho:HO}{H:Hp}{n:Nat}{o:O}{T:Tbl}
abbrev St:=L2.St
structure Adr where
 f:Nat->Addr
 c:Nat->Addr
 k:Nat->Addr
 s:Addr
def Cg(i r:Int)(m:Nat):Prop:=∃q:Int,i=r+m*q
def Cg.exact{i r:Int}(h:Cg i r 0):i=r:=by obtain⟨q,e⟩:=h;simpa using e
def Cg.refl(i:Int)(m:Nat):Cg i i m:=⟨0,by simp⟩
def RU(A:Adr)(α:List Addr):U->V->Prop
 |.non,v=>v=.non
 |.bl b,v=>v=.bl b
 |.int r m,v=>∃i,v=.int i/\Cg i r m
 |.str x,v=>v=.str ⟨x.toArray⟩
 |.ref n,v=>∃a,α[n]?=some a/\v=.ref a
 |.con k,v=>v=.ref (A.k k)
 |.scr,v=>v=.ref A.s
abbrev RUs(A:Adr)(α:List Addr):List U->List V->Prop:=Paired (RU A α)
def RF(T:Tbl)(A:Adr)(α:List Addr):List (Nat×U)->List (Str×V)->Prop:=Paired λp q=>T.fns'[p.1]?=some q.1/\RU A α p.2 q.2
def RK:U->Key->Prop
 |.int i m,k=>m=0/\k=Sum.inl i
 |.str x,k=>k=Sum.inr ⟨x.toArray⟩
 |_,_=>False
def RD(A:Adr)(α:List Addr):List (U×U)->List (Key×V)->Prop:=Paired λp q=>RK p.1 q.1/\RU A α p.2 q.2
abbrev RKs:List U->List Key->Prop:=Paired RK
def RT(A:Adr)(α:List Addr):List (List U×U)->List (List Key×V)->Prop:=Paired λp q=>RKs p.1 q.1/\RU A α p.2 q.2
def EF(T:Tbl)(H:Hp)(c:Nat)(dd:Option Addr):Prop:=∀f,T.efl.contains (c,f)=true->∃d od x,dd=some d/\T.fns'[f]?=some x/\H d=some (.frz od (.xd [(x,.non)]))
def EF.fz{H':Hp}{c:Nat}{dd:Option Addr}(h:EF T H c dd)(k:∀b o fs,H b=some (.frz o (.xd fs))->H' b=some (.frz o (.xd fs))):EF T H' c dd:=λf q=>by
 obtain⟨d,od,x,e1,e2,e3⟩:=h f q;exact⟨d,od,x,e1,e2,k _ _ _ e3⟩
def RO(T:Tbl)(A:Adr)(α:List Addr)(H:Hp)(a:Addr):O->Prop
 |.lst xs=>∃vs,H a=some (.lst vs)/\RUs A α xs vs
 |.tup xs=>∃vs,H a=some (.tup vs)/\RUs A α xs vs
 |.ins c fs=>∃dx fv,H a=some (.ins (A.c c) dx fv)/\RF T A α fs fv/\c<T.cls.length
 |.dic kvs=>∃kv,H a=some (.dK kv)/\RD A α kvs kv
 |.dct kvs=>∃kv,H a=some (.dT kv)/\RT A α kvs kv
 |.fzd kvs=>∃kv ob,H a=some (.frz ob (.dK kv))/\RD A α kvs kv
 |.fzt kvs=>∃kv ob,H a=some (.frz ob (.dT kv))/\RT A α kvs kv
 |.err c=>∃dd,H a=some (QfM a (A.c c) dd)/\T.ers.contains c=true/\EF T H c dd
structure RH(T:Tbl)(A:Adr)(α:List Addr)(hs:Hs)(H:Hp):Prop where
 len:α.length=hs.length
 nd:∀(i j:Nat) a,α[i]?=some a->α[j]?=some a->i=j\/∃vs,H a=some (.tup vs)
 ob:∀(n:Nat) a o,α[n]?=some a->hs[n]?=some o->RO T A α H a o
def QpH(K:W.Frag)(H:Hp)(a:Addr)(xs:List V):Prop:=(∃o,H a=some (.frz o (.lst xs))) \/
 ∃(o:Obj) (its:Array Value) (n:Nat),K.lookup a=some o/\o.cls=.type "list"/\o.dict=none/\o.data=.seq its n/\its.size<=sizeLine/\Vals xs its.toList
def Scr(T:Tbl)(A:Adr)(K:W.Frag)(H:Hp):Prop:=∃vs,RUs A [] T.scr vs/\QpH K H A.s vs
structure Rep(T:Tbl)(A:Adr)(K:W.Frag)(α:List Addr)(hs:Hs)(H:Hp):Prop where
 h:RH T A α hs H
 s:Scr T A K H
structure Ext(α α':List Addr)(H H':Hp):Prop where
 pre:∀(n:Nat) a,α[n]?=some a->α'[n]?=some a
 new:∀(n:Nat) a,α'[n]?=some a->α.length<=n->H a=none\/∃vs,H a=some (.tup vs)
 keep:∀b o,H b=some o->b∉α->H' b=some o
 fz:∀b o u,H b=some (.frz o u)->H' b=some (.frz o u)
 tr:∀b o,H b=some o->∃o',H' b=some o'/\∀vs,o=.tup vs↔o'=.tup vs
structure RS(A:Adr)(α:List Addr)(Z:Rho)(Y:St):Prop where
 len:Z.length=Y.length
 val:∀(i:Nat) u,Z[i]?=some (some u)->∃v,Y[i]?=some (some v)/\RU A α u v
section
variable {A:Adr}{K:W.Frag}{α α' α1 α2:List Addr}{hs h2:Hs}{H' H1 H2:Hp}{u:U}{v:V}{us:List U}{vs:List V}{Z:Rho}{Y:St}
def RU.mono(p:∀(n:Nat) a,α[n]?=some a->α'[n]?=some a)(h:RU A α u v):RU A α' u v:=by
 cases u with
 |ref n=>obtain⟨a,e,r⟩:=h;exact⟨a,p _ _ e,r⟩
 |_=>exact h
theorem RUs.mono(p:∀(n:Nat) a,α[n]?=some a->α'[n]?=some a)(h:RUs A α us vs):RUs A α' us vs:=Paired.mapP h λz z r=>RU.mono p r
theorem RF.mono{fs:List (Nat×U)}{fv:List (Str×V)}(p:∀(n:Nat) a,α[n]?=some a->α'[n]?=some a)(h:RF T A α fs fv):RF T A α' fs fv:=Paired.mapP h λz z r=>⟨r.1,r.2.mono p⟩
theorem RD.mono{fs:List (U×U)}{fv:List (Key×V)}(p:∀(n:Nat) a,α[n]?=some a->α'[n]?=some a)(h:RD A α fs fv):RD A α' fs fv:=Paired.mapP h λz z r=>⟨r.1,r.2.mono p⟩
theorem RT.mono{fs:List (List U×U)}{fv:List (List Key×V)}(p:∀(n:Nat) a,α[n]?=some a->α'[n]?=some a)(h:RT A α fs fv):RT A α' fs fv:=Paired.mapP h λz z r=>⟨r.1,r.2.mono p⟩
theorem RS.mono(p:∀(n:Nat) a,α[n]?=some a->α'[n]?=some a)(h:RS A α Z Y):RS A α' Z Y:=⟨h.len,λi u e=>by obtain⟨v,e1,r⟩:=h.val i u e;exact⟨v,e1,r.mono p⟩⟩
def Ext.refl:Ext α α H H:=⟨λz z e=>e,λn a e l=>by
 have:=(Xc.mp e).1
 omega,λz z e z=>e,λz z z e=>e,λz o e=>⟨o,e,λz=>T6⟩⟩
def getElem?_lt(e:α[n]?=some a):n < α.length:=(Xc.mp e).1
theorem Ext.trans(a:Ext α α1 H H1)(b:Ext α1 α2 H1 H2)(R:RH T A α2 h2 H2):Ext α α2 H H2 where
 fz:=λc o kv e=>b.fz c o kv (a.fz c o kv e)
 pre:=λn x e=>b.pre n x (a.pre n x e)
 tr:=λc o e=>by
  obtain⟨o1,e1,q1⟩:=a.tr c o e;obtain⟨o2,e2,q2⟩:=b.tr c o1 e1;exact⟨o2,e2,λvs=>(q1 vs).trans (q2 vs)⟩
 new:=λn x e l=>by
  by_cases hn:n < α1.length
  ·have e1:α1[n]?=some α1[n]:=Xf hn;have e2:=b.pre n _ e1;rw[e]at e2;cases e2;exact a.new n _ e1 l
  ·cases q:H x with
   |none=>exact .inl rfl
   |some o=>
    obtain⟨o1,e1,q1⟩:=a.tr x o q
    rcases b.new n x e (by omega)with z|⟨vs,z⟩
    ·rw[e1]at z;cases z
    ·rw[e1]at z;cases z;exact .inr ⟨vs,congrArg some ((q1 vs).mpr rfl)⟩
 keep:=λc o e hc=>by
  by_cases hm:c∈α1
  ·obtain⟨n,hn⟩:=Vi hm;by_cases l:n < α.length
   ·have e1:α[n]?=some α[n]:=Xf l;have:=a.pre n _ e1;rw[hn]at this;cases this;exact absurd (List.getElem_mem l) hc
   ·rcases a.new n c hn (by omega)with z|⟨vs,z⟩
    ·rw[z]at e;cases e
    ·rw[e]at z;cases z;obtain⟨o1,e1,q1⟩:=a.tr c _ e;obtain⟨o2,e2,q2⟩:=b.tr c o1 e1;rw[e2,((q1 vs).trans (q2 vs)).mp rfl]
  ·exact b.keep c o (a.keep c o e hc) hm
def RO.trk(h:RO T A α H a o):∃x,H a=some x/\(∀ob u,x≠.frz ob (.lst u))/\∀ob u,x≠.frz ob (.xd u):=by
 cases o with
 |lst xs=>obtain⟨vs,e,_⟩:=h;exact⟨_,e,(λy y z=>nomatch z),λy y z=>nomatch z⟩
 |tup xs=>obtain⟨vs,e,_⟩:=h;exact⟨_,e,(λy y z=>nomatch z),λy y z=>nomatch z⟩
 |ins c fs=>obtain⟨dx,fv,e,_⟩:=h;exact⟨_,e,(λy y z=>nomatch z),λy y z=>nomatch z⟩
 |dic _=>obtain⟨kv,e,_⟩:=h;exact⟨_,e,(λy y z=>nomatch z),λy y z=>nomatch z⟩
 |dct _=>obtain⟨kv,e,_⟩:=h;exact⟨_,e,(λy y z=>nomatch z),λy y z=>nomatch z⟩
 |fzd _=>obtain⟨kv,ob,e,_⟩:=h;exact⟨_,e,(λy y z=>nomatch z),λy y z=>nomatch z⟩
 |fzt _=>obtain⟨kv,ob,e,_⟩:=h;exact⟨_,e,(λy y z=>nomatch z),λy y z=>nomatch z⟩
 |err _=>obtain⟨dd,e,_⟩:=h;exact⟨_,e,(λy y z=>nomatch z),λy y z=>nomatch z⟩
def RH.trk(R:RH T A α hs H)(e:α[n]?=some a):∃o,hs[n]?=some o/\RO T A α H a o:=by
 have l:=getElem?_lt e;rw[R.len]at l;exact⟨hs[n],Xf l,R.ob n a _ e (Xf l)⟩
def RH.adr(R:RH T A α hs H)(e:hs[n]?=some o):∃a,α[n]?=some a/\RO T A α H a o:=by
 have l:n<hs.length:=(Xc.mp e).1;rw[<-R.len]at l;exact⟨α[n],Xf l,R.ob n _ _ (Xf l) e⟩
def RH.notIn(R:RH T A α hs H)(h:H p=none):p∉α:=λm=>by
 obtain⟨n,e⟩:=Vi m;obtain⟨o,_,r⟩:=R.trk e;obtain⟨x,e,_⟩:=r.trk;rw[h]at e;cases e
def RH.nd_keep(R:RH T A α hs H)(k:∀b x,b∈α->H b=some x->H' b=some x):∀(i j:Nat) a,α[i]?=some a->α[j]?=some a->i=j\/∃vs,H' a=some (.tup vs):=λi j a e1 e2=>
 (R.nd i j a e1 e2).imp id λz=>by obtain⟨vs,q⟩:=z;exact⟨vs,k a _ (Xv e1) q⟩
def Qek(h:∀(i j:Nat) a,α[i]?=some a->α[j]?=some a->i=j\/∃vs,H a=some (.tup vs))(n:p∉α):∀(i j:Nat) a,(α++[p])[i]?=some a->(α++[p])[j]?=some a->i=j\/∃vs,H a=some (.tup vs):=λi j a e1 e2=>by
 have cs:∀{k:Nat},(α++[p])[k]?=some a->α[k]?=some a\/(k=α.length/\a=p):=λ{k} e=>by
  by_cases l:k < α.length
  ·rw[Xp l]at e;exact .inl e
  ·rw[X7 (by omega)]at e
   have:=(Xc.mp e).1;simp at this
   have hk:k=α.length:=by omega
   subst hk;simp at e;exact .inr ⟨rfl,e.symm⟩
 rcases cs e1 with q1|⟨q1,w1⟩
 ·rcases cs e2 with q2|⟨q2,w2⟩
  ·exact h i j a q1 q2
  ·exact absurd (w2▸Xv q1) n
 ·rcases cs e2 with q2|⟨q2,w2⟩
  ·exact absurd (w1▸Xv q2) n
  ·exact .inl (q1.trans q2.symm)
def RO.keep(h:RO T A α H a o)(p:∀(n:Nat) a,α[n]?=some a->α'[n]?=some a)(k:∀b x,H b=some x->(b=a\/∃o fs,x=.frz o (.xd fs))->H' b=some x):RO T A α' H' a o:=by
 have kx:=k;have k:=λx e=>kx a x e (.inl rfl)
 cases o with
 |lst xs=>obtain⟨vs,e,r⟩:=h;exact⟨vs,k _ e,RUs.mono p r⟩
 |tup xs=>obtain⟨vs,e,r⟩:=h;exact⟨vs,k _ e,RUs.mono p r⟩
 |ins c fs=>obtain⟨dx,fv,e,r,l⟩:=h;exact⟨dx,fv,k _ e,RF.mono p r,l⟩
 |dic _=>obtain⟨kv,e,r⟩:=h;exact⟨kv,k _ e,RD.mono p r⟩
 |dct _=>obtain⟨kv,e,r⟩:=h;exact⟨kv,k _ e,RT.mono p r⟩
 |fzd _=>obtain⟨kv,ob,e,r⟩:=h;exact⟨kv,ob,k _ e,RD.mono p r⟩
 |fzt _=>obtain⟨kv,ob,e,r⟩:=h;exact⟨kv,ob,k _ e,RT.mono p r⟩
 |err _=>obtain⟨dd,e,l,q⟩:=h;exact⟨dd,k _ e,l,q.fz λb o fs e=>kx b _ e (.inr ⟨o,fs,rfl⟩)⟩
def Scr.keep(h:Scr T A K H)(k:∀x,H A.s=some x->(∃o u,x=.frz o (.lst u))->H' A.s=some x):Scr T A K H':=by
 obtain⟨vs,r,q|q⟩:=h
 ·obtain⟨o,e⟩:=q;exact⟨vs,r,.inl ⟨o,k _ e ⟨_,_,rfl⟩⟩⟩
 ·exact⟨vs,r,.inr q⟩
def Scr.sq(h:Scr T A K H):∃vs,RUs A α T.scr vs/\SqL K H A.s vs:=by
 obtain⟨vs,r,q⟩:=h
 refine⟨vs,RUs.mono (λn a e=>by simp at e) r,?_⟩
 rcases q with⟨o,e⟩|q
 ·exact .inl (.inr ⟨o,e⟩)
 ·exact .inr q
def QG:(α++[p])[α.length]?=some p:=by simp
def Qu:∀(n:Nat) a,α[n]?=some a->(α++[p])[n]?=some a:=λn a e=>by
 rw[Xp (getElem?_lt e)];exact e
def Qq{β:Type}{l:List β}{p a:β}(e:(l++[p])[n]?=some a):l[n]?=some a\/(n=l.length/\a=p):=by
 by_cases h:n<l.length
 ·rw[Xp h]at e;exact .inl e
 ·rw[X7 (by omega)]at e
  have:n-l.length=0:=by
   cases q:n-l.length with
   |zero=>rfl
   |succ k=>rw[q]at e;simp at e
  rw[this]at e;simp at e
  exact .inr ⟨by omega,e.symm⟩
def Rep.new(R:Rep T A K α hs H)(hp:H p=none)(r:RO T A (α++[p]) (upd H p ho) p o):Rep T A K (α++[p]) (hs++[o]) (upd H p ho)/\Ext α (α++[p]) H (upd H p ho):=by
 have ne:∀b x,H b=some x->b≠p:=λb x e z=>by rw[z,hp]at e;cases e
 refine⟨⟨⟨by simp[R.h.len],Qek (R.h.nd_keep λb x y e=>by rw[Qf (ne _ _ e)];exact e) (R.h.notIn hp),λn a ob e1 e2=>?_⟩,R.s.keep λx e y=>by rw[Qf (ne _ _ e)];exact e⟩,⟨Qu,λn a e l=>?_,λb x e y=>by rw[Qf (ne _ _ e)];exact e,λb x kv e=>by rw[Qf (ne _ _ e)];exact e,λb x e=>⟨x,by rw[Qf (ne _ _ e)];exact e,λy=>T6⟩⟩⟩
 ·rcases Qq e1 with q|⟨q1,q2⟩
  ·rcases Qq e2 with z|⟨z,_⟩
   ·exact RO.keep (R.h.ob n a ob q z) Qu λy x e y=>by rw[Qf (ne _ _ e)];exact e
   ·have:=getElem?_lt q;rw[R.h.len]at this;omega
  ·subst q2
   rcases Qq e2 with z|⟨_,z⟩
   ·have:=(Xc.mp z).1;rw[<-R.h.len]at this;omega
   ·subst z;exact r
 ·rcases Qq e with q|⟨_,q⟩
  ·have:=getElem?_lt q;omega
  ·rw[q];exact .inl hp
def Rep.put0(R:Rep T A K α hs H)(ha:α[n]?=some a)(r:RO T A α (upd H a ho) a o)(ht:∀vs,H a≠some (.tup vs):=by intro _ z;simp only[*,Wz,reduceCtorEq]at z):Rep T A K α (hs.set n o) (upd H a ho):=by
 have ta:=R.h.trk ha;obtain⟨o0,_,r0⟩:=ta;obtain⟨x0,e0,nf,nx⟩:=r0.trk
 have nd:∀(i j:Nat) c,α[i]?=some c->α[j]?=some c->i=j\/∃vs,upd H a ho c=some (.tup vs):=λi j c e1 e2=>by
  rcases R.h.nd i j c e1 e2 with q|⟨vs,q⟩
  ·exact .inl q
  ·exact .inr ⟨vs,by rw[Qf (λ(z:c=a)=>ht vs (z▸q))];exact q⟩
 refine⟨⟨by simp[R.h.len],nd,λm b ob e1 e2=>?_⟩,R.s.keep λx e z=>?_⟩
 ·by_cases hm:m=n
  ·subst hm;rw[ha]at e1;cases e1
   have l:m<hs.length:=by rw[<-R.h.len];exact getElem?_lt ha
   rw[X0 l]at e2;cases e2;exact r
  ·rw[Xs (Wq hm)]at e2
   have hb:b≠a:=λz=>by
    rcases R.h.nd m n a (z▸e1) ha with q|⟨vs,q⟩
    ·exact hm q
    ·exact ht vs q
   refine RO.keep (R.h.ob m b ob e1 e2) (λy y e=>e) λc x e w=>?_
   rcases w with rfl|⟨oz,fs,rfl⟩
   ·rw[Qf hb];exact e
   ·rw[Qf (λz=>by rw[z,e0]at e;cases e;exact nx _ _ rfl)];exact e
 ·obtain⟨ob,u,z⟩:=z
  have hb:A.s≠a:=λq=>by rw[q,e0]at e;cases e;exact nf _ _ z
  rw[Qf hb];exact e
def Rep.put(R:Rep T A K α hs H)(ha:α[n]?=some a)(r:RO T A α (upd H a ho) a o)(hz:∀ob u,H a≠some (.frz ob u):=by intro _ _ z;simp only[*,Wz,reduceCtorEq]at z)(ht:∀vs,H a≠some (.tup vs):=by intro _ z;simp only[*,Wz,reduceCtorEq]at z)(hh:∀vs,ho≠.tup vs:=by intro _ z;cases z):Rep T A K α (hs.set n o) (upd H a ho)/\Ext α α H (upd H a ho):=by
 refine⟨R.put0 ha r ht,⟨λy y e=>e,λm b e l=>by have:=getElem?_lt e;omega,λb x e hb=>?_,λb ob kv e=>?_,λb x e=>?_⟩⟩
 ·have hb':b≠a:=λz=>hb (z▸Xv ha);rw[Qf hb'];exact e
 ·have hb':b≠a:=λz=>hz ob kv (z▸e);rw[Qf hb'];exact e
 ·by_cases hb':b=a
  ·subst hb';exact⟨ho,Qi,λvs=>⟨λz=>absurd (z▸e) (ht vs),λz=>absurd z (hh vs)⟩⟩
  ·exact⟨x,by rw[Qf hb'];exact e,λy=>T6⟩
def RS.get(R:RS A α Z Y){i:Nat}{u:U}(e:Z[i]?=some (some u)):∃v,Y[i]?=some (some v)/\RU A α u v:=R.val i u e
theorem RS.set(R:RS A α Z Y)(i:Nat)(r:RU A α u v):RS A α (Z.set i (some u)) (Y.set i (some v)):=by
 refine⟨by simp[R.len],λj w e=>?_⟩
 by_cases h:j=i
 ·subst h
  have l:j < Z.length:=by
   have:=(Xc.mp e).1;simpa using this
  rw[X0 l]at e;cases e
  exact⟨v,X0 (by rw[<-R.len];exact l),r⟩
 ·rw[Xs (Wq h)]at e;rw[Xs (Wq h)];exact R.val j w e
end
def flE(A:Adr)(α:List Addr)(D:Ends)(Y:St)(H:Hp):Fl->Prop
 |.next=>D.nx Y H
 |.brk=>D.bk Y H
 |.cont=>D.ct Y H
 |.ret u=>∀v,RU A α u v->D.rt v H
section
variable (T:Tbl)(A:Adr)(K:W.Frag)
def TI(f:Rho->Hs->Option (U×Hs)):TE:=λY H Q=>∃α Z hs u hs',RS A α Z Y/\Rep T A K α hs H/\f Z hs=some (u,hs') /\
 ∀α' v H',Ext α α' H H'->Rep T A K α' hs' H'->RU A α' u v->Q v H'
def TIT(f:Rho->Hs->Option (Bool×Hs)):TT:=λY H Q=>∃α Z hs u hs',RS A α Z Y/\Rep T A K α hs H/\f Z hs=some (u,hs') /\
 ∀α' H',Ext α α' H H'->Rep T A K α' hs' H'->Q u H'
def TIA(f:Rho->Hs->Option (List U×Hs)):TA:=λY H Q=>∃α Z hs us hs',RS A α Z Y/\Rep T A K α hs H/\f Z hs=some (us,hs') /\
 ∀α' vs H',Ext α α' H H'->Rep T A K α' hs' H'->RUs A α' us vs->Q vs H'
def TIS(f:Ex):TS:=λD Y H=>∃α Z hs fl ρ' hs',RS A α Z Y/\Rep T A K α hs H/\f Z hs=some (fl,ρ',hs') /\
 ∀α' Y' H',Ext α α' H H'->Rep T A K α' hs' H'->RS A α' ρ' Y'->flE A α' D Y' H' fl
end
section
variable {A:Adr}{K:W.Frag}{α:List Addr}{Z:Rho}{Y:St}{hs h1:Hs}
def TI.run{f:Rho->Hs->Option (U×Hs)}{u:U}{Q:VK}(rs:RS A α Z Y)(rp:Rep T A K α hs H)(h:f Z hs=some (u,h1))
  (k:∀α1 v H1,Ext α α1 H H1->Rep T A K α1 h1 H1->RU A α1 u v->RS A α1 Z Y->Q v H1):TI T A K f Y H Q :=
 ⟨α,Z,hs,u,h1,rs,rp,h,λα1 v H1 e r q=>k α1 v H1 e r q (rs.mono e.pre)⟩
def TIT.run{f:Rho->Hs->Option (Bool×Hs)}{u:Bool}{Q:Bool->Hp->Prop}(rs:RS A α Z Y)(rp:Rep T A K α hs H)(h:f Z hs=some (u,h1))
  (k:∀α1 H1,Ext α α1 H H1->Rep T A K α1 h1 H1->RS A α1 Z Y->Q u H1):TIT T A K f Y H Q :=
 ⟨α,Z,hs,u,h1,rs,rp,h,λα1 H1 e r=>k α1 H1 e r (rs.mono e.pre)⟩
def TIA.run{f:Rho->Hs->Option (List U×Hs)}{us:List U}{Q:List V->Hp->Prop}(rs:RS A α Z Y)(rp:Rep T A K α hs H)(h:f Z hs=some (us,h1))
  (k:∀α1 vs H1,Ext α α1 H H1->Rep T A K α1 h1 H1->RUs A α1 us vs->RS A α1 Z Y->Q vs H1):TIA T A K f Y H Q :=
 ⟨α,Z,hs,us,h1,rs,rp,h,λα1 v H1 e r q=>k α1 v H1 e r q (rs.mono e.pre)⟩
end
section
variable {X:Cx}
def Q0{t t':TE}(h:PE X e t)(i:∀Y H Q,t' Y H Q->t Y H Q):PE X e t':=λpins s Y H Q I q=>h pins s Y H Q I (i Y H Q q)
def Qkr{t t':TT}(h:PT X e t)(i:∀Y H Q,t' Y H Q->t Y H Q):PT X e t':=λpins s Y H Q I q=>h pins s Y H Q I (i Y H Q q)
def Qng{t t':TT}(h:PW X e t)(i:∀Y H Q,t' Y H Q->t Y H Q):PW X e t':=λwh pins s Y H Q I q=>h wh pins s Y H Q I (i Y H Q q)
def Qnk{es:List Expr}{t t':TA}(h:PA X es t)(i:∀Y H Q,t' Y H Q->t Y H Q):PA X es t':=λpos pins s Y H Q I q=>h pos pins s Y H Q I (i Y H Q q)
def Za{st:Stmt}{t t':TS}(h:PS X st t)(i:∀D Y H,t' D Y H->t D Y H):PS X st t':=λpins s Y H D I q=>h pins s Y H D I (i D Y H q)
def QcC{st:List Stmt}{t t':TS}(h:PSs X st t)(i:∀D Y H,t' D Y H->t D Y H):PSs X st t':=λpins s Y H D I q=>h pins s Y H D I (i D Y H q)
end
end
section
variable {A:Adr}{C:Ctx}{X:Cx}{us:List U}{vs:List V}{x:Str}{mg:Str->Option Value}{T:Tbl}
noncomputable def tyV:Ty->String
 |.non=>"NoneType"|.bool=>"bool"|.int=>"int"|.str=>"str"|.list=>"list"|.tuple=>"tuple"|.dict=>"dict"|.cls _=>"object"|.vale=>"ValueError"
noncomputable def tyW(A:Adr):Ty->Value
 |.cls c=>.ref (A.c c)
 |t=>.type (tyV t)
structure ClOk(T:Tbl)(A:Adr)(K:W.Frag)(i:Nat)(C:Cl):Prop where
 cls:Cls K (A.c i)
 nf:∀x∈T.fns',Qnl K (A.c i) x
 me:∀m f,C.meths.lookup m=some f->∃x,T.mns[m]?=some x/\Meth K (A.c i) x (A.f f)
 mks:W.makesIn K (A.c i)=true
 kp:W.keepIn K (.ref (A.c i))=true
 ini:match C.init with
  |some f=>W.findIn K (.ref (A.c i)) "__init__"=some (some (.ref (A.f f)))/\W.isFn K (.ref (A.f f))= true
  |none=>W.findIn K (.ref (A.c i)) "__init__"=some (some (.builtin "object.__init__"))
 ty:∀(H:Hp) (a dx:Addr) (fs:List (Str×V)),H a=some (.ins (A.c i) dx fs)->TyOf K H (.ref a) (.ref (A.c i))
structure FunD(K:W.Frag)(x qual:Str)(st:Stmt)(f:Addr)(fd:FuncData):Prop where
 ex:∃(oc:Value) (od:Option Addr) (dV kV doc pm:Value) (an:Option Addr) (cdv ct:Value) (osl:Array (Option Value)),
  fd=W.fnOf x qual (QbI st) (ZA st) (Qr st) dV kV doc pm an cdv ct/\K.lookup f=some ⟨oc,od,.func fd,osl⟩/\W.codeIn K cdv qual=true
 kp:W.keepIn K (.ref f)=true
def FunD.ok{P:Program}{w:World}{K:W.Frag}{base:Heap}{qual:Str}{st:Stmt}{f:Addr}{fd:FuncData}{N ps:List Str}{k:Nat}{sp:Sp}(F:FunD K x qual st f fd)(S:FnScope N ps (Qr st))(len:∀vs H Q E,sp vs H Q E->vs.length=ps.length)
  (hbody:∀(cdv:Value) (A:Around) (outer:List Env) (s:Shared) (H:Hp) (vs:List V) (Q:VK) (E:XK),Room k (A.deeper (envOfC qual (Qr st) s.heap.objs.size f cdv))->sp vs H Q E ->
   ∃t,PSs (Qfb CX0 P w K mg base N qual (Qr st) f cdv A outer s H E).nox (ZA st) t/\t {nx:=λz H'=>Q .non H',rt:=Q} (start N vs) H):FnOk P w K mg base CX0 (k+1) f fd ps sp:=by
 obtain⟨oc,od,dV,kV,doc,pm,an,cdv,ct,osl,rfl,lk,hcd⟩:=F.ex;refine QmE lk hcd S len λA outer s H vs Q E hr hsp=>?_;obtain⟨t,h,q⟩:=hbody cdv A outer s H vs Q E hr hsp;exact⟨t,h.nox,q⟩
def FunD.same{K:W.Frag}{y q q':Str}{st st':Stmt}{f:Addr}{fd fd':FuncData}(a:FunD K x q st f fd)(b:FunD K y q' st' f fd'):fd=fd':=by
 obtain⟨_,_,_,_,_,_,_,_,_,_,_,l1,_⟩:=a.ex;obtain⟨_,_,_,_,_,_,_,_,_,_,_,l2,_⟩:=b.ex;rw[l1]at l2;cases l2;rfl
def QkC(A:Adr)(K:W.Frag)(fd:FuncData)(D:Df):Prop:=∃(ds:List Value) (dvs:List V),RUs A [] D.ds dvs/\Vals dvs ds/\(∀n,Binds K fd D.ps (ds.drop n))
def QcD(K:W.Frag)(mg:Str->Option Value)(C:Addr)(x:Str):Prop:=False
structure Txt(T:Tbl)(A:Adr)(K:W.Frag)(mg:Str->Option Value):Prop where
 fn:∀i F,T.fns[i]?=some F->∃fd,FunD K F.name F.qual F.st (A.f i) fd/\Binds K fd F.ps []/\FnScope F.N F.ps (Qr F.st)/\F.ps.length=F.np/\F.N.length=F.nN
 df:∀i D,T.dfl.lookup i=some D->∃fd x q st,FunD K x q st (A.f i) fd/\QkC A K fd D/\∀F,T.fns[i]?=some F->F.ps=D.ps/\F.np=D.np
 cl:∀i C,T.cls[i]?=some C->ClOk T A K i C
 fm:∀x∈T.fns',x∉T.mns
 fd:T.fns'.Nodup
 isi:∀k t b,T.isi.lookup (k,t)=some b->W.kitOne K (tyW A k) (tyW A t)=some b
 co:∀k c,T.cons[k]?=some c->match c with
  |Co.tup xs=>∃vs,RUs A [] xs vs/\∀H,SqT K H (A.k k) vs
  |Co.lst xs=>∃vs,RUs A [] xs vs/\∀H,SqL K H (A.k k) vs
  |Co.tab _=>True
 er:∀c,T.ers.contains c=true->ErrCls K (A.c c)/\((∀f,T.efl.contains (c,f)= false)/\W.excIn K (A.c c) Qa9 "ValueError.__new__"=true\/∃f x,T.efl.contains (c,f)= true/\(∀f',T.efl.contains (c,f')= true->f'=f)/\T.fns'[f]?=some x/\QcD K mg (A.c c) x)
 es:∀c c',T.esb.contains (c,c')=true->W.exmOne K (.ref (A.c c)) (.ref (A.c c'))=some true
def Qrf:U->Key->Prop
 |.int i 0,k=>k=.inl i
 |.str x,k=>k=.inr ⟨x.toArray⟩
 |_,_=>False
def Qao(P:Program)(w:World)(T:Tbl)(A:Adr)(K:W.Frag):Prop:=∀k kvs,T.cons[k]?=some (.tab kvs) ->
 ∃vs:List (Key×Value),(A.k k==sysModules)=false/\(∀h:Heap,K.In h->h.DictOf (Ql P w) (A.k k) vs)/\Paired (λ(p:U×U) (q:Key×Value)=>Qrf p.1 q.1/\∃v,RU A [] p.2 v/\RelV v q.2) kvs vs
structure GX(T:Tbl)(A:Adr)(C:Ctx)(X:Cx):Prop where
 CT:C.T=T
 N:X.N=C.N
 nd:X.N.Nodup
 sc:X.env.scope.names=C.names
 calm:hdC C=false->X.calm=true
 kind:X.env.scope.kind=.function
 xe:X.xe=λ_ _=>False
 gfn:∀x i,C.gl.lookup x=some (.fn i)->X.mg x=some (.ref (A.f i))
 gcl:∀x i,C.gl.lookup x=some (.cls i)->X.mg x=some (.ref (A.c i))
 gco:∀x k,C.gl.lookup x=some (.con k)->X.mg x=some (.ref (A.k k))
 gtx:∀x t,C.gl.lookup x=some (.txt t)->∃k,X.mg x=some (.str ⟨t.toArray⟩ k)
 blt:∀x,¬C.bl.contains x=false->X.mg x=none
 txt:Txt T A X.K X.mg
 tab:Qao X.prog X.w T A X.K
def spC(T:Tbl)(A:Adr)(K:W.Frag)(cf:Cf)(f:Nat):Sp:=λvs H Q z=>∃α us hs u hs',RUs A α us vs/\Rep T A K α hs H/\cf f us hs=some (u,hs')/\(∃F,T.fns[f]?=some F/\us.length=F.np) /\
 ∀α' v H',Ext α α' H H'->Rep T A K α' hs' H'->RU A α' u v->Q v H'
def spX(T:Tbl)(A:Adr)(K:W.Frag)(xf:Nat->List U->Hs->Option (Nat×Hs))(f:Nat):Sp:=λvs H z E=>∃α us hs c hs',RUs A α us vs/\Rep T A K α hs H/\xf f us hs=some (c,hs')/\(∃F,T.fns[f]?=some F/\us.length=F.np) /\
 ∀α' H' dd,Ext α α' H H'->Rep T A K α' hs' H'->EF T H' c dd->E (.ref (A.c c)) dd H'
theorem Zh{x:Str}:∀{N:List Str} {i:Nat},idx x N=some i->N[i]?=some x
 |[],_,h=>by simp[idx]at h
 |y::r,i,h=>by
  unfold idx at h;split at h
  ·rename_i e;cases h;simp[e]
  ·cases q:idx x r with
   |none=>rw[q]at h;cases h
   |some j=>
    rw[q]at h;cases h;simpa using Zh q
def QkP(g:GX T A C X)(h:QgK C x=true):Vis X.env.scope x:=by
 unfold QgK at h;unfold Vis;rw[g.sc];split at h<;>simp_all
def Jt(g:GX T A C X)(h:QaM C x=true):L2.Loc X.env.scope x:=by
 unfold QaM at h;unfold L2.Loc;rw[g.sc];split at h<;>simp_all
def QX(g:GX T A C X)(h:ZK C x=true):Gl X x:=by
 unfold ZK at h;show X.env.scope.names.lookup x=some .globalImplicit;rw[g.sc];split at h
 ·assumption
 ·cases h
def QQ{y:Str}(h:x≠y):(x==y)=false:=by simpa using h
def Yo{o:Expr}{f:Str}{env:Env}{w:Sem Value}(h:YT o=true):attributeBase o f env w=w:=by
 unfold attributeBase;split
 ·cases h
 ·rfl
def QcS{b:Expr}(h:Z0 b=true):QfE b:=by
 intro o i
 cases b<;>first|rfl|cases h
def Qt{e:Expr}{es:List Expr}{env:Env}(h:∀x p,e≠.Starred x p):starEach (e::es) env=(false,eval e env)::starEach es env:=by
 cases e<;>first|rfl|exact absurd rfl (h _ _)
def Qa6(es:List Expr):Prop:=∀e∈es,∀x p,e≠.Starred x p
theorem Zb{env:Env}{pos:Pos}:∀{es:List Expr},Qa6 es->(backTo pos (starEach es env)).any (·.1)=false
 |[],_=>rfl
 |e::r,h=>by
  rw[Qt (h e (Xq ..))];have ih:=Zb (env:=env) (pos:=pos) (es:=r) λx hx=>h x (Xm _ hx);unfold backTo at ih ⊢;rw[Xu,U3,ih];rfl
def QJ{m:Nat}{e:Expr}{ir:E}(h:Qg m C e=some ir):∀x p,e≠.Starred x p:=by
 rintro x p rfl
 cases m<;>first|exact Znn h|simp[Qg]at h
theorem Qw{C:Ctx}:∀{m:Nat} {es:List Expr} {irs:List E},compA m C es=some irs->Qa6 es
 |0,_,_,h=>by simp[compA]at h
 |m+1,[],_,_=>λz h=>nomatch h
 |m+1,e::r,irs,h=>by
  simp only[compA,Xb]at h;obtain⟨e',he,r',hr,_⟩:=h;intro x hx
  rcases X5.mp hx with rfl|hx
  ·exact QJ he
  ·exact Qw hr x hx
section
variable {K:W.Frag}{α:List Addr}{hs:Hs}{H:Hp}{u:U}{v:V}
theorem RUs.length(r:RUs A α us vs):us.length=vs.length:=Wn r
def RUs.get{i:Nat}{u:U}(h:RUs A α us vs)(e:us[i]?=some u):∃v,vs[i]?=some v/\RU A α u v:=Jn h e
def RUs.append{ws:List U}{ys:List V}(h:RUs A α us vs)(h':RUs A α ws ys):RUs A α (us++ws) (vs++ys):=Qb9 h h'
def JQ{xs:List U}{K':W.Frag}(tx:Txt T A K mg)(R:Rep T A K α hs H)(h:ZW T u hs=some xs)(r:RU A α u v):∃a vs,v=.ref a/\RUs A α xs vs/\(SqL K H a vs\/SqT K H a vs):=by
 cases u with
 |ref n=>
  obtain⟨a,ha,rfl⟩:=r;simp only[ZW]at h;split at h
  ·rename_i ys e;cases h;obtain⟨vs,q,rr⟩:=R.h.ob n a _ ha e;exact⟨a,vs,rfl,rr,.inl (SqL.of q)⟩
  ·rename_i ys e;cases h;obtain⟨vs,q,rr⟩:=R.h.ob n a _ ha e;exact⟨a,vs,rfl,rr,.inr (SqT.of q)⟩
  ·cases h
 |con k=>
  simp only[ZW]at h;split at h
  ·rename_i ys e;cases h;obtain⟨vs,rr,q⟩:=tx.co k _ e
   exact⟨_,vs,r,RUs.mono (λn a e=>by simp at e) rr,.inl (q H)⟩
  ·rename_i ys e;cases h;obtain⟨vs,rr,q⟩:=tx.co k _ e
   exact⟨_,vs,r,RUs.mono (λn a e=>by simp at e) rr,.inr (q H)⟩
  ·cases h
 |scr=>
  simp only[ZW]at h;cases h;obtain⟨vs,rr,q⟩:=R.s.sq (α:=α);exact⟨_,vs,r,rr,.inl q⟩
 |_=>simp[ZW]at h
def Y4(x:List Nat):({cps:=x.toArray}:Str).length=x.length:=by simp[Str.length]
def big:(1000000:Nat)<=sizeLine:=by decide
def QdH{b:Bool}(tx:Txt T A K mg)(R:Rep T A K α hs H)(h:Yg T u hs=some b)(r:RU A α u v):Qnf K v H b:=by
 have sq:∀{xs:List U},ZW T u hs=some xs->b=!xs.isEmpty->Qnf K v H b:=λ{xs} e1 e2=>by
  obtain⟨a,vs,rfl,rr,q⟩:=JQ (K':=K) tx R e1 r
  have e3:b=!vs.isEmpty:=by
   rw[e2];cases rr<;>rfl
  rcases q with q|q
  ·exact .inl ⟨vs,q,e3⟩
  ·exact .inr (.inl ⟨vs,q,e3⟩)
 cases u with
 |non=>simp only[Yg]at h;cases h;cases r;rfl
 |bl c=>simp only[Yg]at h;cases h;cases r;rfl
 |int i m=>
  cases m with
  |zero=>
   simp only[Yg]at h;cases h;obtain⟨j,rfl,c⟩:=r;cases c.exact;show decide (i≠0)=(i != 0);by_cases q:i=0<;>simp[q]
  |succ m=>simp[Yg,ZW]at h
 |str x=>
  simp only[Yg]at h;split at h
  ·rename_i l;cases h;cases(show v=.str ⟨x.toArray⟩from r)
   refine⟨by rw[Y4];exact Wf l big,?_⟩
   rw[Y4];cases x<;>simp;omega
  ·cases h
 |ref n=>
  simp only[Yg,Xd]at h;obtain⟨xs,e1,e2⟩:=h;exact sq e1 e2.symm
 |con n=>
  simp only[Yg,Xd]at h;obtain⟨xs,e1,e2⟩:=h;exact sq e1 e2.symm
 |scr=>
  simp only[Yg,Xd]at h;obtain⟨xs,e1,e2⟩:=h;exact sq e1 e2.symm
end
end
section
variable {i i' j:Int}{m:Nat}
def Qia{j':Int}{n:Nat}(a:Cg i' i m)(b:Cg j' j n):Cg (i'+j') (i+j) (gz m n):=by
 obtain⟨p,rfl⟩:=a;obtain⟨q,rfl⟩:=b
 cases m with
 |zero=>exact⟨q,by simp[gz];omega⟩
 |succ m=>
  obtain⟨x,hx⟩:=Nat.gcd_dvd_left (m+1) n;obtain⟨y,hy⟩:=Nat.gcd_dvd_right (m+1) n;refine⟨x*p+y*q,?_⟩
  have e1:((m+1:Nat):Int)=(Nat.gcd (m+1) n:Int)*(x:Int):=by
   have:=congrArg (λz:Nat=>(z:Int)) hx;simpa using this
  have e2:(n:Int)=(Nat.gcd (m+1) n:Int)*(y:Int):=by
   have:=congrArg (λz:Nat=>(z:Int)) hy;simpa using this
  show i+((m+1:Nat):Int)*p+(j+(n:Int)*q)=i+j+(Nat.gcd (m+1) n:Int)*(x*p+y*q);rw[Int.mul_add,<-Sn,<-Sn,<-e1,<-e2];omega
def Qh9(a:Cg i' i m):Cg (-i') (-i) m:=by
 obtain⟨p,rfl⟩:=a
 exact⟨-p,by rw[Int.mul_neg];omega⟩
def QmS{j':Int}{n:Nat}(a:Cg i' i m)(b:Cg j' j n):Cg (i'-j') (i-j) (gz m n):=by
 have:=Qia a (Qh9 b);rw[Int.sub_eq_add_neg,Int.sub_eq_add_neg];exact this
def QmT(a:Cg i' i m):Cg (i'*j) (i*j) (m*j.natAbs):=by
 obtain⟨p,rfl⟩:=a
 rcases Int.natAbs_eq j with e|e
 ·refine⟨p,?_⟩;rw[Int.add_mul,Sc,<-e,Int.mul_right_comm]
 ·refine⟨-p,?_⟩
  have e':(j.natAbs:Int)=-j:=by omega
  rw[Int.add_mul,Sc,e',Int.mul_neg,Int.mul_neg,Int.neg_mul,Int.neg_neg,Int.mul_right_comm]
def QmV(a:Cg i' i m)(hj:0<j)(hd:m % j.toNat=0):Cg (i' / j) (i / j) (m / j.toNat):=by
 obtain⟨p,rfl⟩:=a
 have e:(m:Int)=j*((m / j.toNat:Nat):Int):=by
  have h:=Nat.div_add_mod m j.toNat;rw[hd,Nat.add_zero]at h;have h2:=congrArg (λz:Nat=>(z:Int)) h
  have h3:((j.toNat:Nat):Int)=j:=by omega
  simp only[Sc,h3]at h2;exact h2.symm
 refine⟨p,?_⟩
 rw[e,Sn,Int.add_mul_ediv_left _ _ (by omega)]
def QmU(a:Cg i' i m)(hj:0<j)(hd:m % j.toNat=0):i' % j=i % j:=by
 obtain⟨p,rfl⟩:=a
 have e:(m:Int)=j*((m / j.toNat:Nat):Int):=by
  have h:=Nat.div_add_mod m j.toNat;rw[hd,Nat.add_zero]at h;have h2:=congrArg (λz:Nat=>(z:Int)) h
  have h3:((j.toNat:Nat):Int)=j:=by omega
  simp only[Sc,h3]at h2;exact h2.symm
 rw[e,Sn,Int.add_mul_emod_self_left]
def QV(h:Qk i=true):-(2 ^ 64) < i/\i<2 ^ 64:=by
 unfold Qk at h;rw[Xl,X1,X1]at h;exact h
def OpS(X:Cx)(T:Tbl)(A:Adr)(o:Operator):Prop:=∃r,OpR X (binaryOp o) r/\∀{α:List Addr} {u w u':U} {hs hs':Hs} {v y:V} {H:Hp} {Q:VK},opU o u w hs=some (u',hs')->RU A α u v->RU A α w y->Rep T A X.K α hs H ->
 (∀α' v' H',Ext α α' H H'->Rep T A X.K α' hs' H'->RU A α' u' v'->Q v' H')->r v y H Q
section
variable {X:Cx}{T:Tbl}{A:Adr}
def Qgt{o:Operator}(h:∀u w hs,opU o u w hs=none):OpS X T A o:=⟨λz z z z=>False,λz z z z z z z z z z z z h=>h.elim,λe=>by rw[h]at e;cases e⟩
def Qeh{o:Operator}{f:U->U->Option U}{r:R2}(ho:OpR X (binaryOp o) r)(hf:∀u w hs,opU o u w hs=(f u w).map λz=>(z,hs))
  (h:∀{α:List Addr} {u w z:U} {v y:V} {H:Hp} {Q:VK},f u w=some z->RU A α u v->RU A α w y->(∀v',RU A α z v'->Q v' H)->r v y H Q):OpS X T A o:=by
 refine⟨r,ho,?_⟩;intro α u w u' hs hs' v y H Q e ru rw R k;rw[hf,Xd]at e;obtain⟨z,e,q⟩:=e;cases q;exact h e ru rw λv' r'=>k α v' H Ext.refl R r'
def Zd{α:List Addr}{v:V}(r:RU A α (.int i 0) v):v=.int i:=by
 obtain⟨j,rfl,c⟩:=r;cases c.exact;rfl
def Qjm:OpS X T A .Sub:=Qeh QlV (λx x x=>rfl) λ{α u w z v y H Q} h ru rw k=>by
 unfold Qn3 at h;split at h
 ·cases h;obtain⟨i',rfl,a⟩:=ru;obtain⟨j',rfl,b⟩:=rw;exact⟨i',j',rfl,rfl,k _ ⟨_,rfl,QmS a b⟩⟩
 ·cases h
def Qjl:OpR X (binaryOp .Mult) (rI IntMulOk λi j=>.int (i*j)):=opI λz z z z z z z hc q=>mul_int q hc
def Qfx(h:Qfy i=true):Builtin.Int.intBits i<=4096:=by
 have h:=Vy h;unfold Builtin.Int.intBits;split
 ·omega
 ·rename_i z
  have n0:i.natAbs≠0:=by simpa using z
  exact Nat.succ_le_of_lt ((Nat.log2_lt n0).mpr h)
def Qmg(h:(Qk i||Qk j||(Qfy i&&Qfy j))=true):IntMulOk i j:=by
 rw[Up,Up,Xl]at h
 rcases h with(h|h)|h
 ·exact CMul.ok (.inl (QV h))
 ·exact CMul.ok (.inr (QV h))
 ·have h1:=Qfx h.1;have h2:=Qfx h.2;unfold IntMulOk
  have:Builtin.Int.intTooBig (Builtin.Int.intBits i+Builtin.Int.intBits j)=false:=by
   unfold Builtin.Int.intTooBig;rw[bitsLine_eq]
   exact Wa (by omega)
  rw[this];simp
def Qjo:OpS X T A .Mult:=by
 refine⟨_,Qjl,?_⟩;intro α u w u' hs hs' v y H Q e ru rw R k;have e:(Qmh u w).map (λr=>(r,hs))=some (u',hs'):=e;rw[Xd]at e;obtain⟨z,h,q⟩:=e;cases q;have k:∀v',RU A α u' v'->Q v' H:=λv' r'=>k α v' H Ext.refl R r';unfold Qmh at h;split at h
 ·split at h
  ·rename_i c;cases h;cases Zd ru;cases Zd rw;exact⟨_,_,rfl,rfl,Qmg c,k _ ⟨_,rfl,Cg.refl _ _⟩⟩
  ·cases h
 ·split at h
  ·rename_i c;cases h;obtain⟨i',rfl,a⟩:=ru;cases Zd rw;exact⟨i',_,rfl,rfl,CMul.ok (.inr (QV c)),k _ ⟨_,rfl,QmT a⟩⟩
  ·cases h
 ·cases h
def QpL(i j:Int):Prop:=0<j/\j<1606938044258990275541962092341162602522202993782792835301376
def Qgs{X:Cx}:OpR X (binaryOp .FloorDiv) (rI QpL λi j=>.int (i / j)):=opI λi j y y y y y hc q=>by
 have h1:(0:Int) < j:=hc.1;have h2:j<1606938044258990275541962092341162602522202993782792835301376:=hc.2
 have h3:j.natAbs.log2<9000:=by
  have h4:j.natAbs<2 ^ 9000:=Xr (show j.natAbs<2 ^ 200 by omega) (Nat.pow_le_pow_right (by decide) (by decide))
  rcases Nat.eq_zero_or_pos j.natAbs with z|z
  ·rw[z];decide
  ·exact(Nat.log2_lt (by omega)).mpr h4
 exact floordiv_int (by omega) (by rw[Int.fdiv_eq_ediv_of_nonneg i (by omega)];exact q) (.inl (PyProof.noPylong_of_log2 h3))
def Qgu:OpS X T A .FloorDiv:=Qeh Qgs (λx x x=>rfl) λ{α u w z v y H Q} h ru rw k=>by
 unfold QmO at h;split at h
 ·split at h
  ·rename_i c;cases h;cases Zd ru;cases Zd rw;simp only[Xl,X1]at c;exact⟨_,_,rfl,rfl,c,k _ ⟨_,rfl,Cg.refl _ _⟩⟩
  ·cases h
 ·split at h
  ·rename_i c;cases h;obtain⟨i',rfl,a⟩:=ru;cases Zd rw;simp only[Xl,X1]at c;exact⟨i',_,rfl,rfl,c.1,k _ ⟨_,rfl,QmV a c.1.1 c.2⟩⟩
  ·cases h
 ·cases h
def Qjp:OpS X T A .Mod:=Qeh QlZ (λx x x=>rfl) λ{α u w z v y H Q} h ru rw k=>by
 unfold Qmi at h;split at h
 ·split at h
  ·rename_i c;cases h;cases Zd ru;cases Zd rw;exact⟨_,_,rfl,rfl,c,k _ ⟨_,rfl,Cg.refl _ _⟩⟩
  ·cases h
 ·split at h
  ·rename_i c;cases h;obtain⟨i',rfl,a⟩:=ru;cases Zd rw;simp only[Xl,X1]at c
   exact⟨i',_,rfl,rfl,c.1,k _ ⟨_,rfl,by rw[QmU a c.1 c.2];exact Cg.refl _ _⟩⟩
  ·cases h
 ·cases h
def Qjn:OpS X T A .Pow:=⟨λz z z z=>False,λpins s Y H x y v u Q I rx ry h=>h.elim,λ{α u w u' hs hs' v y H Q} e=>Znn e⟩
def Qjq:OpS X T A .Add:=by
 refine⟨_,OpR.or Ql6 Ql5,?_⟩;intro α u w u' hs hs' v y H Q h ru rw R k;have h:Qie u w hs=some (u',hs'):=h;unfold Qie at h;split at h
 ·cases h;obtain⟨i',rfl,a⟩:=ru;obtain⟨j',rfl,b⟩:=rw;exact .inl ⟨i',j',rfl,rfl,k α _ H Ext.refl R ⟨_,rfl,Qia a b⟩⟩
 ·rename_i a b;obtain⟨pa,ha,rfl⟩:=ru;obtain⟨pb,hb,rfl⟩:=rw;split at h
  ·rename_i ox oy e1 e2;have o1:=R.h.ob _ pa _ ha e1;have o2:=R.h.ob _ pb _ hb e2;unfold Qpn at h;split at h
   ·rename_i xs ys;split at h
    ·rename_i c;cases h;obtain⟨vs,q1,r1⟩:=o1;obtain⟨ws,q2,r2⟩:=o2;refine .inr ⟨pa,pb,vs,ws,rfl,rfl,q1,q2,?_,λp hp=>?_⟩
     ·rw[<-r1.length,<-r2.length];exact Wf c big
     ·obtain⟨R',E'⟩:=R.new (o:=.lst (xs++ys)) hp ⟨_,Qi,RUs.mono Qu (r1.append r2)⟩
      exact k _ _ _ E' R' ⟨p,by rw[<-R.h.len];exact QG,rfl⟩
    ·cases h
   ·cases h
  ·cases h
 ·cases h
def opS(o:Operator):OpS X T A o:=by
 cases o with
 |Add=>exact Qjq
 |Sub=>exact Qjm
 |Mult=>exact Qjo
 |FloorDiv=>exact Qgu
 |Mod=>exact Qjp
 |Pow=>exact Qjn
 |_=>exact Qgt λu w hs=>rfl
end
end
section
variable {xs:List U}
section
variable {X:Cx}{T:Tbl}{A:Adr}{α:List Addr}{hs:Hs}{H:Hp}{u w:U}{v y:V}
def QL(tx:Txt T A X.K X.mg)(R:Rep T A X.K α hs H)(h:QA T u hs=some xs)(r:RU A α u v):∃a vs,v=.ref a/\RUs A α xs vs/\SqL X.K H a vs:=by
 cases u with
 |ref n=>
  obtain⟨a,ha,rfl⟩:=r;simp only[QA]at h;split at h
  ·rename_i ys e;cases h;obtain⟨vs,q,rr⟩:=R.h.ob n a _ ha e;exact⟨a,vs,rfl,rr,SqL.of q⟩
  ·cases h
 |con k=>
  simp only[QA]at h;split at h
  ·rename_i ys e;cases h;obtain⟨vs,rr,q⟩:=tx.co k _ e
   exact⟨_,vs,r,RUs.mono (λn a e=>by simp at e) rr,q H⟩
  ·cases h
 |scr=>
  simp only[QA]at h;cases h;obtain⟨vs,rr,q⟩:=R.s.sq (α:=α);exact⟨_,vs,r,rr,q⟩
 |_=>simp[QA]at h
def JM(tx:Txt T A X.K X.mg)(R:Rep T A X.K α hs H)(h:Yz T u hs=some xs)(r:RU A α u v):∃a vs,v=.ref a/\RUs A α xs vs/\SqT X.K H a vs:=by
 cases u with
 |ref n=>
  obtain⟨a,ha,rfl⟩:=r;simp only[Yz]at h;split at h
  ·rename_i ys e;cases h;obtain⟨vs,q,rr⟩:=R.h.ob n a _ ha e;exact⟨a,vs,rfl,rr,SqT.of q⟩
  ·cases h
 |con k=>
  simp only[Yz]at h;split at h
  ·rename_i ys e;cases h;obtain⟨vs,rr,q⟩:=tx.co k _ e
   exact⟨_,vs,r,RUs.mono (λn a e=>by simp at e) rr,q H⟩
  ·cases h
 |_=>simp[Yz]at h
noncomputable def scP:U->PyData
 |.bl b=>.bool b
 |.int i _=>.int i
 |.str x=>.str ⟨x.toArray⟩
 |_=>.none
noncomputable def toP(T:Tbl):Nat->U->Hs->PyData
 |0,_,_=>.none
 |n+1,u,hs=>match QA T u hs with
  |some xs=>.list (xs.map λx=>toP T n x hs)
  |none=>match Yz T u hs with
   |some xs=>.tuple (xs.map λx=>toP T n x hs)
   |none=>scP u
def Qax{h:Heap}{f:U->PyData}{vs:List V}{its:List Value}(r:RUs A α xs vs)(q:Vals vs its)(k:∀x∈xs,∀v u,RU A α x v->RelV v u->∃as,Reads h u (f x) as):∃as,ReadsAll h its (xs.map f) as:=by
 induction r generalizing its with
 |nil=>cases q;exact⟨[],.nil⟩
 |cons r _ ih=>
  cases q with
  |cons q p=>
   obtain⟨as,h1⟩:=k _ Xq _ _ r q;obtain⟨bs,h2⟩:=ih p λx m=>k x (Xm _ m);exact⟨as++bs,.cons h1 h2⟩
theorem ZX{pins:List (Addr×Obj)}{s:Shared}{Y:L2.St}(tx:Txt T A X.K X.mg)(I:Inv X pins Y H s)(R:Rep T A X.K α hs H):∀(n:Nat) {u:U} {v:V} {z:Value},okW T n u hs=true->RU A α u v->RelV v z->∃as,Reads s.heap z (toP T n u hs) as
 |0,_,_,_,h,_,_=>by cases h
 |n+1,u,v,z,h,r,q=>by
  have ih:=λ{u:U} {v:V} {z:Value}=>ZX tx I R n (u:=u) (v:=v) (z:=z);simp only[okW,toP]at h ⊢
  cases el:QA T u hs with
  |some xs=>
   rw[el]at h;have h:=Wl.mp h;obtain⟨a,vs,rfl,rr,sq⟩:=QL tx R el r;cases q;obtain⟨its,rv,pl,_⟩:=I.list sq;obtain⟨o,ho,hc,m,hd⟩:=pl.isList;obtain⟨as,ra⟩:=Qax (h:=s.heap) (f:=λx=>toP T n x hs) rr rv λx m v u h1 h2=>ih (h x m) h1 h2;exact⟨_,.list ho hc hd ra⟩
  |none=>
   rw[el]at h
   cases et:Yz T u hs with
   |some xs=>
    rw[et]at h;have h:=Wl.mp h;obtain⟨a,vs,rfl,rr,sq⟩:=JM tx R et r;cases q;obtain⟨its,rv,pl,_⟩:=I.tuple sq;obtain⟨o,ho,hc,m,hd⟩:=pl;obtain⟨as,ra⟩:=Qax (h:=s.heap) (f:=λx=>toP T n x hs) rr rv λx m v u h1 h2=>ih (h x m) h1 h2;exact⟨_,.tuple ho hc hd ra⟩
   |none=>
    rw[et]at h
    cases u with
    |non=>cases(show v=_ from r);cases q;exact⟨[],.none⟩
    |bl b=>cases(show v=_ from r);cases q;exact⟨[],.bool b⟩
    |int i m=>
     have h:(m==0)=true:=h;have h:=eq_of_beq h;subst h;cases Zd r;obtain⟨t,rfl⟩:=q;exact⟨[],.int i t⟩
    |str x=>cases(show v=_ from r);obtain⟨t,rfl⟩:=q;exact⟨[],.str _ t⟩
    |_=>cases h
theorem Qbw{f:U->PyData}{n:Nat}:∀{xs:List U},(∀x∈xs,(f x).canLay0=true/\(f x).depth<=n)->PyData.canLayAll0 (xs.map f)=true/\PyData.depthAll (xs.map f)<=n
 |[],_=>⟨rfl,Ww _⟩
 |x::r,h=>by
  obtain⟨h1,h2⟩:=h x Xq;obtain⟨h3,h4⟩:=Qbw (xs:=r) λy m=>h y (Xm _ m);refine⟨?_,?_⟩
  ·show((f x).canLay0&&PyData.canLayAll0 (r.map f))=true;rw[h1,h3];rfl
  ·show max (f x).depth (PyData.depthAll (r.map f))<=n;omega
theorem QaH:∀(n:Nat) {u:U},okW T n u hs=true->(toP T n u hs).canLay0=true/\(toP T n u hs).depth<=n
 |0,_,h=>by cases h
 |n+1,u,h=>by
  have ih:=λ(u:U)=>QaH n (u:=u);simp only[okW,toP]at h ⊢
  cases el:QA T u hs with
  |some xs=>
   rw[el]at h;obtain⟨h1,h2⟩:=Qbw (f:=λx=>toP T n x hs) (n:=n) λx m=>ih x (Wl.mp h x m);exact⟨h1,Nat.succ_le_succ h2⟩
  |none=>
   rw[el]at h
   cases et:Yz T u hs with
   |some xs=>
    rw[et]at h;obtain⟨h1,h2⟩:=Qbw (f:=λx=>toP T n x hs) (n:=n) λx m=>ih x (Wl.mp h x m);exact⟨h1,Nat.succ_le_succ h2⟩
   |none=>
    rw[et]at h
    cases u with
    |str x=>
     refine⟨?_,Ww _⟩;show PyData.strOk ⟨x.toArray⟩=true;unfold PyData.strOk;have h:=Wl.mp h;rw[Array.all_eq_true'];intro c hc
     have:=Vy (h c (by simpa using hc))
     exact W5 (by omega)
    |non=>exact⟨rfl,Ww _⟩
    |bl b=>exact⟨rfl,Ww _⟩
    |int i m=>exact⟨rfl,Ww _⟩
    |_=>cases h
theorem QbE{f:U->PyData}{g:U->U->Bool}:∀{xs ys:List U},(∀x∈xs,∀y∈ys,PyData.eqv (f x) (f y)=g x y)->PyData.eqvAll (xs.map f) (ys.map f)=((xs.length==ys.length)&&(xs.zip ys).all λp=>g p.1 p.2)
 |[],[],_=>rfl
 |[],_::_,_=>rfl
 |_::_,[],_=>rfl
 |x::r,y::t,h=>by
  have h1:=h x Xq y Xq;have h2:=QbE (xs:=r) (ys:=t) λa ma b mb=>h a (Xm _ ma) b (Xm _ mb);show(PyData.eqv (f x) (f y)&&PyData.eqvAll (r.map f) (t.map f))=_;rw[h1,h2];simp only[X8,Vo,Wy]
  have e:(r.length+1==t.length+1)=(r.length==t.length):=by simp
  rw[e];cases g x y<;>cases(r.length==t.length)<;>simp
def QiA{x y:List Nat}:((⟨x.toArray⟩:Str)==⟨y.toArray⟩)=(x==y):=by
 by_cases h:x=y
 ·subst h;simp
 ·have:(⟨x.toArray⟩:Str)≠⟨y.toArray⟩:=λz=>h (by
   have:=congrArg (λs:Str=>s.cps.toList) z
   simpa using this)
  rw[V0.mpr this,V0.mpr h]
theorem Qe0:∀(n:Nat) {u w:U},okW T n u hs=true->okW T n w hs=true->PyData.eqv (toP T n u hs) (toP T n w hs)=eqW T n u w hs
 |0,_,_,h,_=>by cases h
 |n+1,u,w,h,h'=>by
  have ih:=λ(u w:U)=>Qe0 n (u:=u) (w:=w);simp only[okW,toP,eqW]at h h' ⊢
  cases el:QA T u hs with
  |some xs=>
   rw[el]at h
   cases el':QA T w hs with
   |some ys=>
    rw[el']at h';exact QbE (g:=λa b=>eqW T n a b hs) λx mx y my=>ih x y (Wl.mp h x mx) (Wl.mp h' y my)
   |none=>
    rw[el']at h'
    cases et':Yz T w hs with
    |some ys=>rfl
    |none=>rw[et']at h';cases w<;>first|rfl|(cases h';done)
  |none=>
   rw[el]at h
   cases et:Yz T u hs with
   |some xs=>
    rw[et]at h
    cases el':QA T w hs with
    |some ys=>rfl
    |none=>
     rw[el']at h'
     cases et':Yz T w hs with
     |some ys=>
      rw[et']at h';exact QbE (g:=λa b=>eqW T n a b hs) λx mx y my=>ih x y (Wl.mp h x mx) (Wl.mp h' y my)
     |none=>rw[et']at h';cases w<;>first|rfl|(cases h';done)
   |none=>
    rw[et]at h
    cases el':QA T w hs with
    |some ys=>cases u<;>first|rfl|(cases h;done)
    |none=>
     rw[el']at h'
     cases et':Yz T w hs with
     |some ys=>cases u<;>first|rfl|(cases h;done)
     |none=>
      rw[et']at h'
      cases u<;>first|(cases h;done)|(cases w<;>first|(cases h';done)|rfl|exact QiA)
def Qqh(T:Tbl)(A:Adr)(K:W.Frag)(neg:Bool):R2:=λx y H Q=>∃α u w hs,RU A α u x/\RU A α w y/\Rep T A K α hs H/\okW T 20 u hs=true/\okW T 20 w hs=true/\Q (.bl (if neg then !(eqW T 20 u w hs)else eqW T 20 u w hs)) H
def ZV{d:PyData}{n:Nat}(h:d.canLay0=true/\d.depth<=n)(hn:n<=64):SeqAt.shaped d=true:=by
 unfold SeqAt.shaped;rw[h.1,So];exact W5 (Wf h.2 hn)
def Ql4(tx:Txt T A X.K X.mg)(hu:X.A.units+64<cLine):OpR X (compareOp .Eq) (Qqh T A X.K false):=by
 intro pins s Y H x y v u Q I rx ry h;obtain⟨α,u1,w1,hs,r1,r2,R,o1,o2,q⟩:=h;obtain⟨as,ra⟩:=ZX tx I R 20 o1 r1 rx;obtain⟨bs,rb⟩:=ZX tx I R 20 o2 r2 ry
 refine eq_dataH ra rb (ZV (QaH 20 o1) (by decide)) (ZV (QaH 20 o2) (by decide)) hu ?_
 rw[Qe0 20 o1 o2];exact⟨.bl _,H,I,rfl,q⟩
def Qqd(T:Tbl)(A:Adr)(K:W.Frag)(b:Bool):R2:=λx y H Q=>∃α u w hs,RU A α u x/\RU A α w y/\Rep T A K α hs H/\Jf T u w hs=true/\Q (.bl b) H
def Qcg{pins:List (Addr×Obj)}{s:Shared}{Y:L2.St}{H:Hp}{α:List Addr}{hs:Hs}{u w:U}{x y:V}{v z:Value}(tx:Txt T A X.K X.mg)(I:Inv X pins Y H s)(R:Rep T A X.K α hs H)(h:Jf T u w hs=true)(r1:RU A α u x)(r2:RU A α w y)(rx:RelV x v)(ry:RelV y z):
  ∃(a b:Addr) (i1 i2:List Value),v=.ref a/\z=.ref b/\s.heap.IsList a i1.toArray/\s.heap.IsList b i2.toArray/\(i1.toArray.size != i2.toArray.size)=true:=by
 unfold Jf at h;split at h
 ·rename_i xs ys e1 e2;obtain⟨a,vs,rfl,rr,sq⟩:=QL tx R e1 r1;obtain⟨b,ws,rfl,rr',sq'⟩:=QL tx R e2 r2;obtain⟨i1,q1,p1,_⟩:=I.list sq;obtain⟨i2,q2,p2,_⟩:=I.list sq';cases rx;cases ry;have l1:=rr.length;have l2:=rr'.length;have l3:=q1.length;have l4:=q2.length;have h:=Vy h;refine⟨a,b,i1,i2,rfl,rfl,p1.isList,p2.isList,?_⟩;simp only[Xw,bne_iff_ne,ne_eq];omega
 ·cases h
def Ql3(tx:Txt T A X.K X.mg)(hu:X.A.units+64<cLine):OpR X (compareOp .Eq) (Qqd T A X.K false):=by
 intro pins s Y H x y v u Q I rx ry h;obtain⟨α,u1,w1,hs,r1,r2,R,o1,q⟩:=h;obtain⟨a,b,i1,i2,rfl,rfl,p1,p2,z⟩:=Qcg tx I R o1 r1 r2 rx ry
 exact SeqAt.RcAt.lists_lengths p1 p2 z (by omega) _ _ _ _ ⟨.bl _,H,I,rfl,q⟩
def QlX(tx:Txt T A X.K X.mg)(hu:X.A.units+64<cLine):OpR X (compareOp .NotEq) (Qqd T A X.K true):=by
 intro pins s Y H x y v u Q I rx ry h;obtain⟨α,u1,w1,hs,r1,r2,R,o1,q⟩:=h;obtain⟨a,b,i1,i2,rfl,rfl,p1,p2,z⟩:=Qcg tx I R o1 r1 r2 rx ry
 exact SeqAt.RcNeAt.lists_lengths p1 p2 z (by omega) _ _ _ _ ⟨.bl _,H,I,rfl,q⟩
def Qlw(T:Tbl)(A:Adr)(K:W.Frag)(b:Bool):R2:=λx y H Q=>∃α u w hs,RU A α u x/\RU A α w y/\Rep T A K α hs H/\Qbe T u w hs=true/\Q (.bl b) H
def ZS{α:List Addr}{vs ws:List V}{i1 i2:List Value}(h:(xs.all λx=>match x with|.ref _=>true|_=>false)=true)(r1:RUs A α xs vs)(r2:RUs A α xs ws)(q1:Vals vs i1)(q2:Vals ws i2):i1=i2:=by
 induction xs generalizing vs ws i1 i2 with
 |nil=>cases r1;cases r2;cases q1;cases q2;rfl
 |cons x xs ih=>
  rw[Wy,Xl]at h
  cases r1 with
  |cons a r1=>
   cases r2 with
   |cons b r2=>
    cases q1 with
    |cons c q1=>
     cases q2 with
     |cons d q2=>
      rw[ih h.2 r1 r2 q1 q2]
      cases x with
      |ref n=>
       obtain⟨p,hp,rfl⟩:=a;obtain⟨p',hp',rfl⟩:=b;rw[hp]at hp';cases hp';cases c;cases d;rfl
      |_=>exact absurd h.1 (by simp)
def Qb0{pins:List (Addr×Obj)}{s:Shared}{Y:L2.St}{H:Hp}{α:List Addr}{hs:Hs}{u w:U}{x y:V}{v z:Value}(tx:Txt T A X.K X.mg)(I:Inv X pins Y H s)(R:Rep T A X.K α hs H)(h:Qbe T u w hs=true)(r1:RU A α u x)(r2:RU A α w y)(rx:RelV x v)(ry:RelV y z):
  ∃(a b:Addr) (i1:List Value),v=.ref a/\z=.ref b/\s.heap.IsList a i1.toArray/\s.heap.IsList b i1.toArray:=by
 unfold Qbe at h;split at h
 ·rename_i xs ys e1 e2;rw[Xl]at h;obtain⟨h0,h⟩:=h;have h0:=Vy h0;subst h0;obtain⟨a,vs,rfl,rr,sq⟩:=QL tx R e1 r1;obtain⟨b,ws,rfl,rr',sq'⟩:=QL tx R e2 r2;obtain⟨i1,q1,p1,_⟩:=I.list sq;obtain⟨i2,q2,p2,_⟩:=I.list sq';cases rx;cases ry;cases ZS h rr rr' q1 q2;exact⟨a,b,i1,rfl,rfl,p1.isList,p2.isList⟩
 ·cases h
def Ql2(tx:Txt T A X.K X.mg)(hu:X.A.units+64<cLine):OpR X (compareOp .Eq) (Qlw T A X.K true):=by
 intro pins s Y H x y v u Q I rx ry h;obtain⟨α,u1,w1,hs,r1,r2,R,o1,q⟩:=h;obtain⟨a,b,i1,rfl,rfl,p1,p2⟩:=Qb0 tx I R o1 r1 r2 rx ry
 have rc:=SeqAt.RcAt.lists (A:=X.A) (e:=λz=>true) p1 p2 rfl (by omega) λj h1 h2=>SeqAt.EqAt.same _
 have al:(List.range i1.toArray.size).all (λz=>true)=true:=by simp
 rw[al]at rc;exact rc _ _ _ _ ⟨.bl _,H,I,rfl,q⟩
def QlW(tx:Txt T A X.K X.mg)(hu:X.A.units+64<cLine):OpR X (compareOp .NotEq) (Qlw T A X.K false):=by
 intro pins s Y H x y v u Q I rx ry h;obtain⟨α,u1,w1,hs,r1,r2,R,o1,q⟩:=h;obtain⟨a,b,i1,rfl,rfl,p1,p2⟩:=Qb0 tx I R o1 r1 r2 rx ry
 have rc:=SeqAt.RcNeAt.lists (A:=X.A) (e:=λz=>true) p1 p2 rfl (by omega) λj h1 h2=>SeqAt.EqAt.same _
 have al:(!(List.range i1.toArray.size).all (λz=>true))=false:=by simp
 rw[al]at rc;exact rc _ _ _ _ ⟨.bl _,H,I,rfl,q⟩
def QlY(tx:Txt T A X.K X.mg)(hu:X.A.units+64<cLine):OpR X (compareOp .NotEq) (Qqh T A X.K true):=by
 intro pins s Y H x y v u Q I rx ry h;obtain⟨α,u1,w1,hs,r1,r2,R,o1,o2,q⟩:=h;obtain⟨as,ra⟩:=ZX tx I R 20 o1 r1 rx;obtain⟨bs,rb⟩:=ZX tx I R 20 o2 r2 ry
 refine ne_dataH ra rb (ZV (QaH 20 o1) (by decide)) (ZV (QaH 20 o2) (by decide)) hu ?_
 rw[Qe0 20 o1 o2];exact⟨.bl _,H,I,rfl,q⟩
end
end
section
variable {u:U}{v:V}
section
variable {κ κ':Type}[DecidableEq κ][DecidableEq κ']{P:κ->κ'->Prop}{A:Adr}{α:List Addr}{w:κ}{k:κ'}
abbrev RG(P:κ->κ'->Prop)(A:Adr)(α:List Addr):List (κ×U)->List (κ'×V)->Prop:=Paired λp q=>P p.1 q.1/\RU A α p.2 q.2
def Inj(P:κ->κ'->Prop):Prop:=∀a b k l,P a k->P b l->(a=b↔k=l)
def RG.look(inj:Inj P)(hk:P w k){kvs:List (κ×U)}{kv:List (κ'×V)}(h:RG P A α kvs kv):(QB kvs w=none/\ZT kv k=none)\/∃u v,QB kvs w=some u/\ZT kv k=some v/\RU A α u v:=by
 induction h with
 |nil=>exact .inl ⟨rfl,rfl⟩
 | @cons p q _ _ r t ih=>
  by_cases h:p.1=w
  ·have h':q.1=k:=(inj _ _ _ _ r.1 hk).mp h
   exact .inr ⟨p.2,q.2,by simp[QB,Ve,h],by simp[ZT,Ve,h'],r.2⟩
  ·have h':¬q.1=k:=λz=>h ((inj _ _ _ _ r.1 hk).mpr z)
   have e1:∀l,QB (p::l) w=QB l w:=λl=>by simp[QB,Ve,h]
   have e2:∀l,ZT (q::l) k=ZT l k:=λl=>by simp[ZT,Ve,h']
   rw[e1,e2];exact ih
theorem RG.any(inj:Inj P)(hk:P w k){kvs:List (κ×U)}{kv:List (κ'×V)}(h:RG P A α kvs kv):(kvs.any λp=>decide (p.1=w))=(kv.any λp=>decide (p.1=k)):=by
 induction h with
 |nil=>rfl
 |cons r t ih=>rw[U3,U3,ih,decide_eq_decide.mpr (inj _ _ _ _ r.1 hk)]
def RG.repl(inj:Inj P)(hk:P w k)(ru:RU A α u v){kvs:List (κ×U)}{kv:List (κ'×V)}(h:RG P A α kvs kv):RG P A α (kvs.map λp=>if p.1=w then(p.1,u)else p) (kv.map λp=>if p.1=k then(p.1,v)else p):=by
 induction h with
 |nil=>exact .nil
 | @cons p q _ _ r t ih=>
  refine .cons ?_ ih;by_cases h:p.1=w
  ·have h':=(inj _ _ _ _ r.1 hk).mp h;simp only[h,h',We];exact⟨hk,ru⟩
  ·have h':¬q.1=k:=λz=>h ((inj _ _ _ _ r.1 hk).mpr z);simp only[h,h',Wv];exact r
def RG.put(inj:Inj P)(hk:P w k)(ru:RU A α u v){kvs:List (κ×U)}{kv:List (κ'×V)}(r:RG P A α kvs kv):RG P A α (Zt kvs w u) (ZY kv k v):=by
 unfold Zt ZY;rw[RG.any inj hk r];split
 ·exact RG.repl inj hk ru r
 ·exact Paired.snoc r ⟨hk,ru⟩
def RG.merge(inj:Inj P){more:List (κ×U)}{mv:List (κ'×V)}(m:RG P A α more mv):∀{kvs:List (κ×U)} {kv:List (κ'×V)},RG P A α kvs kv->RG P A α (more.foldl (λacc p=>Zt acc p.1 p.2) kvs) (mv.foldl (λacc p=>ZY acc p.1 p.2) kv):=by
 induction m with
 |nil=>intro _ _ r;exact r
 |cons q _ ih=>intro _ _ r;exact ih (RG.put inj q.1 q.2 r)
end
def JA:Inj RK:=λa b k l h h'=>by
 cases a<;>cases b<;>simp only[RK]at h h'<;>first|exact h.elim|exact h'.elim|skip
 ·obtain⟨rfl,rfl⟩:=h;obtain⟨rfl,rfl⟩:=h';simp
 ·obtain⟨rfl,rfl⟩:=h;subst h';simp
 ·subst h;obtain⟨rfl,rfl⟩:=h';simp
 ·subst h h';simp
def Qaa:Inj RKs:=λa b k l h=>by
 induction h generalizing b l with
 |nil=>
  intro h'
  cases h' with
  |nil=>simp
  |cons=>simp
 |cons p t ih=>
  intro h'
  cases h' with
  |nil=>simp
  |cons q t'=>
   have i1:=JA _ _ _ _ p q;have i2:=ih _ _ t';simp only[List.cons.injEq,i1,i2]
section
variable {X:Cx}{T:Tbl}{A:Adr}{K:W.Frag}{α:List Addr}{hs:Hs}{H:Hp}{n:Nat}{a:Addr}{o:O}{w:U}{y:V}
def Qci(hk:Qa8 w=true)(r:RU A α w y):∃k,RK w k/\y=kV k:=by
 cases w with
 |int i m=>
  cases m with
  |zero=>obtain⟨j,rfl,c⟩:=r;cases c.exact;exact⟨Sum.inl i,⟨rfl,rfl⟩,rfl⟩
  |succ m=>cases hk
 |str x=>cases(show y=_ from r);exact⟨Sum.inr _,rfl,rfl⟩
 |_=>cases hk
def QjB{ks:List U}{vs:List V}(h:ks.all Qa8=true)(r:RUs A α ks vs):∃k,RKs ks k/\vs=k.map kV:=by
 induction r with
 |nil=>exact⟨[],.nil,rfl⟩
 |cons r _ ih=>
  rw[Wy,Xl]at h;obtain⟨k,h1,rfl⟩:=Qci h.1 r;obtain⟨ks,h2,rfl⟩:=ih h.2;exact⟨k::ks,.cons h1 h2,rfl⟩
def Qf1{t:List U}(R:Rep T A K α hs H)(h:tkU w hs=some t)(r:RU A α w y):∃b k,y=.ref b/\RKs t k/\H b=some (.tup (k.map kV)):=by
 cases w with
 |ref m=>
  obtain⟨b,hb,rfl⟩:=r;simp only[tkU]at h;split at h
  ·rename_i ks e;split at h
   ·rename_i c;cases h;obtain⟨vs,e1,rr⟩:=R.h.ob m b _ hb e;obtain⟨k,rk,rfl⟩:=QjB c rr;exact⟨b,k,rfl,rk,e1⟩
   ·cases h
  ·cases h
 |_=>cases h
def QbH{r:Option U}(R:Rep T A K α hs H)(ho:hs[n]?=some o)(ha:α[n]?=some a)(h:ZM o w hs=some r)(rw':RU A α w y):(r=none/\DGet H a y none)\/∃u v,r=some u/\DGet H a y (some v)/\RU A α u v:=by
 cases o with
 |dic kvs=>
  obtain⟨kv,e,rd⟩:=R.h.ob n a _ ha ho;simp only[ZM]at h;split at h
  ·rename_i c;cases h;obtain⟨k,rk,rfl⟩:=Qci c rw';have g:=DGet.k (k:=k) e
   rcases RG.look JA rk rd with⟨h1,h2⟩|⟨u,v,h1,h2,h3⟩
   ·rw[h2]at g;exact .inl ⟨h1,g⟩
   ·rw[h2]at g;exact .inr ⟨u,v,h1,g,h3⟩
  ·cases h
 |fzd kvs=>
  obtain⟨kv,ob,e,rd⟩:=R.h.ob n a _ ha ho;simp only[ZM]at h;split at h
  ·rename_i c;cases h;obtain⟨k,rk,rfl⟩:=Qci c rw';have g:DGet H a (kV k) (ZT kv k):=.inl ⟨kv,k,.inr ⟨ob,e⟩,rfl,rfl⟩
   rcases RG.look JA rk rd with⟨h1,h2⟩|⟨u,v,h1,h2,h3⟩
   ·rw[h2]at g;exact .inl ⟨h1,g⟩
   ·rw[h2]at g;exact .inr ⟨u,v,h1,g,h3⟩
  ·cases h
 |dct kvs=>
  obtain⟨kv,e,rd⟩:=R.h.ob n a _ ha ho;simp only[ZM,Xd]at h;obtain⟨t,ht,rfl⟩:=h;obtain⟨b,k,rfl,rk,hb⟩:=Qf1 R ht rw';have g:=DGet.t e hb
  rcases RG.look Qaa rk rd with⟨h1,h2⟩|⟨u,v,h1,h2,h3⟩
  ·rw[h2]at g;exact .inl ⟨h1,g⟩
  ·rw[h2]at g;exact .inr ⟨u,v,h1,g,h3⟩
 |fzt kvs=>
  obtain⟨kv,ob,e,rd⟩:=R.h.ob n a _ ha ho;simp only[ZM,Xd]at h;obtain⟨t,ht,rfl⟩:=h;obtain⟨b,k,rfl,rk,hb⟩:=Qf1 R ht rw';have g:DGet H a (.ref b) (ZT kv k):=.inr ⟨kv,k,b,.inr ⟨ob,e⟩,rfl,hb,rfl⟩
  rcases RG.look Qaa rk rd with⟨h1,h2⟩|⟨u,v,h1,h2,h3⟩
  ·rw[h2]at g;exact .inl ⟨h1,g⟩
  ·rw[h2]at g;exact .inr ⟨u,v,h1,g,h3⟩
 |_=>cases h
theorem RG.length{κ κ':Type}{P:κ->κ'->Prop}{kvs:List (κ×U)}{kv:List (κ'×V)}(r:RG P A α kvs kv):kvs.length=kv.length:=Wn r
def QjX{hs':Hs}(R:Rep T A K α hs H)(ho:hs[n]?=some o)(ha:α[n]?=some a)(h:Jg n o w u hs=some hs')(rw':RU A α w y)(ru:RU A α u v):∃H',DPut H a y v H'/\Rep T A K α hs' H'/\Ext α α H H':=by
 cases o with
 |dic kvs=>
  obtain⟨kv,e,rd⟩:=R.h.ob n a _ ha ho;simp only[Jg]at h;split at h
  ·rename_i c;cases h;obtain⟨k,rk,rfl⟩:=Qci c.1 rw';have l:=RG.length rd;obtain⟨R',E'⟩:=R.put (o:=.dic (Zt kvs w u)) (ho:=.dK (ZY kv k v)) ha ⟨_,Qi,RG.put JA rk ru rd⟩
   exact⟨_,DPut.k e (Xr (by omega:kv.length<1000000) big),R',E'⟩
  ·cases h
 |dct kvs=>
  obtain⟨kv,e,rd⟩:=R.h.ob n a _ ha ho;simp only[Jg]at h;split at h
  ·rename_i c;simp only[Xd]at h;obtain⟨t,ht,rfl⟩:=h;obtain⟨b,k,rfl,rk,hb⟩:=Qf1 R ht rw';have l:=RG.length rd;obtain⟨R',E'⟩:=R.put (o:=.dct (Zt kvs t u)) (ho:=.dT (ZY kv k v)) ha ⟨_,Qi,RG.put Qaa rk ru rd⟩
   exact⟨_,DPut.t e hb (Xr (by omega:kv.length<1000000) big),R',E'⟩
  ·cases h
 |_=>cases h
def Qol:R2:=λx y H Q=>∃a v,x=.ref a/\DGet H a y (some v)/\Q v H
def QjE(hu:X.A.units+1<cLine):IxR X Qol:=by
 intro value slice pins s Y H x y v u Q I rx ry h hs;obtain⟨a,z,rfl,g,q⟩:=h;obtain rfl:v=Value.ref a:=rx;have hT:=QbG I g;unfold subscriptTail;refine Xa ?_;rw[getitemInPython_of_ne hT.not_modules];refine Xa (U7 hT PySem.F.slot_dict_getitem.lookup ?_)
 have fin:wpAny (model X.prog X.w) X.A (subscripted slice false (.ref a) u) (λr s₃=>wpAny (model X.prog X.w) X.A (letTemporaryGo value (.ref a) r >>= λt=>pure r) (EP X pins Y Q) X.xe s₃) X.xe s:=by
  rw[hs];exact wpAny_operating (Qfa hu I g ry λw' s3 I3 rw'=>Xa (wpAny_letTemporaryGo (Xj ⟨z,H,I3,rw',q⟩)))
 first
  |exact Xj (Xa fin)
  |exact Xa (Xj (Xa fin))
  |exact Xa fin
def Qom(neg:Bool):R2:=λx y H Q=>∃a o,y=.ref a/\DGet H a x o/\Q (.bl (if neg then !o.isSome else o.isSome)) H
def Ql1(hu:X.A.units+1<cLine):OpR X (compareOp .In) (Qom false):=by
 intro pins s Y H x y v u Q I rx ry h;obtain⟨a,o,rfl,g,q⟩:=h;obtain rfl:u=Value.ref a:=ry;exact QrB hu I g rx λs3 I3=>⟨.bl o.isSome,H,I3,rfl,q⟩
def Qeg(hu:X.A.units+1<cLine):OpR X (compareOp .NotIn) (Qom true):=by
 intro pins s Y H x y v u Q I rx ry h;obtain⟨a,o,rfl,g,q⟩:=h;obtain rfl:u=Value.ref a:=ry;exact Qj1 hu I g rx λs3 I3=>⟨.bl (!o.isSome),H,I3,rfl,q⟩
def Qh3{w:U}{y:V}{c neg:Bool}{Q:VK}(R:Rep T A K α hs H)(h:inD T w u hs=some c)(ru:RU A α u v)(rw':RU A α w y)(q:Q (.bl (if neg then !c else c)) H):Qom neg v y H Q:=by
 unfold inD at h;split at h
 ·rename_i n;split at h
  ·rename_i o e;simp only[Xd]at h;obtain⟨r,h1,rfl⟩:=h;obtain⟨a,ha,rfl⟩:=rw'
   rcases QbH R e ha h1 ru with⟨rfl,g⟩|⟨u',v',rfl,g,_⟩
   ·exact⟨a,none,rfl,g,q⟩
   ·exact⟨a,some v',rfl,g,q⟩
  ·cases h
 ·cases h
def Qok:V->V->V->Hp->(Hp->Prop)->Prop:=λo i v H Q=>∃a H',o=.ref a/\DPut H a i v H'/\Q H'
def Qf8(hu:X.A.units+1<cLine):QqC X Qok:=by
 intro pins s Y H o i v ov iv u Q I ro ri rv h;obtain⟨a,H',rfl,g,q⟩:=h;obtain rfl:ov=Value.ref a:=ro;exact Qe9 hu I g ri rv λs4 I4=>⟨H',I4,q⟩
def Qon:V->List V->Hp->VK->Prop:=λx vs H Q=>∃a y z o,x=.ref a/\vs=[y,z]/\DGet H a y o/\Q (o.getD z) H
def Qju(hu:X.A.units+1<cLine):MtR X "dict.get" Qon:=by
 intro pins s Y H x vs v us Q I rx rv h;obtain⟨a,y,z,o,rfl,rfl,g,q⟩:=h;cases rx;obtain⟨uk,uy,rfl,rk,ry⟩:=QcI rv;exact QmP hu I g rk ry λw' s' I' rw'=>⟨o.getD z,H,I',rw',q⟩
def QiQ:V->List V->Hp->VK->Prop:=λx vs H Q=>∃a b kvs more,x=.ref a/\vs=[.ref b]/\H a=some (.dK kvs)/\H b=some (.dK more)/\a≠b/\kvs.length+more.length<=sizeLine/\Q .non (upd H a (.dK (Z1 kvs more)))
def Qem:MtR X "dict.update" QiQ:=by
 intro pins s Y H x vs v us Q I rx rv h;obtain⟨a,b,kvs,more,rfl,rfl,hA,hB,ne,hz,q⟩:=h;cases rx;obtain⟨u,rfl,ru⟩:=rv.one;cases ru;obtain⟨z,hd,ws,rel,dd⟩:=QbF I.hok hA;obtain⟨z2,hd2,ws2,rel2,dd2⟩:=QbF I.hok hB
 refine T9 PySem.F.slot_dict_update dd.typeIs PySem.F.entry_dict_update (PySem.F.args_dict_update_2 _ _) (meets_dict_update (Ql X.prog X.w) a b ne hd2) ⟨ws,ws2,dd,dd2,by rw[<-rel.length,<-rel2.length];exact hz,λh' dd' y hs=>?_⟩
 have he:∃q,h'.get? a=some q:=(by obtain⟨q,_,_,hq,_⟩:=dd';exact⟨q,hq⟩);have hl:(Z1 kvs more).length<=sizeLine:=Wf (Zp more kvs) hz
 have I2:=Y3 (t':=s.toks) I (by rw[hA];exact True.intro) hs he (Qcs hl hd (KV.merge rel2 rel) dd')
 exact⟨.non,_,I2,rfl,q⟩
end
end
section
variable {i:Int}{α:List Addr}{us:List U}{vs:List V}{u:U}{v:V}
section
variable {X:Cx}{T:Tbl}{A:Adr}
def Qph{j:Int}:decide (V.int i=V.int j)=decide (i=j):=by
 by_cases e:i=j
 ·subst e;simp
 ·have:¬V.int i=V.int j:=λq=>e (V.int.inj q);rw[Wa this,Wa e]
def Qpg{x y:List Nat}:decide (V.str ⟨x.toArray⟩=V.str ⟨y.toArray⟩)=decide (x=y):=by
 by_cases e:x=y
 ·subst e;simp
 ·have:¬V.str ⟨x.toArray⟩=V.str ⟨y.toArray⟩:=λq=>e (by
   have q1:=V.str.inj q;have q2:=congrArg (λs:Str=>s.cps.toList) q1
   simpa using q2)
  rw[Wa this,Wa e]
def Qpi{x y:Bool}:decide (V.bl x=V.bl y)=decide (x=y):=by cases x<;>cases y<;>rfl
def Qh6{w:U}{y:V}{c:Bool}(h:eqS u w=some c)(ru:RU A α u v)(rw':RU A α w y):scal v y=true/\decide (v=y)=c:=by
 cases u with
 |non=>
  cases(show v=_ from ru)
  cases w with
  |non=>cases(show y=_ from rw');cases h;exact⟨rfl,rfl⟩
  |bl b=>cases(show y=_ from rw');cases h;exact⟨rfl,rfl⟩
  |int j n=>obtain⟨_,rfl,_⟩:=rw';cases h;exact⟨rfl,rfl⟩
  |str x=>cases(show y=_ from rw');cases h;exact⟨rfl,rfl⟩
  |_=>exact Znn h
 |bl b=>
  cases(show v=_ from ru)
  cases w with
  |non=>cases(show y=_ from rw');cases h;exact⟨rfl,rfl⟩
  |bl b=>cases(show y=_ from rw');cases h;exact⟨rfl,Qpi⟩
  |str x=>cases(show y=_ from rw');cases h;exact⟨rfl,rfl⟩
  |_=>exact Znn h
 |str x=>
  cases(show v=_ from ru)
  cases w with
  |non=>cases(show y=_ from rw');cases h;exact⟨rfl,rfl⟩
  |bl b=>cases(show y=_ from rw');cases h;exact⟨rfl,rfl⟩
  |int j n=>obtain⟨_,rfl,_⟩:=rw';cases h;exact⟨rfl,rfl⟩
  |str z=>cases(show y=_ from rw');cases h;exact⟨rfl,Qpg⟩
  |_=>exact Znn h
 |int i m=>
  obtain⟨i',rfl,a⟩:=ru
  cases w with
  |non=>cases(show y=_ from rw');cases m<;>cases h<;>exact⟨rfl,rfl⟩
  |str x=>cases(show y=_ from rw');cases m<;>cases h<;>exact⟨rfl,rfl⟩
  |int j n=>
   obtain⟨j',rfl,b⟩:=rw'
   cases m with
   |succ m=>exact Znn h
   |zero=>
    cases n with
    |succ n=>exact Znn h
    |zero=>cases a.exact;cases b.exact;cases h;exact⟨rfl,Qph⟩
  |_=>cases m<;>exact Znn h
 |_=>cases w<;>exact Znn h
def QqH(X:Cx)(T:Tbl)(A:Adr)(o:CmpOp):Prop:=∃r,OpR X (compareOp o) r/\∀{α:List Addr} {u w:U} {hs:Hs} {v y:V} {H:Hp} {Q:VK} {c:Bool},ZF T o u w hs=some c->RU A α u v->RU A α w y->Rep T A X.K α hs H->Q (.bl c) H->r v y H Q
def Qcw{o:CmpOp}{p:Int->Int->Bool}(ho:OpR X (compareOp o) (rI0 λi j=>.bl (p i j)))(hc:∀u w hs,ZF T o u w hs=match u,w with|.int i 0,.int j 0=>some (p i j)|_,_=>none):QqH X T A o:=by
 refine⟨_,ho,?_⟩;intro α u w hs v y H Q c h ru rw' R q;rw[hc]at h;split at h
 ·cases h;obtain⟨i',rfl,a⟩:=ru;obtain⟨j',rfl,b⟩:=rw';cases a.exact;cases b.exact;exact⟨_,_,rfl,rfl,q⟩
 ·cases h
def QrD(tx:Txt T A X.K X.mg)(tab:Qao X.prog X.w T A X.K)(hu:X.A.units+64<cLine)(o:CmpOp):QqH X T A o:=by
 cases o with
 |Eq=>
  refine⟨_,OpR.or Qoz (OpR.or (Ql3 tx hu) (OpR.or (Ql2 tx hu) (Ql4 tx hu))),?_⟩;intro α u w hs v y H Q c h ru rw' R q;simp only[ZF,eqA]at h;split at h
  ·rename_i b e;cases h;obtain⟨h1,h2⟩:=Qh6 e ru rw'
   exact .inl ⟨h1,by rw[h2];exact q⟩
  ·split at h
   ·rename_i c;cases h;exact .inr (.inl ⟨α,u,w,hs,ru,rw',R,c,q⟩)
   ·split at h
    ·rename_i c;cases h;exact .inr (.inr (.inl ⟨α,u,w,hs,ru,rw',R,c,q⟩))
    ·split at h
     ·rename_i c;cases h;rw[Xl]at c;exact .inr (.inr (.inr ⟨α,u,w,hs,ru,rw',R,c.1,c.2,q⟩))
     ·cases h
 |NotEq=>
  refine⟨_,OpR.or Qou (OpR.or (QlX tx hu) (OpR.or (QlW tx hu) (QlY tx hu))),?_⟩;intro α u w hs v y H Q c h ru rw' R q;simp only[ZF,Xd,eqA]at h;obtain⟨d,h,e⟩:=h;split at h
  ·rename_i b eb;cases h;obtain⟨h1,h2⟩:=Qh6 eb ru rw'
   exact .inl ⟨h1,by rw[h2,e];exact q⟩
  ·split at h
   ·rename_i cc;cases h;refine .inr (.inl ⟨α,u,w,hs,ru,rw',R,cc,?_⟩);rw[show(true:Bool)=c from e];exact q
   ·split at h
    ·rename_i cc;cases h;refine .inr (.inr (.inl ⟨α,u,w,hs,ru,rw',R,cc,?_⟩));rw[show(false:Bool)=c from e];exact q
    ·split at h
     ·rename_i cc;cases h;rw[Xl]at cc;refine .inr (.inr (.inr ⟨α,u,w,hs,ru,rw',R,cc.1,cc.2,?_⟩));rw[if_pos rfl,e];exact q
     ·cases h
 |Lt=>exact Qcw Qov λz z z=>rfl
 |LtE=>exact Qcw Qow λz z z=>rfl
 |Gt=>exact Qcw Qox λz z z=>rfl
 |GtE=>exact Qcw Qoy λz z z=>rfl
 |Is=>
  refine⟨_,Ql0,?_⟩;intro α u w hs v y H Q c h ru rw' R q;simp only[ZF]at h;split at h
  ·cases h;refine⟨rw',?_⟩
   have e:decide (v=.non)=decide (u=.non):=by
    cases u with
    |non=>cases(show v=_ from ru);rfl
    |bl b=>cases(show v=_ from ru);rfl
    |int i m=>obtain⟨_,rfl,_⟩:=ru;rfl
    |str x=>cases(show v=_ from ru);rfl
    |ref n=>obtain⟨_,_,rfl⟩:=ru;rfl
    |con k=>cases(show v=_ from ru);rfl
    |scr=>cases(show v=_ from ru);rfl
   rw[e];exact q
  ·cases h
 |IsNot=>
  refine⟨_,Qjk,?_⟩;intro α u w hs v y H Q c h ru rw' R q;simp only[ZF]at h;split at h
  ·cases h;refine⟨rw',?_⟩
   have e:decide (v=.non)=decide (u=.non):=by
    cases u with
    |non=>cases(show v=_ from ru);rfl
    |bl b=>cases(show v=_ from ru);rfl
    |int i m=>obtain⟨_,rfl,_⟩:=ru;rfl
    |str x=>cases(show v=_ from ru);rfl
    |ref n=>obtain⟨_,_,rfl⟩:=ru;rfl
    |con k=>cases(show v=_ from ru);rfl
    |scr=>cases(show v=_ from ru);rfl
   rw[e];exact q
  ·cases h
 |In=>
  refine⟨_,Ql1 (by omega),?_⟩
  intro α u w hs v y H Q c h ru rw' R q;exact Qh3 (neg:=false) R h ru rw' q
 |NotIn=>
  refine⟨_,Qeg (by omega),?_⟩
  intro α u w hs v y H Q c h ru rw' R q;simp only[ZF,Xd]at h;obtain⟨d,h,e2⟩:=h
  have q':Q (.bl (if true=true then !d else d)) H:=by simp only[We];rw[e2];exact q
  exact Qh3 (neg:=true) R h ru rw' q'
def Qnb(r:RUs A α us vs)(h:atU us i=some u):∃v,atI vs i=some v/\RU A α u v:=by
 unfold atU at h;split at h
 ·rename_i j e;obtain⟨v,h1,h2⟩:=r.get h;refine⟨v,?_,h2⟩
  have e':ixN vs.length i=some j:=by rw[<-r.length];exact e
  unfold atI;rw[e'];exact h1
 ·cases h
def QpE{xs:List Nat}{c:Nat}(h:atU xs i=some c):atI xs i=some c:=by
 unfold atU at h;split at h
 ·rename_i j e;have e':ixN xs.length i=some j:=e;unfold atI;rw[e'];exact h
 ·cases h
def Qiz{w x:U}{hs:Hs}{y:V}{H:Hp}{Q:VK}(tx:Txt T A X.K X.mg)(h:QF T u w hs=some x)(ru:RU A α u v)(rw':RU A α w y)(R:Rep T A X.K α hs H)(k:∀z,RU A α x z->Q z H):rIx X.K v y H Q\/Qol v y H Q:=by
 have seq:∀{xs:List U} {i:Int},ZW T u hs=some xs->w=.int i 0->atU xs i=some x->rIx X.K v y H Q\/Qol v y H Q:=λ{xs i} e1 e2 e3=>by
  subst e2;obtain⟨j,rfl,c⟩:=rw';cases c.exact;obtain⟨a,vs,rfl,rr,sq⟩:=JQ (K':=X.K) tx R e1 ru;obtain⟨z,h1,h2⟩:=Qnb rr e3
  rcases sq with sq|sq
  ·exact .inl (.inl ⟨a,vs,i,z,rfl,rfl,sq,h1,k z h2⟩)
  ·exact .inl (.inr (.inl ⟨a,vs,i,z,rfl,rfl,sq,h1,k z h2⟩))
 cases u with
 |str z=>
  cases w with
  |int i m=>
   cases m with
   |succ m=>simp[QF,ZW]at h
   |zero=>
    simp only[QF]at h;split at h
    ·rename_i l;simp only[Xd]at h;obtain⟨c,e,rfl⟩:=h;cases(show v=_ from ru);obtain⟨j,rfl,q⟩:=rw';cases q.exact
     exact .inl (.inr (.inr ⟨_,i,c,rfl,rfl,by rw[Y4];exact Wf l big,by simpa using QpE e,k _ (by show _=_;rfl)⟩))
    ·cases h
  |_=>simp[QF,ZW]at h
 |ref n=>
  simp only[QF]at h;split at h
  ·rename_i xs i e
   exact seq (by simp only[ZW,e]) rfl h
  ·rename_i xs i e
   exact seq (by simp only[ZW,e]) rfl h
  ·rename_i o e _ _;obtain⟨a,ha,rfl⟩:=ru;simp only[Xb,id_eq]at h;obtain⟨r,h1,h2⟩:=h
   rcases QbH R e ha h1 rw' with⟨h3,_⟩|⟨u',v',h3,g,rv⟩
   ·rw[h3]at h2;cases h2
   ·rw[h3]at h2;cases h2;exact .inr ⟨a,v',rfl,g,k v' rv⟩
  ·cases h
 |con n=>
  cases w with
  |int i m=>
   cases m with
   |succ m=>simp[QF]at h
   |zero=>
    simp only[QF]at h;split at h
    ·rename_i xs e;exact seq e rfl h
    ·cases h
  |_=>simp[QF]at h
 |scr=>
  cases w with
  |int i m=>
   cases m with
   |succ m=>simp[QF]at h
   |zero=>
    simp only[QF]at h;split at h
    ·rename_i xs e;exact seq e rfl h
    ·cases h
  |_=>simp[QF]at h
 |_=>
  cases w with
  |int i m=>cases m<;>simp[QF,ZW]at h
  |_=>simp[QF]at h
theorem RUs.drop(n:Nat)(h:RUs A α us vs):RUs A α (us.drop n) (vs.drop n):=Qbn h n
theorem RUs.take(n:Nat)(h:RUs A α us vs):RUs A α (us.take n) (vs.take n):=Qbm h n
def Qcu(n d:Nat)(o:Option Int):Qc8 n d o=HT.sIx n d o:=by cases o<;>rfl
def RUs.cut(r:RUs A α us vs)(lo hi:Option Int):RUs A α (Q1 us lo hi) (Qky vs lo hi):=by
 unfold Q1 Qky;rw[Qcu,Qcu,r.length];exact RUs.take _ (RUs.drop _ r)
def Qla{x:U}{hs hs':Hs}{H:Hp}{Q:VK}{lo hi:Option Int}(h:slU T u lo hi hs=some (x,hs'))(ru:RU A α u v)(R:Rep T A X.K α hs H)(k:∀α' z H',Ext α α' H H'->Rep T A X.K α' hs' H'->RU A α' x z->Q z H'):Qqc X.K v lo hi H Q:=by
 cases u with
 |scr=>
  simp only[slU]at h;cases h;obtain⟨vs,rr,q⟩:=R.s.sq (α:=α);refine⟨_,vs,ru,q,λp hp=>?_⟩;obtain⟨R',E'⟩:=R.new (o:=.lst (Q1 T.scr lo hi)) hp ⟨_,Qi,RUs.mono Qu (rr.cut lo hi)⟩
  exact k _ _ _ E' R' ⟨p,by rw[<-R.h.len];exact QG,rfl⟩
 |ref n=>
  simp only[slU]at h;split at h
  ·rename_i xs e;cases h;obtain⟨a,ha,rfl⟩:=ru;obtain⟨vs,q,rr⟩:=R.h.ob n a _ ha e;refine⟨_,vs,rfl,SqL.of q,λp hp=>?_⟩;obtain⟨R',E'⟩:=R.new (o:=.lst (Q1 xs lo hi)) hp ⟨_,Qi,RUs.mono Qu (rr.cut lo hi)⟩
   exact k _ _ _ E' R' ⟨p,by rw[<-R.h.len];exact QG,rfl⟩
  ·cases h
 |_=>simp[slU]at h
end
end
section
variable {H:Hp}{hs:Hs}{α:List Addr}{us:List U}{vs:List V}{u:U}{v:V}
section
variable {X:Cx}{T:Tbl}{A:Adr}
def QbQ{e:Expr}{t:TE}(h:∀Y H Q,¬t Y H Q):PE X e t:=λz z Y H Q z q=>(h Y H Q q).elim
def QoI(K:W.Frag){k t:Ty}{b:Bool}(h:QoN k t=some b)(A:Adr):W.kitOne K (tyW A k) (tyW A t)=some b:=by
 cases k<;>cases t<;>simp only[QoN]at h<;>first|(cases h;done)|(cases h;rfl)|(cases h;kernel_rfl)
def QjA{k:Ty}(tx:Txt T A X.K X.mg)(h:QaI u hs=some k)(r:RU A α u v)(R:Rep T A X.K α hs H):TyE X.K H v (tyW A k):=by
 cases u with
 |non=>cases h;cases(show v=_ from r);exact .inl .non
 |bl b=>cases h;cases(show v=_ from r);exact .inl (.bl b)
 |int i m=>cases h;obtain⟨j,rfl,_⟩:=r;exact .inl (.int j)
 |str x=>cases h;cases(show v=_ from r);exact .inl (.str _)
 |ref n=>
  obtain⟨a,ha,rfl⟩:=r;simp only[QaI]at h;split at h
  ·rename_i xs e;cases h;obtain⟨vs,q,_⟩:=R.h.ob n a _ ha e;exact .inl (.lst q)
  ·rename_i xs e;cases h;obtain⟨vs,q,_⟩:=R.h.ob n a _ ha e;exact .inl (.tup q)
  ·rename_i kvs e;cases h;obtain⟨kv,q,_⟩:=R.h.ob n a _ ha e;exact .inl (.dK q)
  ·rename_i kvs e;cases h;obtain⟨kv,q,_⟩:=R.h.ob n a _ ha e;exact .inl (.dT q)
  ·rename_i c fs e;cases h;obtain⟨dx,fv,q,_,l⟩:=R.h.ob n a _ ha e;exact .inl ((tx.cl c _ (Xf l)).ty H a dx fv q)
  ·rename_i c e;cases h;obtain⟨dd,q,l,_⟩:=R.h.ob n a _ ha e;exact .inr ⟨a,A.c c,dd,rfl,rfl,q,(tx.er c l).1⟩
  ·cases h
 |_=>simp[QaI]at h
def Qmy{t:Ty}{b:Bool}(tx:Txt T A X.K X.mg)(h:Qdm T t u hs=some b)(r:RU A α u v)(R:Rep T A X.K α hs H):∃tv,TyE X.K H v tv/\W.kitOne X.K tv (tyW A t)=some b:=by
 unfold Qdm at h;split at h
 ·cases h
 ·rename_i k e;refine⟨tyW A k,QjA tx e r R,?_⟩;split at h
  ·rename_i b' e';cases h;exact QoI X.K e' A
  ·exact tx.isi k t b h
def Qj(r:RUs A α (u::us) vs):∃v ws,vs=v::ws/\RU A α u v/\RUs A α us ws:=by cases r with|cons a b=>exact⟨_,_,rfl,a,b⟩
def Qp(r:RUs A α [] vs):vs=[]:=by cases r;rfl
def BiS(X:Cx)(T:Tbl)(A:Adr)(b:Bi)(f:Value):Prop:=∃r,CallR X f r/\∀{α:List Addr} {us:List U} {u':U} {hs hs':Hs} {vs:List V} {H:Hp} {Q:VK},biU T b us hs=some (u',hs')->RUs A α us vs->Rep T A X.K α hs H ->
 (∀α' v' H',Ext α α' H H'->Rep T A X.K α' hs' H'->RU A α' u' v'->Q v' H')->r vs H Q
def Qkf(tx:Txt T A X.K X.mg):BiS X T A .len (.builtin "len"):=by
 refine⟨_,CallR.or (CallR.or QaX QaW) Qfp,?_⟩;intro α us u' hs hs' vs H Q h r R k
 have seq:∀{u:U} {xs:List U},us=[u]->ZW T u hs=some xs->(u',hs')=(U.int xs.length 0,hs)->(∃p ys,vs=[V.ref p]/\(SqL X.K H p ys\/SqT X.K H p ys)/\Q (.int ys.length) H):=λ{u xs} e1 e2 e3=>by
  subst e1;cases e3;obtain⟨v,ws,rfl,ru,rn⟩:=Qj r;cases Qp rn;obtain⟨a,ys,rfl,rr,sq⟩:=JQ (K':=X.K) tx R e2 ru
  exact⟨a,ys,rfl,sq,k α _ H Ext.refl R ⟨_,rfl,by rw[rr.length];exact Cg.refl _ _⟩⟩
 cases us with
 |nil=>first|exact Znn h|simp[biU]at h
 |cons u t=>
  cases t with
  |cons _ _=>cases u<;>first|exact Znn h|simp[biU]at h
  |nil=>
   cases u with
   |str x=>
    unfold biU at h;try dsimp only at h;split at h
    ·rename_i l;cases h;obtain⟨v,ws,rfl,ru,rn⟩:=Qj r;cases Qp rn;cases(show v=_ from ru)
     refine .inl (.inr ⟨_,rfl,by rw[Y4];exact Wf l big,k α _ H Ext.refl R ⟨_,rfl,?_⟩⟩)
     rw[Y4];exact Cg.refl _ _
    ·cases h
   |ref n=>
    unfold biU at h;try dsimp only at h;split at h
    ·rename_i xs e;exact .inl (.inl (seq rfl e (X3 h).symm))
    ·simp only[Qj0]at h;split at h
     ·rename_i kvs hp;cases h;obtain⟨v,ws,rfl,ru,rn⟩:=Qj r;cases Qp rn;obtain⟨a,ha,rfl⟩:=ru;obtain⟨kv,hH,rd⟩:=R.h.ob n a _ ha hp
      exact .inr ⟨a,kv,rfl,hH,k α _ H Ext.refl R ⟨_,rfl,by rw[Wn rd];exact Cg.refl _ _⟩⟩
     ·cases h
   |con n=>
    unfold biU at h;try dsimp only at h;split at h
    ·rename_i xs e;exact .inl (.inl (seq rfl e (X3 h).symm))
    ·cases h
   |scr=>
    unfold biU at h;try dsimp only at h;split at h
    ·rename_i xs e;exact .inl (.inl (seq rfl e (X3 h).symm))
    ·cases h
   |_=>unfold biU at h;simp[ZW,Qj0]at h
def Qfz:BiS X T A .tuple (.type "tuple"):=by
 refine⟨_,Qai,?_⟩;intro α us u' hs hs' vs H Q h r R k
 cases us with
 |nil=>first|exact Znn h|simp[biU]at h
 |cons u t=>
  cases t with
  |cons _ _=>cases u<;>first|exact Znn h|simp[biU]at h
  |nil=>
   obtain⟨v,ws,rfl,ru,rn⟩:=Qj r;cases Qp rn
   cases u with
   |ref n=>
    obtain⟨a,ha,rfl⟩:=ru;unfold biU at h;try dsimp only at h;split at h
    ·rename_i xs e;cases h;obtain⟨ys,q,rr⟩:=R.h.ob n a _ ha e;refine⟨a,ys,rfl,.inl ⟨SqL.of q,λp hp=>?_⟩⟩;obtain⟨R',E'⟩:=R.new (o:=.tup xs) hp ⟨_,Qi,RUs.mono Qu rr⟩
     exact k _ _ _ E' R' ⟨p,by rw[<-R.h.len];exact QG,rfl⟩
    ·rename_i xs e;cases h;obtain⟨ys,q,rr⟩:=R.h.ob n a _ ha e;exact⟨a,ys,rfl,.inr ⟨SqT.of q,k α _ H Ext.refl R ⟨a,ha,rfl⟩⟩⟩
    ·cases h
   |_=>first|exact Znn h|simp[biU]at h
def Qls{k:Key}(h:RK u k):RU A α u (kV k):=by
 cases u<;>simp only[RK]at h<;>first|exact h.elim|skip
 ·obtain⟨rfl,rfl⟩:=h;exact⟨_,rfl,Cg.refl _ _⟩
 ·subst h;rfl
def QiM{ks:List U}{keys:List Key}(h:RKs ks keys):RUs A α ks (keys.map kV):=by
 induction h with
 |nil=>exact .nil
 |cons r _ ih=>exact .cons (Qls r) ih
def Rep.alias{K:W.Frag}{b:Addr}{ks:List U}{keys:List Key}(R:Rep T A K α hs H)(hb:H b=some (.tup (keys.map kV)))(rk:RKs ks keys):Rep T A K (α++[b]) (hs++[.tup ks]) H/\Ext α (α++[b]) H H:=by
 have nd:∀(i j:Nat) a,(α++[b])[i]?=some a->(α++[b])[j]?=some a->i=j\/∃vs,H a=some (.tup vs):=λi j a e1 e2=>by
  rcases Qq e1 with q1|⟨_,q1⟩
  ·rcases Qq e2 with q2|⟨_,q2⟩
   ·exact R.h.nd i j a q1 q2
   ·exact .inr ⟨_,by rw[q2];exact hb⟩
  ·exact .inr ⟨_,by rw[q1];exact hb⟩
 refine⟨⟨⟨by simp[R.h.len],nd,λn a ob e1 e2=>?_⟩,R.s⟩,⟨Qu,λn a e l=>?_,λy y e y=>e,λy y y e=>e,λy o e=>⟨o,e,λy=>T6⟩⟩⟩
 ·rcases Qq e1 with q|⟨q1,q2⟩
  ·rcases Qq e2 with z|⟨z,_⟩
   ·exact RO.keep (R.h.ob n a ob q z) Qu λy y e y=>e
   ·have:=getElem?_lt q;rw[R.h.len]at this;omega
  ·subst q2
   rcases Qq e2 with z|⟨_,z⟩
   ·have:=(Xc.mp z).1;rw[<-R.h.len]at this;omega
   ·subst z;exact⟨_,hb,QiM rk⟩
 ·rcases Qq e with q|⟨_,q⟩
  ·have:=getElem?_lt q;omega
  ·exact .inr ⟨_,by rw[q];exact hb⟩
def Qbh{K:W.Frag}{kvs:List (List U×U)}{kv:List (List Key×V)}{bs:List Addr}{β:List Addr}(r:RT A β kvs kv)(h:Paired (λ(p:List Key×V) b=>H b=some (.tup (p.1.map kV))) kv bs)(R:Rep T A K α hs H):
  Rep T A K (α++bs) (hs++kvs.map λp=>O.tup p.1) H/\Ext α (α++bs) H H/\∀(i:Nat) (γ:List Addr),(∀(n:Nat) a,(α++bs)[n]?=some a->γ[n]?=some a)->i=α.length->RUs A γ (Qaw i kvs.length) (bs.map V.ref):=by
 unfold RT at r
 induction r generalizing bs α hs with
 |nil=>
  cases h;simp only[Vd,V7];exact⟨R,Ext.refl,λz z z z=>.nil⟩
 | @cons p _ _ _ r t ih=>
  cases h with
  | @cons _ b _ bs h tb=>
   obtain⟨R1,E1⟩:=R.alias h r.1;obtain⟨R2,E2,l2⟩:=ih tb R1
   have ea:∀l:List Addr,α++b::l=α++[b]++l:=λl=>by simp
   have eh:∀l:Hs,hs++O.tup p.1::l=hs++[O.tup p.1]++l:=λl=>by simp
   rw[Xu,ea,eh];refine⟨R2,E1.trans E2 R2.h,λi γ hg hi=>?_⟩;rw[Xu,X8,Qaw]
   refine .cons ⟨b,hg i b ?_,rfl⟩ (l2 (i+1) γ hg (by simp[hi]))
   rw[hi,Xp (by simp)]
   exact QG
def Qhc(tx:Txt T A X.K X.mg)(hc:X.calm=true):BiS X T A .list (.type "list"):=by
 refine⟨_,CallR.or QaV (Qdc hc),?_⟩;intro α us u' hs hs' vs H Q h r R k
 cases us with
 |nil=>first|exact Znn h|simp[biU]at h
 |cons u t=>
  cases t with
  |cons _ _=>cases u<;>first|exact Znn h|simp[biU]at h
  |nil=>
   obtain⟨v,ws,rfl,ru,rn⟩:=Qj r;cases Qp rn
   have h:(match ZW T u hs with
    |some xs=>some (U.ref hs.length,hs++[O.lst xs])
    |none=>(Qj0 u hs).map λkvs=>(U.ref (hs++kvs.map λp=>O.tup p.1).length,(hs++kvs.map λp=>O.tup p.1)++[O.lst (Qaw hs.length kvs.length)]))=some (u',hs'):=by
    cases u<;>exact h
   split at h
   ·rename_i xs e;cases h;obtain⟨a,ys,rfl,rr,sq⟩:=JQ (K':=X.K) tx R e ru;refine .inl ⟨a,ys,rfl,sq,λp hp=>?_⟩;obtain⟨R',E'⟩:=R.new (o:=.lst xs) hp ⟨_,Qi,RUs.mono Qu rr⟩
    exact k _ _ _ E' R' ⟨p,by rw[<-R.h.len];exact QG,rfl⟩
   ·rename_i hno;clear hno;simp only[Xd]at h;obtain⟨kvs,hd,h⟩:=h;cases h;unfold Qj0 at hd;split at hd
    ·rename_i n;split at hd
     ·rename_i kvs' hp;cases hd;obtain⟨a,ha,rfl⟩:=ru;obtain⟨kv,hH,rd⟩:=R.h.ob n a _ ha hp;refine .inr ⟨a,kv,rfl,hH,λbs pb p hp=>?_⟩;obtain⟨R1,E1,l1⟩:=Qbh rd pb R;obtain⟨R',E'⟩:=R1.new (p:=p) (o:=.lst (Qaw hs.length kvs.length)) (ho:=.lst (bs.map V.ref)) hp ⟨_,Qi,l1 hs.length _ Qu R.h.len.symm⟩
      exact k _ _ _ (E1.trans E' R'.h) R' ⟨p,by rw[<-R1.h.len];exact QG,rfl⟩
     ·cases hd
    ·cases hd
theorem J1{α:List Addr}:∀{ys:List U} {ns:List Int} {vs:List V},QaN ys=some ns->RUs A α ys vs->vs=ns.map V.int
 |[],_,_,h,r=>by cases h;cases Qp r;rfl
 |u::ys,ns,vs,h,r=>by
  cases u with
  |int i m=>
   cases m with
   |succ m=>simp[QaN]at h
   |zero=>
    simp only[QaN,Xd]at h;obtain⟨ns',h,rfl⟩:=h;obtain⟨v,ws,rfl,ru,rn⟩:=Qj r;obtain⟨j,rfl,c⟩:=ru;cases c.exact;rw[J1 h rn];rfl
  |_=>simp[QaN]at h
theorem Qa0{α:List Addr}:∀{ys:List U} {bs:List Bool} {vs:List V},Y7 ys=some bs->RUs A α ys vs->vs=bs.map V.bl
 |[],_,_,h,r=>by cases h;cases Qp r;rfl
 |u::ys,bs,vs,h,r=>by
  cases u with
  |bl b=>
   simp only[Y7,Xd]at h;obtain⟨bs',h,rfl⟩:=h;obtain⟨v,ws,rfl,ru,rn⟩:=Qj r;cases(show v=_ from ru);rw[Qa0 h rn];rfl
  |_=>simp[Y7]at h
def Qh4{i:Int}(r:RU A α (.int i 0) v):v=.int i:=by
 obtain⟨j,rfl,c⟩:=r;cases c.exact;rfl
def Qkg(tx:Txt T A X.K X.mg)(hc:X.calm=true):BiS X T A .all (.builtin "all"):=by
 refine⟨_,Qfr hc,?_⟩;intro α us u' hs hs' vs H Q h r R k;have h:biL T .all us hs=some (u',hs'):=h;unfold biL at h;split at h<;>try contradiction
 ·simp only[Xb,Xd]at h;obtain⟨xs,el,ns,en,h⟩:=h;cases h;obtain⟨v,ws,rfl,ru,rn⟩:=Qj r;cases Qp rn;obtain⟨a,vs,rfl,rr,sq⟩:=QL tx R el ru;cases Qa0 en rr;exact⟨a,ns,rfl,sq,k α _ H Ext.refl R rfl⟩
def CallR.or{f:Value}{r1 r2:List V->Hp->VK->Prop}(h1:CallR X f r1)(h2:CallR X f r2):CallR X f (λxs H Q=>r1 xs H Q\/r2 xs H Q):=by
 intro pins s Y H xs us Q I r h
 rcases h with h|h
 ·exact h1 pins s Y H xs us Q I r h
 ·exact h2 pins s Y H xs us Q I r h
def Qke(tx:Txt T A X.K X.mg)(hc:X.calm=true):BiS X T A .max (.builtin "max"):=by
 refine⟨_,CallR.or (Qfn hc) (Qfo hc),?_⟩;intro α us u' hs hs' vs H Q h r R k;have h:biL T .max us hs=some (u',hs'):=h;unfold biL at h;split at h<;>try contradiction
 ·simp only[Xb,Xd]at h;obtain⟨xs,el,ns,en,m,em,h⟩:=h;cases h;obtain⟨v,ws,rfl,ru,rn⟩:=Qj r;cases Qp rn;obtain⟨a,vs,rfl,rr,sq⟩:=QL tx R el ru;cases J1 en rr;refine .inl ⟨a,ns,rfl,sq,?_,λM h1 h2=>?_⟩
  ·cases ns with
   |nil=>cases em
   |cons _ _=>exact Nat.succ_pos _
  ·cases Qjv em h1 h2;exact k α _ H Ext.refl R ⟨_,rfl,Cg.refl _ _⟩
 ·refine .inr ?_;cases h;obtain⟨v,ws,rfl,ru,rn⟩:=Qj r;obtain⟨v2,ws,rfl,ru2,rn⟩:=Qj rn;cases Qp rn;cases Qh4 ru;cases Qh4 ru2;exact⟨_,_,rfl,k α _ H Ext.refl R ⟨_,rfl,Cg.refl _ _⟩⟩
def Qmw{k:List Int}(R:Rep T A X.K α hs H)(r:RU A α u v)(h:itU hs u=some k):k≠[]/\∃b,v=.ref b/\SqT X.K H b (k.map V.int):=by
 unfold itU at h;split at h
 case h_2=>cases h
 obtain⟨a,ha,rfl⟩:=r;split at h
 case h_2=>cases h
 rename_i k0 ks e;obtain⟨vs,q,rr⟩:=R.h.ob _ a _ ha e;have hl:=rr.length;cases J1 h rr;refine⟨λz=>?_,a,rfl,SqT.of q⟩;subst z;simp at hl
theorem QeE{hs:Hs}{H:Hp}(R:Rep T A X.K α hs H):∀{xs:List U} {ys:List V} {ks:List (List Int)},RUs A α xs ys->QjH hs xs=some ks->Qne X.K H ys ks
 |[],ys,ks,rr,h=>by
  cases h;cases rr
  exact⟨rfl,λi y k e=>by simp at e⟩
 |u::us,ys,ks,rr,h=>by
  simp only[QjH,Xb,Xd]at h;obtain⟨k,hk,ks',hks,rfl⟩:=h;obtain⟨v,ws,rfl,ru,rn⟩:=Qj rr;obtain⟨l,f⟩:=QeE R rn hks
  refine⟨by simp[l],λi y k' e1 e2=>?_⟩
  cases i with
  |zero=>
   simp at e1 e2;subst e1 e2;exact Qmw R ru hk
  |succ i=>exact f i y k' (by simpa using e1) (by simpa using e2)
def Qf4{α':List Addr}{ks:List (List Int)}{xs:List U}{ys:List V}(rr:RUs A α' xs ys):RUs A α' (QcM ks xs) (Qbd ks ys):=by
 unfold QcM Qbd;rw[rr.length];generalize permK ks ys.length=p
 induction p with
 |nil=>exact .nil
 |cons i p ih=>
  refine .cons ?_ ih
  cases e:xs[i]? with
  |none=>
   have e2:ys[i]?=none:=by
    rw[X6]at e ⊢;rw[<-rr.length];exact e
   simp[List.getD,e,e2,RU]
  |some u=>
   obtain⟨v,hv,rv⟩:=rr.get e;simpa[List.getD,e,hv]using rv
def Qdi(tx:Txt T A X.K X.mg):BiS X T A .sorted (.builtin "sorted"):=by
 refine⟨_,Qdb,?_⟩;intro α us u' hs hs' vs H Q h r R k;have h:biL T .sorted us hs=some (u',hs'):=h
 obtain⟨u,rfl⟩:∃u,us=[u]:=by
  match us,h with
  |[],h=>exact Znn h
  |_::_::_,h=>exact Znn h
  |[u],_=>exact⟨u,rfl⟩
 have h:Option.bind (QA T u hs) _=some (u',hs'):=h;simp only[Xb]at h;obtain⟨xs,el,h⟩:=h;split at h
 case isFalse=>cases h
 rename_i h64;simp only[Xd]at h;obtain⟨ks,hk,h⟩:=h;cases h;obtain⟨v,ws,rfl,ru,rn⟩:=Qj r;cases Qp rn;obtain⟨a,ys,rfl,rr,sq⟩:=QL tx R el ru;have hl:=rr.length
 refine⟨a,ys,ks,rfl,sq,by omega,λh2=>?_,λp hp=>?_⟩
 ·rw[if_neg (by omega)]at hk
  exact QeE R rr hk
 ·obtain⟨R2,E2⟩:=R.new (p:=p) (o:=.lst (QcM ks xs)) (ho:=.lst (Qbd ks ys)) hp ⟨_,Qi,RUs.mono Qu (Qf4 rr)⟩
  exact k _ _ _ E2 R2 ⟨p,by rw[<-R.h.len];exact QG,rfl⟩
theorem QhL{α:List Addr}{hs:Hs}{H:Hp}{K:W.Frag}(R:Rep T A K α hs H):∀{xs:List U} {vs:List V} {kvs:List (List U×U)},QhM hs xs=some kvs->RUs A α xs vs ->
  ∃kv:List (List Key×V),RT A α kvs kv/\Paired (λ(v:V) (p:List Key×V)=>∃t kb,v=.ref t/\H t=some (.tup [.ref kb,p.2])/\H kb=some (.tup (p.1.map kV))) vs kv
 |[],vs,kvs,h,r=>by cases h;cases Qp r;exact⟨[],.nil,.nil⟩
 |u::xs,vs,kvs,h,r=>by
  cases u with
  |ref p=>
   simp only[QhM]at h;split at h
   ·rename_i k v hp;simp only[Xb,Xd]at h;obtain⟨t,ht,l,hl,rfl⟩:=h;obtain⟨y,ws,rfl,ru,rn⟩:=Qj r;obtain⟨kv,q1,q2⟩:=QhL R hl rn;obtain⟨a,ha,rfl⟩:=ru;obtain⟨zs,ez,rz⟩:=R.h.ob p a _ ha hp;obtain⟨y1,zs1,rfl,s1,rn1⟩:=Qj rz;obtain⟨y2,zs2,rfl,s2,rn2⟩:=Qj rn1;cases Qp rn2;obtain⟨b,kk,rfl,rk,hb⟩:=Qf1 R ht s1;exact⟨(kk,y2)::kv,.cons ⟨rk,s2⟩ q1,.cons ⟨a,b,rfl,ez,hb⟩ q2⟩
   ·cases h
  |_=>exact nomatch (show none=some _ from h)
def QjQ{kvs:List (List U×U)}{kv:List (List Key×V)}{acc:List (List U×U)}{acc':List (List Key×V)}(h:RT A α kvs kv)(h':RT A α acc acc'):RT A α (kvs.foldl (λa p=>Zt a p.1 p.2) acc) (kv.foldl (λa p=>ZY a p.1 p.2) acc'):=by
 unfold RT at h
 induction h generalizing acc acc' with
 |nil=>exact h'
 |cons r _ ih=>exact ih (RG.put Qaa r.1 r.2 h')
def Qhd(hu:X.A.units+2<cLine)(hh:X.calm=true):BiS X T A .dict (.type "dict"):=by
 refine⟨_,Qdd hu hh,?_⟩;intro α us u' hs hs' vs H Q h r R k;have h:biL T .dict us hs=some (u',hs'):=h
 obtain⟨u,rfl⟩:∃u,us=[u]:=by
  match us,h with
  |[],h=>exact Znn h
  |_::_::_,h=>exact Znn h
  |[u],_=>exact⟨u,rfl⟩
 have h:Option.bind (QaF u hs) _=some (u',hs'):=h;simp only[Xb,Xd]at h;obtain⟨xs,el,kvs,hk,h⟩:=h;cases h;obtain⟨v,ws,rfl,ru,rn⟩:=Qj r;cases Qp rn
 cases u with
 |ref p=>
  simp only[QaF]at el;split at el
  ·rename_i ys hp;cases el;obtain⟨a,ha,rfl⟩:=ru;obtain⟨zs,ez,rz⟩:=R.h.ob p a _ ha hp;obtain⟨kv,q1,q2⟩:=QhL R hk rz;refine⟨a,zs,kv,rfl,ez,q2,λd hd=>?_⟩;obtain⟨R2,E2⟩:=R.new (p:=d) (o:=.dct (QbB kvs)) (ho:=.dT (Qac kv)) hd ⟨_,Qi,RT.mono Qu (QjQ q1 .nil)⟩
   exact k _ _ _ E2 R2 ⟨d,by rw[<-R.h.len];exact QG,rfl⟩
  ·cases el
 |_=>exact nomatch (show none=some _ from el)
def BmS(X:Cx)(T:Tbl)(A:Adr)(b:Bm)(id:String):Prop:=∃r,MtR X id r/\∀{α:List Addr} {o u':U} {us:List U} {hs hs':Hs} {x:V} {vs:List V} {H:Hp} {Q:VK},bmU T b o us hs=some (u',hs')->RU A α o x->RUs A α us vs->Rep T A X.K α hs H ->
 (∀α' v' H',Ext α α' H H'->Rep T A X.K α' hs' H'->RU A α' u' v'->Q v' H')->r x vs H Q
def Qfw{b:Bm}{o u':U}{hs':Hs}(h:bmU T b o us hs=some (u',hs'))(hb:∀x,bmS T b x us hs=none)(hd:∀n kvs,bmD b n kvs us hs=none):∃n xs,o=.ref n/\hs[n]?=some (.lst xs):=by
 cases o with
 |ref n=>
  simp only[bmU]at h;split at h
  ·rename_i xs e;exact⟨n,xs,rfl,e⟩
  ·rw[hd]at h;cases h
  ·cases h
 |str x=>
  simp only[bmU]at h;rw[hb]at h;cases h
 |_=>simp[bmU]at h
def Qdh:BmS X T A .append "list.append":=by
 refine⟨_,QaE,?_⟩;intro α o u' us hs hs' x vs H Q h ro r R k;obtain⟨n,xs,rfl,e⟩:=Qfw h (λz=>rfl) (λz z=>rfl);obtain⟨a,ha,rfl⟩:=ro
 cases us with
 |nil=>simp[bmU,bmL,e]at h
 |cons u t=>
  cases t with
  |cons _ _=>simp[bmU,bmL,e]at h
  |nil=>
   simp only[bmU,bmL,e]at h;split at h
   ·rename_i l;cases h;obtain⟨v,ws,rfl,ru,rn⟩:=Qj r;cases Qp rn;obtain⟨ys,q,rr⟩:=R.h.ob n a _ ha e;refine⟨a,ys,v,rfl,rfl,q,?_,?_⟩
    ·rw[<-rr.length];exact Xr l big
    ·obtain⟨R',E'⟩:=R.put (o:=.lst (xs++[u])) ha ⟨_,Qi,rr.append (.cons ru .nil)⟩;exact k _ _ _ E' R' rfl
   ·cases h
theorem RUs.reverse(h:RUs A α us vs):RUs A α us.reverse vs.reverse:=QhO h
def Qdg:BmS X T A .extend "list.extend":=by
 refine⟨_,Qeo,?_⟩;intro α o u' us hs hs' x vs H Q h ro r R k;obtain⟨n,xs,rfl,e⟩:=Qfw h (λz=>rfl) (λz z=>rfl);obtain⟨a,ha,rfl⟩:=ro
 cases us with
 |nil=>simp[bmU,bmL,e]at h
 |cons u t=>
  cases t with
  |cons _ _=>cases u<;>simp[bmU,bmL,e]at h
  |nil=>
   cases u with
   |ref m=>
    simp only[bmU,bmL,e]at h;split at h
    ·rename_i ys e2;split at h
     ·rename_i l;cases h;obtain⟨v,ws,rfl,ru,rn⟩:=Qj r;cases Qp rn;obtain⟨b,hb,rfl⟩:=ru;obtain⟨zs,q,rr⟩:=R.h.ob n a _ ha e;obtain⟨zt,q2,rr2⟩:=R.h.ob m b _ hb e2;refine⟨a,b,zs,zt,rfl,rfl,q,q2,?_,?_⟩
      ·rw[<-rr.length,<-rr2.length];exact Wf l big
      ·obtain⟨R',E'⟩:=R.put (o:=.lst (xs++ys)) ha ⟨_,Qi,rr.append rr2⟩;exact k _ _ _ E' R' rfl
     ·cases h
    ·cases h
   |_=>simp[bmU,bmL,e]at h
def RK.eq{w:U}{a b:Key}(h:RK u a)(h':RK w b):u=w↔a=b:=by
 cases u with
 |int i m=>
  obtain⟨rfl,rfl⟩:=h
  cases w with
  |int j n=>obtain⟨rfl,rfl⟩:=h';simp
  |str y=>cases(show b=_ from h');simp
  |_=>exact h'.elim
 |str x=>
  cases(show a=_ from h)
  cases w with
  |int j n=>obtain⟨rfl,rfl⟩:=h';simp
  |str y=>
   cases(show b=_ from h');constructor
   ·intro e;cases e;rfl
   ·intro e;have e1:=Sum.inr.inj e;have e2:=congrArg (λt:Str=>t.cps.toList) e1;simp only at e2;rw[e2]
  |_=>exact h'.elim
 |_=>exact h.elim
def QjD(h:Qa8 u=true)(r:RU A α u v):∃k,RK u k/\v=kV k:=by
 cases u with
 |int i m=>
  cases m with
  |zero=>obtain⟨j,rfl,c⟩:=r;cases c.exact;exact⟨.inl i,⟨rfl,rfl⟩,rfl⟩
  |succ m=>cases h
 |str x=>cases(show v=_ from r);exact⟨.inr _,rfl,rfl⟩
 |_=>cases h
def QqE(A:Adr)(α:List Addr)(o:Option U)(v:Option V):Prop:=match o with
 |some x=>∃z,v=some z/\RU A α x z
 |none=>v=none
def QgB{k:U}{k':Key}(hk:RK k k'){kvs:List (U×U)}{kv:List (Key×V)}(h:RD A α kvs kv):QqE A α (QcV kvs k) (ZT kv k'):=by
 unfold RD at h
 induction h with
 |nil=>rfl
 | @cons p q ps qs h t ih=>
  obtain⟨p1,p2⟩:=p;obtain⟨h1,h2⟩:=h;have e:=RK.eq h1 hk;show QqE A α (if p1=k then some p2 else QcV ps k) (ZT (q::qs) k');by_cases c:p1=k
  ·rw[if_pos c];exact⟨_,Yx (e.mp c),h2⟩
  ·rw[if_neg c,Yy λz=>c (e.mpr z)];exact ih
def Qdf:BmS X T A .setdef "dict.setdefault":=by
 refine⟨_,Qen,?_⟩;intro α o u' us hs hs' x vs H Q h ro r R k
 cases o with
 |ref n=>
  simp only[bmU]at h;split at h
  ·simp[bmL]at h
  case h_3=>cases h
  rename_i kvs e;obtain⟨a,ha,rfl⟩:=ro;simp only[bmD]at h;split at h
  case h_2=>cases h
  rename_i ku u;split at h
  case isFalse=>cases h
  rename_i ck;obtain⟨vk,ws,rfl,rk,rn⟩:=Qj r;obtain⟨vy,ws,rfl,ry,rn⟩:=Qj rn;cases Qp rn;obtain⟨k',hk',rfl⟩:=QjD ck.1 rk;obtain⟨kv,q,rr⟩:=R.h.ob n a _ ha e;have lk:=QgB hk' rr;split at h
  ·rename_i x' ex;cases h;rw[ex]at lk;obtain⟨z,ez,rz⟩:=lk;refine⟨a,k',vy,kv,rfl,rfl,q,?_,λz' ez'=>?_,λen=>?_⟩
   ·rw[<-Wn rr];exact Xr ck.2 big
   ·rw[ez]at ez';cases ez';exact k α _ H Ext.refl R rz
   ·rw[ez]at en;cases en
  ·rename_i ex;cases h;rw[ex]at lk;have lk:ZT kv k'=none:=lk;refine⟨a,k',vy,kv,rfl,rfl,q,?_,λz' ez'=>?_,λy=>?_⟩
   ·rw[<-Wn rr];exact Xr ck.2 big
   ·rw[lk]at ez';cases ez'
   ·obtain⟨R',E'⟩:=R.put (o:=.dic (kvs++[_])) ha ⟨_,Qi,Paired.snoc rr (show RK (Prod.fst (_,u')) (Prod.fst (k',vy))/\RU A α (Prod.snd (_,u')) (Prod.snd (k',vy))from⟨hk',ry⟩)⟩;exact k _ _ _ E' R' ry
 |_=>first|(simp[bmU,bmS]at h;done)|(simp[bmU]at h;done)
def Qkc(hu:X.A.units+1<cLine):BmS X T A .get "dict.get":=by
 refine⟨_,Qju hu,?_⟩;intro α o u' us hs hs' x vs H Q h ro r R k
 cases o with
 |ref n=>
  simp only[bmU]at h;split at h
  ·simp[bmL]at h
  case h_3=>cases h
  rename_i kvs e;obtain⟨a,ha,rfl⟩:=ro;simp only[bmD]at h;split at h
  case h_2=>cases h
  rename_i ku u;split at h
  case isFalse=>cases h
  rename_i ck;cases h;obtain⟨vk,ws,rfl,rk,rn⟩:=Qj r;obtain⟨vy,ws,rfl,ry,rn⟩:=Qj rn;cases Qp rn
  have g:=QbH (o:=.dic kvs) (w:=ku) (r:=QB kvs ku) R e ha (by simp only[ZM];rw[if_pos ck]) rk
  rcases g with⟨h1,g⟩|⟨u1,v1,h1,g,rv⟩
  ·exact⟨a,vk,vy,none,rfl,rfl,g,k α vy H Ext.refl R (by rw[h1];exact ry)⟩
  ·exact⟨a,vk,vy,some v1,rfl,rfl,g,k α v1 H Ext.refl R (by rw[h1];exact rv)⟩
 |_=>first|(simp[bmU,bmS]at h;done)|(simp[bmU]at h;done)
def Qde:BmS X T A .update "dict.update":=by
 refine⟨_,Qem,?_⟩;intro α o u' us hs hs' x vs H Q h ro r R k
 cases o with
 |ref n=>
  simp only[bmU]at h;split at h
  ·simp[bmL]at h
  case h_3=>cases h
  rename_i kvs e;obtain⟨a,ha,rfl⟩:=ro;simp only[bmD]at h;split at h
  case h_2=>cases h
  rename_i m;split at h
  case h_2=>cases h
  rename_i more e2;split at h
  case isFalse=>cases h
  rename_i c;cases h;obtain⟨vy,ws,rfl,ry,rn⟩:=Qj r;cases Qp rn;obtain⟨b,hb,rfl⟩:=ry;obtain⟨kv,q,rr⟩:=R.h.ob n a _ ha e;obtain⟨mv,q2,rr2⟩:=R.h.ob m b _ hb e2;have l1:=RG.length rr;have l2:=RG.length rr2
  have ne:a≠b:=λz=>by
   rcases R.h.nd n m a ha (z▸hb)with w|⟨vs,w⟩
   ·exact c.1 w
   ·rw[q]at w;cases w
  refine⟨a,b,kv,mv,rfl,rfl,q,q2,ne,Wf (by omega) big,?_⟩
  obtain⟨R',E'⟩:=R.put (o:=.dic (Jr kvs more)) (ho:=.dK (Z1 kv mv)) ha ⟨_,Qi,RG.merge JA rr2 rr⟩;exact k α .non _ E' R' rfl
 |_=>first|(simp[bmU,bmS]at h;done)|(simp[bmU]at h;done)
end
end
section
variable {ir:E}{a e:Expr}{d:Nat}{p:Pos}
def TIO(T:Tbl)(A:Adr)(K:W.Frag)(f:Rho->Hs->Option (Option Int×Hs)):TO:=λY H Q=>∃α Z hs u hs',RS A α Z Y/\Rep T A K α hs H/\f Z hs=some (u,hs') /\
 ∀α' H',Ext α α' H H'->Rep T A K α' hs' H'->Q u H'
structure Fc(X:Cx)(T:Tbl)(A:Adr)(cf:Cf)(k:Nat):Prop where
 ok:∀f F,T.fns[f]?=some F->∃fd,FnOk X.prog X.w X.K X.mg X.base CX0 k (A.f f) fd F.ps (spC T A X.K cf f)/\Binds X.K fd F.ps []/\W.keepIn X.K (.ref (A.f f))=true
 some:∀f us hs r,cf f us hs=some r->∃F,T.fns[f]?=some F/\us.length=F.np
 df:∀i D F,T.dfl.lookup i=Option.some D->T.fns[i]?=Option.some F->∃fd,FnOk X.prog X.w X.K X.mg X.base CX0 k (A.f i) fd D.ps (spC T A X.K cf i)/\W.keepIn X.K (.ref (A.f i))=true/\QkC A X.K fd D
 xf:∀f F,T.fns[f]?=Option.some F->∃fd,FnOk X.prog X.w X.K X.mg X.base (CXw X.prog X.w) k (A.f f) fd F.ps (spX T A X.K T.xf f)/\Binds X.K fd F.ps []/\W.keepIn X.K (.ref (A.f f))=true
structure Snd(T:Tbl)(A:Adr)(C:Ctx)(X:Cx)(cf:Cf)(m:Nat):Prop where
 e:∀d e ir,Qg m C e=some ir->PE X e (TI T A X.K (ev T cf d ir))
 t:∀d e ir,compT m C e=some ir->PT X e (TIT T A X.K (evT T cf d ir))/\PE X e (TI T A X.K (ev T cf d ir))
 an:∀d a r p ir,compAnd m C a r p=some ir->PW X (.BoolOp .And (a::r) p) (TIT T A X.K (evT T cf d ir))/\PE X (.BoolOp .And (a::r) p) (TI T A X.K (ev T cf d ir))
 orr:∀d a r p ir,compOr m C a r p=some ir->PW X (.BoolOp .Or (a::r) p) (TIT T A X.K (evT T cf d ir))/\PE X (.BoolOp .Or (a::r) p) (TI T A X.K (ev T cf d ir))
 a:∀d es irs,compA m C es=some irs->PA X es (TIA T A X.K (λZ hs=>evs (ev T cf d) Z irs hs))
 o:∀d e ir,compO m C e=some ir->PO X e (TIO T A X.K (λZ hs=>evO (ev T cf d) Z ir hs))
section
variable {X:Cx}{T:Tbl}{A:Adr}{C:Ctx}{cf:Cf}{m:Nat}
def QbP{t:TT}(h:∀Y H Q,¬t Y H Q):PT X e t:=λz z Y H Q z q=>(h Y H Q q).elim
def Qkq{t:TT}(h:∀Y H Q,¬t Y H Q):PW X e t:=λz z z Y H Q z q=>(h Y H Q q).elim
def QoC{K:W.Frag}:∀Y H Q,¬TI T A K (ev T cf 0 ir) Y H Q:=λz z z y=>by obtain⟨_,_,_,_,_,_,_,h,_⟩:=y;exact nomatch h
def Qej{K:W.Frag}:∀Y H Q,¬TIT T A K (evT T cf 0 ir) Y H Q:=λz z z y=>by obtain⟨_,_,_,_,_,_,_,h,_⟩:=y;exact nomatch h
def QC(h:∀d',PE X e (TI T A X.K (ev T cf (d'+1) ir))):PE X e (TI T A X.K (ev T cf d ir)):=by
 cases d with
 |zero=>exact QbQ QoC
 |succ d=>exact h d
def QiI{c:Const}{k:Nat}(h:Qg (m+1) C (.Constant c k p)=some ir):PE X (.Constant c k p) (TI T A X.K (ev T cf d ir)):=by
 refine QC λd=>?_
 cases c with
 |int i=>cases h;exact Q0 Qed λY H Q z=>by obtain⟨α,Z,hs,u,hs',rs,R,e,q⟩:=z;cases e;exact q α _ H Ext.refl R ⟨i,rfl,Cg.refl _ _⟩
 |bool b=>cases h;exact Q0 Qot λY H Q y=>by obtain⟨α,Z,hs,u,hs',rs,R,e,q⟩:=y;cases e;exact q α _ H Ext.refl R rfl
 |none=>cases h;exact Q0 QlQ λY H Q w=>by obtain⟨α,Z,hs,u,hs',rs,R,e,q⟩:=w;cases e;exact q α _ H Ext.refl R rfl
 |str x=>cases h;exact Q0 QhS λY H Q v=>by obtain⟨α,Z,hs,u,hs',rs,R,e,q⟩:=v;cases e;exact q α _ H Ext.refl R rfl
 |_=>first|exact Znn h|simp[Qg]at h
def Qlm{x:Str}(g:GX T A C X)(h:Qg (m+1) C (.Name x p)=some ir):PE X (.Name x p) (TI T A X.K (ev T cf d ir)):=by
 refine QC λd=>?_;simp only[cE4]at h;split at h
 ·cases h
 ·rename_i hn;have n1:(x==("__debug__":Str))=false:=QQ λz=>hn (.inl z);have n2:(x==("__classdict__":Str))=false:=QQ λz=>hn (.inr z);split at h
  ·rename_i hv;simp only[Xd]at h;obtain⟨i,hi,rfl⟩:=h
   refine Q0 (QlM (i:=i) (by rw[g.N];exact Zh hi) (QkP g hv) n1 n2) ?_
   rintro Y H Q ⟨α,Z,hs,u,hs',rs,R,e,q⟩;simp only[ev]at e;split at e
   ·rename_i w e';cases e;obtain⟨v,h1,h2⟩:=rs.get e';exact⟨v,h1,q α v H Ext.refl R h2⟩
   ·cases e
  ·split at h
   ·rename_i hg;split at h
    ·rename_i k hk;cases h;refine Q0 (Qbp (QX g hg) (g.gco x k hk) (v:=.ref (A.k k)) rfl n1) ?_;rintro Y H Q ⟨α,Z,hs,u,hs',rs,R,e,q⟩;cases e;exact q α _ H Ext.refl R rfl
    ·rename_i t hk;cases h;obtain⟨k,hm⟩:=g.gtx x t hk;refine Q0 (Qbp (QX g hg) hm (v:=.str ⟨t.toArray⟩) ⟨_,rfl⟩ n1) ?_;rintro Y H Q ⟨α,Z,hs,u,hs',rs,R,e,q⟩;simp only[ev]at e;cases e;exact q α _ H Ext.refl R rfl
    ·cases h
   ·cases h
def Qoe{b:Expr}{o:Operator}(S:Snd T A C X cf m)(h:Qg (m+1) C (.BinOp a o b p)=some ir):PE X (.BinOp a o b p) (TI T A X.K (ev T cf d ir)):=by
 refine QC λd=>?_;simp only[cE5,Xb]at h;obtain⟨a',ha,b',hb,h⟩:=h;cases h;obtain⟨r,ho,hr⟩:=opS (X:=X) (T:=T) (A:=A) o;refine Q0 (Qoq ho (S.e d a a' ha) (S.e d b b' hb)) ?_;rintro Y H Q ⟨α,Z,hs,u,hs',rs,R,e,q⟩;simp only[ev]at e;obtain⟨u1,h1,e1,e⟩:=Qe e;obtain⟨u2,h2,e2,e⟩:=Qe e;refine TI.run rs R e1 λα1 x H1 E1 R1 r1 rs1=>?_;refine TI.run rs1 R1 e2 λα2 y H2 E2 R2 r2 rs2=>?_;exact hr e (r1.mono E2.pre) r2 R2 λα3 v H3 E3 R3 r3=>q α3 v H3 ((E1.trans E2 R2.h).trans E3 R3.h) R3 r3
def Qoa(S:Snd T A C X cf m)(h:Qg (m+1) C (.UnaryOp .USub a p)=some ir):PE X (.UnaryOp .USub a p) (TI T A X.K (ev T cf d ir)):=by
 refine QC λd=>?_;simp only[cE6,Xb]at h;obtain⟨a',ha,h⟩:=h;cases h;refine Q0 (QlN Qhu (S.e d a a' ha)) ?_;rintro Y H Q ⟨α,Z,hs,u,hs',rs,R,e,q⟩;simp only[ev]at e;obtain⟨u1,h1,e1,e⟩:=Qe e;refine TI.run rs R e1 λα1 x H1 E1 R1 r1 rs1=>?_;split at e
 ·cases e;obtain⟨i,rfl,c⟩:=r1;exact⟨i,rfl,q α1 _ H1 E1 R1 ⟨_,rfl,Qh9 c⟩⟩
 ·cases e
def Qll(tx:Txt T A X.K X.mg)(S:Snd T A C X cf m)(h:Qg (m+1) C (.UnaryOp .Not a p)=some ir):PE X (.UnaryOp .Not a p) (TI T A X.K (ev T cf d ir))/\PT X (.UnaryOp .Not a p) (TIT T A X.K (evT T cf d ir)):=by
 simp only[cE7,Xb]at h;obtain⟨a',ha,h⟩:=h;cases h;constructor
 ·refine QC λd=>?_;intro pins s Y H Q I hw;obtain⟨α,Z,hs,u,hs',rs,R,e,q⟩:=hw;simp only[ev]at e;obtain⟨u1,h1,e1,e⟩:=Qe e;simp only[Xd]at e;obtain⟨c,e2,e⟩:=e;cases e;refine UnaryOp_ (thn ((S.t d a a' ha).2 pins s Y H (λv H'=>Qnf X.K v H' c/\Q (.bl (!c)) H') I ⟨α,Z,hs,u1,_,rs,R,e1,λα' v H' E' R' r'=>⟨QdH tx R' e2 r',q α' _ H' E' R' rfl⟩⟩) λv s1 z=>?_);obtain⟨x,H1,I1,r1,q1,q2⟩:=z
  exact not_of (thn (Qhw pins s1 Y H1 x v (λb H'=>b=c/\H'=H1) I1 r1 ⟨c,q1,rfl,rfl⟩) λb s2 y=>by obtain⟨H2,I2,eb,eH⟩:=y;exact⟨.bl (!c),H2,I2,by rw[eb];rfl,by rw[eH];exact q2⟩)
 ·cases d with
  |zero=>exact QbP Qej
  |succ d=>
   refine Qkr (QlB (S.t d a a' ha).1) ?_;rintro Y H Q ⟨α,Z,hs,u,hs',rs,R,e,q⟩;simp only[evT]at e;obtain⟨c,h1,e1,e⟩:=Qe e;cases e;exact TIT.run rs R e1 λα1 H1 E1 R1 rs1=>q α1 H1 E1 R1
end
end
section
variable {ir:E}{a:Expr}{d:Nat}{p:Pos}
section
variable {X:Cx}{T:Tbl}{A:Adr}{C:Ctx}{cf:Cf}{m:Nat}
def Qb6{e:Expr}(h:∀d',PT X e (TIT T A X.K (evT T cf (d'+1) ir))):PT X e (TIT T A X.K (evT T cf d ir)):=by
 cases d with
 |zero=>exact QbP Qej
 |succ d=>exact h d
def Qb4{e:Expr}(h:∀d',PW X e (TIT T A X.K (evT T cf (d'+1) ir))):PW X e (TIT T A X.K (evT T cf d ir)):=by
 cases d with
 |zero=>exact Qkq Qej
 |succ d=>exact h d
def Qlq(S:Snd T A C X cf m)(d:Nat)(a:Expr)(r:List Expr)(p:Pos)(ir:E)(h:compAnd (m+1) C a r p=some ir):
  PW X (.BoolOp .And (a::r) p) (TIT T A X.K (evT T cf d ir))/\PE X (.BoolOp .And (a::r) p) (TI T A X.K (ev T cf d ir)):=by
 cases r with
 |nil=>exact⟨QiY (S.t d a ir h).1,QhT (S.t d a ir h).2⟩
 |cons b r=>
  simp only[compAnd,Xb]at h;obtain⟨a',ha,b',hb,h⟩:=h;cases h;constructor
  ·refine Qb4 λd=>?_;refine Qng (Qlz (S.t d a a' ha).1 (S.an d b r p b' hb).1) ?_;rintro Y H Q ⟨α,Z,hs,u,hs',rs,R,e,q⟩;simp only[evT]at e;obtain⟨c,h1,e1,e⟩:=Qe e;refine TIT.run rs R e1 λα1 H1 E1 R1 rs1=>?_
   cases c with
   |true=>exact TIT.run rs1 R1 e λα2 H2 E2 R2 rs2=>q α2 H2 (E1.trans E2 R2.h) R2
   |false=>cases e;exact q α1 H1 E1 R1
  ·refine QC λd=>?_;refine Q0 (QlT (S.t d a a' ha).2 (S.an d b r p b' hb).2) ?_;rintro Y H Q ⟨α,Z,hs,u,hs',rs,R,e,q⟩;simp only[ev]at e;obtain⟨u1,h1,e1,e⟩:=Qe e;refine TI.run rs R e1 λα1 x H1 E1 R1 r1 rs1=>?_;split at e
   ·cases(show x=_ from r1);exact⟨true,rfl,TI.run rs1 R1 e λα2 v H2 E2 R2 r2 rs2=>q α2 v H2 (E1.trans E2 R2.h) R2 r2⟩
   ·cases(show x=_ from r1);cases e;exact⟨false,rfl,q α1 _ H1 E1 R1 rfl⟩
   ·cases e
def Qqa(S:Snd T A C X cf m)(d:Nat)(a:Expr)(r:List Expr)(p:Pos)(ir:E)(h:compOr (m+1) C a r p=some ir):
  PW X (.BoolOp .Or (a::r) p) (TIT T A X.K (evT T cf d ir))/\PE X (.BoolOp .Or (a::r) p) (TI T A X.K (ev T cf d ir)):=by
 cases r with
 |nil=>exact⟨Qly (S.t d a ir h).1,QhT (S.t d a ir h).2⟩
 |cons b r=>
  simp only[compOr,Xb]at h;obtain⟨a',ha,b',hb,h⟩:=h;cases h;constructor
  ·refine Qb4 λd=>?_;refine Qng (Qoo (S.t d a a' ha).1 (S.orr d b r p b' hb).1) ?_;rintro Y H Q ⟨α,Z,hs,u,hs',rs,R,e,q⟩;simp only[evT]at e;obtain⟨c,h1,e1,e⟩:=Qe e;refine TIT.run rs R e1 λα1 H1 E1 R1 rs1=>?_
   cases c with
   |false=>exact TIT.run rs1 R1 e λα2 H2 E2 R2 rs2=>q α2 H2 (E1.trans E2 R2.h) R2
   |true=>cases e;exact q α1 H1 E1 R1
  ·refine QC λd=>?_;refine Q0 (Qop (S.t d a a' ha).2 (S.orr d b r p b' hb).2) ?_;rintro Y H Q ⟨α,Z,hs,u,hs',rs,R,e,q⟩;simp only[ev]at e;obtain⟨u1,h1,e1,e⟩:=Qe e;refine TI.run rs R e1 λα1 x H1 E1 R1 r1 rs1=>?_;split at e
   ·cases(show x=_ from r1);cases e;exact⟨true,rfl,q α1 _ H1 E1 R1 rfl⟩
   ·cases(show x=_ from r1);exact⟨false,rfl,TI.run rs1 R1 e λα2 v H2 E2 R2 r2 rs2=>q α2 v H2 (E1.trans E2 R2.h) R2 r2⟩
   ·cases e
def Qmc{b:Expr}{b':E}{o:CmpOp}(h:Qg m C b=some b'):behindInMarks o b=false:=by
 cases b<;>first|rfl|skip
 cases m<;>first|exact Znn h|simp[Qg]at h
def Qlp{b:Expr}{o:CmpOp}(tx:Txt T A X.K X.mg)(tab:Qao X.prog X.w T A X.K)(hu:X.A.units+64<cLine)(S:Snd T A C X cf m)(h:Qg (m+1) C (.Compare a [o] [b] p)=some ir):
  PE X (.Compare a [o] [b] p) (TI T A X.K (ev T cf d ir))/\PT X (.Compare a [o] [b] p) (TIT T A X.K (evT T cf d ir)):=by
 simp only[Qr5,Xb]at h;obtain⟨a',ha,b',hb,h⟩:=h;cases h;obtain⟨r,ho,hr⟩:=QrD (X:=X) (T:=T) (A:=A) tx tab hu o
 have key:∀(d:Nat) (Y:St) (H:Hp) (Q:VK) (α:List Addr) (Z:Rho) (hs hs':Hs) (u:U),RS A α Z Y->Rep T A X.K α hs H->ev T cf (d+1) (.cmp o a' b') Z hs=some (u,hs') ->
   (∀α' c H',u=.bl c->Ext α α' H H'->Rep T A X.K α' hs' H'->Q (.bl c) H')->tOp r (TI T A X.K (ev T cf d a')) (TI T A X.K (ev T cf d b')) Y H Q:=by
  intro d Y H Q α Z hs hs' u rs R e q;simp only[ev]at e;obtain⟨u1,h1,e1,e⟩:=Qe e;obtain⟨u2,h2,e2,e⟩:=Qe e;simp only[Xd]at e;obtain⟨c,e3,e⟩:=e;cases e;refine TI.run rs R e1 λα1 x H1 E1 R1 r1 rs1=>?_;refine TI.run rs1 R1 e2 λα2 y H2 E2 R2 r2 rs2=>?_;exact hr e3 (r1.mono E2.pre) r2 R2 (q α2 c H2 rfl (E1.trans E2 R2.h) R2)
 constructor
 ·refine QC λd=>?_;refine Q0 (Qjg ho (S.e d a a' ha) (S.e d b b' hb) (Qmc hb)) ?_;rintro Y H Q ⟨α,Z,hs,u,hs',rs,R,e,q⟩
  exact key d Y H Q α Z hs hs' u rs R e λα' c H' eu E' R'=>q α' _ H' E' R' (by rw[eu];rfl)
 ·refine Qb6 λd=>?_
  cases d with
  |zero=>exact QbP λz z z v=>by obtain⟨_,_,_,_,_,_,_,h,_⟩:=v;simp[evT,ev,bd]at h
  |succ d=>
   refine Qkr (Qi0 ho (S.e d a a' ha) (S.e d b b' hb) (Qmc hb)) ?_;rintro Y H Q ⟨α,Z,hs,u,hs',rs,R,e,q⟩;simp only[evT]at e;obtain⟨u1,h1,e1,e⟩:=Qe e;simp only[Xd]at e;obtain⟨c,e3,e⟩:=e;cases e;refine key d Y H _ α Z hs _ u1 rs R e1 λα' c' H' eu E' R'=>⟨c',rfl,?_⟩;rw[eu]at e3;cases e3;exact q α' H' E' R'
theorem Y0{f:Ev}{Z:Rho}:∀{es:List E} {hs hs':Hs} {us:List U},evs f Z es hs=some (us,hs')->us.length=es.length
 |[],_,_,_,h=>by cases h;rfl
 |e::r,hs,hs',us,h=>by
  simp only[evs]at h;obtain⟨u,h1,e1,h⟩:=Qe h;obtain⟨ws,h2,e2,h⟩:=Qe h;cases h;simp[Y0 e2]
theorem Q9{C:Ctx}:∀{m:Nat} {es:List Expr} {irs:List E},compA m C es=some irs->irs.length=es.length
 |0,_,_,h=>by simp[compA]at h
 |m+1,[],_,h=>by cases h;rfl
 |m+1,e::r,irs,h=>by
  simp only[compA,Xb]at h;obtain⟨e',he,r',hr,h⟩:=h;cases h;simp[Q9 hr]
def QhD(S:Snd T A C X cf m)(d:Nat)(es:List Expr)(irs:List E)(h:compA (m+1) C es=some irs):PA X es (TIA T A X.K (λZ hs=>evs (ev T cf d) Z irs hs)):=by
 cases es with
 |nil=>
  cases h;refine Qnk Qef ?_;rintro Y H Q ⟨α,Z,hs,u,hs',rs,R,e,q⟩;cases e;exact q α [] H Ext.refl R .nil
 |cons e r=>
  simp only[compA,Xb]at h;obtain⟨e',he,r',hr,h⟩:=h;cases h;refine Qnk (JR (S.e d e e' he) (S.a d r r' hr) (Qt (QJ he))) ?_;rintro Y H Q ⟨α,Z,hs,u,hs',rs,R,e,q⟩;simp only[evs]at e;obtain⟨u1,h1,e1,e⟩:=Qe e;obtain⟨us,h2,e2,e⟩:=Qe e;cases e;refine TI.run rs R e1 λα1 x H1 E1 R1 r1 rs1=>?_;exact TIA.run rs1 R1 e2 λα2 xs H2 E2 R2 r2 rs2=>q α2 _ H2 (E1.trans E2 R2.h) R2 (.cons (r1.mono E2.pre) r2)
def Qlk(S:Snd T A C X cf m)(d:Nat)(e:Option Expr)(ir:Option E)(h:compO (m+1) C e=some ir):PO X e (TIO T A X.K (λZ hs=>evO (ev T cf d) Z ir hs)):=by
 cases e with
 |none=>
  cases h;intro pins s Y H Q I hw;refine Qi7 pins s Y H Q I ?_;obtain⟨α,Z,hs,u,hs',rs,R,e,q⟩:=hw;cases e;exact q α H Ext.refl R
 |some e=>
  simp only[compO,Xb]at h;obtain⟨e',he,h⟩:=h;cases h;intro pins s Y H Q I hw;refine Qd8 (S.e d e e' he) pins s Y H Q I ?_;obtain⟨α,Z,hs,u,hs',rs,R,e,q⟩:=hw;simp only[evO]at e;obtain⟨u1,h1,e1,e⟩:=Qe e;refine TI.run rs R e1 λα1 x H1 E1 R1 r1 rs1=>?_;split at e
  ·cases e;obtain⟨i,rfl,c⟩:=r1;cases c.exact;exact⟨_,rfl,q α1 H1 E1 R1⟩
  ·cases e
def TIO.run{T:Tbl}{A:Adr}{K:W.Frag}{α:List Addr}{Z:Rho}{Y:St}{hs h1:Hs}{H:Hp}{f:Rho->Hs->Option (Option Int×Hs)}{u:Option Int}{Q:Option Int->Hp->Prop}(rs:RS A α Z Y)(rp:Rep T A K α hs H)(h:f Z hs=some (u,h1))
  (k:∀α1 H1,Ext α α1 H H1->Rep T A K α1 h1 H1->RS A α1 Z Y->Q u H1):TIO T A K f Y H Q :=
 ⟨α,Z,hs,u,h1,rs,rp,h,λα1 H1 e r=>k α1 H1 e r (rs.mono e.pre)⟩
def QiF{es:List Expr}{k:Nat}(S:Snd T A C X cf m)(h:Qg (m+1) C (.Tuple es k p)=some ir):PE X (.Tuple es k p) (TI T A X.K (ev T cf d ir)):=by
 refine QC λd=>?_;simp only[Qr4]at h;split at h
 case isFalse=>cases h
 rename_i hz;simp only[Xb]at h;obtain⟨es',he,h⟩:=h;cases h;refine Q0 (QlO (S.a d es es' he)) ?_;rintro Y H Q ⟨α,Z,hs,u,hs',rs,R,e,q⟩;simp only[ev]at e;obtain⟨us,h1,e1,e⟩:=Qe e;cases e;refine TIA.run rs R e1 λα1 vs H1 E1 R1 r1 rs1=>⟨?_,λp hp=>?_⟩
 ·rw[<-r1.length,Y0 e1,Q9 he];exact Wf hz big
 ·obtain⟨R',E'⟩:=R1.new (o:=.tup us) hp ⟨_,Qi,RUs.mono Qu r1⟩
  exact q _ _ _ (E1.trans E' R'.h) R' ⟨p,by rw[<-R1.h.len];exact QG,rfl⟩
def Qlo{es:List Expr}(S:Snd T A C X cf m)(h:Qg (m+1) C (.List es p)=some ir):PE X (.List es p) (TI T A X.K (ev T cf d ir)):=by
 refine QC λd=>?_;simp only[Qr3]at h;split at h
 case isFalse=>cases h
 rename_i hz;simp only[Xb]at h;obtain⟨es',he,h⟩:=h;cases h;refine Q0 (QlR (S.a d es es' he)) ?_;rintro Y H Q ⟨α,Z,hs,u,hs',rs,R,e,q⟩;simp only[ev]at e;obtain⟨us,h1,e1,e⟩:=Qe e;cases e;refine TIA.run rs R e1 λα1 vs H1 E1 R1 r1 rs1=>⟨?_,λp hp=>?_⟩
 ·rw[<-r1.length,Y0 e1,Q9 he];exact Wf hz big
 ·obtain⟨R',E'⟩:=R1.new (o:=.lst us) hp ⟨_,Qi,RUs.mono Qu r1⟩
  exact q _ _ _ (E1.trans E' R'.h) R' ⟨p,by rw[<-R1.h.len];exact QG,rfl⟩
def QiH{lo hi:Option Expr}{p2:Pos}(S:Snd T A C X cf m)(h:((Qg m C a).bind λa'=>(compO m C lo).bind λl=>(compO m C hi).bind λh=>some (E.sl a' l h))=some ir):PE X (.Subscript a (.Slice lo hi none p2) p) (TI T A X.K (ev T cf d ir)):=by
 refine QC λd=>?_;simp only[Xb]at h;obtain⟨a',ha,l',hl,h',hh,h⟩:=h;cases h;refine Q0 (Qgo QiE (S.e d a a' ha) (S.o d lo l' hl) (S.o d hi h' hh)) ?_;rintro Y H Q ⟨α,Z,hs,u,hs',rs,R,e,q⟩;simp only[ev]at e;obtain⟨u1,h1,e1,e⟩:=Qe e;obtain⟨u2,h2,e2,e⟩:=Qe e;obtain⟨u3,h3,e3,e⟩:=Qe e;refine TI.run rs R e1 λα1 x H1 E1 R1 r1 rs1=>?_;refine TIO.run rs1 R1 e2 λα2 H2 E2 R2 rs2=>?_;refine TIO.run rs2 R2 e3 λα3 H3 E3 R3 rs3=>?_;exact Qla e ((r1.mono E2.pre).mono E3.pre) R3 λα4 z H4 E4 R4 r4=>q α4 z H4 (((E1.trans E2 R2.h).trans E3 R3.h).trans E4 R4.h) R4 r4
def QjF{b:Expr}{a' b':E}(hu:X.A.units+1<cLine)(tx:Txt T A X.K X.mg)(ha:PE X a (TI T A X.K (ev T cf d a')))(hb:PE X b (TI T A X.K (ev T cf d b')))(hs:Z0 b=true):PE X (.Subscript a b p) (TI T A X.K (ev T cf (d+1) (.ix a' b'))):=by
 refine Q0 (Qor (ix_seq.or (QjE hu)) ha hb (QcS hs)) ?_;rintro Y H Q ⟨α,Z,hs,u,hs',rs,R,e,q⟩;simp only[ev]at e;obtain⟨u1,h1,e1,e⟩:=Qe e;obtain⟨u2,h2,e2,e⟩:=Qe e;simp only[Xd]at e;obtain⟨x,e3,e⟩:=e;cases e;refine TI.run rs R e1 λα1 x H1 E1 R1 r1 rs1=>?_;refine TI.run rs1 R1 e2 λα2 y H2 E2 R2 r2 rs2=>?_;exact Qiz tx e3 (r1.mono E2.pre) r2 R2 λz rz=>q α2 z H2 (E1.trans E2 R2.h) R2 rz
end
end
section
section
variable {X:Cx}{T:Tbl}{A:Adr}{C:Ctx}{cf:Cf}{m k:Nat}
def Qk9{α:List Addr}{us:List U}{vs:List V}{hs hs':Hs}{H:Hp}{u:U}{f:Nat}{Q:VK}{E:XK}(F:Fc X T A cf k)(r:RUs A α us vs)(R:Rep T A X.K α hs H)(e:cf f us hs=some (u,hs'))
  (q:∀α' v H',Ext α α' H H'->Rep T A X.K α' hs' H'->RU A α' u v->Q v H'):spC T A X.K cf f vs H Q E:=⟨α,us,hs,u,hs',r,R,e,F.some f us hs _ e,q⟩
def QhC{x:Str}{args:List Expr}{p pos:Pos}{i d:Nat}{es:List E}(g:GX T A C X)(F:Fc X T A cf k)(hr:Room k X.A)(S:Snd T A C X cf m)(hg:ZK C x=true)(hn:x≠"__debug__")(hx:C.gl.lookup x=some (.fn i))(ha:compA m C args=some es):
  PE X (.Call (.Name x p) args [] pos) (TI T A X.K (ev T cf (d+1) (.call i es))):=by
 cases hF:T.fns[i]? with
 |none=>
  refine QbQ ?_;rintro Y H Q ⟨α,Z,hs,u,hs',rs,R,e,q⟩;simp only[ev]at e;obtain⟨us,h1,e1,e⟩:=Qe e;obtain⟨F',h,_⟩:=F.some _ _ _ _ e;rw[hF]at h;cases h
 |some Fn=>
  obtain⟨fd,G,b,kp⟩:=F.ok i Fn hF;have pa:=S.a d args es ha
  have key:∀Y H Q,TI T A X.K (ev T cf (d+1) (.call i es)) Y H Q->Qiw (spC T A X.K cf i) [] E0 (TIA T A X.K (λZ hs=>evs (ev T cf d) Z es hs)) Y H Q:=by
   rintro Y H Q ⟨α,Z,hs,u,hs',rs,R,e,q⟩;simp only[ev]at e;obtain⟨us,h1,e1,e⟩:=Qe e;refine TIA.run rs R e1 λα1 vs H1 E1 R1 r1 rs1=>?_;rw[Vd];exact Qk9 F r1 R1 e λα2 v H2 E2 R2 r2=>q α2 v H2 (E1.trans E2 R2.h) R2 r2
  cases args with
  |nil=>
   have ee:es=[]:=by
    have:=Q9 ha;simpa using this
   subst ee;refine Q0 (Qgr G hr (QX g hg) (g.gfn x i hx) kp b .nil QlU (QQ hn)) λY H Q h=>?_;have h2:=key Y H Q h;obtain⟨α,Z,hs,us,hs',rs,R,e,q⟩:=h2;cases e;exact q α [] H Ext.refl R .nil
  |cons a r=>exact Q0 (Qjh G hr (QX g hg) (g.gfn x i hx) kp b .nil QlU pa (QQ hn) (Qt (Qw ha a (Xq ..))) (Zb λz hz=>Qw ha z (Xm _ hz))) key
def QiJ{x:Str}{args:List Expr}{p pos:Pos}{i d:Nat}{es:List E}{ir:E}(g:GX T A C X)(F:Fc X T A cf k)(hr:Room k X.A)(S:Snd T A C X cf m)(hg:ZK C x=true)(hn:x≠"__debug__")(hx:C.gl.lookup x=some (.fn i))(ha:compA m C args=some es)(h:Qnv C i es=some ir):
  PE X (.Call (.Name x p) args [] pos) (TI T A X.K (ev T cf (d+1) ir)):=by
 unfold Qnv at h;rw[g.CT]at h;split at h
 ·cases h;exact QhC g F hr S hg hn hx ha
 cases h
end
end
section
variable {es:List E}{args:List Expr}{d:Nat}{p pos:Pos}{x:Str}
section
variable {X:Cx}{T:Tbl}{A:Adr}{C:Ctx}{cf:Cf}{m:Nat}
theorem QbX{env:Env}{pos:Pos}:∀{es:List Expr},Qa6 es->(backTo pos (starEach es env)).all (λx=>!x.1)=true
 |[],_=>rfl
 |e::r,h=>by
  rw[Qt (h e (Xq ..))];have ih:=QbX (env:=env) (pos:=pos) (es:=r) λx hx=>h x (Xm _ hx);unfold backTo at ih ⊢;rw[Xu,Wy,ih];rfl
def QmG{env:Env}{e:Expr}{es:List Expr}(hn:Qa6 (e::es))(hl:(e::es).length<29):((backTo pos (starEach (e::es) env)).all (λx=>!x.1)&&(backToKw pos (keywordEach [] env)).all (λx=>x.1.isSome)
   && decide ((e::es).length+([]:List Keyword).length+(if([]:List Keyword).isEmpty then 0 else 1) < 30))=true:=by
 rw[QbX hn]
 have:(e::es).length+([]:List Keyword).length+(if([]:List Keyword).isEmpty then 0 else 1) < 30:=by
  simp only[W6,List.isEmpty_nil,We];omega
 rw[W5 this];rfl
def Y8{o:Expr}{q:Pos}{o':E}{b:Bm}{id ty:String}(S:Snd T A C X cf m)(B:BmS X T A b id)(pa:PlainAttrs ty)(slot:Slot ty x id)(hty:typeOf (.builtin id)=pure (.type "method_descriptor"))
  (ty:∀{u:U} {hs:Hs} {α:List Addr} {v:V} {H:Hp},Qdk b u hs=true->RU A α u v->Rep T A X.K α hs H->L2.tyV X.K ty v H) (h1:YT o=true) (h2:(p.endLine==q.line)=true) (h3:args.length<29)
  (ho:Qg m C o=some o') (ha:compA m C args=some es):PE X (.Call (.Attribute o x p) args [] q) (TI T A X.K (ev T cf (d+1) (.bm b o' es))):=by
 obtain⟨r,hm,hB⟩:=B;have hns:=Qw ha
 cases args with
 |nil=>
  have ee:es=[]:=by
   have:=Q9 ha;simpa using this
  subst ee;refine Q0 (QlS pa slot hty hm (S.e d o o' ho) (Yo h1) h2) ?_;rintro Y H Q ⟨α,Z,hs,u,hs',rs,R,e,q⟩;simp only[ev,evs]at e;obtain⟨u1,h1',e1,e⟩:=Qe e;split at e
  case isFalse=>cases e
  rename_i il;obtain⟨us,h2',e2,e⟩:=Qe e;cases e2;exact TI.run rs R e1 λα1 v H1 E1 R1 r1 rs1=>⟨ty il r1 R1,hB e r1 .nil R1 λα2 v2 H2 E2 R2 r2=>q α2 v2 H2 (E1.trans E2 R2.h) R2 r2⟩
 |cons a t=>
  refine Q0 (Qos pa slot hty hm (S.e d o o' ho) (S.a d (a::t) es ha) (Yo h1) (QmG hns h3) h2 (Qt (hns a (Xq ..))) (Zb λz hz=>hns z (Xm _ hz))) ?_;rintro Y H Q ⟨α,Z,hs,u,hs',rs,R,e,q⟩;simp only[ev]at e;obtain⟨u1,h1',e1,e⟩:=Qe e;split at e
  case isFalse=>cases e
  rename_i il;obtain⟨us,h2',e2,e⟩:=Qe e;exact TI.run rs R e1 λα1 v H1 E1 R1 r1 rs1=>⟨ty il r1 R1,TIA.run rs1 R1 e2 λα2 vs H2 E2 R2 r2 rs2=>hB e (r1.mono E2.pre) r2 R2 λα3 v2 H3 E3 R3 r3=>q α3 v2 H3 ((E1.trans E2 R2.h).trans E3 R3.h) R3 r3⟩
noncomputable def kdB:Bm->String
 |.setdef=>"dict"
 |.get=>"dict"
 |.update=>"dict"
 |.join=>"str"
 |.split=>"str"
 |.find=>"str"
 |.index=>"str"
 |_=>"list"
def Qay{b:Bm}{u:U}{hs:Hs}{α:List Addr}{v:V}{H:Hp}(e:Qdk b u hs=true)(r:RU A α u v)(R:Rep T A X.K α hs H):L2.tyV X.K (kdB b) v H:=by
 cases u with
 |ref n=>
  obtain⟨a,ha,rfl⟩:=r;simp only[Qdk]at e;split at e
  ·rename_i xs eo;obtain⟨vs,q,_⟩:=R.h.ob n a _ ha eo
   have:kdB b="list":=by cases b<;>first|rfl|cases e
   rw[this];exact .inl ⟨rfl,vs,SqL.of q⟩
  ·rename_i kvs eo;obtain⟨kv,q,_⟩:=R.h.ob n a _ ha eo
   have:kdB b="dict":=by cases b<;>first|rfl|cases e
   rw[this];exact .inr (.inr (.inl ⟨rfl,.inl ⟨kv,q⟩⟩))
  ·cases e
 |str x=>
  cases(show v=_ from r)
  have:kdB b="str":=by cases b<;>first|rfl|cases e
  exact this
 |_=>cases e
def Qq2{o:Expr}{q:Pos}{o':E}{b:Bm}(hu:X.A.units+1<cLine)(tx:Txt T A X.K X.mg)(S:Snd T A C X cf m)(hb:QnB x=some b)(h1:YT o=true)(h2:(p.endLine==q.line)=true)(h3:args.length<29)
  (ho:Qg m C o=some o') (ha:compA m C args=some es):PE X (.Call (.Attribute o x p) args [] q) (TI T A X.K (ev T cf (d+1) (.bm b o' es))):=by
 unfold QnB at hb;split at hb
 ·rename_i e;subst e;cases hb;exact Y8 S Qdh PySem.F.plainAttrs_list PySem.F.slot_list_append PySem.F.type_list_append (λe r R=>Qay e r R) h1 h2 h3 ho ha
 split at hb
 ·rename_i e;subst e;cases hb;exact Y8 S Qdf Tl PySem.F.slot_dict_setdefault PySem.F.type_dict_setdefault (λe r R=>Qay e r R) h1 h2 h3 ho ha
 split at hb
 ·rename_i e;subst e;cases hb;exact Y8 S Qdg PySem.F.plainAttrs_list PySem.F.slot_list_extend PySem.F.type_list_extend (λe r R=>Qay e r R) h1 h2 h3 ho ha
 unfold Qm1 at hb;split at hb
 ·rename_i e;subst e;cases hb;exact Y8 S (Qkc hu) Tl T3 PySem.F.type_dict_get (λe r R=>Qay e r R) h1 h2 h3 ho ha
 split at hb
 ·rename_i e;subst e;cases hb;exact Y8 S Qde Tl PySem.F.slot_dict_update PySem.F.type_dict_update (λe r R=>Qay e r R) h1 h2 h3 ho ha
 ·cases hb
def ZP{args:List Expr}{b:Bi}{fv:Value}{r:List V->Hp->VK->Prop}{e0:Expr}(hB:∀{α:List Addr} {us:List U} {u':U} {hs hs':Hs} {vs:List V} {H:Hp} {Q:VK},biU T b us hs=some (u',hs')->RUs A α us vs->Rep T A X.K α hs H ->
   (∀α' v' H',Ext α α' H H'->Rep T A X.K α' hs' H'->RU A α' u' v'->Q v' H')->r vs H Q)
  (h:PE X e0 (tCB r (TIA T A X.K (λZ hs=>evs (ev T cf d) Z es hs)))):PE X e0 (TI T A X.K (ev T cf (d+1) (.bi b es))):=by
 refine Q0 h ?_;rintro Y H Q ⟨α,Z,hs,u,hs',rs,R,e,q⟩;simp only[ev]at e;obtain⟨us,h1,e1,e⟩:=Qe e;exact TIA.run rs R e1 λα1 vs H1 E1 R1 r1 rs1=>hB e r1 R1 λα2 v2 H2 E2 R2 r2=>q α2 v2 H2 (E1.trans E2 R2.h) R2 r2
def Qkd{b:Bi}{hs:Hs}:biU T b [] hs=none:=by cases b<;>rfl
def Qq3{b:Bi}(g:GX T A C X)(hh:hdC C=false)(hu:X.A.units+2<cLine)(S:Snd T A C X cf m)(hg:ZK C x=true)(hn:x≠"__debug__")(hn2:x≠"__name__")(hx:QnD C x=some b)(ha:compA m C args=some es):
  PE X (.Call (.Name x p) args [] pos) (TI T A X.K (ev T cf (d+1) (.bi b es))):=by
 have hns:=Qw ha
 cases args with
 |nil=>
  refine QbQ ?_;rintro Y H Q ⟨α,Z,hs,u,hs',rs,R,e,q⟩
  have ee:es=[]:=by
   have:=Q9 ha;simpa using this
  subst ee;simp[ev,evs,bd,Qkd]at e
 |cons a t=>
  unfold QnD at hx;split at hx
  ·cases hx
  split at hx
  ·cases hx
  rename_i hl;have hm:X.mg x=none:=g.blt x hl;have pa:=S.a d (a::t) es ha;have st:=Qt (env:=X.env) (es:=t) (hns a (Xq ..));have sa:=Zb (env:=X.env) (pos:=pos) (es:=t) λz hz=>hns z (Xm _ hz);split at hx
  ·rename_i e;subst e;cases hx;obtain⟨r,hc,hB⟩:=Qkf (X:=X) (A:=A) g.txt
   exact ZP (fv:=.builtin "len") (args:=[]) hB (ZZ hc (QX g hg) hm (by decide +kernel) pa hn2 (QQ hn) st sa)
  split at hx
  ·rename_i e;subst e;cases hx;obtain⟨r,hc,hB⟩:=Qfz (X:=X) (A:=A) (T:=T)
   exact ZP (fv:=.none) (args:=[]) hB (YS hc (QX g hg) hm (by decide +kernel) pa hn2 (QQ hn) st sa)
  split at hx
  ·rename_i e;subst e;cases hx;obtain⟨r,hc,hB⟩:=Qhc (X:=X) (A:=A) g.txt (g.calm hh)
   exact ZP (fv:=.none) (args:=[]) hB (YS hc (QX g hg) hm (by decide +kernel) pa hn2 (QQ hn) st sa)
  split at hx
  ·rename_i e;subst e;cases hx;obtain⟨r,hc,hB⟩:=Qkg (X:=X) (A:=A) g.txt (g.calm hh)
   exact ZP (fv:=.builtin "all") (args:=[]) hB (ZZ hc (QX g hg) hm (by decide +kernel) pa hn2 (QQ hn) st sa)
  split at hx
  ·rename_i e;subst e;cases hx;obtain⟨r,hc,hB⟩:=Qke (X:=X) (A:=A) g.txt (g.calm hh)
   exact ZP (fv:=.builtin "max") (args:=[]) hB (ZZ hc (QX g hg) hm (by decide +kernel) pa hn2 (QQ hn) st sa)
  unfold Qm2 at hx;split at hx
  ·rename_i e;subst e;cases hx;obtain⟨r,hc,hB⟩:=Qdi (X:=X) (A:=A) g.txt
   exact ZP (fv:=.builtin "sorted") (args:=[]) hB (ZZ hc (QX g hg) hm (by decide +kernel) pa hn2 (QQ hn) st sa)
  split at hx
  ·rename_i e;subst e;split at hx
   ·cases hx
   cases hx;obtain⟨r,hc,hB⟩:=Qhd (X:=X) (A:=A) (T:=T) hu (g.calm hh)
   exact ZP (fv:=.none) (args:=[]) hB (YS hc (QX g hg) hm (by decide +kernel) pa hn2 (QQ hn) st sa)
  ·cases hx
def Qq1{t:Str}{ty:Ty}(g:GX T A C X)(hg:ZK C t=true)(hn:t≠"__debug__")(hn2:t≠"__name__")(h:QkW C t=some ty): ∃v,PE X (.Name t p) (tC v)/\Qpl v=some (tyW A ty):= by
 unfold QkW at h;split at h
 ·rename_i i e;cases h;exact⟨.ref (A.c i),Qbp (QX g hg) (g.gcl t i e) rfl (QQ hn),rfl⟩
 ·cases h
 ·split at h
  ·cases h
  rename_i e;have hm:X.mg t=none:=g.blt t e;have fin:∀n:String,bootBuiltins t=some (.type n)->PE X (.Name t p) (tC (.ty n)):=λn hb=>Qji (QX g hg) hm hb rfl hn2 (QQ hn);split at h
  ·rename_i e;subst e;cases h;exact⟨_,fin "int" (by decide +kernel),rfl⟩
  split at h
  ·rename_i e;subst e;cases h;exact⟨_,fin "str" (by decide +kernel),rfl⟩
  split at h
  ·rename_i e;subst e;cases h;exact⟨_,fin "bool" (by decide +kernel),rfl⟩
  split at h
  ·rename_i e;subst e;cases h;exact⟨_,fin "list" (by decide +kernel),rfl⟩
  split at h
  ·rename_i e;subst e;cases h;exact⟨_,fin "tuple" (by decide +kernel),rfl⟩
  split at h
  ·rename_i e;subst e;cases h;exact⟨_,fin "dict" (by decide +kernel),rfl⟩
  split at h
  ·rename_i e;subst e;cases h;exact⟨_,fin "ValueError" (by decide +kernel),rfl⟩
  ·cases h
def Qob{a:Expr}{t:Str}{ty:Ty}{a':E}{p1:Pos}(g:GX T A C X)(S:Snd T A C X cf m)(hi:ZK C "isinstance"=true)(hl:¬C.bl.contains ("isinstance":Str)=false)(hg:ZK C t=true)(hn:t≠"__debug__")(hn2:t≠"__name__")(h:QkW C t=some ty)(ha:Qg m C a=some a'):
  PE X (.Call (.Name "isinstance" p) [a,.Name t p1] [] pos) (TI T A X.K (ev T cf (d+1) (.isi a' ty))):=by
 obtain⟨v,hv,hc⟩:=Qq1 (p:=p1) g hg hn hn2 h;have s1:starEach [a,.Name t p1] X.env=(false,eval a X.env)::starEach [.Name t p1] X.env:=Qt (QJ ha)
 refine Q0 (ZZ Qg7 (QX g hi) (g.blt _ hl) (by decide +kernel) (JR (S.e d a a' ha) (JR hv Qef) s1) (by decide) (by decide) s1 rfl) ?_
 rintro Y H Q ⟨α,Z,hs,u,hs',rs,R,e,q⟩;simp only[ev]at e;obtain⟨u1,h1,e1,e⟩:=Qe e;simp only[Xd]at e;obtain⟨b,e2,e⟩:=e;cases e;refine TI.run rs R e1 λα1 x H1 E1 R1 r1 rs1=>?_;obtain⟨tv,h1,h2⟩:=Qmy g.txt e2 r1 R1;exact⟨x,v,_,tv,b,rfl,hc,h1,h2,q α1 _ H1 E1 R1 rfl⟩
end
end
end Iv
namespace L2
open PySem PySem.Spec PyProof.Rows
section
open Sem (wp)
end
section
section
variable {X:Cx}{pins:List (Addr×Obj)}{Y:St}{H:Hp}{s:Shared}{h':Heap}
def Inv.turnedLay{t':Nat}{ch:List Addr}{p:Addr}{vs:List V}{its:List Value}(I:Inv X pins Y H s)(hf:∀b∈ch,QcE X pins H b)(k:∀b o,b∉ch->s.heap.get? b=some o->h'.get? b=some o)
  (there:∀b o,b∈ch->s.heap.get? b=some o->∃o',h'.get? b=some o')
  (hp:s.heap.objs.size<=p) (hv:Vals vs its) (ht:IsTup h' p its.toArray) (hz:vs.length<=sizeLine):Inv X pins Y (upd H p (.tup vs)) {s with heap:=h',toks:=t'}:=by
 have hn:H p=none:=I.hok.fresh hp
 have ne:∀b o,s.heap.get? b=some o->b≠p:=λb o e z=>by
  have:=Xk e;rw[z]at this;exact absurd (Xr this hp) (Wx _)
 have nch:∀b u,H b=some u->b∉ch:=λb u e z=>by rw[(hf b z).1]at e;cases e
 have up:∀b u,H b=some u->upd H p (.tup vs) b=some u:=λb u e=>by rw[Qf (QW e hn)];exact e
 refine I.step (g':=s.gens) (d':=s.drawn) (ch:=ch) (λb hb=>?_) (λb o y y hc e y=>k b o hc e) (λb o y y hc e y=>⟨o.slots,k b o hc e⟩) (λb o y e n=>by rw[Qf (ne b o e)];exact n)
  (λb o hc e=>⟨o,k b o hc e⟩) (λb xs e=>up b _ e) (λb o u e=>up b _ e) (λb ps e=>⟨#[],by rw[up b _ e];simp⟩) (λm hm=>?_) (λb u e=>?_) I.bare
 ·obtain⟨_,f1,_,f3,f4,f5⟩:=hf b hb;exact⟨f3,f1,f4,f5⟩
 ·obtain⟨o,es,ep,ho,r⟩:=hm;refine⟨o,es,ep,k _ o (λz=>(hf _ z).2.1 rfl) ho,r⟩
 ·by_cases hb:b=p
  ·subst hb;rw[Qi]at e;cases e;exact⟨hz,its,hv,ht⟩
  ·rw[Qf hb]at e;refine(I.hok b u e).stay (λc v hc q=>k c v ?_ q) (λc q=>up c _ q) λc xs q=>up c _ q
   rcases hc with z|z
   ·rw[z];exact nch b u e
   ·exact nch c _ z
def Inv.turnedL{t':Nat}{ch:List Addr}(I:Inv X pins Y H s)(hf:∀b∈ch,QcE X pins H b)(k:∀b o,b∉ch->s.heap.get? b=some o->h'.get? b=some o):Inv X pins Y H {s with heap:=h',toks:=t'}:=by
 have nch:∀b u,H b=some u->b∉ch:=λb u e z=>by rw[(hf b z).1]at e;cases e
 refine I.step (g':=s.gens) (d':=s.drawn) (ch:=ch) (λb hb=>?_) (λb o y y hc e y=>k b o hc e) (λb o y y hc e y=>⟨o.slots,k b o hc e⟩) (λb o y e n=>n)
  (λb o hc e=>⟨o,k b o hc e⟩) (λb xs e=>e) (λb o u e=>e) (λb ps e=>⟨#[],by rw[e];simp⟩) (λm hm=>?_) (λb u e=>?_) I.bare
 ·obtain⟨_,f1,_,f3,f4,f5⟩:=hf b hb;exact⟨f3,f1,f4,f5⟩
 ·obtain⟨o,es,ep,ho,r⟩:=hm;exact⟨o,es,ep,k _ o (λz=>(hf _ z).2.1 rfl) ho,r⟩
 ·refine(I.hok b u e).stay (λc v hc q=>k c v ?_ q) (λc q=>q) λc xs q=>q
  rcases hc with z|z
  ·rw[z];exact nch b u e
  ·exact nch c _ z
end
noncomputable abbrev Qmx(b:Bool)(l:Addr):Obj:={cls:=.type (if b then "list_iterator" else "tuple_iterator"),data:=.fields #[.ref l,.int 0 0]}
noncomputable abbrev zH1(b:Bool)(h:Heap)(l1:Addr):Heap:=h.push (Qmx b l1)
noncomputable abbrev zH2(b b':Bool)(h:Heap)(l1 l2:Addr):Heap:=(zH1 b h l1).push (Qmx b' l2)
noncomputable abbrev zH3(b b':Bool)(h:Heap)(l1 l2:Addr):Heap:=(zH2 b b' h l1 l2).push {cls:=.type "tuple",data:=.seq #[.ref h.objs.size,.ref (zH1 b h l1).objs.size]}
noncomputable abbrev zH4(b b':Bool)(h:Heap)(l1 l2:Addr):Heap:=(zH3 b b' h l1 l2).push {cls:=.type "tuple",data:=.seq #[.none,.none]}
noncomputable abbrev zH5(b b':Bool)(h:Heap)(l1 l2:Addr):Heap:=(zH4 b b' h l1 l2).push {cls:=.type "zip",data:=.fields #[.none,.bool false,.bool false,.ref (zH2 b b' h l1 l2).objs.size,.ref (zH3 b b' h l1 l2).objs.size]}
end
section
noncomputable def Ite(K:W.Frag)(a:Addr):It :=
 ⟨λi H=>∃xs x,SqL K H a xs/\xs[i]?=some x,
   λi H x H'=>∃p v,H p=none/\x=.ref p/\H'=upd H p (.tup [.int i,v])/\∀xs,SqL K H a xs->xs[i]?=some v,
   λi H=>∃xs,SqL K H a xs/\xs.length<=i⟩
def QdE{P:Program}{w:World}{K:W.Frag}{elts:List Expr}{kt:Nat}{pt:Pos}(a e it:Addr)(hne:e≠it):
  Turn P w K (.Tuple elts kt pt) (Ite K a) [e,it] e (λi h=>(∃old,IsEnum h e it (i:Nat) old)/\h.IsListIter it a i) where
 mem:=by simp
 obj:=λi h st c hc=>by
  obtain⟨⟨old,he⟩,o,hi,_,hd⟩:=st
  have hc':c=e\/c=it:=by simpa using hc
  rcases hc' with rfl|rfl
  ·exact⟨_,he,λv q=>nomatch q⟩
  ·exact⟨o,hi,λv q=>by rw[hd]at q;cases q⟩
 keep:=λi h h' st k=>by
  obtain⟨⟨old,he⟩,hi⟩:=st
  exact⟨⟨old,k e (by simp) _ he⟩,hi.at λo q=>k it (by simp) o q⟩
 item:=by
  intro X hP hw hK hc i pins s Y H E I hf st hg;subst hP hw hK;obtain⟨⟨old,he⟩,hi⟩:=st;obtain⟨xs,x,q1,ex⟩:=hg;obtain⟨its,r1,pl,_⟩:=I.list q1;obtain⟨u,hu,ru⟩:=r1.get ex;have lte:e<s.heap.objs.size:=Xk he
  have lti:it<s.heap.objs.size:=by obtain⟨o,q,_⟩:=hi;exact Xk q
  refine wpAny_pyNext_enum_item he hi pl.isList (x:=u) (by simpa using hu) hne λh' b1 b2 b3 b4 b5=>?_
  refine⟨_,rfl,?_⟩;refine wpAny_letOwnedTupleGo_enum (s:={s with heap:=h',toks:=s.toks+1}) b1 λh2 c1 c2=>?_;have up:∀c o,c≠e->h'.get? c=some o->h2.get? c=some o:=λc o hc q=>c2.extBut _ _ hc q
  have kp:∀c o,c∉[e,it]->s.heap.get? c=some o->h2.get? c=some o:=λc o hc q=>by
   have hc':¬(c=e\/c=it):=by simpa using hc
   exact up c o (λz=>hc' (.inl z)) (b5 c o (λz=>hc' (.inl z)) (λz=>hc' (.inr z)) q)
  have hT:h2.get? s.heap.objs.size=some {cls:=.type "tuple",data:=.seq #[.int i s.toks,u]}:=up _ _ (Nat.ne_of_gt lte) b3;have hi2:h2.IsListIter it a (i+1):=b2.at λo q=>up it o hne.symm q
  have I2:Inv X pins Y (upd H s.heap.objs.size (.tup [.int i,x])) {s with heap:=h2,toks:=s.toks+1}:=I.turnedLay (t':=s.toks+1) (its:=[.int i s.toks,u]) hf kp (λc o hc q=>by
   have hc':c=e\/c=it:=by simpa using hc
   rcases hc' with rfl|rfl
   ·exact⟨_,c1⟩
   ·obtain⟨o2,q2,_⟩:=hi2;exact⟨o2,q2⟩) (Xi _) (.cons ⟨_,rfl⟩ (.cons ru .nil)) ⟨_,hT,rfl,_,rfl⟩ (by show 2<=sizeLine;decide)
  have hn:H s.heap.objs.size=none:=I.hok.fresh (Xi _)
  have cast:((i+1:Nat):Int)=(i:Int)+1:=by push_cast;rfl
  refine⟨.ref s.heap.objs.size,_,I2,rfl,⟨_,x,hn,rfl,rfl,λws hw=>by rw[I.list_inj hw q1];exact ex⟩,⟨⟨_,by rw[cast];exact c1⟩,hi2⟩,λc hc=>?_⟩
  have hc':c=e\/c=it:=by simpa using hc
  have ne:c≠s.heap.objs.size:=by
   rcases hc' with rfl|rfl
   ·exact Xo lte
   ·exact Xo lti
  rw[Qf ne];exact(hf c hc).1
 done:=by
  intro X hP hw hK hc i pins s Y H E I hf st hg;subst hP hw hK;obtain⟨⟨old,he⟩,hi⟩:=st;obtain⟨xs,q1,hl⟩:=hg;obtain⟨its,r1,pl,_⟩:=I.list q1;have e1:=r1.length
  refine wpAny_pyNext_enum_end (I.ok.hd hc) he hi pl.isList (by simp;omega) λh' kp=>⟨rfl,I.turnedL (t':=s.toks) (ch:=[e,it]) hf λc o hc q=>?_⟩
  have hc':¬(c=e\/c=it):=by simpa using hc
  exact kp c o (λz=>hc' (.inr z)) q
 self:=λA i s Q E st h=>by
  obtain⟨⟨old,he⟩,_⟩:=st;exact wpAny_pyIter_enum he h
section
variable {X:Cx}
def QoZ(K:W.Frag)(tl:TE):TI:=λY H R=>tl Y H λx H1=>∃a xs,x=.ref a/\SqL K H1 a xs/\R (Ite K a) H1
def Qjc{e:Expr}{te:TE}{elts:List Expr}{kt:Nat}{pt p pos:Pos}(hg:Gl X "enumerate")(hm:X.mg "enumerate"=none)(he:PE X e te)(hs:starEach [e] X.env=[(false,eval e X.env)]):
  PI X (.Tuple elts kt pt) (.Call (.Name "enumerate" p) [e] [] pos) (QoZ X.K te):=by
 intro pins s Y H R I h;refine Call_ (ZE I hg hm PyProof.Rows.boot_enumerate (Wu (e:=e) (rest:=[]) ?_ hs rfl));rw[hs];show wpAny _ _ (spliced ((false,eval e X.env)::backTo pos (starEach [] X.env))) _ _ s;refine V6 (thn (he pins s Y H _ I h) λu s1 z=>?_);obtain⟨x,H1,I1,rx,q1⟩:=z;refine Ua ?_;obtain⟨a,xs,ev,hq,q⟩:=q1;subst ev;cases rx;obtain⟨its,rv,pl,hz⟩:=I1.list hq;refine call_enumerate_list pl.isList λh' b1 b2 b3 b4=>?_;refine wpAny_pyIter_enum b1 ?_;have I2:Inv X pins Y H1 {s1 with heap:=h'}:=I1.kept (t':=s1.toks) b4;refine⟨_,[s1.heap.objs.size+1,s1.heap.objs.size],_,_,H1,rfl,I2,QdE a _ _ (Nat.succ_ne_self _),⟨⟨_,b1⟩,b2⟩,λc hc=>?_,q⟩
 have hc':c=s1.heap.objs.size+1\/c=s1.heap.objs.size:=by simpa using hc
 have le:s1.heap.objs.size<=c:=by rcases hc' with rfl|rfl<;>omega
 exact I1.fpOk le (I1.hok.fresh le)
end
end
section
variable {elt iter tg:Expr}{n:Nat}{tl:Option Expr}{pos:Pos}{y:Str}{te:TE}{g:TG}{tt:TT}
noncomputable def Cx.block(X:Cx)(xs:List Str)(scope:Scope)(C:Addr)(s:Shared)(H:Hp)(fp:List Addr):Cx :=
 {X with N:=hideN xs X.N++xs,s₀:=s,H₀:=H,env:=compEnvC scope (Qda X.env.cells scope.names []) C X.env,outer:=X.stack,ex:=fp,fn:=λz=>false,pn:=[],xe:=λz z=>False}
structure CompOk(X:Cx)(xs:List Str)(scope:Scope):Prop where
 kind:scope.kind=.function
 loc:∀x∈xs,scope.names.lookup x=some .local
 all:∀y∈scope.names,(y.2=.local->(y.1∈xs\/y.1=".0")/\scope.names.lookup y.1=some .local)/\y.2≠.cell/\(y.2=.free->X.env.scope.names.lookup y.1=some .cell\/X.env.scope.names.lookup y.1=some .free)
 hid:∀x∈xs,scope.names.lookup (mang x)=none
 nd:xs.Nodup
 dot:(".0":Str)∉X.N
section
variable {X:Cx}{xs:List Str}{scope:Scope}{pins:List (Addr×Obj)}{Y:St}{H:Hp}{s:Shared}{fp:List Addr}
def CompOk.free_of(k:CompOk X xs scope)(hk:X.env.scope.kind=.function)(h:(relabel scope X.env).names.lookup y=some .cell\/(relabel scope X.env).names.lookup y=some .free):(y,NameKind.free)∈scope.names:=by
 rw[QO hk,Zx]at h
 cases q:scope.names.lookup y with
 |none=>rw[q]at h;simp at h
 |some kd=>
  rw[q]at h;have m:=Yh q
  cases kd with
  |free=>exact m
  |cell=>exact absurd rfl (k.all _ m).2.1
  |_=>simp at h
def CompOk.local_of(k:CompOk X xs scope)(hk:X.env.scope.kind=.function)(h:(relabel scope X.env).names.lookup y=some .local): y∈xs\/y=".0":=by
 rw[QO hk,Zx]at h
 cases q:scope.names.lookup y with
 |none=>rw[q]at h;simp at h
 |some kd=>
  rw[q]at h;have m:=Yh q
  cases kd with
  | «local»=>exact((k.all _ m).1 rfl).1
  |free=>
   simp only[Wp]at h;split at h<;>cases h
  |_=>simp at h
def Q5{cells:List (Str×Addr)}{l:List (Str×NameKind)}{c:Addr}(e:(Qda cells l []).lookup y=some c):cells.lookup y=some c:=by
 rcases QaU e with z|z
 ·simp at z
 ·exact z
def Qjj{Y:St}{i:Nat}{v:V}(e:(Y++List.replicate n none)[i]?=some (some v)):Y[i]?=some (some v):=by
 by_cases h:i < Y.length
 ·rw[Xp h]at e;exact e
 ·rw[X7 (by omega),Tj]at e
  split at e<;>cases e
theorem Inv.block{h₁:Heap}{m:Str->Option Value}{tk:Nat}(I:Inv X pins Y H s)(k:CompOk X xs scope)(hf:∀b∈fp,QcE X pins H b)(hfs:∀b∈fp,b<s.heap.objs.size)
  (hn:h₁.Ns s.heap.objs.size m) (kp:∀b o,s.heap.get? b=some o->h₁.get? b=some o):Inv (X.block xs scope s.heap.objs.size s H fp) [] (Y++List.replicate xs.length none) H {s with heap:=h₁,toks:=tk}:=by
 have hk:X.env.scope.kind=.function:=I.ok.kind
 have fsub:∀b∈fp,b∉frs X.stack:=λb hb z=>by
  rcases X5.mp (I.stkSub b z)with e|e
  ·exact(hf b hb).2.1 e
  ·exact(hf b hb).2.2.1 e
 have okB:(X.block xs scope s.heap.objs.size s H fp).Ok:={
  mod:=I.ok.mod
  kind:=k.kind
  glob:=I.ok.glob
  blt:=I.ok.blt
  above:=Xi _
  inj:=λy z c e1 e2=>I.ok.inj y z c (Q5 e1) (Q5 e2)
  has:=λy h=>by
   have m:=k.free_of hk h;obtain⟨c,hc⟩:=I.ok.has y ((k.all _ m).2.2 rfl);exact⟨c,Qah hc (.inl m)⟩
  cab:=λy c h=>nomatch h
  hd:=I.ok.hd
  frames:=I.ok.frames
  stk:=.inl rfl
  exf:=λb hb=>⟨Xo (hfs b hb),λy c e=>(hf b hb).2.2.2.2.1 y c (Q5 e)⟩
  bs:=I.bs
  bsz:=Wf I.ok.bsz I.sz
  noex:=λb o e hb=>by
   rcases (hf b hb).2.2.2.1 with z|z
   ·exact I.ok.noex b o e z
   ·exact absurd (Xr (Xk e) (Wf I.ok.bsz z)) (Wx _)
  exfs:=λb hb z=>fsub b hb z
  funs:=I.stack
  frf:=λb hb=>I.stkFree b hb}
 refine⟨okB,rfl,I.bare,Un.kept kp,⟨m,hn,λi y v e1 e2 e3=>?_⟩,λy c e=>?_,I.hok.fresh (Xi _),λy c e=>I.freeC y c (Q5 e),(λp hp=>by cases hp),I.hok.kept kp,?_⟩
 ·have e1:(hideN xs X.N++xs)[i]?=some y:=e1;have e3:Vis (relabel scope X.env) y:=e3;have q2:Y[i]?=some (some v):=Qjj e2
  have q0:(hideN xs X.N)[i]?=some y:=by
   have:=(Xc.mp q2).1;rw[I.len,<-Z3 (xs:=xs)]at this;rw[Xp this]at e1;exact e1
  obtain⟨z,q1,⟨zm,rfl⟩|⟨zn,rfl⟩⟩:=QgM q0
  ·have no:=k.hid z zm
   have no':(relabel scope X.env).names.lookup (mang z)=none:=by rw[QO hk,Zx,no];rfl
   rcases e3 with w|w|w<;>(rw[no']at w;cases w)
  have ym:y∈X.N:=Xv q1
  have hcf:(relabel scope X.env).names.lookup y=some .cell\/(relabel scope X.env).names.lookup y=some .free:=by
   rcases e3 with z|z
   ·rcases k.local_of hk z with q|q
    ·exact absurd q zn
    ·exact absurd (q▸ym) k.dot
   ·exact z
  have m':=k.free_of hk hcf;have xk:=(k.all _ m').2.2 rfl;obtain⟨mm,hnn,hl⟩:=I.loc;obtain⟨u,r,l⟩:=hl i y v q1 q2 (.inr xk);refine⟨u,r,.inr ⟨hcf,?_⟩⟩
  rcases l with⟨l,_⟩|⟨_,c,e,o,ho,hd⟩
  ·have l:X.env.scope.names.lookup y=some .local:=l
   rcases xk with z|z<;>(rw[l]at z;cases z)
  ·exact⟨c,Qah e (.inl m'),o,kp c o ho,hd⟩
 ·obtain⟨v,o,ho,hd⟩:=I.cell y c (Q5 e);exact⟨v,o,kp c o ho,hd⟩
 ·show(Y++List.replicate xs.length none).length=(hideN xs X.N++xs).length;simp[I.len,Z3]
def PTO(X:Cx)(tl:Option Expr)(tt:TT):Prop:=match tl with
 |none=>∀Y H Q,tt Y H Q->Q true H
 |some c=>PT X c tt
def QdL(wi:TI)(n:Nat)(g:TG)(tt:TT)(te:TE):TE:=λY H Q=>wi Y H λJ H1=>∀D,H1 D=none->∃W:Nat->Nat->List V->Hp->Prop,(∃m,W 0 m [] (upd H1 D (.lst [])))/\∀i m ys H2,W i m ys H2->H2 D=some (.lst ys) /\
 ((J.stop i H2/\Q (.ref D) H2)\/(J.go i H2/\ys.length<sizeLine/\∀x H3 os,os.length=n->J.yld i H2 x H3->g x (Y++os) H3 λY' H4=>(∃os',os'.length=n/\Y'=Y++os')/\tt Y' H4 λb H5=>if b=true then te Y' H5 λy H6=>H6 D=some (.lst ys)/\∃m',m'<m/\W (i+1) m' (ys++[y]) (upd H6 D (.lst (ys++[y])))else ∃m',m'<m/\W (i+1) m' ys H5))
def JD{Q:VK}{it:Addr}{tn:Nat->Heap->Prop}{J:It}{E:Value->Shared->Prop}{RR:Value->Addr->Result->Shared->Prop}(hc:X.calm=true)(k:CompOk X xs scope)
  (hn:xs.length=n) (hg:∀C s H fp,PG (X.block xs scope C s H fp) tg g) (ht:∀C s H fp,PTO (X.block xs scope C s H fp) tl tt) (he:∀C s H fp,PE (X.block xs scope C s H fp) elt te)
  (I2:Inv X pins Y H s) (T:Turn X.prog X.w X.K tg J fp it tn) (st2:tn 0 s.heap) (f2:∀b∈fp,QcE X pins H b)
  (q:∀D,H D=none->∃W:Nat->Nat->List V->Hp->Prop,(∃m,W 0 m [] (upd H D (.lst [])))/\∀i m ys H2,W i m ys H2->H2 D=some (.lst ys) /\
   ((J.stop i H2/\Q (.ref D) H2)\/(J.go i H2/\ys.length<sizeLine/\∀x H3 os,os.length=n->J.yld i H2 x H3->g x (Y++os) H3 λY' H4=>(∃os',os'.length=n/\Y'=Y++os')/\tt Y' H4 λb H5=>if b=true then te Y' H5 λy H6=>H6 D=some (.lst ys)/\∃m',m'<m/\W (i+1) m' (ys++[y]) (upd H6 D (.lst (ys++[y])))else ∃m',m'<m/\W (i+1) m' ys H5)))
  (hRR:∀D C s' H' m,Inv X pins Y H' s'->s'.heap.Ns C m->QcE X pins H' C->Q (.ref D) H'->RR (.ref D) C (.ok .next) s'):
  wpAny (model X.prog X.w) X.A (newList []) (λacc s₃=>wpAny (model X.prog X.w) X.A (newFunctionEnv scope X.env.globals (Qda X.env.cells scope.names []) [] X.env.qual none .none (some X.env)) (λcenv s₄=>
   codeAny (model X.prog X.w) X.A (.compStart (.ListComp elt [⟨tg,iter,tl.toList,0⟩] scope pos) 0 (.ref it) acc {cenv with scope:=relabel scope X.env}) (RR acc cenv.locals) s₄) E s₃) E s:=by
 have hk:X.env.scope.kind=.function:=I2.ok.kind
 refine Uv (wpAny_newFunctionEnv (λy hy=>(k.all y hy).2.1) (by intro y hy;simp at hy) (λh₁ hns₁ hsb₁=>?_) k.kind)
 dsimp only at hns₁ hsb₁ ⊢;have hD:H s.heap.objs.size=none:=I2.hok.fresh (Xi _);obtain⟨W,⟨m0,w0⟩,turn⟩:=q s.heap.objs.size hD
 have I3:Inv X pins Y (upd H s.heap.objs.size (.lst [])) {s with heap:=s.heap.push {cls:=.type "list",dict:=none,data:=.seq ([]:List Value).toArray} }:=
  I2.laid (t':=s.toks) (λb o e=>Xg _ e) (Xi _) (show ObjOk X.prog X.w _ _ _ (.lst [])from⟨Ww _,[],_,.nil,Xy _ rfl⟩)
 have lt2:∀b∈fp,b<s.heap.objs.size:=λb hb=>by
  obtain⟨o,e,_⟩:=T.obj 0 _ st2 b hb;exact Xk e
 have f3:∀b∈fp,QcE X pins (upd H s.heap.objs.size (.lst [])) b:=λb hb=>⟨by rw[Qf (Xo (lt2 b hb))];exact(f2 b hb).1,(f2 b hb).2⟩
 have lt3:∀b∈fp,b<(s.heap.push {cls:=.type "list",dict:=none,data:=.seq ([]:List Value).toArray}).objs.size:=λb hb=>by
  rw[Heap.size_push];exact Nat.lt_succ_of_lt (lt2 b hb)
 generalize hs3:({s with heap:=s.heap.push {cls:=.type "list",dict:=none,data:=.seq ([]:List Value).toArray} }:Shared)=s3 at I3
 have e3:s3.heap=s.heap.push {cls:=.type "list",dict:=none,data:=.seq ([]:List Value).toArray}:=by rw[<-hs3]
 rw[<-e3]at hns₁ hsb₁ lt3 ⊢;have kp:∀b o,s3.heap.get? b=some o->h₁.get? b=some o:=λb o e=>hsb₁.extBut b o (Xo (Xk e)) (Xg _ e);have IB:=I3.block (tk:=s.toks+([]:List (Str×Value)).length) k f3 lt3 hns₁ kp
 have es:({s3 with heap:=h₁,toks:=s.toks+([]:List (Str×Value)).length}:Shared)={s with heap:=h₁,toks:=s.toks+([]:List (Str×Value)).length}:=by rw[<-hs3]
 rw[es]at IB;generalize hX:X.block xs scope s3.heap.objs.size s3 (upd H s.heap.objs.size (.lst [])) fp=Yyy at IB;have HE:PE Yyy elt te:=hX▸he _ _ _ _;have HT:PTO Yyy tl tt:=hX▸ht _ _ _ _;have HG:PG Yyy tg g:=hX▸hg _ _ _ _
 have hP:Yyy.prog=X.prog:=by rw[<-hX];rfl
 have hw:Yyy.w=X.w:=by rw[<-hX];rfl
 have hK:Yyy.K=X.K:=by rw[<-hX];rfl
 have hA:Yyy.A=X.A:=by rw[<-hX];rfl
 have hcY:Yyy.calm=true:=by rw[<-hX];exact hc
 have hxe:Yyy.xe=λt t=>False:=by rw[<-hX];rfl
 have henv:Yyy.env=compEnvC scope (Qda X.env.cells scope.names []) s3.heap.objs.size X.env:=by rw[<-hX];rfl
 have fpY:∀{H':Hp},(∀b∈fp,H' b=none)->∀b∈fp,QcE Yyy [] H' b:=λhn b hb=>by
  have hb1:=(f2 b hb).2;rw[<-hX]
  refine⟨hn b hb,?_,λz=>?_,.inl hb,λy c e=>hb1.2.2.2.1 y c (Q5 e),(λp hp=>by cases hp)⟩
  ·exact Xo (lt3 b hb)
  ·rcases X5.mp (I3.stkSub b z)with e|e
   ·exact hb1.1 e
   ·exact hb1.2.1 e
 have back:∀{Y':St} {H':Hp} {s':Shared},Inv Yyy [] Y' H' s'->Inv X pins Y H' s'/\(∃m,s'.heap.Ns s3.heap.objs.size m)/\QcE X pins H' s3.heap.objs.size:=λ{Y' H' s'} J'=>by
  have u:=J'.base;have os:=J'.os;have hok:=J'.hok;have bare:=J'.bare;obtain⟨mm,hnn,_⟩:=J'.loc;have fr:=J'.free;rw[henv]at hnn fr;rw[<-hX]at u os hok;refine⟨I3.call' os u hok bare λb hb=>?_,⟨mm,hnn⟩,I3.fpOk (Xi _) fr⟩;exact⟨(f2 b hb).2.2.2.1,(f2 b hb).2.1,(f2 b hb).2.2.2.2.1,(f2 b hb).2.2.2.2.2⟩
 have loop:∀s₃:Shared,Inv Yyy [] (Y++List.replicate xs.length none) (upd H s.heap.objs.size (.lst [])) s₃->tn 0 s₃.heap ->
   codeAny (model X.prog X.w) X.A (.compLoop (.ListComp elt [⟨tg,iter,tl.toList,0⟩] scope pos) 0 (.ref it) (.ref s.heap.objs.size) Yyy.env) (RR (.ref s.heap.objs.size) s3.heap.objs.size) s₃:=by
  intro s₃ J3 t3
  refine QbK (λm s'=>∃i os H' ys,os.length=n/\Inv Yyy [] (Y++os) H' s'/\tn i s'.heap/\(∀b∈fp,H' b=none)/\W i m ys H') ?_ m0 ⟨0,_,_,[],by rw[List.length_replicate];exact hn,J3,t3,λb hb=>(f3 b hb).1,w0⟩
  rintro m s4 ⟨i,os,H4,ys,lo,J4,st4,fr4,w4⟩;obtain⟨hDl,tr⟩:=turn i m ys H4 w4
  rcases tr with⟨stop,qn⟩|⟨go,hz,step⟩
  ·have dn:=T.done Yyy hP hw hK hcY i [] s4 (Y++os) H4 (notedBy (model X.prog X.w) X.A Yyy.env λe s'=>RR (.ref s.heap.objs.size) s3.heap.objs.size (.error e) s') J4 (fpY fr4) st4 stop;rw[hA]at dn;refine thn dn λr s5 l=>?_;obtain⟨hr,J5⟩:=l;subst hr;obtain⟨I5,⟨m5,n5⟩,f5⟩:=back J5;exact hRR _ _ _ _ _ I5 n5 f5 qn
  ·have im:=T.item Yyy hP hw hK hcY i [] s4 (Y++os) H4 (notedBy (model X.prog X.w) X.A Yyy.env λe s'=>RR (.ref s.heap.objs.size) s3.heap.objs.size (.error e) s') J4 (fpY fr4) st4 go;rw[hA]at im;refine thn im λr s5 j=>?_;obtain⟨u,hr,h5⟩:=j;subst hr;refine thn h5 λt s6 f=>?_;obtain⟨v,H6,J6,rv,y6,st6,fr6⟩:=f;have J6':=J6.pinned (fpY fr6) (T.obj _ _ st6)
   have noE:∀{EE:Value->Shared->Prop},∀e s',Yyy.xe e s'->EE e s':=λ{EE} e s' z=>by rw[hxe]at z;exact z.elim
   have asg:=HG _ s6 (Y++os) H6 v u _ J6' rv (step v H6 os lo y6);rw[hP,hw,hA]at asg;refine X2 asg (λt s7 a=>?_) noE;obtain⟨σ7,H7,J7,⟨os',lo',e7⟩,q7⟩:=a;subst e7
   have fin:∀{s9:Shared} {H9:Hp} {m':Nat} {zs:List V},Inv Yyy ([]++YR fp s6.heap) (Y++os') H9 s9->m'<m->W (i+1) m' zs H9->∃m',m'<m/\∃i os H' ys,os.length=n/\Inv Yyy [] (Y++os) H' s9/\tn i s9.heap/\(∀b∈fp,H' b=none)/\W i m' ys H':=λ{s9 H9 m' zs} J9 hm' w9=>by
    refine⟨m',hm',i+1,os',H9,zs,lo',J9.unpinned,T.keep _ _ _ st6 λb hb ob e=>(J9.pin (b,ob) (Wm _ (Wm _ (Zl hb e)))).1,λb hb=>?_,w9⟩;obtain⟨ob,e,d⟩:=T.obj _ _ st6 b hb;exact(J9.pin (b,ob) (Wm _ (Wm _ (Zl hb e)))).2.1
   have tst:wpAny (model X.prog X.w) X.A (forIn tl.toList true λc r=>if r=true then do let ok <-isTrue c Yyy.env (eval c Yyy.env);pure (ForInStep.yield ok)else pure (ForInStep.yield r)) (TP Yyy ([]++YR fp s6.heap) (Y++os') λb H5=>if b=true then te (Y++os') H5 λy H6=>H6 s.heap.objs.size=some (.lst ys)/\∃m',m'<m/\W (i+1) m' (ys++[y]) (upd H6 s.heap.objs.size (.lst (ys++[y])))else ∃m',m'<m/\W (i+1) m' ys H5) (notedBy (model X.prog X.w) X.A Yyy.env λe s'=>RR (.ref s.heap.objs.size) s3.heap.objs.size (.error e) s') s7:=by
    refine QfP ?_
    cases tl with
    |none=>exact⟨H7,J7,HT _ _ _ q7⟩
    |some c=>
     have z:=(show PT Yyy c tt from HT) _ s7 _ _ _ J7 q7;rw[hP,hw,hA]at z;exact X2 z (λt t h=>h) noE
   refine X2 tst (λb s8 Z=>?_) λt t e=>e;obtain⟨H8,J8,q8⟩:=Z
   cases b with
   |false=>
    rw[if_neg Xz]at q8 ⊢;obtain⟨m',hm',w8⟩:=q8;exact fin J8 hm' w8
   |true=>
    rw[if_pos rfl]at q8 ⊢;have ev:=HE _ s8 _ _ _ J8 q8;rw[hP,hw,hA]at ev;refine X2 ev (λy s8 U=>?_) noE;obtain⟨yv,H8,J8,ry,hD8,m',hm',w8⟩:=U;have ap:=QaE (X:=Yyy) _ s8 _ H8 (.ref s.heap.objs.size) [yv] (.ref s.heap.objs.size) [y] (λt H'=>H'=upd H8 s.heap.objs.size (.lst (ys++[yv]))) J8 rfl (.cons ry .nil) ⟨_,ys,yv,rfl,rfl,hD8,hz,rfl⟩;rw[hP,hw,hA]at ap;refine X2 ap (λt s9 S=>?_) noE;obtain⟨_,H9,J9,_,e9⟩:=S;subst e9;exact fin J9 hm' w8
 have t1:tn 0 h₁:=T.keep 0 _ _ st2 λb hb o e=>kp b o (by rw[e3];exact Xg _ e)
 have go:=loop _ IB t1;rw[henv]at go;refine codeAny_compStart_list ?_ ?_
 ·exact go
 ·exact T.self X.A 0 _ _ _ t1 go
def Qbq{wi:TI}(hc:X.calm=true)(k:CompOk X xs scope)(hi:PI X tg iter wi)(hn:xs.length=n)(hg:∀C s H fp,PG (X.block xs scope C s H fp) tg g)(ht:∀C s H fp,PTO (X.block xs scope C s H fp) tl tt)(he:∀C s H fp,PE (X.block xs scope C s H fp) elt te)
  (hs:∀v,foldedSetIterable iter X.env v=pure v):PE X (.ListComp elt [⟨tg,iter,tl.toList,0⟩] scope pos) (QdL wi n g tt te):=by
 intro pins s Y H Q I h;rw[eval_ListComp];refine wpAny_comprehension_free (use:=none) rfl hs (JF λy hy hf=>I.ok.has y.1 ((k.all y hy).2.2 hf)) k.kind (λy hy hl=>((k.all y hy).1 hl).2) ?_;refine thn (hi pins s Y H _ I h) λv s1 h1=>thn h1 λitv s2 h2=>?_;obtain⟨it,fp,tn,J,H2,e,I2,T,st2,f2,q⟩:=h2;subst e;refine JD (RR:=λacc C=>compPost (model X.prog X.w) X.A X.xe none (EP X pins Y Q) acc C) hc k hn hg ht he I2 T st2 f2 q ?_;intro D C s' H' m I' n' f' q';refine⟨m,n',λh' sb=>?_⟩;exact⟨.ref D,H',I'.turned (t':=s'.toks) (λb o hb e=>sb.extBut b o hb e) f'.1 f'.2.1 f'.2.2.2.1 f'.2.2.2.2.1 f'.2.2.2.2.2,rfl,q'⟩
def Qd5{py spos:Pos}{wi:TI}{j:Nat}(hc:X.calm=true)(hN:X.N.Nodup)(k:CompOk X xs scope)(hi:PI X tg iter wi)(hn:xs.length=n)(hg:∀C s H fp,PG (X.block xs scope C s H fp) tg g)(ht:∀C s H fp,PTO (X.block xs scope C s H fp) tl tt)(he:∀C s H fp,PE (X.block xs scope C s H fp) elt te)
  (hs:∀v,foldedSetIterable iter X.env v=pure v) (hj:X.N[j]?=some y) (hy:Loc X.env.scope y) (hfn:X.fn y=true\/X.env.scope.names.lookup y=some .local):
  PS X (.Assign [.Name y py] (.ListComp elt [⟨tg,iter,tl.toList,0⟩] scope pos) spos) (λD Y H=>QdL wi n g tt te Y H λv H1=>D.nx (Y.set j (some v)) H1):=by
 have hsw:∃b,swapsWith (.ListComp elt [⟨tg,iter,tl.toList,0⟩] scope pos) (some (.Name y py)) spos.line X.env=pure b:=⟨_,rfl⟩;obtain⟨b,hsw⟩:=hsw
 cases b with
 |false=>exact QaA hN hj hy (Qbq hc k hi hn hg ht he hs) hsw hfn
 |true=>
  intro pins s Y H D I h;rw[exec_Assign_Name_used _ _ _ _ hsw];refine Xa (wpAny_standAt (Xa ?_))
  show wpAny _ _ (do let _ <-comprehension (.ListComp elt [⟨tg,iter,tl.toList,0⟩] scope pos) scope X.env _ (newList []) false (eval iter X.env) (some (assign (.Name y py) X.env))) _ _ s
  refine Xa (X2 (wpAny_comprehension_free (use:=some (assign (.Name y py) X.env)) (Q:=λx s'=>SP X pins D .next s') rfl hs (JF λy hy hf=>I.ok.has y.1 ((k.all y hy).2.2 hf)) k.kind (λy hy hl=>((k.all y hy).1 hl).2) ?_)
   (λx s' hq=>Xj (Xj hq)) λx x e=>e)
  refine thn (hi pins s Y H _ I h) λv s1 h1=>thn h1 λitv s2 h2=>?_;obtain⟨it,fp,tn,J,H2,e,I2,T,st2,f2,q⟩:=h2;subst e;refine JD (Q:=λv H1=>D.nx (Y.set j (some v)) H1) (RR:=λacc C=>compPost (model X.prog X.w) X.A X.xe (some (assign (.Name y py) X.env)) (λx s'=>SP X pins D .next s') acc C) hc k hn hg ht he I2 T st2 f2 q ?_;intro Da C s' H' m I' n' f' q';obtain⟨o,es,ep,ho,hd,r⟩:=id n'
  have Ip:Inv X (pins++YR [C] s'.heap) Y H' s':=I'.pinned (λb hb=>by
   have e:b=C:=by simpa using hb
   subst e
   exact f') λb hb=>by
    have e:b=C:=by simpa using hb
    subst e
    exact⟨o,ho,λv z=>by rw[hd]at z;cases z⟩
  refine thn (Qbo (i:=j) hN hj hy hfn _ s' Y H' (.ref Da) (.ref Da) _ Ip rfl q') λx s'' u=>?_;obtain⟨σ2,H2',J2,q2⟩:=u
  have pc:=J2.pin (C,o) (Wm _ (Wm _ (Zl (by simp) ho)))
  refine⟨m,⟨o,es,ep,pc.1,hd,r⟩,λh' sb=>?_⟩;exact⟨σ2,H2',J2.unpinned.turned (t':=s''.toks) (λb ob hb e=>sb.extBut b ob hb e) pc.2.1 f'.2.1 f'.2.2.2.1 f'.2.2.2.2.1 f'.2.2.2.2.2,q2⟩
end
end
section
variable {a c:Int}
section
variable {X:Cx}
noncomputable def Itc(lo c:Int)(n:Nat):It:=⟨λi z=>i<n,λi H x H'=>H'=H/\x=.int (lo+i*c),λi z=>n<=i⟩
def YL{P:Program}{w:World}{K:PySem.W.Frag}{tg:Expr}(it:Addr)(lo c:Int)(n:Nat):Turn P w K tg (Itc lo c n) [it] it (λi h=>IsRangeIter h it (lo+(i:Nat)*c) ((n:Int) - (i:Nat)) c) where
 mem:=by simp
 obj:=λi h st b hb=>by
  have e:b=it:=by simpa using hb
  subst e
  exact⟨_,st,λv z=>by
   have z':Data.fields _=Data.cell v:=z
   cases z'⟩
 keep:=λi h h' st k=>k it (by simp) _ st
 item:=by
  intro X hP hw hK hc i pins s Y H E I hf st hg;subst hP hw hK
  obtain⟨f0,f1,f2,f3,f4,f5⟩:=hf it (by simp)
  have W:=Walks.range (prog:=X.prog) (w:=X.w) (I.ok.hd hc) it lo c n;refine W.item i s _ _ hg st λv h' tk hv st' kk=>?_;obtain⟨t,rfl⟩:=hv
  have I1:Inv X pins Y H {s with heap:=h',toks:=tk}:=I.turned (λb o hb e=>kk b o (by simpa using hb) e) f0 f1 f3 f4 f5
  exact⟨_,rfl,Qc0 (s:={s with heap:=h',toks:=tk}) (n:="range_iterator") st' rfl rfl (by decide) ⟨.int (lo+i*c),H,I1,⟨t,rfl⟩,⟨rfl,rfl⟩,st',λb hb=>(hf b hb).1⟩⟩
 done:=by
  intro X hP hw hK hc i pins s Y H E I hf st hg;subst hP hw hK
  obtain⟨f0,f1,f2,f3,f4,f5⟩:=hf it (by simp)
  exact wpAny_pyNext_range_end (I.ok.hd hc) st (by have:n<=i:=hg;omega) λh' eb=>⟨rfl,I.turned (t':=s.toks) (λb o hb e=>eb b o hb e) f0 f1 f3 f4 f5⟩
 self:=λy y y y y st h=>Tw st h
noncomputable def rngC(a b c:Int):Nat:=if a<b then((b-a-1) / c+1).toNat else 0
def QiL{b:Int}(h:0<c):Builtin.Range.rangeSize a b c=(rngC a b c:Nat):=by
 unfold rngC Builtin.Range.rangeSize;rw[if_pos (show c>0 from h)];split
 ·have:=Int.ediv_nonneg (a:=b-a-1) (b:=c) (by omega) (by omega)
  omega
 ·rfl
def QdQ{b:Int}(ha:-(2 ^ 60)<=a)(ha':a<2 ^ 60)(hb:-(2 ^ 60)<=b)(hb':b<2 ^ 60)(h0:0<c)(h1:c<2 ^ 60):Builtin.Range.small a b c=true:=by
 have e:Builtin.Range.rangeSize a b c=if a<b then(b-a-1) / c+1 else 0:=by
  unfold Builtin.Range.rangeSize;rw[if_pos (show c>0 from h0)]
 have q1:a<b->(b-a-1) / c<=b-a-1:=λh=>Int.ediv_le_self _ (by omega)
 have q0:a<b->0<=(b-a-1) / c:=λh=>Int.ediv_nonneg (by omega) (by omega)
 have q2:a<b->c*((b-a-1) / c)<=b-a-1:=λh=>Int.mul_ediv_self_le (by omega)
 unfold Builtin.Range.small;rw[e];simp only[Builtin.Range.rangeFitsLong,Xl,Up,X1,Uf,show(c>0)from h0,We];generalize (b-a-1) / c=d at q0 q1 ⊢;clear q2;split
 ·rename_i h;have:=q0 h;have:=q1 h;omega
 ·omega
def QdS{b:Int}(ha:-(2 ^ 60)<=a)(ha':a<2 ^ 60)(hb:-(2 ^ 60)<=b)(hb':b<2 ^ 60):Builtin.Range.small a b (-1)=true/\Builtin.Range.rangeSize a b (-1)=((a-b).toNat:Nat):=by
 have e:Builtin.Range.rangeSize a b (-1)=((a-b).toNat:Nat):=by
  unfold Builtin.Range.rangeSize;simp;omega
 refine⟨?_,e⟩;unfold Builtin.Range.small;rw[e];simp only[Builtin.Range.rangeFitsLong,Xl,Up,X1,Uf];simp;omega
def QfD(i j c:Int)(n:Nat):Prop:=(0<c/\c<1073741824/\n=rngC i j c)\/(c=-1/\n=(i-j).toNat)
def QiB{i j:Int}{n:Nat}(b1:-(2 ^ 60)<=i)(b2:i<2 ^ 60)(b3:-(2 ^ 60)<=j)(b4:j<2 ^ 60)(h:QfD i j c n):Builtin.Range.small i j c=true/\Builtin.Range.rangeSize i j c=(n:Nat)/\c≠0/\-1073741824<c/\c<1073741824:=by
 rcases h with⟨c0,c1,rfl⟩|⟨rfl,rfl⟩
 ·exact⟨QdQ b1 b2 b3 b4 c0 (by omega),QiL c0,by omega,by omega,c1⟩
 ·obtain⟨z1,z2⟩:=QdS b1 b2 b3 b4
  exact⟨z1,z2,by omega,by omega,by omega⟩
def QoU(ta:TA):TI:=λY H R=>ta Y H λvs H1=>∃(i j c:Int) (n:Nat),vs=[.int i,.int j,.int c]/\(-(2 ^ 60)<=i/\i<2 ^ 60/\-(2 ^ 60)<=j/\j<2 ^ 60)/\QfD i j c n/\R (Itc i c n) H1
def Qea{tg a:Expr}{args:List Expr}{ta:TA}{p pos:Pos}(hg:Gl X "range")(hm:X.mg "range"=none)(ha:PA X (a::args) ta)(he:starEach (a::args) X.env=(false,eval a X.env)::starEach args X.env)
  (hpl:(backTo pos (starEach args X.env)).any (·.1)=false):PI X tg (.Call (.Name "range" p) (a::args) [] pos) (QoU ta):=by
 intro pins s Y H R I h;refine Call_ (ZE I hg hm boot_range (Wu (thn (ha pos pins s Y H _ I h) λus s1 z=>?_) he hpl));obtain⟨vs,H1,I1,r1,q1⟩:=z;obtain⟨i,j,c,n,e,⟨b1,b2,b3,b4⟩,so,q⟩:=q1;obtain⟨sm,sz,cz,c0,c1⟩:=QiB b1 b2 b3 b4 so;subst e
 cases r1 with
 |cons r rr=>
  obtain⟨x,y,rfl,⟨t',rfl⟩,u',rfl⟩:=Vals.two rr;obtain⟨t,rfl⟩:=r
  refine call_range_3 (by omega) ?_ (.inl (PyProof.noPylong_small (by omega)))
  have I2:Inv X pins Y H1 {s1 with heap:=s1.heap.push {cls:=.type "range",data:=.fields #[.int i t,.int j t',.int c u']},toks:=s1.toks}:=I1.kept λb o e=>Xg _ e;refine wpAny_pyIter_range (IsRange.new ..) sm ?_
  refine⟨(s1.heap.push {cls:=.type "range",data:=.fields #[.int i t,.int j t',.int c u']}).objs.size,[(s1.heap.push {cls:=.type "range",data:=.fields #[.int i t,.int j t',.int c u']}).objs.size],_,_,H1,rfl,
   I2.kept (t':=s1.toks) λb o e=>Xg _ e,YL _ i c n,?_,λb hb=>?_,q⟩
  ·show IsRangeIter _ _ (i+((0:Nat):Int)*c) (((n:Nat):Int) - ((0:Nat):Int)) c;rw[<-sz]
   have e1:i+((0:Nat):Int)*c=i:=by simp
   have e2:Builtin.Range.rangeSize i j c-((0:Nat):Int)=Builtin.Range.rangeSize i j c:=by simp
   rw[e1,e2];exact Xy _ rfl
  ·have e:b=(s1.heap.push {cls:=.type "range",data:=.fields #[.int i t,.int j t',.int c u']}).objs.size:=by simpa using hb
   subst e;exact I2.fpOk (Xi _) (I2.hok.fresh (Xi _))
end
end
section
variable {r:Addr}{n:Int}{u v:Tok}
def Qbc:isSubtype (.type "range_iterator") (.type "reversed")=pure false:=by rw[isSubtype_type];kernel_rfl
section
variable {prog:Program}{w:World}{A:Around}{E:Value->Shared->Prop}{s:Shared}
def Qbi{a b c:Int}{t:Tok}{Q:Int×Int×Int->Shared->Prop}{M:Model}(h:IsRange s.heap r a b c t u v)(q:Q (a,b,c) s):wpAny M A (Builtin.Range.rangeFields (.ref r)) Q E s:=by
 unfold Builtin.Range.rangeFields;refine Xa (wpAny_field h rfl (x:=.int a t) rfl ?_);refine Xa (Vv (a:=some a) rfl ?_);refine Xa (wpAny_field h rfl (x:=.int b u) rfl ?_);refine Xa (Vv (a:=some b) rfl ?_);refine Xa (wpAny_field h rfl (x:=.int c v) rfl ?_);refine Xa (Vv (a:=some c) rfl ?_);exact Xj q
noncomputable def Qkx(n:Int):Obj:={cls:=.type "range_iterator",data:=.fields #[rawInt (n-1),rawInt n,rawInt (-1)]}
def Qj8{t:Tok}{Q:Value->Shared->Prop}(h:IsRange s.heap r 0 n 1 t u v)(h0:0<=n)(h1:n<2 ^ 60)
  (q:Q (.ref s.heap.objs.size) {s with heap:=s.heap.push (Qkx n)}):wpAny (model prog w) A (call (.builtin "range.__reversed__") [.ref r]) Q E s:=by
 have ty:s.TypeIs (.ref r) "range":=⟨_,h,rfl⟩;refine U0 T7 ty F.entry_range_reversed ?_ (F.args_range_reversed_1 _);unfold Builtin.«range.__reversed__»;refine Xa (Vv (a:=Value.ref r) rfl ?_);refine Xa (Qbi h ?_)
 have sz:Builtin.Range.rangeSize 0 n 1=n:=by rw[rangeSize_one];split<;>omega
 have sm:(Builtin.Range.rangeFitsLong 0&&Builtin.Range.rangeFitsLong n&&Builtin.Range.rangeFitsLong 1&&Builtin.Range.rangeFitsLong (-1)&&Builtin.Range.rangeFitsLong (0-1)&&Builtin.Range.rangeFitsLong n)=true:=by
  simp only[Builtin.Range.rangeFitsLong,Xl,X1];omega
 dsimp only;rw[sz,sm];simp only[U4,X4,Wv,We];refine Xa (Uv (Xj ⟨_,rfl,?_⟩))
 have e:(0:Int)+(n-1)*1=n-1:=by omega
 rw[e];exact q
def Qj4{t:Tok}{Q₁:Value->Shared->Prop}(hl:IsRange s.heap r 0 n 1 t u v)(h0:0<=n)(h1:n<2 ^ 60)
  (h:Q₁ (.ref s.heap.objs.size) {s with heap:=s.heap.push (Qkx n)}):codeAny (model prog w) A (.call (.builtin "reversed.__new__") ⟨[.type "reversed",.ref r],[]⟩) (wants Q₁ E) s:=by
 have ty:s.TypeIs (.ref r) "range":=⟨_,hl,rfl⟩;refine codeAny_of_tree ?_
 show wpAny _ A.in1 (do checkBuiltinCall "reversed.__new__" ⟨[.type "reversed",.ref r],[]⟩;again (.builtin "reversed.__new__" ⟨[.type "reversed",.ref r],[]⟩)) _ _ s
 refine Xa (Vv (F.newCall_reversed_1 _) (Xj ⟨T0 F.plain_reversed_new _,Sa F.entry_reversed_new ?_⟩));rw[Around.under_plainId F.plain_reversed_new _];unfold Builtin.«reversed.__new__»;refine Xa (Vv (newClass_reversed _) ?_)
 try dsimp only
 refine Xa (Vv (a:=()) (by first|rfl|kernel_rfl) ?_)
 refine Xa (Vv (a:=()) (by first|rfl|kernel_rfl) ?_)
 try dsimp only
 refine Xa (U7 ty T7.lookup ?_)
 try dsimp only
 refine Xa (Vv (T7.bind _) ?_)
 try dsimp only
 have nn:¬((Value.builtin "range.__reversed__"==Value.none)=true):=Xz
 first
 |rw[if_neg nn]
 | (show wpAny _ _ (if(Value.builtin "range.__reversed__"==Value.none)=true then _ else _) _ _ _;rw[if_neg nn])
 refine Xa (wpAny_rule ?_);refine Xa (m:=runValue (.call (.builtin "range.__reversed__") ⟨[.ref r],[]⟩)) (show wpAny _ _ (call (.builtin "range.__reversed__") [.ref r]) _ _ _ from Qj8 hl h0 h1 ?_)
 first
 |exact Xj h
 |exact Xa (Xj (Xj h))
def ZN{t:Tok}{Q:Value->Shared->Prop}(hl:IsRange s.heap r 0 n 1 t u v)(h0:0<=n)(h1:n<2 ^ 60)
  (h:Q (.ref s.heap.objs.size) {s with heap:=s.heap.push (Qkx n)}):wpAny (model prog w) A (call (.type "reversed") [.ref r]) Q E s:=by
 refine callType_other (U:="range_iterator") (Q₁:=λobj s₁=>obj=.ref s.heap.objs.size/\s₁={s with heap:=s.heap.push (Qkx n)}) (by decide +kernel) F.create_reversed ⟨_,_,F.mro_reversed⟩ F.made_reversed Qbc (F.typeCall_reversed_1 _) (Qj4 hl h0 h1 ⟨rfl,rfl⟩) ?_
 rintro obj s₁ ⟨rfl,rfl⟩;exact⟨⟨_,Xy _ rfl,rfl⟩,h⟩
end
section
variable {X:Cx}
def QoW(te:TE):TI:=λY H R=>te Y H λx H1=>∃n:Int,x=.int n/\0<=n/\n<2 ^ 60/\R (Itc (n-1) (-1) n.toNat) H1
def Qi9{tg e:Expr}{te:TE}{p q pos pos2:Pos}(hg:Gl X "reversed")(hm:X.mg "reversed"=none)(hg2:Gl X "range")(hm2:X.mg "range"=none)(he:PE X e te)(hs:starEach [e] X.env=[(false,eval e X.env)]):
  PI X tg (.Call (.Name "reversed" p) [.Call (.Name "range" q) [e] [] pos2] [] pos) (QoW te):=by
 intro pins s Y H R I h;refine Call_ (ZE I hg hm boot_reversed ?_);refine Wu (e:=.Call (.Name "range" q) [e] [] pos2) (rest:=[]) ?_ rfl rfl;show wpAny _ _ (spliced ((false,eval (.Call (.Name "range" q) [e] [] pos2) X.env)::backTo pos (starEach [] X.env))) _ _ s;refine V6 ?_;refine Va (ZE I hg2 hm2 boot_range ?_);refine Wu (e:=e) (rest:=[]) ?_ hs rfl;rw[hs];show wpAny _ _ (spliced ((false,eval e X.env)::backTo pos2 (starEach [] X.env))) _ _ s;refine V6 (thn (he pins s Y H _ I h) λu s1 z=>?_);obtain⟨x,H1,I1,rx,q1⟩:=z;refine Ua ?_;obtain⟨n,rfl,h0,h1,q⟩:=q1;obtain⟨t,rfl⟩:=rx;refine call_range_1 ?_;refine Ua ?_;have I2:Inv X pins Y H1 {s1 with heap:=s1.heap.push {cls:=.type "range",data:=.fields #[.int 0 s1.toks,.int n t,.int 1 (s1.toks+1)]},toks:=s1.toks+1+1}:=I1.kept λb o e=>Xg _ e;refine ZN (IsRange.new ..) h0 h1 ?_;generalize e2:s1.heap.push {cls:=.type "range",data:=.fields #[.int 0 s1.toks,.int n t,.int 1 (s1.toks+1)]}=h2 at I2 ⊢;have I3:Inv X pins Y H1 {s1 with heap:=h2.push (Qkx n),toks:=s1.toks+1+1}:=I2.kept (t':=s1.toks+1+1) λb o e=>Xg _ e
 have st:IsRangeIter (h2.push (Qkx n)) h2.objs.size ((n-1)+((0:Nat):Int)*(-1)) ((n.toNat:Int) - ((0:Nat):Int)) (-1):=by
  have e3:(n-1)+((0:Nat):Int)*(-1)=n-1:=by omega
  have e4:(n.toNat:Int) - ((0:Nat):Int)=n:=by omega
  rw[e3,e4];exact Xy _ rfl
 refine Tw st ?_;refine⟨h2.objs.size,[h2.objs.size],_,_,H1,rfl,I3,YL _ (n-1) (-1) n.toNat,st,λb hb=>?_,q⟩
 have e:b=h2.objs.size:=by simpa using hb
 subst e;exact I2.fpOk (Xi _) (I2.hok.fresh (Xi _))
end
end
end L2
namespace Iv
open PySem PySem.Spec PyProof.Rows L2
section
variable {a it tg:Expr}{J:It}{d:Nat}{p q:Pos}{w:Wk}
section
variable {X:Cx}{T:Tbl}{A:Adr}{cf:Cf}{m k:Nat}{α:List Addr}{hs:Hs}{H:Hp}{u:U}{v:V}{Z:Rho}{Y:St}
def WJ(A:Adr)(K:W.Frag)(α:List Addr)(J:It)(H:Hp):Wk->Prop
 |.seqL u=>∃a,RU A α u (.ref a)/\J=Itl K a
 |.seqT u=>∃a,RU A α u (.ref a)/\J=Itt K a
 |.rng lo n=>J=Itr lo n
 |.zipB _ _ _ _=>False
 |.revL _ _=>False
 |.rngC lo c n=>J=Itc lo c n
 |.enmL u=>∃a,RU A α u (.ref a)/\J=Ite K a
 |.strW x=>J=Its ⟨x.toArray⟩
 |.keyD _=>False
theorem WJ.mono{K:W.Frag}{α':List Addr}{H':Hp}(p:∀(n:Nat) a,α[n]?=some a->α'[n]?=some a)(f:∀b o u,H b=some (.frz o u)->H' b=some (.frz o u))(h:WJ A K α J H w):WJ A K α' J H' w:=by
 cases w with
 |seqL u=>obtain⟨a,r,e⟩:=h;exact⟨a,r.mono p,e⟩
 |seqT u=>obtain⟨a,r,e⟩:=h;exact⟨a,r.mono p,e⟩
 |rng lo n=>exact h
 |zipB b c x y=>exact False.elim h
 |revL u n=>exact False.elim h
 |rngC lo c n=>exact h
 |enmL u=>obtain⟨a,r,e⟩:=h;exact⟨a,r.mono p,e⟩
 |strW x=>exact h
 |keyD n=>exact False.elim h
noncomputable def gT(K:W.Frag):Tg->TG
 |.name i=>QaO i
 |.pair i j=>Qqq K 2 (QjN (QaO i) (QjN (QaO j) Qqr))
def Qcn{i:Nat}(tx:Txt T A X.K X.mg)(R:Rep T A X.K α hs H)(W:WJ A X.K α J H w)(h:itm T w i hs=some none):J.stop i H:=by
 cases w with
 |seqL u=>
  obtain⟨a,r,rfl⟩:=W;simp only[itm,Xd,Us]at h;obtain⟨xs,e,h⟩:=h;obtain⟨a',vs,ea,rr,q⟩:=QL tx R e r;cases ea
  exact⟨vs,q,by rw[<-rr.length];exact X6.mp h⟩
 |seqT u=>
  obtain⟨a,r,rfl⟩:=W;simp only[itm,Xd,Us]at h;obtain⟨xs,e,h⟩:=h;obtain⟨a',vs,ea,rr,q⟩:=JM tx R e r;cases ea
  exact⟨vs,q,by rw[<-rr.length];exact X6.mp h⟩
 |rng lo n=>
  cases(show J=_ from W);simp only[itm,Wz]at h;split at h
  ·cases h
  ·rename_i l;show n<=i;omega
 |zipB p q x y=>exact False.elim W
 |revL u n=>exact False.elim W
 |rngC lo c n=>
  cases(show J=_ from W);simp only[itm,Wz]at h;split at h
  ·cases h
  ·rename_i l;show n<=i;omega
 |enmL u=>
  obtain⟨a,r,rfl⟩:=W;simp only[itm,Xd,Us]at h;obtain⟨xs,e,h⟩:=h;obtain⟨a',vs,ea,rr,q⟩:=QL tx R e r;cases ea
  exact⟨vs,q,by rw[<-rr.length];exact X6.mp h⟩
 |strW x=>
  cases(show J=_ from W);simp only[itm,Wz,Us]at h;show(x.toArray).size<=i;rw[Xw];exact X6.mp h
 |keyD n=>exact False.elim W
def YN{t:Tg}{ρ':Rho}{Q:St->Hp->Prop}(R:Rep T A X.K α hs H)(rs:RS A α Z Y)(r:RU A α u v)(h:tgt t (.one u) Z hs=some ρ')(k:∀σ2,RS A α ρ' σ2->Q σ2 H):gT X.K t v Y H Q:=by
 cases t with
 |name i=>cases h;exact k _ (rs.set i r)
 |pair i j=>
  cases u with
  |ref n=>
   obtain⟨a,ha,rfl⟩:=r;simp only[tgt]at h;split at h
   case h_2=>cases h
   rename_i x y e;cases h;obtain⟨vs,q,rr⟩:=R.h.ob n a _ ha e;obtain⟨v1,ws,rfl,r1,rr⟩:=Qj rr;obtain⟨v2,ws,rfl,r2,rr⟩:=Qj rr;cases Qp rr;exact⟨a,[v1,v2],rfl,SqT.of q,rfl,v1,[v2],rfl,v2,[],rfl,rfl,k _ ((rs.set i r1).set j r2)⟩
  |_=>simp[tgt]at h
def Qco{i:Nat}{x:Im}{t:Tg}{ρ':Rho}(tx:Txt T A X.K X.mg)(R:Rep T A X.K α hs H)(W:WJ A X.K α J H w)(rs:RS A α Z Y)(h:itm T w i hs=some (some x))(ht:tgt t x Z hs=some ρ'):
  J.go i H/\∀v H' (Q:St->Hp->Prop),J.yld i H v H'->(∀σ2,RS A α ρ' σ2->Rep T A X.K α hs H'->Ext α α H H'->Q σ2 H')->gT X.K t v Y H' Q:=by
 cases w with
 |seqL u=>
  obtain⟨a,r,rfl⟩:=W;simp only[itm,Xd]at h;obtain⟨xs,e,y,h,rfl⟩:=h;obtain⟨a',vs,ea,rr,q⟩:=QL tx R e r;cases ea;obtain⟨v1,f1,g1⟩:=rr.get h;refine⟨⟨vs,v1,q,f1⟩,?_⟩;rintro v H' Q ⟨rfl,k1⟩ k;have n1:v=v1:=X3 ((k1 vs q).symm.trans f1);subst n1;exact YN R rs g1 ht λσ2 r2=>k σ2 r2 R Ext.refl
 |seqT u=>
  obtain⟨a,r,rfl⟩:=W;simp only[itm,Xd]at h;obtain⟨xs,e,y,h,rfl⟩:=h;obtain⟨a',vs,ea,rr,q⟩:=JM tx R e r;cases ea;obtain⟨v1,f1,g1⟩:=rr.get h;refine⟨⟨vs,v1,q,f1⟩,?_⟩;rintro v H' Q ⟨rfl,k1⟩ k;have n1:v=v1:=X3 ((k1 vs q).symm.trans f1);subst n1;exact YN R rs g1 ht λσ2 r2=>k σ2 r2 R Ext.refl
 |rng lo n=>
  cases(show J=_ from W);simp only[itm,Wz]at h;split at h
  case isFalse=>cases h
  rename_i l;cases h;refine⟨l,?_⟩;rintro v H' Q ⟨rfl,rfl⟩ k;exact YN (u:=.int (lo+i) 0) R rs ⟨_,rfl,Cg.refl _ _⟩ ht λσ2 r2=>k σ2 r2 R Ext.refl
 |zipB p q x1 y1=>exact False.elim W
 |revL u n=>exact False.elim W
 |rngC lo c n=>
  cases(show J=_ from W);simp only[itm,Wz]at h;split at h
  case isFalse=>cases h
  rename_i l;cases h;refine⟨l,?_⟩;rintro v H' Q ⟨rfl,rfl⟩ k;exact YN (u:=.int (lo+i*c) 0) R rs ⟨_,rfl,Cg.refl _ _⟩ ht λσ2 r2=>k σ2 r2 R Ext.refl
 |enmL u=>
  obtain⟨a,r,rfl⟩:=W;simp only[itm,Xd]at h;obtain⟨xs,e,y,h,rfl⟩:=h;obtain⟨a',vs,ea,rr,q⟩:=QL tx R e r;cases ea;obtain⟨v1,f1,g1⟩:=rr.get h;refine⟨⟨vs,v1,q,f1⟩,?_⟩;rintro v H' Q ⟨p,w1,hp,rfl,rfl,k1⟩ k;have n1:w1=v1:=X3 ((k1 vs q).symm.trans f1);subst n1
  have ne:∀b y,H b=some y->b≠p:=λb y e z=>by rw[z,hp]at e;cases e
  have R':Rep T A X.K α hs (upd H p (.tup [.int i,w1])):=⟨⟨R.h.len,R.h.nd_keep λb x m e=>by rw[Qf (ne _ _ e)];exact e,λn a o e1 e2=>RO.keep (R.h.ob n a o e1 e2) (λm m e=>e) λm y e m=>by rw[Qf (ne _ _ e)];exact e⟩,R.s.keep λy e m=>by rw[Qf (ne _ _ e)];exact e⟩
  have E':Ext α α H (upd H p (.tup [.int i,w1])):=⟨λm m e=>e,λn a e l=>by have:=getElem?_lt e;omega,λb o e m=>by rw[Qf (ne _ _ e)];exact e,λb o kv e=>by rw[Qf (ne _ _ e)];exact e,λb o e=>⟨o,by rw[Qf (ne _ _ e)];exact e,λm=>T6⟩⟩
  cases t with
  |name i=>simp[tgt]at ht
  |pair i' j'=>
   cases ht;have g0:RU A α (.int i 0) (.int i):=⟨_,rfl,Cg.refl _ _⟩;exact⟨p,[.int i,w1],rfl,SqT.of Qi,rfl,.int i,[w1],rfl,w1,[],rfl,rfl,k _ ((rs.set i' g0).set j' g1) R' E'⟩
 |strW y=>
  cases(show J=_ from W);simp only[itm,Wz,Xd]at h;obtain⟨c,hc,rfl⟩:=h
  refine⟨by show i<y.toArray.size;rw[Xw];exact(Xc.mp hc).1,?_⟩
  rintro v H' Q ⟨rfl,c',hc',rfl⟩ k
  have e:c'=c:=by
   have:y[i]?=some c':=by simpa using hc'
   rw[hc]at this;exact(X3 this).symm
  subst e;exact YN (u:=.str [c']) R rs rfl ht λσ2 r2=>k σ2 r2 R Ext.refl
 |keyD n=>exact False.elim W
noncomputable def TIW(T:Tbl)(A:Adr)(K:W.Frag)(f:Rho->Hs->Option (Wk×Hs)):L2.TI:=λY H R=>∃α Z hs w hs',RS A α Z Y/\Rep T A K α hs H/\f Z hs=some (w,hs') /\
 ∀α' J H',Ext α α' H H'->Rep T A K α' hs' H'->WJ A K α' J H' w->R J H'
def QfF{t t':L2.TI}(h:PI X tg it t)(i:∀Y H R,t' Y H R->t Y H R):PI X tg it t':=λpins s Y H R I q=>h pins s Y H R I (i Y H R q)
def QqD{t t':L2.TI}(h:PI X tg it t)(h':PI X tg it t'):PI X tg it (λY H R=>t Y H R\/t' Y H R):=λpins s Y H R I q=>q.elim (h pins s Y H R I) (h' pins s Y H R I)
def Qg2{u:U}{hs h1:Hs}{n:Nat}{kvs:List (U×U)}(h:Qe5 u hs h1=some (n,kvs)):u=.ref n/\(∃k0,hs[n]?=some (.dic k0))/\h1[n]?=some (.dic kvs):=by
 unfold Qe5 at h;split at h
 ·split at h
  ·rename_i k0 e0;split at h
   ·rename_i e1;cases h;exact⟨rfl,⟨_,e0⟩,e1⟩
   ·cases h
  ·cases h
 ·cases h
def QlJ{ir:E}(tx:Txt T A X.K X.mg)(h:PE X it (Iv.TI T A X.K (ev T cf d ir))):PI X tg it (TIW T A X.K (λZ hs=>Q4 T (ev T cf d) Z (.seq ir) hs)):=by
 refine QfF (QqD (QqD (Qja h) (QlH h)) (QlI h)) ?_;rintro Y H R ⟨α,Z,hs,w,hs',rs,Rp,e,q⟩;simp only[Q4]at e;obtain⟨u,h1,e1,e⟩:=Qe e;simp only[Xd]at e;obtain⟨w',e2,e⟩:=e;cases e;unfold wkS at e2;split at e2
 ·rename_i xs el;cases e2;refine .inl (.inl (TI.run rs Rp e1 λα1 x H1 E1 R1 r1 rs1=>?_));obtain⟨a,vs,rfl,rr,sq⟩:=QL tx R1 el r1;exact⟨a,rfl,⟨vs,sq⟩,q α1 _ H1 E1 R1 ⟨a,r1,rfl⟩⟩
 ·split at e2
  ·rename_i xs el;cases e2;refine .inl (.inr (TI.run rs Rp e1 λα1 x H1 E1 R1 r1 rs1=>?_));obtain⟨a,vs,rfl,rr,sq⟩:=JM tx R1 el r1;exact⟨a,rfl,⟨vs,sq⟩,q α1 _ H1 E1 R1 ⟨a,r1,rfl⟩⟩
  ·split at e2
   ·cases e2;refine .inr (TI.run rs Rp e1 λα1 x H1 E1 R1 r1 rs1=>?_);exact⟨_,r1,q α1 _ H1 E1 R1 rfl⟩
   ·cases e2
def QiD{i:Int}(h:Qk (i*4)=true):-(2 ^ 62)<=i/\i<2 ^ 62:=by
 obtain⟨h1,h2⟩:=QV h;constructor<;>omega
def QlK{a':E}(hg:Gl X "range")(hm:X.mg "range"=none)(hns:∀x p,a≠.Starred x p)(h:PE X a (Iv.TI T A X.K (ev T cf d a'))):PI X tg (.Call (.Name "range" p) [a] [] q) (TIW T A X.K (λZ hs=>Q4 T (ev T cf d) Z (.rng a') hs)):=by
 refine QfF (Qeb hg hm (JR h Qef (Qt hns)) (Qt hns)) ?_;rintro Y H R ⟨α,Z,hs,w,hs',rs,Rp,e,q⟩;simp only[Q4]at e;obtain⟨u,h1,e1,e⟩:=Qe e;split at e
 case h_2=>cases e
 split at e
 case isFalse=>cases e
 rename_i i c;cases e;refine TI.run rs Rp e1 λα1 x H1 E1 R1 r1 rs1=>?_;obtain⟨j,rfl,cg⟩:=r1;cases cg.exact;obtain⟨b1,b2⟩:=QiD c;exact⟨_,rfl,b1,b2,q α1 _ H1 E1 R1 rfl⟩
def Qi8{args:List Expr}{es:List E}(hg:Gl X "range")(hm:X.mg "range"=none)(hns:Qa6 (a::args))(h:PA X (a::args) (TIA T A X.K (λZ hs=>evs (ev T cf d) Z es hs))):
  PI X tg (.Call (.Name "range" p) (a::args) [] q) (TIW T A X.K (λZ hs=>Q4 T (ev T cf d) Z (.rngA es) hs)):=by
 refine QfF (Qea hg hm h (Qt (hns a (Xq ..))) (Zb λz hz=>hns z (Xm _ hz))) ?_;rintro Y H R ⟨α,Z,hs,w,hs',rs,Rp,e,q⟩;simp only[Q4]at e;obtain⟨us,h1,e1,e⟩:=Qe e;split at e
 case h_2=>cases e
 rename_i i j c
 obtain⟨n,so,ew,c1,c2⟩:∃n,QfD i j c n/\some (Wk.rngC i c n,h1)=some (w,hs')/\Qk (i*16)=true/\Qk (j*16)=true:=by
  split at e
  ·rename_i cc;simp only[Xl,X1]at cc;obtain⟨⟨⟨c1,c2⟩,c3⟩,c4⟩:=cc;exact⟨_,.inl ⟨c3,c4,rfl⟩,e,c1,c2⟩
  ·split at e
   ·rename_i cc;simp only[Xl,X1]at cc;obtain⟨⟨c1,c2⟩,rfl⟩:=cc;exact⟨_,.inr ⟨rfl,rfl⟩,e,c1,c2⟩
   ·cases e
 cases ew;obtain⟨d1,d2⟩:=QV c1;obtain⟨d3,d4⟩:=QV c2;refine TIA.run rs Rp e1 λα1 vs H1 E1 R1 r1 rs1=>?_;obtain⟨v1,ws,rfl,x1,rr⟩:=Qj r1;obtain⟨v2,ws,rfl,x2,rr⟩:=Qj rr;obtain⟨v3,ws,rfl,x3,rr⟩:=Qj rr;cases Qp rr;cases Zd x1;cases Zd x2;cases Zd x3
 exact⟨i,j,c,n,rfl,⟨by omega,by omega,by omega,by omega⟩,so,q α1 _ H1 E1 R1 rfl⟩
def Qjd{elts:List Expr}{kt:Nat}{pt:Pos}{a':E}(tx:Txt T A X.K X.mg)(hg:Gl X "enumerate")(hm:X.mg "enumerate"=none)(hns:∀x p,a≠.Starred x p)(h:PE X a (Iv.TI T A X.K (ev T cf d a'))):
  PI X (.Tuple elts kt pt) (.Call (.Name "enumerate" p) [a] [] q) (TIW T A X.K (λZ hs=>Q4 T (ev T cf d) Z (.enm a') hs)):=by
 refine QfF (Qjc hg hm h (Qt hns)) ?_;rintro Y H R ⟨α,Z,hs,w,hs',rs,Rp,e,q⟩;simp only[Q4]at e;obtain⟨u,h1,e1,e⟩:=Qe e;split at e
 case h_2=>cases e
 rename_i xs el;cases e;refine TI.run rs Rp e1 λα1 x H1 E1 R1 r1 rs1=>?_;obtain⟨a,vs,rfl,rr,sq⟩:=QL tx R1 el r1;exact⟨a,vs,rfl,sq,q α1 _ H1 E1 R1 ⟨a,r1,rfl⟩⟩
def Rep.aside{D:Addr}{ho:HO}(R:Rep T A X.K α hs H)(hn:D∉α)(hs':∀o u,H D≠some (.frz o u)):Rep T A X.K α hs (upd H D ho):=
 ⟨⟨R.h.len,R.h.nd_keep λb x hb e=>by rw[Qf (λ(z:b=D)=>hn (z▸hb))];exact e,λn a o e1 e2=>RO.keep (R.h.ob n a o e1 e2) (λv v e=>e) λc y e w=>by
   rcases w with rfl|⟨oz,fs,rfl⟩
   ·have ne:c≠D:=λz=>hn (z▸Xv e1);rw[Qf ne];exact e
   ·rw[Qf (λz=>hs' _ _ (z▸e))];exact e⟩,
  R.s.keep λy e z=>by
   obtain⟨ob,u,rfl⟩:=z;have ne:A.s≠D:=λz=>hs' ob _ (z▸e);rw[Qf ne]
   exact e⟩
def Rep.adopt{D:Addr}{us:List U}{ys:List V}(R:Rep T A X.K α hs H)(hn:D∉α)(hD:H D=some (.lst ys))(r:RUs A α us ys):Rep T A X.K (α++[D]) (hs++[.lst us]) H:=by
 refine⟨⟨by simp[R.h.len],Qek R.h.nd hn,λn a o e1 e2=>?_⟩,R.s⟩
 rcases Qq e1 with q|⟨q1,q2⟩
 ·rcases Qq e2 with z|⟨z,_⟩
  ·exact RO.keep (R.h.ob n a o q z) Qu λy y e y=>e
  ·have:=getElem?_lt q;rw[R.h.len]at this;omega
 ·subst q2
  rcases Qq e2 with z|⟨_,z⟩
  ·have:=(Xc.mp z).1;rw[<-R.h.len]at this;omega
  ·subst z;exact⟨ys,hD,RUs.mono Qu r⟩
def RS.pad{p:Rho}{os:St}(rs:RS A α Z Y)(hl:p.length=os.length)(hp:∀x∈p,x=none):RS A α (Z++p) (Y++os):=by
 refine⟨by simp[rs.len,hl],λi u e=>?_⟩
 by_cases l:i < Z.length
 ·rw[Xp l]at e;obtain⟨v,h1,h2⟩:=rs.val i u e
  exact⟨v,by rw[Xp (Xc.mp h1).1];exact h1,h2⟩
 ·rw[X7 (by omega)]at e
  cases hp _ (Xv e)
noncomputable def nN(b:Bool):Nat:=if b then 2 else 1
def Qcb(b:Bool):(Qdl b).length=nN b:=by cases b<;>rfl
def QaB(b:Bool):∀x∈Qdl b,x=none:=by cases b<;>simp[Qdl]
def QjM{K:W.Frag}{b:Bool}{os:St}{Q:St->Hp->Prop}(hl:os.length=nN b)(h:gT K (tgN b Y.length) v (Y++os) H Q):
  gT K (tgN b Y.length) v (Y++os) H λσ2 H2=>(∃os':St,os'.length=nN b/\σ2=Y++os')/\Q σ2 H2:=by
 cases b with
 |false=>
  have h:Q ((Y++os).set Y.length (some v)) H:=h
  exact⟨⟨os.set 0 (some v),by simp[hl],by rw[Vs _ _ (Xi _),Td]⟩,h⟩
 |true=>
  obtain⟨a,xs,rfl,sq,len,v1,r1,rfl,v2,r2,rfl,e,q⟩:=h
  refine⟨a,_,rfl,sq,len,v1,_,rfl,v2,_,rfl,e,⟨(os.set 0 (some v1)).set 1 (some v2),by simp[hl],?_⟩,q⟩
  rw[Vs _ _ (Xi _),Td,Vs _ _ (Ur _)]
  congr 1
  congr 1
  omega
def QhU{α4:List Addr}{D:Addr}{ho:HO}{H4:Hp}(E4:Ext α α4 H H4)(nD:D∉α)(d3:H D=some ho)(hnt:∀vs,ho≠.tup vs:=by intro _ z;cases z):D∉α4:=λz=>by
 obtain⟨n,hn⟩:=Vi z;by_cases l:n < α.length
 ·have e1:α[n]?=some α[n]:=Xf l;have e2:=E4.pre _ _ e1;rw[hn]at e2;cases e2;exact nD (List.getElem_mem l)
 ·rcases E4.new n D hn (by omega)with q|⟨vs,q⟩
  ·rw[d3]at q;cases q
  ·rw[d3]at q;exact hnt vs (X3 q)
def Qfi{src:Src}{b:Bool}{t:Option E}{el:E}{Y:St}{H:Hp}{Q:VK}(tx:Txt T A X.K X.mg)(hl:Y.length=X.N.length)(h:Iv.TI T A X.K (ev T cf (d+1) (.comp src b t el)) Y H Q):
  QdL (TIW T A X.K (λZ hs=>Q4 T (ev T cf d) Z src hs)) (nN b) (gT X.K (tgN b X.N.length)) (TIT T A X.K (Z9 (evT T cf d) t)) (Iv.TI T A X.K (ev T cf d el)) Y H Q:=by
 rw[<-hl];obtain⟨α,Z,hs,u,hs',rs,R,e,q⟩:=h;simp only[ev]at e;obtain⟨w,h1,e1,e⟩:=Qe e;obtain⟨us,h2,e2,e⟩:=Qe e;cases e;refine⟨α,Z,hs,w,h1,rs,R,e1,λα1 J H1 E1 R1 W1 D hD=>?_⟩;have rs1:=rs.mono E1.pre
 refine⟨λi m ys H2=>∃αc hc acc,RS A αc Z Y/\Rep T A X.K αc hc H2/\D∉αc/\H2 D=some (.lst ys)/\RUs A αc acc ys/\Ext α1 αc H1 H2/\WJ A X.K αc J H2 w/\QS T (ev T cf d) (Z9 (evT T cf d) t) w b el Z m i acc hc=some (us,h2),⟨Q3 T w h1,α1,h1,[],rs1,?_,R1.h.notIn hD,Qi,.nil,?_,W1.mono (λs s e=>e) (λb o u e=>by rw[Qf (λz=>by rw[z,hD]at e;cases e)];exact e),e2⟩,?_⟩
 ·exact R1.aside (R1.h.notIn hD) λo u z=>by rw[hD]at z;cases z
 ·exact⟨λs s e=>e,λn a e l=>by have:=getElem?_lt e;omega,λb o e s=>by rw[Qf (λz=>by rw[z,hD]at e;cases e)];exact e,λb o kv e=>by rw[Qf (λz=>by rw[z,hD]at e;cases e)];exact e,λb o e=>⟨o,by rw[Qf (λz=>by rw[z,hD]at e;cases e)];exact e,λs=>T6⟩⟩
 rintro i m ys H2 ⟨αc,hc,acc,rsc,Rc,nD,hDl,rr,Ec,Wc,ec⟩;refine⟨hDl,?_⟩
 cases m with
 |zero=>cases ec
 |succ m=>
  simp only[QS]at ec;split at ec
  ·cases ec
  ·rename_i ei;cases ec;refine .inl ⟨Qcn tx Rc Wc ei,?_⟩;have Ra:=Rc.adopt nD hDl rr
   have Ea:Ext α1 (αc++[D]) H1 H2:=⟨λn a e=>Qu n a (Ec.pre n a e),λn a e l=>by
    rcases Qq e with z|⟨_,z⟩
    ·exact Ec.new n a z l
    ·rw[z];exact .inl hD,Ec.keep,Ec.fz,Ec.tr⟩
   exact q _ _ _ (E1.trans Ea Ra.h) Ra ⟨D,by rw[<-Rc.h.len];exact QG,rfl⟩
  ·rename_i x ei;split at ec
   ·cases ec
   rename_i ρ' et;split at ec
   case isFalse=>cases ec
   rename_i small;obtain⟨c,h3,e3,ec⟩:=Qe ec
   have go:J.go i H2:=(Qco tx Rc Wc (rsc.pad (os:=List.replicate (nN b) none) (by rw[Qcb];simp) (QaB b)) ei et).1
   refine .inr ⟨go,?_,λv H3 os lo yl=>?_⟩
   ·have:=rr.length;rw[Vu];omega
   have rsn:RS A αc (Z++Qdl b) (Y++os):=rsc.pad (by rw[Qcb,lo]) (QaB b)
   obtain⟨_,stp⟩:=Qco tx Rc Wc rsn ei et;rw[rs.len]at stp;refine QjM lo (stp v H3 _ yl λσ2 rs2 R3 E3=>?_);have d3:H3 D=some (.lst ys):=E3.keep D _ hDl nD;refine TIT.run rs2 R3 e3 λα4 H4 E4 R4 rs4=>?_;have d4:H4 D=some (.lst ys):=E4.keep D _ d3 nD;have nD4:=QhU E4 nD d3;have Et4:=(Ec.trans E3 R3.h).trans E4 R4.h
   cases c with
   |false=>
    rw[if_neg Xz]at ec ⊢;exact⟨m,V3 _,α4,h3,acc,rsc.mono E4.pre,R4,nD4,d4,RUs.mono E4.pre rr,Et4,Wc.mono E4.pre λb o u e=>E4.fz _ _ _ (E3.fz _ _ _ e),ec⟩
   |true=>
    rw[if_pos rfl]at ec ⊢;obtain⟨u',h5,e5,ec⟩:=Qe ec;refine TI.run rs4 R4 e5 λα5 y H5 E5 R5 r5 rs5=>?_;have d5:H5 D=some (.lst ys):=E5.keep D _ d4 nD4;have nD5:=QhU E5 nD4 d4
    refine⟨d5,m,V3 _,α5,h5,acc++[u'],(rsc.mono E4.pre).mono E5.pre,R5.aside nD5 (λo u z=>by rw[d5]at z;cases z),nD5,Qi,?_,?_,(Wc.mono (λn a e=>E5.pre n a (E4.pre n a e)) λb o u e=>by rw[Qf (λz=>by rw[z,hDl]at e;cases e)];exact E5.fz _ _ _ (E4.fz _ _ _ (E3.fz _ _ _ e))),ec⟩
    ·exact Paired.snoc (RUs.mono E5.pre (RUs.mono E4.pre rr)) r5
    ·have Et:=Et4.trans E5 R5.h
     exact⟨Et.pre,Et.new,λb o e hb=>by rw[Qf (λz=>by rw[z,hD]at e;cases e)];exact Et.keep b o e hb,λb o kv e=>by rw[Qf (λz=>by rw[z,hD]at e;cases e)];exact Et.fz b o kv e,λb o e=>by
      obtain⟨o',q1,q2⟩:=Et.tr b o e
      exact⟨o',by rw[Qf (λz=>by rw[z,hD]at e;cases e)];exact q1,q2⟩⟩
end
end
section
variable {a':E}{a tg:Expr}{d:Nat}{pos:Pos}{scope:Scope}
section
variable {X:Cx}{T:Tbl}{A:Adr}{C:Ctx}{cf:Cf}{m k:Nat}
def Qn9{j:Nat}{p1 p3 p2:Pos}(tx:Txt T A X.K X.mg)(h:PE X a (TI T A X.K (ev T cf d a'))):
  PE X (.Subscript a (.Slice none none (some (.UnaryOp .USub (.Constant (.int 1) j p1) p3)) p2) pos) (TI T A X.K (ev T cf (d+1) (.rev a'))):=by
 refine Q0 (QlP h) ?_;rintro Y H Q ⟨α,Z,hs,u,hs',rs,R,e,q⟩;simp only[ev]at e;obtain⟨u1,h1,e1,e⟩:=Qe e;split at e
 case h_2=>cases e
 rename_i xs el;cases e;refine TI.run rs R e1 λα1 x H1 E1 R1 r1 rs1=>?_;obtain⟨b,vs,rfl,rr,sq⟩:=QL tx R1 el r1;refine⟨b,vs,rfl,sq,λp hp=>?_⟩;obtain⟨R2,E2⟩:=R1.new (p:=p) (o:=.lst xs.reverse) (ho:=.lst vs.reverse) hp ⟨_,Qi,RUs.mono Qu rr.reverse⟩
 exact q _ _ _ (E1.trans E2 R2.h) R2 ⟨p,by rw[<-R1.h.len];exact QG,rfl⟩
def Qln{f:Str}{args:List Expr}{p:Pos}(g:GX T A C X)(hh:hdC C=false)(hg:ZK C f=true)(hx:¬C.bl.contains f=false)(hra:JX C f args=some a)(h:PE X a (TI T A X.K (ev T cf d a')))(hns:∀x p,a≠.Starred x p):
  PE X (.Call (.Name f p) args [] pos) (TI T A X.K (ev T cf (d+1) (.rev a'))):=by
 unfold JX at hra;split at hra
 case isFalse=>cases hra
 rename_i ef;subst ef;split at hra
 case h_2=>cases hra
 rename_i r pr a0 p2;split at hra
 case isFalse=>cases hra
 rename_i c;cases hra;simp only[Xl,X1]at c;obtain⟨⟨⟨c1,c2⟩,c3⟩,c4⟩:=c
 have e1:r=Str.ofString "reversed":=by simpa using c1
 subst e1
 refine Q0 (Qje (g.calm hh) (QX g hg) (g.blt _ hx) (QX g c2) (g.blt _ (by rw[c4];simp)) h (Qt hns)) ?_
 rintro Y H Q ⟨α,Z,hs,u,hs',rs,R,e,q⟩;simp only[ev]at e;obtain⟨u1,h1,e1,e⟩:=Qe e;split at e
 case h_2=>cases e
 rename_i xs el;cases e;refine TI.run rs R e1 λα1 x H1 E1 R1 r1 rs1=>?_;obtain⟨b,vs,rfl,rr,sq⟩:=QL g.txt R1 el r1;refine⟨b,vs,rfl,sq,λp hp=>?_⟩;obtain⟨R2,E2⟩:=R1.new (p:=p) (o:=.lst xs.reverse) (ho:=.lst vs.reverse) hp ⟨_,Qi,RUs.mono Qu rr.reverse⟩
 exact q _ _ _ (E1.trans E2 R2.h) R2 ⟨p,by rw[<-R1.h.len];exact QG,rfl⟩
def Qlg{f:Str}{args:List Expr}{p:Pos}(g:GX T A C X)(hg:ZK C f=true)(hx:¬C.bl.contains f=false)(hra:QiK C f args=some a)(h:PE X a (TI T A X.K (ev T cf d a')))(hns:∀x p,a≠.Starred x p):
  PI X tg (.Call (.Name f p) args [] pos) (TIW T A X.K (λZ hs=>Q4 T (ev T cf d) Z (.rngR a') hs)):=by
 unfold QiK at hra;split at hra
 case isFalse=>cases hra
 rename_i ef;subst ef;split at hra
 case h_2=>cases hra
 rename_i r pr a0 p2;split at hra
 case isFalse=>cases hra
 rename_i c;cases hra;simp only[Xl,X1]at c;obtain⟨⟨⟨c1,c2⟩,c3⟩,c4⟩:=c
 have e1:r=Str.ofString "range":=by simpa using c1
 subst e1
 refine QfF (Qi9 (QX g hg) (g.blt _ hx) (QX g c2) (g.blt _ (by rw[c4];simp)) h (Qt hns)) ?_
 rintro Y H R ⟨α,Z,hs,w,hs',rs,Rp,e,q⟩;simp only[Q4]at e;obtain⟨u,h1,e1,e⟩:=Qe e;split at e
 case h_2=>cases e
 rename_i i;split at e
 case isFalse=>cases e
 rename_i cc;cases e;simp only[Xl,X1]at cc;obtain⟨d1,d2⟩:=QV cc.1;refine TI.run rs Rp e1 λα1 x H1 E1 R1 r1 rs1=>?_;cases Zd r1
 exact⟨i,rfl,cc.2,by omega,q α1 _ H1 E1 R1 rfl⟩
def Qle{it:Expr}{src:Src}(g:GX T A C X)(S:Snd T A C X cf m)(h:compSrc (m+1) C it=some src)(hz:Qny src=true->∃elts kt pt,tg=.Tuple elts kt pt):PI X tg it (TIW T A X.K (λZ hs=>Q4 T (ev T cf d) Z src hs)):=by
 have seq:∀{it:Expr} {src:Src},(Qg m C it).map Src.seq=some src->PI X tg it (TIW T A X.K (λZ hs=>Q4 T (ev T cf d) Z src hs)):=by
  intro it src h;simp only[Xd]at h;obtain⟨ir,hi,rfl⟩:=h;exact QlJ g.txt (S.e d it ir hi)
 simp only[compSrc]at h;split at h
 ·rename_i f p args q;split at h
  case isFalse=>cases h
  rename_i hg;split at h
  ·exact seq h
  ·split at h
   ·cases h
   rename_i hx;split at h
   ·rename_i b hrr;simp only[Xd]at h;obtain⟨b',hb,rfl⟩:=h;exact Qlg g hg hx hrr (S.e d b b' hb) (QJ hb)
   rename_i hnr;clear hnr;split at h
   ·rename_i e;subst e;split at h
    ·rename_i a;simp only[Xd]at h;obtain⟨a',ha,rfl⟩:=h;exact QlK (QX g hg) (g.blt _ hx) (QJ ha) (S.e d a a' ha)
    ·rename_i a b c;simp only[Xd]at h;obtain⟨es,ha,rfl⟩:=h;exact Qi8 (QX g hg) (g.blt _ hx) (Qw ha) (S.a d _ es ha)
    ·cases h
   ·split at h
    ·rename_i e;subst e;split at h
     ·rename_i a;simp only[Xd]at h;obtain⟨a',ha,rfl⟩:=h;obtain⟨elts,kt,pt,rfl⟩:=hz rfl;exact Qjd g.txt (QX g hg) (g.blt _ hx) (QJ ha) (S.e d a a' ha)
     ·cases h
    ·exact seq h
 ·exact seq h
def Jq{it:Expr}{src:Src}{env:Env}(h:compSrc m C it=some src):∀x,foldedSetIterable it env x=pure x:=by
 intro x
 cases it<;>first|rfl|skip
 cases m with
 |zero=>simp[compSrc]at h
 |succ m=>
  simp only[compSrc,Xd]at h;obtain⟨_,h,_⟩:=h
  cases m<;>first|exact Znn h|simp[Qg]at h
def Yc{xs:List Str}(g:GX T A C X)(h:JE C xs scope=true):CompOk X xs scope/\∀C0 s H fp,GX T A (C.inner xs scope) (X.block xs scope C0 s H fp):=by
 unfold JE at h;simp only[Xl,Uf,Wl,Uu,X1]at h;obtain⟨⟨⟨⟨h1,h2⟩,hd⟩,h3⟩,h5⟩:=h
 have nd:(".0":Str)∉X.N:=λz=>by
  rw[g.N]at z;rw[Ux.mpr z]at h5;cases h5
 refine⟨⟨h1,λx hx=>(h2 x hx).1,λy hy=>?_,λx hx=>(h2 x hx).2,(Uc.mp hd).2.1,nd⟩,λC0 s H fp=>?_⟩
 ·have:=h3 y hy;obtain⟨n,kd⟩:=y
  cases kd with
  | «local»=>
   simp only[Xl,Up,X1,Uf,Ux]at this;exact⟨λw=>this,(λz=>nomatch z),λz=>nomatch z⟩
  |cell=>cases this
  |free=>
   simp only[Up,Uf]at this;rw[<-g.sc]at this;exact⟨(λz=>nomatch z),(λz=>nomatch z),λw=>this⟩
  |_=>exact⟨(λz=>nomatch z),(λz=>nomatch z),λz=>nomatch z⟩
 ·refine⟨g.CT,?_,?_,?_,g.calm,h1,rfl,g.gfn,g.gcl,g.gco,g.gtx,g.blt,g.txt,g.tab⟩
  ·show hideN xs X.N++xs=hideN xs C.N++xs;rw[g.N]
  ·show(hideN xs X.N++xs).Nodup;rw[g.N];exact hd
  ·show(relabel scope X.env).names=relN C.names scope.names;rw[QO g.kind,g.sc]
def Qca{b:Bool}{xs:List Str}{C0:Addr}{s:Shared}{H:Hp}{fp:List Addr}(g:GX T A C X)(hh:hdC C=false)(k:CompOk X xs scope)(gb:GX T A (C.inner xs scope) (X.block xs scope C0 s H fp))(h:QnF tg b xs):PG (X.block xs scope C0 s H fp) tg (gT X.K (tgN b X.N.length)):=by
 have nm:∀{x:Str} {p:Pos} {i:Nat},x∈xs->(hideN xs X.N++xs)[i]?=some x->PG (X.block xs scope C0 s H fp) (.Name x p) (QaO i):=λ{x p i} hx hi=>by
  have loc:(X.block xs scope C0 s H fp).env.scope.names.lookup x=some .local:=by
   show(relabel scope X.env).names.lookup x=some .local;rw[QO g.kind,Zx,k.loc x hx];rfl
  exact Qbo gb.nd hi (.inl loc) (.inr loc)
 rcases h with⟨rfl,x,p,rfl,rfl⟩|⟨rfl,x,p,y,q,kt,pt,rfl,rfl⟩
 ·exact nm (by simp) (by rw[<-Z3 (xs:=[x])];simp)
 ·refine QhR (gb.calm hh) (YB (nm (by simp) (by rw[<-Z3 (xs:=[x,y])];simp)) (YB (nm (by simp) ?_) Qec))
  rw[<-Z3 (xs:=[x,y]),X7 (by omega)]
  simp
def CompParts(X:Cx)(elt:Expr)(gens:List Comprehension)(scope:Scope)(t:TE):Prop:=∃tg iter tl xs n wi g tt te,gens=[⟨tg,iter,Option.toList tl,0⟩]/\CompOk X xs scope/\PI X tg iter wi/\xs.length=n/\(∀C s H fp,PG (X.block xs scope C s H fp) tg g)/\(∀C s H fp,PTO (X.block xs scope C s H fp) tl tt)/\(∀C s H fp,PE (X.block xs scope C s H fp) elt te) /\
 (∀v,foldedSetIterable iter X.env v=pure v)/\∀Y H Q,Y.length=X.N.length->t Y H Q->QdL wi n g tt te Y H Q\/∃a kv,H a=some (.dK kv)/\QdL wi n g tt te Y H λv H'=>QdK a H (Q v) H'
def CompParts.pe{elt:Expr}{gens:List Comprehension}{t:TE}(hc:X.calm=true)(h:CompParts X elt gens scope t):PE X (.ListComp elt gens scope pos) t:=by
 obtain⟨tg,iter,tl,xs,n,wi,gg,tt,te,rfl,ok,hi,hn,hg,ht,he,hf,imp⟩:=h;intro pins s Y H Q I q
 rcases imp Y H Q I.len q with q|⟨a,kv,ha,q⟩
 ·exact Qbq hc ok hi hn hg ht he hf pins s Y H Q I q
 ·have h0:∀o' u',X.H₀ a≠some (.frz o' u'):=λo' u' z=>by
   have:=I.base.frzs a o' u' z;rw[ha]at this;cases this
  exact thn (Qbq hc ok hi hn hg ht he hf pins s Y H _ I q) λv s' y=>by obtain⟨x,H',I',rx,o,kv',e,p⟩:=y;exact⟨x,_,I'.thaw e h0,rx,p⟩
end
end
section
variable {ir:E}{e:Expr}{d:Nat}{p:Pos}
section
variable {X:Cx}{T:Tbl}{A:Adr}{C:Ctx}{cf:Cf}{m k:Nat}
def QdT{b:Expr}(h:QhB b=none):Z0 b=true:=by
 cases b with
 |Slice lo hi st p=>
  cases st with
  |none=>cases h
  |some e=>
   simp only[QhB]at h;split at h<;>cases h
 |_=>rfl
def Qf7{b:Expr}{lo hi:Option Expr}(h:QhB b=some (.cut lo hi)):∃p,b=.Slice lo hi none p:=by
 cases b with
 |Slice lo' hi' st p=>
  cases st with
  |none=>cases h;exact⟨p,rfl⟩
  |some e=>
   simp only[QhB]at h;split at h<;>cases h
 |_=>cases h
def QjI(h:QoO e=true):∃j p q,e=.UnaryOp .USub (.Constant (.int 1) j p) q:=by
 unfold QoO at h;split at h
 ·exact⟨_,_,_,rfl⟩
 ·cases h
def Qf6{b:Expr}(h:QhB b=some .rev):∃j p1 p3 p,b=.Slice none none (some (.UnaryOp .USub (.Constant (.int 1) j p1) p3)) p:=by
 cases b with
 |Slice lo hi st p=>
  cases st with
  |none=>cases h
  |some e=>
   simp only[QhB]at h;split at h
   ·rename_i c;simp only[Xl,Option.isNone_iff_eq_none]at c;obtain⟨⟨c1,c2⟩,c3⟩:=c;obtain⟨j,p1,p3,rfl⟩:=QjI c1;subst c2 c3;exact⟨j,p1,p3,p,rfl⟩
   ·cases h
 |_=>cases h
def Qbg{a b:Expr}(g:GX T A C X)(hu:X.A.units+1<cLine)(S:Snd T A C X cf m)(h:Qg (m+1) C (.Subscript a b p)=some ir):PE X (.Subscript a b p) (TI T A X.K (ev T cf d ir)):=by
 simp only[Qr2]at h;split at h
 ·rename_i lo hi hb;obtain⟨p2,rfl⟩:=Qf7 hb;exact QiH S h
 ·rename_i hb;obtain⟨j,p1,p3,p2,rfl⟩:=Qf6 hb;refine QC λd=>?_;simp only[Xb]at h;obtain⟨a',ha,h⟩:=h;cases h;exact Qn9 g.txt (S.e d a a' ha)
 ·cases h
 ·rename_i hb;have hs:=QdT hb;refine QC λd=>?_;simp only[Xb]at h;obtain⟨b',hb',h⟩:=h
  have gen:((Qg m C a).bind λa'=>some (E.ix a' b'))=some ir->PE X (.Subscript a b p) (TI T A X.K (ev T cf (d+1) ir)):=λh=>by
   simp only[Xb]at h;obtain⟨a',ha,h⟩:=h;cases h;exact QjF hu g.txt (S.e d a a' ha) (S.e d b b' hb') hs
  split at h
  ·rename_i ks vs hh
   exact absurd hh (by cases a<;>simp[Qo1])
  ·rename_i x hh;split at h
   ·rename_i k ht;exact nomatch ht
   ·exact gen h
  ·exact gen h
def hd0{C:Ctx}(h:¬hdC C=true):hdC C=false:=by
 cases q:hdC C with
 |true=>exact absurd q h
 |false=>rfl
def Qml{elt:Expr}{gens:List Comprehension}{scope:Scope}(h:Qg (m+1) C (.ListComp elt gens scope p)=some ir):hdC C=false:=by
 simp only[QqB]at h;split at h
 case h_2=>cases h
 split at h
 case isFalse=>cases h
 rename_i ok;simp only[Xl,Uu]at ok;exact ok.2
def QcP{f:Expr}{args:List Expr}{kws:List Keyword}(g:GX T A C X)(F:Fc X T A cf k)(hr:hdC C=false->Room (k+1) X.A)(hu:X.A.units+64<cLine)(S:Snd T A C X cf m)(h:Qg (m+1) C (.Call f args kws p)=some ir):PE X (.Call f args kws p) (TI T A X.K (ev T cf d ir)):=by
 refine QC λd=>?_
 cases kws with
 |cons kw kws=>cases f<;>exact Znn h
 |nil=>
  cases f with
  |Name x px=>
   simp only[Qr1]at h;split at h
   ·cases h
   rename_i hn;have n1:x≠"__debug__":=λz=>hn (.inl z);have n2:x≠"__name__":=λz=>hn (.inr (.inl z))
   have hg:ZK C x=true:=by
    cases q:ZK C x with
    |true=>rfl
    |false=>exact absurd (.inr (.inr q)) hn
   split at h
   ·rename_i i hx;split at h
    ·cases h
    rename_i hh;simp only[Xb]at h;obtain⟨es,ha,h⟩:=h;exact QiJ g F ((hr (hd0 hh)).mono (Ur _)) S hg n1 hx ha h
   ·cases h
   ·cases h
   ·cases h
   ·split at h
    ·cases h
    rename_i hx;split at h
    ·rename_i e;subst e;split at h
     ·rename_i a t pt;split at h
      ·rename_i c;simp only[Xb]at h;obtain⟨a',ha,ty,ht,h⟩:=h;cases h;exact Qob g S hg hx c.1 c.2.1 c.2.2 ht ha
      ·cases h
     ·cases h
    ·split at h
     ·cases h
     rename_i hh;have hh:=hd0 hh;split at h
     ·rename_i ra hra;simp only[Xb]at h;obtain⟨es,ha,h⟩:=h;cases h;exact nomatch hra
     ·split at h
      ·rename_i a hra;simp only[Xb]at h;obtain⟨a',ha,h⟩:=h;cases h;exact Qln g hh hg hx hra (S.e d a a' ha) (QJ ha)
      ·simp only[Xb]at h;obtain⟨b,hb,es,ha,h⟩:=h;cases h
       exact Qq3 g hh (by omega) S hg n1 n2 hb ha
  |Attribute o x pa=>
   simp only[Qr0]at h;split at h
   case isFalse=>cases h
   rename_i c;simp only[Xl,X1]at c;split at h
   ·cases h
   ·simp only[Xb]at h;obtain⟨b,hb,o',ho,es,ha,h⟩:=h;cases h
    exact Qq2 (by omega) g.txt S hb c.1.1 c.1.2 c.2 ho ha
  |_=>exact Znn h
def Qg4{u:U}(h:Qff e=some u):∃v k,RK u k/\v=kV k/\PE X e (tC v):=by
 unfold Qff at h;split at h
 ·cases h;exact⟨_,Sum.inl _,⟨rfl,rfl⟩,rfl,Qed⟩
 ·cases h;exact⟨_,Sum.inr _,rfl,rfl,QhS⟩
 ·cases h
theorem QdV{d:Nat}{pos:Pos}(S:Snd T A C X cf m):∀{ks:List (Option Expr)} {vs:List Expr} {kk:List U} {es:List E},Qaf ks=some kk->QhY (Qg m C) vs=some es->kk.length=vs.length->∃trs keys,RKs kk keys/\PPs X pos ks vs trs /\
  ∀{α:List Addr} {Z:Rho} {Y:St} {hs h1:Hs} {H:Hp} {us:List U} {Q:List (V×V)->Hp->Prop},RS A α Z Y->Rep T A X.K α hs H->evs (ev T cf d) Z es hs=some (us,h1)->(∀α1 zs H1,Ext α α1 H H1->Rep T A X.K α1 h1 H1->RUs A α1 us zs->Q ((keys.map kV).zip zs) H1)->QbW trs Y H Q
 |[],[],kk,es,h1,h2,hl=>by
  cases h1;cases h2;refine⟨[],[],.nil,Qi6,λrs R e q=>?_⟩;simp only[evs]at e;cases e;exact q _ [] _ Ext.refl R .nil
 |[],_::_,kk,es,h1,h2,hl=>by cases h1;cases hl
 |none::_,_,kk,es,h1,h2,hl=>by cases h1
 |some k::ks,[],kk,es,h1,h2,hl=>by
  simp only[Qaf,Xb]at h1;obtain⟨k',_,r,_,h1⟩:=h1;cases h1;cases hl
 |some k::ks,v::vs,kk,es,h1,h2,hl=>by
  simp only[Qaf,Xb]at h1;obtain⟨k',hk,r,hr,h1⟩:=h1;cases h1;simp only[QhY,Xb]at h2;obtain⟨e',he,es',hes,h2⟩:=h2;cases h2
  obtain⟨trs,keys,rk,pp,rd⟩:=QdV (d:=d) (pos:=pos) S hr hes (by simpa using hl)
  obtain⟨kv,key,rk0,rfl,pk⟩:=Qg4 (X:=X) hk;refine⟨(tC (kV key),TI T A X.K (ev T cf d e'))::trs,key::keys,.cons rk0 rk,Qgn pk (S.e d v e' he) pp,λ{α Z Y hs h1 H us Q} rs R e q=>?_⟩;simp only[evs]at e;obtain⟨u,h2,e1,e⟩:=Qe e;obtain⟨us',h3,e2,e⟩:=Qe e;cases e;exact TI.run rs R e1 λα1 y H1 E1 R1 r1 rs1=>rd rs1 R1 e2 λα2 zs H2 E2 R2 r2=>q α2 (y::zs) H2 (E1.trans E2 R2.h) R2 (.cons (r1.mono E2.pre) r2)
theorem Qhl:∀{keys:List Key} {zs:List V},keys.length=zs.length->(keys.map kV).zip zs=(keys.zip zs).map λkv=>(kV kv.1,kv.2)
 |[],[],_=>rfl
 |k::ks,z::zs,h=>by simp only[Xu,Vo,Qhl (keys:=ks) (zs:=zs) (by simpa using h)]
 |[],_::_,h=>by cases h
 |_::_,[],h=>by cases h
theorem RKs.zip{α:List Addr}{kk us:List U}{keys:List Key}{zs:List V}(h:RKs kk keys)(h':RUs A α us zs):RD A α (kk.zip us) (keys.zip zs):=by
 induction h generalizing us zs with
 |nil=>exact .nil
 |cons a _ ih=>
  cases h' with
  |nil=>exact .nil
  |cons b r=>exact .cons ⟨a,b⟩ (ih r)
theorem Qcf{α β:Type}{f:α->Option β}:∀{xs:List α} {ys:List β},QhY f xs=some ys->ys.length=xs.length
 |[],ys,h=>by cases h;rfl
 |x::r,ys,h=>by
  simp only[QhY,Xb]at h;obtain⟨b,_,bs,h2,h⟩:=h;cases h;rw[X8,X8,Qcf h2]
theorem QaT:∀{ks:List (Option Expr)} {kk:List U},Qaf ks=some kk->ks.all (·.isSome)=true/\kk.length=ks.length
 |[],kk,h=>by cases h;exact⟨rfl,rfl⟩
 |none::_,kk,h=>by cases h
 |some k::ks,kk,h=>by
  simp only[Qaf,Xb]at h;obtain⟨k',_,r,hr,h⟩:=h;cases h;have ih:=QaT hr
  exact⟨by simpa using ih.1,by simp[ih.2]⟩
def Qoc{ks:List (Option Expr)}{vs:List Expr}(S:Snd T A C X cf m)(h:((Qaf ks).bind λkk=>if kk.length=vs.length/\kk.length<=15/\kk≠[]then(QhY (Qg m C) vs).bind λes=>some (E.dsp kk es)else none)=some ir):PE X (.Dict ks vs p) (TI T A X.K (ev T cf d ir)):=by
 simp only[Xb]at h;obtain⟨kk,hk,h⟩:=h;split at h
 case isFalse=>cases h
 rename_i c;simp only[Xb]at h;obtain⟨es,hes,h⟩:=h;cases h;obtain⟨c1,c2,c3⟩:=c;obtain⟨al,kl⟩:=QaT hk;refine QC λd=>?_;obtain⟨trs,keys,rk,pp,rd⟩:=QdV (d:=d) (pos:=p) S hk hes c1
 refine Q0 (Qjf pp al (by omega) (λz=>by subst z;exact c3 (Ul.mp (by simpa using kl))) (by omega)) ?_
 rintro Y H Q ⟨α,Z,hs,u,hs',rs,R,e,q⟩;simp only[ev]at e;obtain⟨us,h1,e1,e⟩:=Qe e;split at e
 case h_2=>cases e
 rename_i e2;cases e;intro b hb;obtain⟨R',E'⟩:=R.new (o:=.dic []) (ho:=.dK []) hb ⟨[],Qi,.nil⟩;have l0:=R.h.len;refine rd (rs.mono E'.pre) R' e1 λα1 zs H1 E1 R1 r1=>?_
 have ub:α1[hs.length]?=some b:=E1.pre _ _ (by rw[<-l0];exact QG)
 obtain⟨kv,ekv,rkv⟩:=R1.h.ob hs.length b _ ub e2;cases rkv
 have zl:keys.length=zs.length:=by rw[<-Wn rk,<-r1.length,Y0 e1,Qcf hes,c1]
 refine⟨ekv,keys.zip zs,Qhl zl,?_,?_⟩
 ·rw[List.length_zip,<-Wn rk];omega
 obtain⟨R2,E2⟩:=R1.put (o:=.dic (Jr [] (kk.zip us))) (ho:=.dK (Z1 [] (keys.zip zs))) ub ⟨_,Qi,RG.merge JA (RKs.zip rk r1) .nil⟩;exact q α1 (.ref b) _ ((E'.trans E1 R1.h).trans E2 R2.h) R2 ⟨b,ub,rfl⟩
def QdW(g:GX T A C X)(F:Fc X T A cf k)(hr:hdC C=false->Room (k+1) X.A)(hu:X.A.units+64<cLine)(S:Snd T A C X cf m)(cp:∀d elt gens scope p ir,Qg (m+1) C (.ListComp elt gens scope p)=some ir->CompParts X elt gens scope (TI T A X.K (ev T cf d ir)))(d:Nat)(e:Expr)(ir:E)(h:Qg (m+1) C e=some ir):PE X e (TI T A X.K (ev T cf d ir)):=by
 cases e with
 |Constant c j p=>exact QiI h
 |Name x p=>exact Qlm g h
 |BinOp a o b p=>exact Qoe S h
 |UnaryOp o a p=>
  cases o with
  |USub=>exact Qoa S h
  |Not=>exact(Qll g.txt S h).1
  |_=>exact Znn h
 |BoolOp o vs p=>
  cases vs with
  |nil=>cases o<;>first|exact Znn h|simp[Qg]at h
  |cons a r=>
   cases o with
   |And=>exact(S.an d a r p ir h).2
   |Or=>exact(S.orr d a r p ir h).2
 |Compare a os bs p=>
  match os,bs,h with
  |[o],[b],h=>exact(Qlp g.txt g.tab hu S h).1
  |[_,_],[_,_],h=>exact Znn h
  |[],_,h=>exact Znn h
  |[_],[],h=>exact Znn h
  |[_],_::_::_,h=>exact Znn h
  |[_,_],[],h=>exact Znn h
  |[_,_],[_],h=>exact Znn h
  |[_,_],_::_::_::_,h=>exact Znn h
  |_::_::_::_,_,h=>exact Znn h
 |IfExp t a b p=>exact Znn h
 |Tuple es j p=>exact QiF S h
 |List es p=>exact Qlo S h
 |Subscript a b p=>exact Qbg g (by omega) S h
 |ListComp elt gens scope p=>exact(cp d elt gens scope p ir h).pe (g.calm (Qml h))
 |Dict ks vs p=>
  cases ks with
  |cons k0 ks=>exact Qoc S (by simpa only[QrY]using h)
  |nil=>
   cases vs with
   |cons v0 vs=>exact Znn h
   |nil=>
    simp only[QrZ]at h;cases h;refine QC λd=>Q0 Qgq ?_;rintro Y H Q ⟨α,Z,hs,u,hs',rs,R,e,q⟩;simp only[ev]at e;cases e;intro p hp;obtain⟨R',E'⟩:=R.new (o:=.dic []) hp ⟨[],Qi,.nil⟩
    exact q _ _ _ E' R' ⟨p,by rw[<-R.h.len];exact QG,rfl⟩
 |Call f args kws p=>exact QcP g F hr hu S h
 |_=>exact Znn h
def QP(g:GX T A C X)(he:∀whole,isTrue e X.env whole=(do let v <-whole;standAt e.pos;holding [v] (truthy v)))(h:∀d,PE X e (TI T A X.K (ev T cf d ir)))(hir:∀d Z hs,evT T cf (d+1) ir Z hs=bd (ev T cf d ir Z hs) λu h1=>(Yg T u h1).map λb=>(b,h1)):
  PT X e (TIT T A X.K (evT T cf d ir)):=by
 refine Qb6 λd=>?_;refine Qkr (Qgg (h d) he) ?_;rintro Y H Q ⟨α,Z,hs,u,hs',rs,R,e,q⟩;rw[hir]at e;obtain⟨u1,h1,e1,e⟩:=Qe e;simp only[Xd]at e;obtain⟨b,e2,e⟩:=e;cases e;exact TI.run rs R e1 λα1 x H1 E1 R1 r1 rs1=>⟨_,QdH g.txt R1 e2 r1,q α1 H1 E1 R1⟩
def QI(h:QhQ ir=true):∀d Z hs,evT T cf (d+1) ir Z hs=bd (ev T cf d ir Z hs) λu h1=>(Yg T u h1).map λb=>(b,h1):=by
 intro d Z hs
 cases ir<;>first|rfl|cases h
def Qlc(g:GX T A C X)(F:Fc X T A cf k)(hr:hdC C=false->Room (k+1) X.A)(hu:X.A.units+64<cLine)(S:Snd T A C X cf m)(cp:∀d elt gens scope p ir,Qg (m+1) C (.ListComp elt gens scope p)=some ir->CompParts X elt gens scope (TI T A X.K (ev T cf d ir)))(d:Nat)(e:Expr)(ir:E)(hne:∀t a b p,e≠.IfExp t a b p)(ok:okT e ir=true)(h:Qg (m+1) C e=some ir):PT X e (TIT T A X.K (evT T cf d ir)):=by
 have all:=λd=>QdW g F hr hu S cp d e ir h
 cases e with
 |Constant c j p=>exact QP g (λz=>rfl) all (QI ok)
 |Name x p=>exact QP g (λz=>rfl) all (QI ok)
 |BinOp a o b p=>exact QP g (λz=>rfl) all (QI ok)
 |UnaryOp o a p=>
  cases o with
  |USub=>exact QP g (λz=>rfl) all (QI ok)
  |Not=>exact(Qll g.txt S h).2
  |_=>exact Znn h
 |BoolOp o vs p=>
  cases vs with
  |nil=>cases o<;>first|exact Znn h|simp[Qg]at h
  |cons a r=>
   cases o with
   |And=>exact(S.an d a r p ir h).1.pt
   |Or=>exact(S.orr d a r p ir h).1.pt
 |Compare a os bs p=>
  match os,bs,h with
  |[o],[b],h=>exact(Qlp g.txt g.tab hu S h).2
  |[_,_],[_,_],h=>exact Znn h
  |[],_,h=>exact Znn h
  |[_],[],h=>exact Znn h
  |[_],_::_::_,h=>exact Znn h
  |[_,_],[],h=>exact Znn h
  |[_,_],[_],h=>exact Znn h
  |[_,_],_::_::_::_,h=>exact Znn h
  |_::_::_::_,_,h=>exact Znn h
 |IfExp t a b p=>exact absurd rfl (hne t a b p)
 |Tuple es j p=>exact QP g (λz=>rfl) all (QI ok)
 |List es p=>exact QP g (λz=>rfl) all (QI ok)
 |Subscript a b p=>exact QP g (λz=>rfl) all (QI ok)
 |ListComp elt gens scope p=>exact QP g (λz=>rfl) all (QI ok)
 |Dict ks vs p=>exact QP g (λz=>rfl) all (QI ok)
 |Attribute a f p=>exact QP g (λz=>rfl) all (QI ok)
 |Call f args kws p=>exact QP g (λz=>rfl) all (QI ok)
 |_=>exact Znn h
def QqX:Snd T A C X cf 0 where
 e:=λd e ir h=>by first|exact Znn h|simp[Qg]at h
 t:=λd e ir h=>by simp[compT]at h
 an:=λd a r p ir h=>by simp[compAnd]at h
 orr:=λd a r p ir h=>by simp[compOr]at h
 a:=λd es irs h=>by simp[compA]at h
 o:=λd e ir h=>by simp[compO]at h
structure Snd2(T:Tbl)(A:Adr)(C:Ctx)(X:Cx)(cf:Cf)(m:Nat):Prop where
 s:Snd T A C X cf m
 w:∀d it src tg,compSrc m C it=some src->(Qny src=true->∃elts kt pt,tg=.Tuple elts kt pt)->PI X tg it (TIW T A X.K (λZ hs=>Q4 T (ev T cf d) Z src hs))
 c:∀d elt gens scope p ir,Qg m C (.ListComp elt gens scope p)=some ir->CompParts X elt gens scope (TI T A X.K (ev T cf d ir))
def QlA{tl:Option Expr}{t:Option E}{Yyy:Cx}{C':Ctx}(S:Snd T A C' Yyy cf m)(h:compTO (m+1) C' tl=some t):PTO Yyy tl (TIT T A Yyy.K (Z9 (evT T cf d) t)):=by
 cases tl with
 |none=>
  simp only[compTO]at h;cases h;rintro Y H Q ⟨α,Z,hs,u,hs',rs,R,e,q⟩;simp only[Z9]at e;cases e;exact q α H Ext.refl R
 |some e=>
  simp only[compTO,Xb]at h;obtain⟨e',he,h⟩:=h;cases h;exact(S.t d e e' he).1
def QdI{tg:Expr}{b:Bool}{xs:List Str}{src:Src}(ht:QnF tg b xs)(ok:Qbs src (tgN b 0)=true):Qny src=true->∃elts kt pt,tg=.Tuple elts kt pt:=by
 intro hp
 rcases ht with⟨rfl,_⟩|⟨rfl,x,p,y,q,k,pt,rfl,_⟩
 ·cases src<;>first|(cases hp;done)|(cases ok;done)
 ·exact⟨_,_,_,rfl⟩
def JC(g:GX T A C X)(S:Snd2 T A C X cf m)(SB:∀xs scope C0 s H fp,JE C xs scope=true->Snd2 T A (C.inner xs scope) (X.block xs scope C0 s H fp) cf m)(ST:∀xs scope C0 s H fp tl t d,JE C xs scope=true->compTO m (C.inner xs scope) tl=some t->PTO (X.block xs scope C0 s H fp) tl (TIT T A X.K (Z9 (evT T cf d) t)))(d:Nat)(elt:Expr)(gens:List Comprehension)(scope:Scope)(p:Pos)(ir:E)
  (h:Qg (m+1) C (.ListComp elt gens scope p)=some ir):CompParts X elt gens scope (TI T A X.K (ev T cf d ir)):=by
 simp only[QqB]at h;split at h
 case h_2=>cases h
 rename_i gn hgen;split at h
 case isFalse=>cases h
 rename_i ok;simp only[Xl,Uu]at ok;obtain⟨ok,hh⟩:=ok;simp only[Xb]at h;obtain⟨src,hsrc,h⟩:=h;split at h
 case isFalse=>cases h
 rename_i oks;simp only[Xb]at h;obtain⟨t,ht,el,hel,h⟩:=h;cases h;obtain⟨tg,rfl,htg⟩:=Qc1 hgen;obtain⟨ck,gb⟩:=Yc g ok
 have hn:gn.xs.length=nN gn.b:=by
  rcases htg with⟨e,x,p,_,e'⟩|⟨e,x,p,y,q,k,pt,_,e'⟩<;>rw[e,e']<;>rfl
 cases d with
 |zero=>
  exact⟨tg,gn.iter,gn.tl,gn.xs,nN gn.b,_,_,TIT T A X.K (Z9 (evT T cf 0) t),TI T A X.K (ev T cf 0 el),rfl,ck,S.w 0 gn.iter src tg hsrc (QdI htg oks),hn,(λC0 s H fp=>Qca g hh ck (gb C0 s H fp) htg),(λC0 s H fp=>ST _ _ C0 s H fp _ _ 0 ok ht),(λC0 s H fp=>show PE _ elt (TI T A X.K (ev T cf 0 el))from(SB _ scope C0 s H fp ok).s.e 0 elt el hel),Jq hsrc,λY H Q z v=>by obtain⟨_,_,_,_,_,_,_,e,_⟩:=v;exact nomatch e⟩
 |succ d=>
  exact⟨tg,gn.iter,gn.tl,gn.xs,nN gn.b,_,_,TIT T A X.K (Z9 (evT T cf d) t),TI T A X.K (ev T cf d el),rfl,ck,S.w d gn.iter src tg hsrc (QdI htg oks),hn,(λC0 s H fp=>Qca g hh ck (gb C0 s H fp) htg),(λC0 s H fp=>ST _ _ C0 s H fp _ _ d ok ht),(λC0 s H fp=>show PE _ elt (TI T A X.K (ev T cf d el))from(SB _ scope C0 s H fp ok).s.e d elt el hel),Jq hsrc,λY H Q hl hq=>.inl (Qfi g.txt hl hq)⟩
theorem Qf5:∀(m:Nat) {C:Ctx} {X:Cx},GX T A C X->Fc X T A cf k->(hdC C=false->Room (k+1) X.A)->X.A.units+64<cLine->Snd2 T A C X cf m
 |0,C,X,g,F,hr,hu=>⟨QqX,λd it src tg h=>by simp[compSrc]at h,λd elt gens scope p ir h=>by first|exact Znn h|simp[Qg]at h⟩
 |1,C,X,g,F,hr,hu=>by
  have S0:=Qf5 0 g F hr hu;have S:=S0.s
  have cp:=JC g S0 (λx scope C0 s H fp ok=>Qf5 0 ((Yc g ok).2 C0 s H fp) ⟨F.ok,F.some,F.df,F.xf⟩ hr hu) (λxs scope C0 s H fp tl t d ok h=>by simp[compTO]at h)
  refine⟨⟨QdW g F hr hu S cp,λd e ir h=>?_,Qlq S,Qqa S,QhD S,Qlk S⟩,λd it src tg h hz=>Qle g S h hz,cp⟩;cases e<;>exact Znn h
 |m+2,C,X,g,F,hr,hu=>by
  have S1:=Qf5 (m+1) g F hr hu;have S:=S1.s;have S':=Qf5 m g F hr hu;have cp:=JC g S1 (λx scope C0 s H fp ok=>Qf5 (m+1) ((Yc g ok).2 C0 s H fp) ⟨F.ok,F.some,F.df,F.xf⟩ hr hu) (λxs scope C0 s H fp tl t d ok h=>QlA (Qf5 m ((Yc g ok).2 C0 s H fp) ⟨F.ok,F.some,F.df,F.xf⟩ hr hu).s h);refine⟨⟨QdW g F hr hu S cp,λd e ir h=>?_,Qlq S,Qqa S,QhD S,Qlk S⟩,λd it src tg h hz=>Qle g S h hz,cp⟩
  have hne:∀t a b p,e≠.IfExp t a b p:=by
   rintro t a b p rfl;simp[compT]at h
  have h':((Qg (m+1) C e).bind λir=>if okT e ir=true then some ir else none)=some ir:=by
   cases e<;>first|exact h|(simp[compT]at h;done)
  simp only[Xb]at h';obtain⟨ir',he,h'⟩:=h';split at h'
  ·rename_i ok;cases h';exact⟨Qlc g F hr hu S'.s S1.c d e ir hne ok he,S.e d e ir he⟩
  ·cases h'
end
end
section
variable {a:Addr}{env:Env}{e i o:Expr}{fl:Fl}{H H0:Hp}{h0 hs':Hs}{α α' α0:List Addr}{ts:List Expr}{body:List S}{d n:Nat}{Z ρ' ρ0:Rho}{Y σ0:St}{st:Stmt}{x:Str}{u:U}
section
variable {X:Cx}{T:Tbl}{A:Adr}{C:Ctx}{cf:Cf}{m k:Nat}
def ZQ{t:TS}(h:∀D Y H,¬t D Y H):PS X st t:=λz z Y H D z q=>(h D Y H q).elim
def Ye{st:List Stmt}{t:TS}(h:∀D Y H,¬t D Y H):PSs X st t:=λz z Y H D z q=>(h D Y H q).elim
def Qcc{ir:E}{tg:Option Expr}{l:Nat}(h:Qg m C e=some ir)(hn:∀elt gens scope p,e≠.ListComp elt gens scope p):swapsWith e tg l env=pure false:=by
 cases e<;>first|rfl|exact absurd rfl (hn _ _ _ _)|(cases m<;>exact Znn h)
def Qnt{tg:Expr}{t:Tg}(hc:X.calm=true)(g:GX T A C X)(fl:∀x,X.fn x=true\/X.env.scope.names.lookup x=some .local)(h:Yp C tg=some t):PG X tg (gT X.K t):=by
 have nm:∀{x:Str} {p:Pos} {i:Nat},QaM C x=true->idx x C.N=some i->PG X (.Name x p) (QaO i):=λ{x p i} h1 h2=>Qbo g.nd (by rw[g.N];exact Zh h2) (Jt g h1) (fl x)
 unfold Yp at h;split at h
 ·split at h
  ·rename_i hl;simp only[Xd]at h;obtain⟨i,hi,rfl⟩:=h;exact nm hl hi
  ·cases h
 ·split at h
  ·rename_i c;simp only[Xl]at c;simp only[Xb,Xd]at h;obtain⟨i,hi,j,hj,rfl⟩:=h;exact QhR hc (YB (nm c.1.1 hi) (YB (nm c.1.2 hj) Qec))
  ·cases h
 ·cases h
def Qdj{pos:Pos}(h:Z0 i=true):∀v,assign (.Subscript o i pos) env v=(do
   let ov <-holding [v] (eval o env);let iv <-holding [v,ov] (eval i env)
   standAt pos
   holding [v,ov,iv] (setItem ov iv v)
   release [v,ov,iv] []):=by
 intro v
 cases i<;>first|rfl|cases h
def Qjs{p:Pos}{ir:E}{l:Nat}(h:Qg m C e=some ir):swapsWithSole [.Subscript o i p] e l env=pure false:=by
 cases e<;>first|rfl|(cases m<;>exact Znn h)
def QgX(h:Qo5 e=some true):∃x j q,e=.Constant (.str x) j q:=by
 cases e with
 |Constant c j q=>cases c<;>first|exact⟨_,_,_,rfl⟩|cases h
 |_=>cases h
def QcA{a:As}(h:Qkk ts=some a):∃t,ts=[t]/\as1 t=some a:=by
 match ts,h with
 |[t],h=>exact⟨t,rfl,h⟩
def QbO(h:Qkk ts=some (.nm x)):∃p,ts=[.Name x p]:=by
 obtain⟨t,rfl,h'⟩:=QcA h;clear h;have h:=h';clear h';unfold as1 at h;split at h
 ·cases h;exact⟨_,rfl⟩
 ·cases h
 ·cases h
 ·split at h
  ·unfold Qiq at h;split at h<;>cases h
  all_goals cases h
 ·cases h
def Qhg(h:Qkk ts=some (.sub o i)):∃p,ts=[.Subscript o i p]:=by
 obtain⟨t,rfl,h'⟩:=QcA h;clear h;have h:=h';clear h';unfold as1 at h;split at h
 ·cases h
 ·cases h
 ·cases h;exact⟨_,rfl⟩
 ·split at h
  ·unfold Qiq at h;split at h<;>cases h
  all_goals cases h
 ·cases h
def QaL(h:Jy C x=true):C.names.lookup x=some .local:=by
 unfold Jy at h;split at h
 ·rename_i e;exact e
 ·cases h
def Qhx{tg:Expr}{t:Tg}{src:Src}(ht:Yp C tg=some t)(ok:Qbs src t=true):Qny src=true->∃elts kt pt,tg=.Tuple elts kt pt:=by
 intro hp
 cases tg with
 |Tuple elts kt pt=>exact⟨_,_,_,rfl⟩
 |Name x p=>
  simp only[Yp]at ht;split at ht
  ·simp only[Xd]at ht;obtain⟨i,_,rfl⟩:=ht
   cases src<;>first|(cases hp;done)|(cases ok;done)
  ·cases ht
 |_=>simp[Yp]at ht
structure SndS(T:Tbl)(A:Adr)(C:Ctx)(X:Cx)(cf:Cf)(m:Nat):Prop where
 s:∀d st ir,QM m C st=some ir->PS X st (TIS T A X.K (ex T cf d ir))
 ss:∀d sts irs,compSs m C sts=some irs->PSs X sts (TIS T A X.K (exs T cf d irs))
def QoB{K:W.Frag}{ir:S}:∀D Y H,¬TIS T A K (ex T cf 0 ir) D Y H:=λz z z y=>by obtain⟨_,_,_,_,_,_,_,_,h,_⟩:=y;exact nomatch h
def QhX{K:W.Frag}{irs:List S}:∀D Y H,¬TIS T A K (exs T cf 0 irs) D Y H:=λz z z y=>by obtain⟨_,_,_,_,_,_,_,_,h,_⟩:=y;exact nomatch h
def Qb8{ir:S}(h:∀d',PS X st (TIS T A X.K (ex T cf (d'+1) ir))):PS X st (TIS T A X.K (ex T cf d ir)):=by
 cases d with
 |zero=>exact ZQ QoB
 |succ d=>exact h d
def TIS.run{K:W.Frag}{hs h1:Hs}{f:Ex}{D:Ends}(rs:RS A α Z Y)(rp:Rep T A K α hs H)(h:f Z hs=some (fl,ρ',h1))
  (k:∀α1 σ1 H1,Ext α α1 H H1->Rep T A K α1 h1 H1->RS A α1 ρ' σ1->flE A α1 D σ1 H1 fl):TIS T A K f D Y H:=⟨α,Z,hs,fl,ρ',h1,rs,rp,h,k⟩
def QgT{w:Wk}{t:Tg}{J:It}{K:PySem.W.Frag}{D:Ends}(hK:K=X.K)(tx:Txt T A X.K X.mg)(rs0:RS A α0 ρ0 σ0)(R0:Rep T A X.K α0 h0 H0)(W0:WJ A X.K α0 J H0 w)
  (e0:Z6 T w t (exs T cf d body) n 0 ρ0 h0=some (fl,ρ',hs'))
  (q:∀α' Y' H',Ext α0 α' H0 H'->Rep T A X.K α' hs' H'->RS A α' ρ' Y'->flE A α' D Y' H' fl):
  ∃W:Nat->Nat->St->Hp->Prop,(∃m,W 0 m σ0 H0)/\∀i m Y H,W i m Y H->(J.stop i H/\D.nx Y H)\/(J.go i H/\∃N:St->Hp->Prop,(∀Y' H',N Y' H'->∃m',m'<m/\W (i+1) m' Y' H') /\
   ∀x H',J.yld i H x H'->gT X.K t x Y H' λσ2 H2=>TIS T A X.K (exs T cf d body) {D with nx:=N,ct:=N,bk:=D.nx} σ2 H2):=by
 refine⟨λi m Y H=>∃α Z hs,RS A α Z Y/\Rep T A X.K α hs H/\Ext α0 α H0 H/\Z6 T w t (exs T cf d body) m i Z hs=some (fl,ρ',hs'),⟨n,α0,ρ0,h0,rs0,R0,Ext.refl,e0⟩,?_⟩;rintro i m Y H ⟨α,Z,hs,rs,R,E,e⟩
 cases m with
 |zero=>cases e
 |succ m=>
  have W:=W0.mono E.pre E.fz;simp only[Z6]at e;split at e
  ·cases e
  ·rename_i ei;cases e;exact .inl ⟨Qcn tx R W ei,q α Y H E R rs⟩
  ·rename_i x ei;split at e
   ·cases e
   ·rename_i ρ1 et;obtain⟨go,yl⟩:=Qco tx R W rs ei et;refine .inr ⟨go,λY' H'=>∃α Z hs,RS A α Z Y'/\Rep T A X.K α hs H'/\Ext α0 α H0 H'/\Z6 T w t (exs T cf d body) m (i+1) Z hs=some (fl,ρ',hs'),λY' H' z=>⟨m,V3 _,z⟩,?_⟩;intro v H' hy;refine yl v H' _ hy λσ2 rs2 R2 E2=>?_;have E02:Ext α0 α H0 H':=E.trans E2 R2.h;split at e
    ·rename_i ρ2 h2 eb;exact TIS.run rs2 R2 eb λα3 σ3 H3 E3 R3 rs3=>⟨α3,ρ2,h2,rs3,R3,E02.trans E3 R3.h,e⟩
    ·rename_i ρ2 h2 eb;exact TIS.run rs2 R2 eb λα3 σ3 H3 E3 R3 rs3=>⟨α3,ρ2,h2,rs3,R3,E02.trans E3 R3.h,e⟩
    ·rename_i ρ2 h2 eb;cases e;exact TIS.run rs2 R2 eb λα3 σ3 H3 E3 R3 rs3=>q α3 σ3 H3 (E02.trans E3 R3.h) R3 rs3
    ·rename_i n1 n2 n3
     cases fl with
     |next=>exact absurd e (n1 _ _)
     |cont=>exact absurd e (n2 _ _)
     |brk=>exact absurd e (n3 _ _)
     |ret u=>exact TIS.run rs2 R2 e λα3 σ3 H3 E3 R3 rs3=>q α3 σ3 H3 (E02.trans E3 R3.h) R3 rs3
def Qoi{kvs:List (U×U)}{kv:List (Key×V)}{i:Nat}{p:U×U}{q:Key×V}(h:RD A α kvs kv)(h1:kvs[i]?=some p)(h2:kv[i]?=some q):RK p.1 q.1:=by
 obtain⟨q',e,r⟩:=Jn h h1;rw[h2]at e;cases e;exact r.1
def QeR{i0:Nat}{ob:Obj}{kv:List (Key×V)}{kvs:List (U×U)}{D:Ends}(rs0:RS A α0 ρ0 σ0)(R0:Rep T A X.K α0 h0 H0)
  (hz:H0 a=some (.frz ob (.dK kv))) (rd:RD A α0 kvs kv)
  (e0:QeS i0 (exs T cf d body) (kvs.map (·.1)) ρ0 h0=some (fl,ρ',hs'))
  (q:∀α' Y' H',Ext α0 α' H0 H'->Rep T A X.K α' hs' H'->RS A α' ρ' Y'->flE A α' D Y' H' fl):
  ∃W:Nat->Nat->St->Hp->Prop,(∃m,W 0 m σ0 H0)/\∀i m Y H,W i m Y H->((Itk a ob kv).stop i H/\D.nx Y H)\/((Itk a ob kv).go i H/\∃N:St->Hp->Prop,(∀Y' H',N Y' H'->∃m',m'<m/\W (i+1) m' Y' H') /\
   ∀x H',(Itk a ob kv).yld i H x H'->gT X.K (.name i0) x Y H' λσ2 H2=>TIS T A X.K (exs T cf d body) {D with nx:=N,ct:=N,bk:=D.nx} σ2 H2):=by
 have hl:=Wn rd;refine⟨λi m Y H=>∃α Z hs,RS A α Z Y/\Rep T A X.K α hs H/\Ext α0 α H0 H/\m+i=kvs.length/\QeS i0 (exs T cf d body) ((kvs.drop i).map (·.1)) Z hs=some (fl,ρ',hs'),⟨kvs.length,α0,ρ0,h0,rs0,R0,Ext.refl,rfl,e0⟩,?_⟩;rintro i m Y H ⟨α,Z,hs,rs,R,E,hm,e⟩;have hzi:=E.fz a ob (.dK kv) hz
 cases m with
 |zero=>
  rw[List.drop_of_length_le (by omega)]at e
  simp only[V7,QeS]at e;cases e
  exact .inl ⟨⟨hzi,by omega⟩,q α Y H E R rs⟩
 |succ m=>
  have hi:i<kvs.length:=by omega
  rw[Vt hi,Xu]at e;simp only[QeS]at e
  refine .inr ⟨⟨hzi,by omega⟩,λY' H'=>∃α Z hs,RS A α Z Y'/\Rep T A X.K α hs H'/\Ext α0 α H0 H'/\m+(i+1)=kvs.length/\QeS i0 (exs T cf d body) ((kvs.drop (i+1)).map (·.1)) Z hs=some (fl,ρ',hs'),λY' H' z=>⟨m,V3 _,z⟩,?_⟩
  rintro x H' ⟨rfl,p,hp,rfl⟩;have rk:RK kvs[i].1 p.1:=Qoi rd (Xf hi) hp;have rs2:=rs.set i0 (Qls (A:=A) (α:=α) rk);show TIS T A X.K (exs T cf d body) _ _ _;split at e
  ·rename_i ρ2 h2 eb
   exact TIS.run rs2 R eb λα3 σ3 H3 E3 R3 rs3=>⟨α3,ρ2,h2,rs3,R3,E.trans E3 R3.h,by omega,e⟩
  ·rename_i ρ2 h2 eb
   exact TIS.run rs2 R eb λα3 σ3 H3 E3 R3 rs3=>⟨α3,ρ2,h2,rs3,R3,E.trans E3 R3.h,by omega,e⟩
  ·rename_i ρ2 h2 eb;cases e;exact TIS.run rs2 R eb λα3 σ3 H3 E3 R3 rs3=>q α3 σ3 H3 (E.trans E3 R3.h) R3 rs3
  ·rename_i n1 n2 n3
   cases fl with
   |next=>exact absurd e (n1 _ _)
   |cont=>exact absurd e (n2 _ _)
   |brk=>exact absurd e (n3 _ _)
   |ret u=>exact TIS.run rs2 R e λα3 σ3 H3 E3 R3 rs3=>q α3 σ3 H3 (E.trans E3 R3.h) R3 rs3
def QcH{tir:E}{D:Ends}(rs0:RS A α0 ρ0 σ0)(R0:Rep T A X.K α0 h0 H0)
  (e0:Zu (evT T cf d tir) (exs T cf d body) n ρ0 h0=some (fl,ρ',hs'))
  (q:∀α' Y' H',Ext α0 α' H0 H'->Rep T A X.K α' hs' H'->RS A α' ρ' Y'->flE A α' D Y' H' fl):Qhy (TIT T A X.K (evT T cf d tir)) (TIS T A X.K (exs T cf d body)) D σ0 H0:=by
 refine⟨λm Y H=>∃α Z hs,RS A α Z Y/\Rep T A X.K α hs H/\Ext α0 α H0 H/\Zu (evT T cf d tir) (exs T cf d body) m Z hs=some (fl,ρ',hs'),⟨n,α0,ρ0,h0,rs0,R0,Ext.refl,e0⟩,?_⟩;rintro m Y H ⟨α,Z,hs,rs,R,E,e⟩
 cases m with
 |zero=>cases e
 |succ m=>
  simp only[Zu]at e;split at e
  ·cases e
  ·rename_i h1 et;cases e;exact TIT.run rs R et λα1 H1 E1 R1 rs1=>q α1 Y H1 (E.trans E1 R1.h) R1 rs1
  ·rename_i h1 et;refine TIT.run rs R et λα1 H1 E1 R1 rs1=>?_;rw[if_pos rfl];refine⟨λY' H'=>∃α Z hs,RS A α Z Y'/\Rep T A X.K α hs H'/\Ext α0 α H0 H'/\Zu (evT T cf d tir) (exs T cf d body) m Z hs=some (fl,ρ',hs'),λY' H' z=>⟨m,V3 _,z⟩,?_⟩;have E01:=E.trans E1 R1.h;split at e
   ·rename_i ρ2 h2 eb;exact TIS.run rs1 R1 eb λα3 σ3 H3 E3 R3 rs3=>⟨α3,ρ2,h2,rs3,R3,E01.trans E3 R3.h,e⟩
   ·rename_i ρ2 h2 eb;exact TIS.run rs1 R1 eb λα3 σ3 H3 E3 R3 rs3=>⟨α3,ρ2,h2,rs3,R3,E01.trans E3 R3.h,e⟩
   ·rename_i ρ2 h2 eb;cases e;exact TIS.run rs1 R1 eb λα3 σ3 H3 E3 R3 rs3=>q α3 σ3 H3 (E01.trans E3 R3.h) R3 rs3
   ·rename_i n1 n2 n3
    cases fl with
    |next=>exact absurd e (n1 _ _)
    |cont=>exact absurd e (n2 _ _)
    |brk=>exact absurd e (n3 _ _)
    |ret u=>exact TIS.run rs1 R1 e λα3 σ3 H3 E3 R3 rs3=>q α3 σ3 H3 (E01.trans E3 R3.h) R3 rs3
def RU.scal{v:V}(h:QcO u=true)(r:RU A α u v):RU A α' u v:=by
 cases u<;>first|exact r|cases h
theorem RUs.scal{us:List U}{vs:List V}(h:us.all QcO=true)(r:RUs A α us vs):RUs A α' us vs:=by
 induction r with
 |nil=>exact .nil
 |cons r _ ih=>
  rw[Wy,Xl]at h;exact .cons (RU.scal h.1 r) (ih h.2)
def RU.back{v v0:V}(p:∀(n:Nat) a,α[n]?=some a->α'[n]?=some a)(h0:RU A α u v0)(h:RU A α' u v):RU A α u v:=by
 cases u with
 |ref n=>
  obtain⟨a,e,_⟩:=h0;obtain⟨b,e2,r⟩:=h;rw[p n a e]at e2;cases e2;exact⟨a,e,r⟩
 |_=>exact h
def Qbr{β γ:Type}{P Q R:β->γ->Prop}(f:∀b c c',P b c->Q b c'->R b c'){l:List β}{m m':List γ}(h:Paired P l m)(h':Paired Q l m'):Paired R l m':=by
 induction h generalizing m' with
 |nil=>cases h';exact .nil
 |cons a _ ih=>
  cases h' with
  |cons b t=>exact .cons (f _ _ _ a b) (ih t)
theorem RO.back{H':Hp}{o:O}(p:∀(n:Nat) a,α[n]?=some a->α'[n]?=some a)(h0:RO T A α H a o)(h:RO T A α' H' a o):RO T A α H' a o:=by
 cases o with
 |lst xs=>obtain⟨_,_,r0⟩:=h0;obtain⟨vs,e,r⟩:=h;exact⟨vs,e,Qbr (R:=RU A α) (λz z z x y=>RU.back p x y) r0 r⟩
 |tup xs=>obtain⟨_,_,r0⟩:=h0;obtain⟨vs,e,r⟩:=h;exact⟨vs,e,Qbr (R:=RU A α) (λz z z x y=>RU.back p x y) r0 r⟩
 |ins c fs=>obtain⟨_,_,_,r0,_⟩:=h0;obtain⟨dx,fv,e,r,l⟩:=h;exact⟨dx,fv,e,Qbr (λz z z x y=>⟨y.1,RU.back p x.2 y.2⟩) r0 r,l⟩
 |dic _=>obtain⟨_,_,r0⟩:=h0;obtain⟨kv,e,r⟩:=h;exact⟨kv,e,Qbr (λz z z x y=>⟨y.1,RU.back p x.2 y.2⟩) r0 r⟩
 |dct _=>obtain⟨_,_,r0⟩:=h0;obtain⟨kv,e,r⟩:=h;exact⟨kv,e,Qbr (λz z z x y=>⟨y.1,RU.back p x.2 y.2⟩) r0 r⟩
 |fzt _=>obtain⟨_,_,_,r0⟩:=h0;obtain⟨kv,ob,e,r⟩:=h;exact⟨kv,ob,e,Qbr (λz z z x y=>⟨y.1,RU.back p x.2 y.2⟩) r0 r⟩
 |fzd _=>obtain⟨_,_,_,r0⟩:=h0;obtain⟨kv,ob,e,r⟩:=h;exact⟨kv,ob,e,Qbr (λz z z x y=>⟨y.1,RU.back p x.2 y.2⟩) r0 r⟩
 |err _=>exact h
def Rep.drop{K:W.Frag}{α1:List Addr}{hs h1:Hs}{H1:Hp}(R:Rep T A K α hs H)(E1:Ext α α1 H H1)(R1:Rep T A K α1 h1 H1)(hp:h1.take hs.length=hs):Rep T A K α hs H1/\Ext α α H H1:=by
 have nd:∀(i j:Nat) a,α[i]?=some a->α[j]?=some a->i=j\/∃vs,H1 a=some (.tup vs):=λi j a e1 e2=>by
  rcases R.h.nd i j a e1 e2 with q|⟨vs,q⟩
  ·exact .inl q
  ·obtain⟨o',q1,q2⟩:=E1.tr a _ q;exact .inr ⟨vs,q1.trans (congrArg some ((q2 vs).mp rfl))⟩
 refine⟨⟨⟨R.h.len,nd,λn a o e1 e2=>?_⟩,R1.s⟩,⟨λz z e=>e,λn b e l=>by have:=getElem?_lt e;omega,E1.keep,E1.fz,E1.tr⟩⟩
 have l:n<hs.length:=(Xc.mp e2).1;refine RO.back E1.pre (R.h.ob n a o e1 e2) (R1.h.ob n a o (E1.pre n a e1) ?_);rw[<-hp,U9 l]at e2;exact e2
def QgS{i:Nat}(h:(frgN n Z)[i]?=some (some u)):Z[i]?=some (some u)/\∀k,u=.ref k->k<n:=by
 unfold frgN at h;rw[Wt]at h
 cases q:Z[i]? with
 |none=>rw[q]at h;cases h
 |some o=>
  rw[q]at h;simp only[Wp,Wz]at h;unfold Qc2 at h;split at h
  ·split at h
   ·rename_i l;cases h
    exact⟨rfl,λk z=>by cases z;exact l⟩
   ·cases h
  ·rename_i nr;subst h
   exact⟨rfl,λk z=>absurd (by rw[z]) (nr k)⟩
theorem RS.frgN(p:∀(n:Nat) a,α[n]?=some a->α'[n]?=some a)(r:RS A α' Z Y):RS A α (Iv.frgN α.length Z) Y:=⟨by rw[<-r.len];simp[Iv.frgN],λi u e=>by
 obtain⟨e1,hk⟩:=QgS e;obtain⟨v,h1,h2⟩:=r.val i u e1;refine⟨v,h1,?_⟩
 cases u with
 |ref k=>
  have l:=hk k rfl;obtain⟨a,e2,rfl⟩:=h2;have e3:α[k]?=some α[k]:=Xf l;have e4:=p k _ e3;rw[e2]at e4;cases e4;exact⟨_,e3,rfl⟩
 |_=>exact h2⟩
def QeT{i:Nat}{D:Ends}{xs:List U}{vs:List V}(rs0:RS A α0 ρ0 σ0)(R0:Rep T A X.K α0 h0 H0)(ha:H0 a=some (.lst vs))(hn:a∉α0)(rv:RUs A α0 xs vs)
  (e0:QfL h0 i (exs T cf d body) xs ρ0=some (fl,ρ'))
  (q:∀Y' H',Ext α0 α0 H0 H'->Rep T A X.K α0 h0 H'->RS A α0 ρ' Y'->flE A α0 D Y' H' fl):
  ∃W:Nat->Nat->St->Hp->Prop,(∃m,W 0 m σ0 H0)/\∀n m Y H,W n m Y H->((Itl X.K a).stop n H/\D.nx Y H)\/((Itl X.K a).go n H/\∃N:St->Hp->Prop,(∀Y' H',N Y' H'->∃m',m'<m/\W (n+1) m' Y' H') /\
   ∀x H',(Itl X.K a).yld n H x H'->QaO i x Y H' λσ2 H2=>TIS T A X.K (exs T cf d body) {D with nx:=N,ct:=N,bk:=D.nx} σ2 H2):=by
 have ln0:α0.length=h0.length:=R0.h.len;refine⟨λn m Y H=>∃Z,RS A α0 Z Y/\Rep T A X.K α0 h0 H/\Ext α0 α0 H0 H/\n<=xs.length/\m=xs.length-n/\QfL h0 i (exs T cf d body) (xs.drop n) Z=some (fl,ρ'),⟨_,ρ0,rs0,R0,Ext.refl,Ww _,rfl,e0⟩,?_⟩;rintro n m Y H ⟨Z,rs,R,sm,ln,em,e⟩;have sqH:SqL X.K H a vs:=.inl (.inl (sm.keep a _ ha hn));by_cases l:n<xs.length
 ·have ed:xs.drop n=xs[n]::xs.drop (n+1):=Vt l;rw[ed]at e;obtain⟨v,hv,rx⟩:=rv.get (Xf l)
  refine .inr ⟨⟨vs,v,sqH,hv⟩,λY' H'=>∃Z,RS A α0 Z Y'/\Rep T A X.K α0 h0 H'/\Ext α0 α0 H0 H'/\QfL h0 i (exs T cf d body) (xs.drop (n+1)) Z=some (fl,ρ'),λY' H' z=>by obtain⟨ρ2,z1,z2,z3,z4⟩:=z;exact⟨xs.length-(n+1),by omega,ρ2,z1,z2,z3,l,rfl,z4⟩,?_⟩
  rintro x H' ⟨rfl,hx⟩;have ex:x=v:=X3 ((hx vs sqH).symm.trans hv);subst ex;have rs2:=rs.set i rx;simp only[QfL]at e;split at e
  case h_2=>cases e
  rename_i fl2 ρ2 h2 eb;split at e
  case isFalse=>cases e
  rename_i pre
  have nxt:∀{α3:List Addr} {σ3:St} {H3:Hp},Ext α0 α3 H' H3->Rep T A X.K α3 h2 H3->RS A α3 ρ2 σ3->RS A α0 (frgN h0.length ρ2) σ3/\Rep T A X.K α0 h0 H3/\Ext α0 α0 H0 H3:=λ{α3 σ3 H3} E3 R3 rs3=>by
   obtain⟨R4,E4⟩:=R.drop E3 R3 pre;exact⟨ln0▸RS.frgN E3.pre rs3,R4,sm.trans E4 R4.h⟩
  cases fl2 with
  |next=>exact TIS.run rs2 R eb λα3 σ3 H3 E3 R3 rs3=>let ⟨z1,z2,z3⟩:=nxt E3 R3 rs3;⟨_,z1,z2,z3,e⟩
  |cont=>exact TIS.run rs2 R eb λα3 σ3 H3 E3 R3 rs3=>let ⟨z1,z2,z3⟩:=nxt E3 R3 rs3;⟨_,z1,z2,z3,e⟩
  |brk=>
   cases e;exact TIS.run rs2 R eb λα3 σ3 H3 E3 R3 rs3=>let ⟨z1,z2,z3⟩:=nxt E3 R3 rs3;q _ _ z3 z2 z1
  |ret u=>
   simp only at e;split at e
   case isFalse=>cases e
   rename_i su;cases e;exact TIS.run rs2 R eb λα3 σ3 H3 E3 R3 rs3 v rv=>let ⟨z1,z2,z3⟩:=nxt E3 R3 rs3;q _ _ z3 z2 z1 v (RU.scal su rv)
 ·have ed:xs.drop n=[]:=List.drop_eq_nil_of_le (by omega)
  rw[ed]at e;cases e
  exact .inl ⟨⟨vs,sqH,by rw[<-rv.length];omega⟩,q _ _ sm R rs⟩
def QeG(h:QeH e=true):∃p,e=.Dict [] [] p:=by
 unfold QeH at h;split at h
 ·exact⟨_,rfl⟩
 ·cases h
def QfU{b:List Stmt}{hs:List ExceptHandler}{o fn:List Stmt}{t:Tr}(h:QfV C b hs o fn=some t):∃f pf a args q1 q2 x px n b0 body ph,b=[.Expr (.Call (.Name f pf) (a::args) [] q1) q2] /\
  hs=[.ExceptHandler (some (.Name x px)) n (b0::body) ph]/\o=[]/\fn=[]/\QfX C n=some t.j/\QfZ C x=some t.c/\QdG C f=some t.f/\t.args=a::args/\t.body=b0::body:=by
 unfold QfV at h;split at h
 ·simp only[Xb]at h;obtain⟨p,hp,c,hc,k,hk,h⟩:=h;cases h;exact⟨_,_,_,_,_,_,_,_,_,_,_,_,rfl,rfl,rfl,rfl,hp,hc,hk,rfl,rfl⟩
 ·cases h
def QfW{n:Str}{j:Option Nat}(h:QfX C (some n)= some j): ∃i,j=some i/\Jy C n=true/\n≠"__debug__"/\idx n C.N=some i:=by
 simp only[QfX]at h;split at h
 ·rename_i c;simp only[Xl,X1]at c;simp only[Xd]at h;obtain⟨i,hi,h⟩:=h;exact⟨i,h.symm,c.1,c.2,hi⟩
 ·cases h
def QfY{c:Nat}(h:QfZ C x=some c): ZK C x=true/\x≠"__debug__"/\C.gl.lookup x=some (.cls c):= by
 unfold QfZ at h;split at h
 ·rename_i q;simp only[Xl,X1]at q;split at h
  ·rename_i z;cases h;exact⟨q.1,q.2,z⟩
  ·cases h
 ·cases h
def QbV{c:Nat}(h:QdG C x=some c): ZK C x=true/\x≠"__debug__"/\C.gl.lookup x=some (.fn c):= by
 unfold QdG at h;split at h
 ·rename_i q;simp only[Xl,X1]at q;split at h
  ·rename_i z;cases h;exact⟨q.1,q.2,z⟩
  ·cases h
 ·cases h
structure Bd(X:Cx):Prop where
 stk:X.stack=X.env::X.outer
 frm:X.env.frame=some X.env.locals
 ex:X.ex=[]
 cm:X.calm=true
def QeM:hdC (hdX C)=true:=by simp[hdC,hdX]
def Qhf{p:Nat×Expr}(h:Qkj C st=some p):∃y py pos,st=.Assign [.Name y py] p.2 pos/\Jy C y=true/\idx y C.N=some p.1:=by
 cases st with
 |Assign ts e pos=>
  simp only[Qkj]at h;split at h
  ·rename_i y hy;obtain⟨py,rfl⟩:=QbO hy;split at h
   ·rename_i hl;simp only[Xd]at h;obtain⟨i,hi,rfl⟩:=h;exact⟨y,py,pos,rfl,hl,hi⟩
   ·cases h
  ·cases h
 |_=>cases h
theorem Qbf(g:GX T A (hdX C) X)(fl:∀x,X.fn x=true\/X.env.scope.names.lookup x=some .local)(S:Snd T A (hdX C) X cf m):∀(sts:List Stmt) (d:Nat) (irs:List Iv.S),Qfm m C sts=some irs->PSs X sts (TIS T A X.K (exs T cf d irs))
 |_,0,_,_=>Ye QhX
 |[],d+1,irs,h=>by
  cases h
  exact QcC Qd2 λD Y H v=>by obtain⟨α,Z,hs,fl,ρ',hs',rs,R,e,q⟩:=v;cases e;exact q α Y H Ext.refl R rs
 |st::r,d+1,irs,h=>by
  simp only[Qfm,Xb]at h;obtain⟨p,hp,e',he,r',hr,h⟩:=h;cases h;obtain⟨y,py,pos,rfl,hl,hi⟩:=Qhf hp
  have ly:X.env.scope.names.lookup y=some .local:=by rw[g.sc];exact QaL hl
  have P:∀d,PS X (.Assign [.Name y py] p.2 pos) (TIS T A X.K (ex T cf d (.set p.1 e'))):=λd=>by
   refine Qb8 (λd=>?_) (d:=d)
   refine Za (QaA (i:=p.1) g.nd (by rw[g.N];exact Zh hi) (.inl ly) (S.e d p.2 e' he) (Qcc he λelt gens scope q z=>?_) (fl y)) ?_
   ·rw[z]at he
    cases m with
    |zero=>cases he
    |succ m=>
     have:=Qml he;rw[QeM]at this;cases this
   ·rintro D Y H ⟨α,Z,hs,fl,ρ',hs',rs,R,e,q⟩;simp only[ex]at e;obtain⟨u,h1,e1,e⟩:=Qe e;cases e;exact TI.run rs R e1 λα1 x H1 E1 R1 r1 rs1=>q α1 _ H1 E1 R1 (rs1.set p.1 r1)
  refine QcC (YA (P d) (Qbf g fl S r d r' hr)) ?_;rintro D Y H ⟨α,Z,hs,fl,ρ',hs',rs,R,e,q⟩;simp only[exs]at e;split at e
  ·rename_i ρ1 h1 e1;exact TIS.run rs R e1 λα1 σ1 H1 E1 R1 rs1=>TIS.run rs1 R1 e λα2 σ2 H2 E2 R2 rs2=>q α2 σ2 H2 (E1.trans E2 R2.h) R2 rs2
  ·rename_i n1;exfalso
   cases d with
   |zero=>cases e
   |succ d=>
    simp only[ex]at e n1
    cases z:ev T cf d e' Z hs with
    |none=>rw[z]at e;cases e
    |some w=>rw[z]at n1;exact n1 _ _ rfl
def QgQ{j:Nat}(r:RS A α Z Y):RS A α (Z.set j none) (Y.set j none):=by
 refine⟨by simpa using r.len,λk u e=>?_⟩
 have hk:k≠j:=λz=>by
  subst z
  have l:k < Z.length:=(Xc.mp e).1 |> λz=>by simpa using z
  rw[X0 l]at e;cases e
 rw[Xs (Wq hk)]at e;rw[Xs (Wq hk)];exact r.val k u e
def Qn8{b:List Stmt}{hs:List ExceptHandler}{o fn:List Stmt}{p:Pos}{t:Tr}{es:List E}{sb:List Iv.S}(bX:Bd X)(g:GX T A C X)(fl:∀x,X.fn x=true\/X.env.scope.names.lookup x=some .local)(F:Fc X T A cf k)(hr:Room k X.A)(S:Snd T A C X cf m)(hbl:C.bl.contains ("isinstance":Str)= true)(ht:QfV C b hs o fn=some t)(ha:compA m C t.args=some es)(hb:Qfm m C t.body=some sb):
  PS X (.Try b hs o fn p) (TIS T A X.K (ex T cf (d+1) (.tryS t.j t.f es t.c sb))):=by
 obtain⟨f,pf,a,args,q1,q2,x,px,n,b0,body,ph,rfl,rfl,rfl,rfl,t1,t2,t3,t4,t5⟩:=QfU ht;obtain⟨gx,dx,lx⟩:=QfY t2;obtain⟨gf,df,lf⟩:=QbV t3;rw[t4]at ha;rw[t5]at hb;have hns:=Qw ha;have st:starEach (a::args) X.env=(false,eval a X.env)::starEach args X.env:=Qt (hns a (Xq ..));have sa:(backTo q1 (starEach args X.env)).any (·.1)=false:=Zb λz hz=>hns z (Xm _ hz);intro pins s Y H D I q;obtain⟨α,Z,hs0,fw,ρ',hs',rs,R,e,q⟩:=q;simp only[Iv.ex]at e;obtain⟨us,hh1,e1,e⟩:=Qe e;refine wpAny_Try_except ?_
 have sw:swapsWith (.Call (.Name f pf) (a::args) [] q1) none q2.line X.env=pure false:=by rfl
 split at e
 ·rename_i u0 h2 ec;cases e;have P1:PS X (.Expr (.Call (.Name f pf) (a::args) [] q1) q2) _:=Qbk (QhC (d:=d) g F hr S gf df lf ha) sw;have P2:=Qi1 P1
  have r:=P2 pins s Y H D I (TI.run rs R (u:=u0) (h1:=_) (by simp only[ev,e1,Iv.bd];exact ec) λα1 v H1 E1 R1 r1 rs1=>q α1 Y H1 E1 R1 rs1)
  rw[g.xe]at r ⊢;refine X2 r (λfl' s1 z=>?_) λy y z=>z.elim
  cases fl' with
  |next=>exact U6 z
  |ret v=>exact z
  |brk=>exact z
  |cont=>exact z
 ·rename_i ec;split at e
  case h_2=>cases e
  rename_i c' h2 ex';rw[W8]at e;obtain⟨⟨c1,c2,c3⟩,e⟩:=e;split at e
  case h_2=>cases e
  rename_i ρ2 h3 eb;cases e
  cases hF:T.fns[t.f]? with
  |none=>rw[hF]at c3;cases c3
  |some Fn=>
  rw[hF]at c3;have c3:us.length=Fn.np:=Vy c3;obtain⟨fd,G,bb,kp⟩:=F.xf t.f Fn hF;refine wpAny_execs_cons (wpAny_Expr_any ?_ I.quiet sw);refine Va (ZJ I (QX g gf) (g.gfn f t.f lf) ?_ (QQ df));have pa0:=S.a d (a::args) es ha q1 pins s Y H (λvs H1=>∃α1,Ext α α1 H H1/\Rep T A X.K α1 hh1 H1/\RUs A α1 us vs) I ⟨α,Z,hs0,us,hh1,rs,R,e1,λα' vs H' E' R' r'=>⟨α',E',R',r'⟩⟩;rw[g.xe]at pa0;refine PySem.W.callWith_K (h₀:=X.base) I.ok.mod.kin kp (X2 pa0 (λus1 s1 ⟨vs,H1,I1,r,α1,E1,R1,ru⟩=>⟨I1.kIn,?_⟩) λy y z=>z.elim) st sa
  have ll:us1.length=Fn.ps.length:=by
   obtain⟨fd',fn',_,_,lp,_⟩:=g.txt.fn t.f Fn hF;rw[lp,<-c3,ru.length,r.length]
  have hsp:spX T A X.K T.xf t.f vs H1 (λy y=>False) (λCv o H'=>Cv=.ref (A.c c')/\EF T H' c' o/\∃α',Ext α1 α' H1 H'/\Rep T A X.K α' h2 H'):=
   ⟨α1,us,hh1,c',h2,ru,R1,ex',⟨Fn,hF,c3⟩,λα' H' dd E' R' ef=>⟨rfl,ef,α',E',R'⟩⟩
  refine wpAny_call (T8 (G.run X.A X.stack s1 H1 ⟨us1,[]⟩ us1 vs _ _ hr I1.env0 (by have:=bb s1 us1 I1.kIn (by rw[Vd];exact ll);rw[Vd]at this;exact this) r hsp) λrr s' hq=>?_)
  cases rr with
  |ok fl=>
   cases fl with
   |ret u=>
    obtain⟨_,_,_,_,_,_,_,z⟩:=hq;exact z.elim
   |next=>exact False.elim hq
   |brk=>exact False.elim hq
   |cont=>exact False.elim hq
  |error ev=>
   obtain⟨e0,C0,H',B,a0,dd,rfl,os,bare,un,hok,flw,cv,hn,hs0',da,⟨hC,ef,α2,E2,R2⟩⟩:=hq;cases hC
   have h00:X.s₀.heap.get? e0=none:=by
    cases q:X.s₀.heap.get? e0 with
    |none=>rfl
    |some ob=>
     obtain⟨o',ho⟩:=I1.base.there e0 ob q (by rw[bX.ex];simp)
     rw[hs0']at ho;cases ho
   have M:Met X pins Y H1 H' s1 s' e0 (A.c c') dd B a0:=⟨I1,os,bare,un,hok,flw,cv,hn,hs0',h00,da⟩
   have gh:GX T A (hdX C) (X.hd (.ref e0)):=⟨g.CT,g.N,g.nd,g.sc,(λz=>by rw[QeM]at z;cases z),g.kind,g.xe,g.gfn,g.gcl,g.gco,g.gtx,(λz hz=>by
    refine g.blt z λw=>hz ?_;by_cases e:z=("isinstance":Str)
    ·rw[e,hbl]at w;cases w
    ·have:(hdX C).bl=[("isinstance":Str)]:=rfl;rw[this]
     simpa using e),g.txt,g.tab⟩
   have Sh:=(Qf5 (k:=k) m gh (⟨F.ok,F.some,F.df,F.xf⟩:Fc (X.hd (.ref e0)) T A cf k) (λz=>by rw[QeM]at z;cases z) hr.units).s
   have rs2:=(rs.mono E1.pre).mono E2.pre;have xeh:(X.hd (.ref e0)).xe=λy y=>False:=g.xe
   cases n with
   |none=>
    have tj:t.j=none:=(X3 t1).symm;rw[tj]at eb q;have PP:=Qbf gh fl Sh (b0::body) d sb hb;refine Qj6 (W:=λσ8 H8=>∃α8,Ext α2 α8 H' H8/\Rep T A X.K α8 hs' H8/\RS A α8 ρ2 σ8) bX.stk bX.frm M (QX g gx) (g.gcl x t.c lx) (g.txt.es c' t.c c2) (QQ dx) (λs7 J7=>?_) (λσ8 H8 s'' ⟨α8,E8,R8,r8⟩ J=>?_)
    ·have r:=PP pins s7 Y H' ⟨λσ8 H8=>∃α8,Ext α2 α8 H' H8/\Rep T A X.K α8 hs' H8/\RS A α8 ρ2 σ8,λy y=>False,λy y=>False,λy y=>False⟩ J7 ⟨α2,Z,h2,.next,ρ2,hs',rs2,R2,eb,λα' Y' H' E' R' r'=>⟨α',E',R',r'⟩⟩;rw[xeh]at r;refine X2 r (λf8 s8 z=>?_) λy y z=>z
     cases f8 with
     |next=>exact⟨rfl,z⟩
     |brk=>obtain⟨_,_,_,z⟩:=z;exact z.elim
     |cont=>obtain⟨_,_,_,z⟩:=z;exact z.elim
     |ret u=>obtain⟨_,_,_,_,_,z⟩:=z;exact z.elim
    ·exact⟨_,_,J,q _ _ _ ((E1.trans E2 R2.h).trans E8 R8.h) R8 r8⟩
   |some n=>
    obtain⟨j,hj,ln,nd,hi⟩:=QfW t1;rw[hj]at eb q;have PP:=Qbf gh fl Sh (b0::body) d sb hb
    obtain⟨R3,E3⟩:=R2.new (p:=e0) (o:=.err c') (ho:=QfM e0 (A.c c') dd) hn ⟨dd,Qi,c1,ef.fz λb o fs e=>by rw[Qf (λz=>by rw[z,hn]at e;cases e)];exact e⟩
    have at3:(α2++[e0])[h2.length]?=some e0:=by rw[<-R2.h.len];exact QG
    have rs4:=(rs2.mono E3.pre).set j (u:=.ref h2.length) (v:=.ref e0) ⟨e0,at3,rfl⟩
    refine Qj7 (W:=λσ8 H8=>∃α8,Ext (α2++[e0]) α8 (upd H' e0 (QfM e0 (A.c c') dd)) H8/\Rep T A X.K α8 hs' H8/\RS A α8 ρ2 σ8) bX.stk bX.frm g.nd M (QX g gx) (g.gcl x t.c lx) (g.txt.es c' t.c c2) (QQ dx) (by rw[g.N];exact Zh hi) (by rw[g.sc];exact QaL ln) (λs7 J7=>?_) (λσ8 H8 s'' ⟨α8,E8,R8,r8⟩ J=>?_)
    ·have r:=PP pins s7 _ _ ⟨λσ8 H8=>∃α8,Ext (α2++[e0]) α8 (upd H' e0 (QfM e0 (A.c c') dd)) H8/\Rep T A X.K α8 hs' H8/\RS A α8 ρ2 σ8,λy y=>False,λy y=>False,λy y=>False⟩ J7 ⟨α2++[e0],Z.set j (some (.ref h2.length)),h2++[O.err c'],.next,ρ2,hs',rs4,R3,eb,λα' Y' H' E' R' r'=>⟨α',E',R',r'⟩⟩;rw[xeh]at r;refine X2 r (λf8 s8 z=>?_) λy y z=>z
     cases f8 with
     |next=>exact⟨rfl,z⟩
     |brk=>obtain⟨_,_,_,z⟩:=z;exact z.elim
     |cont=>obtain⟨_,_,_,z⟩:=z;exact z.elim
     |ret u=>obtain⟨_,_,_,_,_,z⟩:=z;exact z.elim
    ·exact⟨_,_,J,q _ _ _ (((E1.trans E2 R2.h).trans E3 R3.h).trans E8 R8.h) R8 (QgQ r8)⟩
def Qld(bX:Bd X)(F:Fc X T A cf k)(hr:Room k X.A)(hu:X.A.units+1<cLine)(g:GX T A C X)(fl:∀x,X.fn x=true\/X.env.scope.names.lookup x=some .local)(S2:Snd2 T A C X cf m)(SS:SndS T A C X cf m)(d:Nat)(st:Stmt)(ir:Iv.S)(h:QM (m+1) C st=some ir):PS X st (TIS T A X.K (ex T cf d ir)):=by
 have S:=S2.s;refine Qb8 λd=>?_
 cases st with
 |Pass p=>cases h;exact Za Qi3 λD Y H r=>by obtain⟨α,Z,hs,fl,ρ',hs',rs,R,e,q⟩:=r;cases e;exact q α Y H Ext.refl R rs
 |Break p=>cases h;exact Za Qgj λD Y H f=>by obtain⟨α,Z,hs,fl,ρ',hs',rs,R,e,q⟩:=f;cases e;exact q α Y H Ext.refl R rs
 |Continue p=>cases h;exact Za Qbl λD Y H W=>by obtain⟨α,Z,hs,fl,ρ',hs',rs,R,e,q⟩:=W;cases e;exact q α Y H Ext.refl R rs
 |Expr e p=>
  unfold QM at h;try dsimp only at h;split at h
  ·rename_i hd;obtain⟨x,j,q,rfl⟩:=QgX hd;cases h
   exact Za QlD λD Y H V=>by obtain⟨α,Z,hs,fl,ρ',hs',rs,R,e,q⟩:=V;cases e;exact q α Y H Ext.refl R rs
  ·cases h
  ·rename_i hn;simp only[Xd]at h;obtain⟨e',he,rfl⟩:=h
   refine Za (Qbk (S.e d e e' he) (Qcc he λelt gens scope q z=>by subst z;cases hn)) ?_
   rintro D Y H ⟨α,Z,hs,fl,ρ',hs',rs,R,e,q⟩;simp only[ex]at e;obtain⟨u,h1,e1,e⟩:=Qe e;cases e;exact TI.run rs R e1 λα1 x H1 E1 R1 r1 rs1=>q α1 Y H1 E1 R1 rs1
 |Return v p=>
  cases v with
  |none=>
   cases h
   exact Za Qi2 λD Y H U=>by obtain⟨α,Z,hs,fl,ρ',hs',rs,R,e,q⟩:=U;cases e;exact q α Y H Ext.refl R rs .non rfl
  |some e=>
   unfold QM at h;simp only[Xd]at h;obtain⟨e',he,rfl⟩:=h;refine Za (QhK (S.e d e e' he)) ?_;rintro D Y H ⟨α,Z,hs,fl,ρ',hs',rs,R,e,q⟩;simp only[ex]at e;obtain⟨u,h1,e1,e⟩:=Qe e;cases e;exact TI.run rs R e1 λα1 x H1 E1 R1 r1 rs1=>q α1 Y H1 E1 R1 rs1 x r1
 |Raise x c p=>
  unfold QM at h;try dsimp only at h;split at h
  ·simp only[Xb]at h;obtain⟨es,_,h⟩:=h;cases h
   exact ZQ λD Y H Q=>by obtain⟨_,_,_,_,_,_,_,_,e,_⟩:=Q;simp[ex]at e
  ·cases h
   exact ZQ λD Y H P=>by obtain⟨_,_,_,_,_,_,_,_,e,_⟩:=P;simp[ex]at e
 |Try b hs o fn p=>
  unfold QM at h;try dsimp only at h;split at h
  case isFalse=>cases h
  rename_i hbl;simp only[Xb]at h;obtain⟨t,ht,es,hes,sb,hsb,h⟩:=h;cases h;exact Qn8 bX g fl F hr S hbl ht hes hsb
 |AugAssign t o e p=>first|exact Znn h|simp[QM]at h
 |If t a b p=>
  unfold QM at h;simp only[Xb]at h;obtain⟨t',ht,a',ha,b',hb,h⟩:=h;cases h;refine Za (QlC (S.t d t t' ht).1 (SS.ss d a a' ha) (SS.ss d b b' hb)) ?_;rintro D Y H ⟨α,Z,hs,fl,ρ',hs',rs,R,e,q⟩;simp only[ex]at e;split at e
  ·rename_i h1 e1;refine TIT.run rs R e1 λα1 H1 E1 R1 rs1=>?_;rw[if_pos rfl];exact TIS.run rs1 R1 e λα2 σ2 H2 E2 R2 rs2=>q α2 σ2 H2 (E1.trans E2 R2.h) R2 rs2
  ·rename_i h1 e1;refine TIT.run rs R e1 λα1 H1 E1 R1 rs1=>?_;rw[if_neg Xz];exact TIS.run rs1 R1 e λα2 σ2 H2 E2 R2 rs2=>q α2 σ2 H2 (E1.trans E2 R2.h) R2 rs2
  ·cases e
 |While t a b p=>
  cases b with
  |cons _ _=>first|exact Znn h|simp[QM]at h
  |nil=>
   unfold QM at h;simp only[Xb]at h;obtain⟨t',ht,a',ha,h⟩:=h;cases h
   refine Za (Qgh (by rw[g.xe];exact Sd) (S.t d t t' ht).1 (SS.ss d a a' ha)) ?_
   rintro D Y H ⟨α,Z,hs,fl,ρ',hs',rs,R,e,q⟩;simp only[ex]at e;exact QcH rs R e q
 |For tg it a b p=>
  cases b with
  |cons _ _=>first|exact Znn h|simp[QM]at h
  |nil=>
   unfold QM at h;simp only[Xb]at h;obtain⟨tg',ht,it',hi,h⟩:=h;split at h
   ·rename_i i0 hk;simp only[Xb]at h;obtain⟨e',he,a',ha,h⟩:=h;cases h
    have et:tg'=.name i0:=by
     unfold Qql at hk;split at hk
     case h_2=>cases hk
     split at hk
     case h_2=>cases hk
     split at hk
     case isFalse=>cases hk
     cases hk;rfl
    subst et
    refine Za (Qd3 (Qb7 (by rw[g.xe];exact Sd) bX.cm (Qjb (S.e d it e' he)) (Qnt bX.cm g fl ht) (SS.ss d a a' ha) (Jq hi))) ?_
    rintro D Y H ⟨α,Z,hs,fl,ρ',hs',rs,R,e,q⟩;simp only[ex]at e;obtain⟨u,h1,e1,e⟩:=Qe e;split at e
    ·rename_i n kvs ed;obtain⟨rfl,⟨k0,hk0⟩,hk1⟩:=Qg2 ed;unfold Qir at e;split at e
     case h_2=>cases e
     rename_i fl' ρ2 h2 ef;split at e
     case h_2=>cases e
     rename_i kvs' hk2;cases e;obtain⟨a0,ha0,kv0,hH0,rd0⟩:=R.h.adr hk0;refine⟨a0,kv0,hH0,TI.run rs R e1 λα1 x H1 E1 R1 r1 rs1=>?_⟩;obtain⟨a1,ha1,rfl⟩:=r1
     have ea:a1=a0:=by
      have:=E1.pre n a0 ha0;rw[ha1]at this;exact X3 this
     subst ea;obtain⟨kv1,hH1,rd1⟩:=R1.h.ob n a1 _ ha1 hk1;refine⟨a1,kv1,rfl,hH1,λob=>?_⟩;have R2:Rep T A X.K α1 (h1.set n (.fzd kvs)) (upd H1 a1 (.frz ob (.dK kv1))):=R1.put0 ha1 ⟨kv1,ob,Qi,rd1⟩;have ne:∀b o,H1 b=some o->b∉α1->b≠a1:=λb o M hb z=>hb (z▸Xv ha1);refine QeR rs1 R2 Qi rd1 ef λα3 σ3 H3 E3 R3 rs3=>?_;have z3:=E3.fz a1 ob (.dK kv1) Qi;have ha3:=E3.pre n a1 ha1;obtain⟨kv3,ob3,hH3,rd3⟩:=R3.h.ob n a1 _ ha3 hk2;rw[z3]at hH3;cases hH3;have R4:Rep T A X.K α3 (h2.set n (.dic kvs')) (upd H3 a1 (.dK kv1)):=R3.put0 ha3 ⟨kv1,Qi,rd3⟩
     have E4:Ext α1 α3 H1 (upd H3 a1 (.dK kv1)):=by
      refine⟨E3.pre,λk b e l=>?_,λb o e hb=>?_,λb o kv e=>?_,λb o e=>?_⟩
      ·have hn:=E3.new k b e l
       have hb:b≠a1:=λz=>by
        rw[z,Qi]at hn
        rcases hn with q|⟨_,q⟩<;>cases q
       rw[Qf hb]at hn;exact hn
      ·have hb':=ne b o e hb;rw[Qf hb']
       exact E3.keep b o (by rw[Qf hb'];exact e) hb
      ·have hb':b≠a1:=λz=>by rw[z,hH1]at e;cases e
       rw[Qf hb']
       exact E3.fz b o kv (by rw[Qf hb'];exact e)
      ·by_cases hb':b=a1
       ·subst hb';rw[hH1]at e;cases e;exact⟨_,Qi,λM=>T6⟩
       ·obtain⟨o',q1,q2⟩:=E3.tr b o (by rw[Qf hb'];exact e)
        exact⟨o',by rw[Qf hb'];exact q1,q2⟩
     have fin:=q α3 σ3 _ (E1.trans E4 R4.h) R4 rs3
     cases fl with
     |next=>exact⟨ob,kv1,z3,fin⟩
     |brk=>exact⟨ob,kv1,z3,fin⟩
     |cont=>exact⟨ob,kv1,z3,fin⟩
     |ret u=>exact λv rv=>⟨ob,kv1,z3,fin v rv⟩
    ·cases e
   split at h
   case isFalse=>cases h
   rename_i ok;simp only[Xb]at h;obtain⟨a',ha,h⟩:=h;split at h
   ·rename_i i lo hi hlc;cases h
    refine Za (Qb7 (by rw[g.xe];exact Sd) bX.cm (S2.w d it _ tg hi (λz=>nomatch z)) (Qnt bX.cm g fl ht) (SS.ss d a a' ha) (Jq hi)) ?_
    rintro D Y H ⟨α,Z,hs,fl,ρ',hs',rs,R,e,q⟩;simp only[ex]at e;obtain⟨u,h1,e1,e⟩:=Qe e;split at e
    case h_2=>cases e
    rename_i n;split at e
    case h_2=>cases e
    rename_i xs el;split at e
    case isFalse=>cases e
    rename_i cnd;obtain⟨rfl,pre,sc⟩:=cnd;split at e
    case h_2=>cases e
    rename_i fl' ρ2 ef;cases e
    have el':QA T (.ref hs.length) h1=some xs:=by simp only[QA,el]
    refine⟨α,Z,hs,.seqL (.ref hs.length),h1,rs,R,by simp only[Q4,bd,e1,wkS,el',Wp],λα1 J H1 E1 R1 W1=>?_⟩
    obtain⟨pa,r1,rfl⟩:=W1;obtain⟨pa',hp1,e3⟩:=r1;cases e3;obtain⟨vs,hv,rr⟩:=R1.h.ob _ _ _ hp1 el;obtain⟨R2,E2⟩:=R.drop E1 R1 pre
    have hpn:H pa=none:=(E1.new _ _ hp1 (by rw[R.h.len];exact Xi _)).resolve_right λL=>by
     obtain⟨vs',z⟩:=L
     obtain⟨o',q1,q2⟩:=E1.tr _ _ z;rw[hv,(q2 vs').mp rfl]at q1;cases q1
    exact QeT rs R2 hv (R.h.notIn hpn) (RUs.scal sc rr) ef λσ2 H2 E3 R3 rs3=>q α σ2 H2 (E2.trans E3 R3.h) R3 rs3
   cases h
   refine Za (Qb7 (by rw[g.xe];exact Sd) bX.cm (S2.w d it _ tg hi (Qhx ht ok)) (Qnt bX.cm g fl ht) (SS.ss d a a' ha) (Jq hi)) ?_
   rintro D Y H ⟨α,Z,hs,fl,ρ',hs',rs,R,e,q⟩;simp only[ex]at e;obtain⟨w,h1,e1,e⟩:=Qe e;refine⟨α,Z,hs,w,h1,rs,R,e1,λα1 J H1 E1 R1 W1=>?_⟩;exact QgT rfl g.txt (rs.mono E1.pre) R1 W1 e λα2 σ2 H2 E2 R2 rs2=>q α2 σ2 H2 (E1.trans E2 R2.h) R2 rs2
 |Assign ts e p=>
  unfold QM at h;try dsimp only at h;split at h
  ·rename_i x ht;obtain⟨px,rfl⟩:=QbO ht;split at h
   case isFalse=>cases h
   rename_i hl;simp only[Xb]at h;obtain⟨i,hi,h⟩:=h;split at h
   ·rename_i ce;cases h;rw[Xl]at ce;obtain⟨pd,rfl⟩:=QeG ce.1
    refine Za (QaA (i:=i) g.nd (by rw[g.N];exact Zh hi) (Jt g hl) Qgp (Qcc (m:=1) (C:=C) (ir:=.dnew) (by rfl) (by intro _ _ _ _ z;cases z)) (fl x)) ?_
    rintro D Y H ⟨α,Z,hs,fl,ρ',hs',rs,R,e,q⟩;simp only[ex]at e;obtain⟨u,h1,e1,e⟩:=Qe e;cases e
    cases d with
    |zero=>cases e1
    |succ d=>
     simp only[ev]at e1;cases e1;intro b hb;obtain⟨R',E'⟩:=R.new (o:=.dct []) (ho:=.dT []) hb ⟨[],Qi,.nil⟩
     exact q _ _ _ E' R' ((rs.mono E'.pre).set i ⟨b,by rw[<-R.h.len];exact QG,rfl⟩)
   simp only[Xb]at h;obtain⟨e',he,h⟩:=h;cases h
   have fin:∀e' D Y H,TIS T A X.K (ex T cf (d+1) (.set i e')) D Y H->TI T A X.K (ev T cf d e') Y H λv H1=>D.nx (Y.set i (some v)) H1:=by
    intro e';rintro D Y H ⟨α,Z,hs,fl,ρ',hs',rs,R,e,q⟩;simp only[ex]at e;obtain⟨u,h1,e1,e⟩:=Qe e;cases e;exact TI.run rs R e1 λα1 x H1 E1 R1 r1 rs1=>q α1 _ H1 E1 R1 (rs1.set i r1)
   by_cases hc:∃elt gens scope q,e=.ListComp elt gens scope q
   ·obtain⟨elt,gens,scope,pc,rfl⟩:=hc;obtain⟨tg,iter,tl,xs,n,wi,gg,tt,te,rfl,ok,hi',hn',hg',ht',he',hf,imp⟩:=S2.c d elt gens scope pc e' he;intro pins s Y H D I hq
    rcases imp Y H _ I.len (fin _ D Y H hq)with w|⟨a,kv,ha,w⟩
    ·exact Qd5 bX.cm g.nd ok hi' hn' hg' ht' he' hf (by rw[g.N];exact Zh hi) (Jt g hl) (fl x) pins s Y H D I w
    ·exact Qd3 (Qd5 bX.cm g.nd ok hi' hn' hg' ht' he' hf (by rw[g.N];exact Zh hi) (Jt g hl) (fl x)) pins s Y H D I ⟨a,kv,ha,w⟩
   ·exact Za (QaA (i:=i) g.nd (by rw[g.N];exact Zh hi) (Jt g hl) (S.e d e e' he) (Qcc he λelt gens scope q z=>hc ⟨elt,gens,scope,q,z⟩) (fl x)) (fin _)
  ·cases h
  ·rename_i o i ht;obtain⟨ps,rfl⟩:=Qhg ht;split at h
   case isFalse=>cases h
   rename_i nsl;simp only[Xb]at h;obtain⟨e',he,o',ho,i',hi,h⟩:=h;cases h;refine Za (QlE (S.e d e e' he) (QlL (S.e d o o' ho) (S.e d i i' hi) (Qf8 hu) (Qdj nsl)) (Qjs he) rfl rfl) ?_;rintro D Y H ⟨α,Z,hs,fl,ρ',hs',rs,R,e,q⟩;simp only[ex]at e;obtain⟨u,h1,e1,e⟩:=Qe e;obtain⟨x,h2,e2,e⟩:=Qe e;obtain⟨k,h3,e3,e⟩:=Qe e;simp only[Xd]at e;obtain⟨h4,e4,e⟩:=e;cases e;refine TI.run rs R e1 λα1 v H1 E1 R1 r1 rs1=>TI.run rs1 R1 e2 λα2 y H2 E2 R2 r2 rs2=>TI.run rs2 R2 e3 λα3 z H3 E3 R3 r3 rs3=>?_;unfold Jd at e4;split at e4
   case h_2=>cases e4
   rename_i n;split at e4
   case h_2=>cases e4
   rename_i oo eo;obtain⟨a,ha,rfl⟩:=r2.mono E3.pre;obtain⟨H',g',R',E'⟩:=QjX R3 eo ha e4 r3 (r1.mono λn a e=>E3.pre n a (E2.pre n a e));exact⟨a,H',rfl,g',q α3 Y _ (((E1.trans E2 R2.h).trans E3 R3.h).trans E' R'.h) R' rs3⟩
  ·cases h
  ·cases h
  ·cases h
 |_=>exact Znn h
def Qib{s0 s':S}(hs:QnA m C st s0=some s')(h:∀d,PS X st (TIS T A X.K (ex T cf d s0)))(d:Nat):PS X st (TIS T A X.K (ex T cf d s')):=by
 unfold QnA at hs;split at hs
 ·rename_i t ht;simp only[Xd]at hs;obtain⟨es,_,rfl⟩:=hs
  cases d with
  |zero=>exact ZQ λD Y H y=>by obtain⟨_,_,_,_,_,_,_,_,e,_⟩:=y;cases e
  |succ d=>
   have z:ex T cf (d+1) (.cal s0 t.1 es)=ex T cf d s0:=by funext Z hs;simp only[ex]
   rw[z];exact h d
 ·cases hs;exact h d
def QiG(SS:SndS T A C X cf m)(d:Nat)(sts:List Stmt)(irs:List S)(h:compSs (m+1) C sts=some irs):PSs X sts (TIS T A X.K (exs T cf d irs)):=by
 cases d with
 |zero=>exact Ye QhX
 |succ d=>
  cases sts with
  |nil=>
   cases h
   exact QcC Qd2 λD Y H z=>by obtain⟨α,Z,hs,fl,ρ',hs',rs,R,e,q⟩:=z;cases e;exact q α Y H Ext.refl R rs
  |cons st r=>
   simp only[compSs,Xb]at h;obtain⟨s0,hs0,s',hs,r',hr,h⟩:=h;cases h;refine QcC (YA (Qib hs (λd=>SS.s d st s0 hs0) d) (SS.ss d r r' hr)) ?_;rintro D Y H ⟨α,Z,hs,fl,ρ',hs',rs,R,e,q⟩;simp only[exs]at e;split at e
   ·rename_i ρ1 h1 e1;exact TIS.run rs R e1 λα1 σ1 H1 E1 R1 rs1=>TIS.run rs1 R1 e λα2 σ2 H2 E2 R2 rs2=>q α2 σ2 H2 (E1.trans E2 R2.h) R2 rs2
   ·rename_i n1;refine TIS.run rs R e λα1 σ1 H1 E1 R1 rs1=>?_
    cases fl with
    |next=>exact absurd e (n1 _ _)
    |cont=>exact q α1 σ1 H1 E1 R1 rs1
    |brk=>exact q α1 σ1 H1 E1 R1 rs1
    |ret u=>exact q α1 σ1 H1 E1 R1 rs1
theorem Qn4(bX:Bd X)(g:GX T A C X)(fl:∀x,X.fn x=true\/X.env.scope.names.lookup x=some .local)(F:Fc X T A cf k)(hr:Room (k+1) X.A):∀m,SndS T A C X cf m
 |0=>⟨λd st ir h=>by first|exact Znn h|simp[QM]at h,λd sts irs h=>by exact Znn h⟩
 |m+1=>by
  have SS:=Qn4 bX g fl F hr m;exact⟨Qld bX F (hr.mono (Ur k)) (Qo0 hr) g fl (Qf5 m g F (λz=>hr) hr.units) SS,QiG SS⟩
end
end
section
structure Top(T:Tbl)(A:Adr)(K:W.Frag)(mg:Str->Option Value)(gl:List (Str×G))(bl:List Str):Prop where
 txt:Txt T A K mg
 gfn:∀x i,gl.lookup x=some (.fn i)->mg x=some (.ref (A.f i))
 gcl:∀x i,gl.lookup x=some (.cls i)->mg x=some (.ref (A.c i))
 gco:∀x k,gl.lookup x=some (.con k)->mg x=some (.ref (A.k k))
 gtx:∀x t,gl.lookup x=some (.txt t)->∃k,mg x=some (.str ⟨t.toArray⟩ k)
 blt:∀x,¬bl.contains x=false->mg x=none
def Jb(T:Tbl)(gl:List (Str×G))(bl:List Str):Prop:=∀(i:Nat) (F:Fn),T.fns[i]?=some F->∃m,compSs m ⟨T,F.N,(Qr F.st).names,gl,bl,F.lc⟩ (ZA F.st)=some F.body
section
variable {P:Program}{w:World}{K:W.Frag}{mg:Str->Option Value}{base:Heap}{T:Tbl}{A:Adr}{gl:List (Str×G)}{bl:List Str}
def JO{α:List Addr}{us:List U}{vs:List V}{N:List Str}{n:Nat}(r:RUs A α us vs)(hn:N.length=n):RS A α (Qnu us n) (L2.start N vs):=by
 unfold Qnu L2.start;have l:=r.length
 refine⟨by simp[l,hn],λi u e=>?_⟩
 by_cases hi:i<us.length
 ·rw[Xp (by simpa using hi),Wt]at e
  rw[Xp (by simpa[<-l]using hi),Wt]
  cases q:us[i]? with
  |none=>rw[q]at e;cases e
  |some x=>
   rw[q]at e;cases e;obtain⟨v,h1,h2⟩:=r.get q
   exact⟨v,by rw[h1];rfl,h2⟩
 ·rw[X7 (by simpa using T1 hi),Tj]at e
  split at e<;>cases e
def JH{n:Nat}:∀f us hs r,Qa T n f us hs=some r->∃F,T.fns[f]?=some F/\us.length=F.np:=by
 intro f us hs r h
 cases n with
 |zero=>cases h
 |succ n=>
  simp only[Qa]at h;split at h
  ·cases h
  ·rename_i F e;split at h
   ·rename_i l;exact⟨F,e,l⟩
   ·cases h
def XOk(P:Program)(w:World)(K:W.Frag)(mg:Str->Option Value)(base:Heap)(T:Tbl)(A:Adr)(r:Nat):Prop:=∀f F,T.fns[f]?=some F->∃fd,FnOk P w K mg base (CXw P w) r (A.f f) fd F.ps (spX T A K T.xf f)/\Binds K fd F.ps []/\W.keepIn K (.ref (A.f f))=true
def Qq8(tp:Top T A K mg gl bl)(h:T.xf=λy y y=>none):XOk P w K mg base T A 0:=λf F hF=>by
 obtain⟨fd,fn,b,_⟩:=tp.txt.fn f F hF
 have no:∀vs H Q E,¬spX T A K T.xf f vs H Q E:=λvs H Q E z=>by
  obtain⟨α,us,hs,u,hs',_,_,e,_⟩:=z;rw[h]at e;cases e
 exact⟨fd,⟨λvs H Q E h=>absurd h (no vs H Q E),λA outer s H args us vs Q E y y y y h=>absurd h (no vs H Q E)⟩,b,fn.kp⟩
theorem QaQ{rm:Nat}(tp:Top T A K mg gl bl)(tab:Qao P w T A K)(hb:Jb T gl bl)(hX:XOk P w K mg base T A rm):∀n f F,T.fns[f]?=some F->∃fd,FnOk P w K mg base CX0 (rm+2*n) (A.f f) fd F.ps (spC T A K (Qa T n) f)/\Binds K fd F.ps []/\W.keepIn K (.ref (A.f f))=true/\FunD K F.name F.qual F.st (A.f f) fd
 |0,f,F,hF=>by
  obtain⟨fd,fn,b,_⟩:=tp.txt.fn f F hF
  have no:∀vs H Q E,¬spC T A K (Qa T 0) f vs H Q E:=λvs H Q E h=>by
   obtain⟨α,us,hs,u,hs',_,_,e,_⟩:=h;cases e
  exact⟨fd,⟨λvs H Q E h=>absurd h (no vs H Q E),λA outer s H args us vs Q E z z z z h=>absurd h (no vs H Q E)⟩,b,fn.kp,fn⟩
 |n+1,f,F,hF=>by
  obtain⟨fd,fn,b,sc,lp,lN⟩:=tp.txt.fn f F hF;obtain⟨m,hm⟩:=hb f F hF;refine⟨fd,?_,b,fn.kp,fn⟩;refine fn.ok (k:=rm+2*n+1) sc (λvs H Q E h=>?_) (λcdv A' outer s H vs Q E hr h=>?_)
  ·obtain⟨α,us,hs,u,hs',r,_,_,⟨F',h1,h2⟩,_⟩:=h;rw[hF]at h1;cases h1;rw[<-r.length,h2,lp]
  ·obtain⟨α,us,hs,u,hs',r,R,e,_,q⟩:=h;refine⟨TIS T A K (exs T (Qa T n) dd F.body),?_,?_⟩
   ·have gx:GX T A ⟨T,F.N,(Qr F.st).names,gl,bl,F.lc⟩ (Qfb CX0 P w K mg base F.N F.qual (Qr F.st) (A.f f) cdv A' outer s H E).nox :=
     ⟨rfl,rfl,sc.nd,rfl,λz=>rfl,sc.kind,rfl,tp.gfn,tp.gcl,tp.gco,tp.gtx,tp.blt,tp.txt,tab⟩
    have fc:Fc (Qfb CX0 P w K mg base F.N F.qual (Qr F.st) (A.f f) cdv A' outer s H E).nox T A (Qa T n) (rm+2*n):=⟨λf' F' h'=>by
     obtain⟨fd',G,b',kp,_⟩:=QaQ tp tab hb hX n f' F' h'
     exact⟨fd',G,b',kp⟩,JH,λi D F' hD h'=>by
     obtain⟨fd',G,_,kp,fn'⟩:=QaQ tp tab hb hX n i F' h';obtain⟨fd2,x,q,st,fn2,dk,hp⟩:=tp.txt.df i D hD;have e:=FunD.same fn2 fn';subst e;rw[(hp F' h').1]at G
     exact⟨fd2,G,kp,dk⟩,λf' F' h'=>by
     obtain⟨fd',G,b',kp⟩:=hX f' F' h'
     exact⟨fd',G.mono (Nat.le_add_right _ _),b',kp⟩⟩
    exact(Qn4 ⟨rfl,rfl,rfl,rfl⟩ gx (λz=>.inl rfl) fc hr m).ss dd (ZA F.st) F.body hm
   ·simp only[Qa,hF]at e;split at e
    case isFalse=>cases e
    unfold fin at e;split at e
    ·rename_i u' ρ' h1 e1;cases e;exact TIS.run (JO r lN) R e1 λα1 σ1 H1 E1 R1 rs1 v rv=>q α1 v H1 E1 R1 rv
    ·rename_i ρ' h1 e1;cases e;exact TIS.run (JO r lN) R e1 λα1 σ1 H1 E1 R1 rs1=>q α1 .non H1 E1 R1 rfl
    ·cases e
end
end
section
variable {n:Nat}
inductive AllI{α:Type}(P:Nat->α->Prop):Nat->List α->Prop where
 |nil {n:Nat}:AllI P n []
 |cons {n:Nat} {a:α} {r:List α}:P n a->AllI P (n+1) r->AllI P n (a::r)
def AllI.get{α:Type}{P:Nat->α->Prop}{l:List α}(h:AllI P n l)(i:Nat)(a:α)(e:l[i]?=some a):P (n+i) a:=by
 induction h generalizing i with
 |nil=>cases e
 |cons h _ ih=>
  cases i with
  |zero=>cases(show some _=some _ from e);exact h
  |succ i=>have:=ih i e;rw[Nat.add_assoc,Nat.add_comm 1 i]at this;exact this
def AllI.mem{α:Type}{P:α->Prop}{l:List α}(h:AllI (λz a=>P a) n l){a:α}(m:a∈l):P a:=by
 obtain⟨i,e⟩:=Vi m;exact AllI.get h i a e
def AllI.look{κ β:Type}[BEq κ][LawfulBEq κ]{P:κ->β->Prop}{l:List (κ×β)}(h:AllI (λz p=>P p.1 p.2) n l){k:κ}{b:β}(e:l.lookup k=some b):P k b:=AllI.mem (P:=λp=>P p.1 p.2) h (Yh e)
def gvP(A:Adr)(mg:Str->Option Value)(x:Str):G->Prop
 |.fn i=>mg x=some (.ref (A.f i))
 |.cls i=>mg x=some (.ref (A.c i))
 |.con k=>mg x=some (.ref (A.k k))
 |.txt t=>∃k,mg x=some (.str ⟨t.toArray⟩ k)
section
variable {P:Program}{w:World}{K:W.Frag}{mg:Str->Option Value}{base:Heap}{T:Tbl}{A:Adr}{gl:List (Str×G)}{bl:List Str}
def QqG(A:Adr)(K:W.Frag)(k:Nat)(c:Co):Prop:=match c with
 |Co.tup xs=>∃vs,RUs A [] xs vs/\∀H,SqT K H (A.k k) vs
 |Co.lst xs=>∃vs,RUs A [] xs vs/\∀H,SqL K H (A.k k) vs
 |Co.tab _=>True
def QkY(fns:AllI (λi (F:Fn)=>∃fd,FunD K F.name F.qual F.st (A.f i) fd/\Binds K fd F.ps []/\FnScope F.N F.ps (Qr F.st)/\F.ps.length=F.np/\F.N.length=F.nN) 0 T.fns)
  (cls:AllI (λi C=>ClOk T A K i C) 0 T.cls)
  (fm:(T.fns'.all λx=>!(T.mns.contains x))=true) (fd:T.fns'.Nodup)
  (isi:AllI (λz p=>W.kitOne K (tyW A p.1.1) (tyW A p.1.2)=some p.2) 0 T.isi)
  (co:AllI (QqG A K) 0 T.cons)
  (dfs:AllI (λz (p:Nat×Df)=>∃fd x q st,FunD K x q st (A.f p.1) fd/\QkC A K fd p.2/\∀F,T.fns[p.1]?=some F->F.ps=p.2.ps/\F.np=p.2.np) 0 T.dfl)
  (g:AllI (λz (p:Str×G)=>gvP A mg p.1 p.2) 0 gl)
  (b:AllI (λz x=>mg x=none) 0 bl)
  (er:AllI (λz c=>ErrCls K (A.c c)/\((∀f,T.efl.contains (c,f)= false)/\W.excIn K (A.c c) Qa9 "ValueError.__new__"=true\/∃f x,T.efl.contains (c,f)= true/\(∀f',T.efl.contains (c,f')= true->f'=f)/\T.fns'[f]?=some x/\QcD K mg (A.c c) x)) 0 T.ers)
  (es:AllI (λz (p:Nat×Nat)=>W.exmOne K (.ref (A.c p.1)) (.ref (A.c p.2))=some true) 0 T.esb):Top T A K mg gl bl where
 txt:={
  fn:=λi F e=>by simpa using fns.get i F e
  df:=λi D e=>AllI.look (P:=λi (D:Df)=>∃fd x q st,FunD K x q st (A.f i) fd/\QkC A K fd D/\∀F,T.fns[i]?=some F->F.ps=D.ps/\F.np=D.np) dfs e
  cl:=λi C e=>by simpa using cls.get i C e
  fm:=λx m n=>by
   have:=Wl.mp fm x m;simp at this;exact this n
  fd:=fd
  isi:=λk t b e=>AllI.look (P:=λ(q:Ty×Ty) b=>W.kitOne K (tyW A q.1) (tyW A q.2)=some b) isi e
  co:=λk c e=>by
   have:=co.get k c e;simp only[Vk]at this;exact this
  er:=λc h=>AllI.mem er (by simpa using h)
  es:=λc c' h=>AllI.mem (P:=λ(p:Nat×Nat)=>W.exmOne K (.ref (A.c p.1)) (.ref (A.c p.2))=some true) es (a:=(c,c')) (by simpa using h)}
 gfn:=λx i e=>AllI.look (P:=λx (q:G)=>gvP A mg x q) g e
 gcl:=λx i e=>AllI.look (P:=λx (q:G)=>gvP A mg x q) g e
 gco:=λx i e=>AllI.look (P:=λx (q:G)=>gvP A mg x q) g e
 gtx:=λx i e=>AllI.look (P:=λx (q:G)=>gvP A mg x q) g e
 blt:=λx h=>by
  have:bl.contains x=true:=by cases q:bl.contains x with|true=>rfl|false=>exact absurd q h
  exact AllI.mem (P:=λx=>mg x=none) b (by simpa using this)
def Qfv(h:AllI (λz (F:Fn)=>compSs 100 ⟨T,F.N,(Qr F.st).names,gl,bl,F.lc⟩ (ZA F.st)=some F.body) 0 T.fns):Jb T gl bl:=λi F e=>⟨100,h.get i F e⟩
def Qf3(K:W.Frag):Sp:=λvs H Q z=>∃(a:Addr) (ns:List Int),vs=[.ref a]/\SqL K H a (ns.map V.int)/\QnG H/\ns.length<=63/\∀H',Q (.bl true) H'
def Abs:U->Int->Prop:=λu i=>∃r m,u=.int r m/\Cg i r m
def Abs.rus{s:List U}{ns:List Int}(h:Paired Abs s ns):RUs A [] s (ns.map V.int):=by
 induction h with
 |nil=>exact .nil
 | @cons _ i _ _ h _ ih=>obtain⟨r,m,e,c⟩:=h;subst e;exact .cons ⟨i,rfl,c⟩ ih
def Qmm{tb:List U->Tbl}{adr:Addr->Adr}{L r:Nat}{F:Fn}{x:Str}{fd:FuncData}(hF:∀s,(tb s).fns[L]?=some F)(hs:∀s,(tb s).scr=s)(hps:F.ps=[x])(hnp:F.np=1)
  (hA:∀a,(adr a).s=a) (hf:∀a,(adr a).f=(adr 0).f)
  (tp:∀s a,Top (tb s) (adr a) K mg gl bl) (tab:∀s a,Qao P w (tb s) (adr a) K) (hb:∀s,Jb (tb s) gl bl) (hX:∀s a,XOk P w K mg base (tb s) (adr a) r)
  (hfun:FunD K F.name F.qual F.st ((adr 0).f L) fd)
  (comp:∀ns:List Int,ns.length<=63->∃s hs',Paired Abs s ns/\Qa (tb s) n L [.scr] []=some (.bl true,hs')):
  FnOk P w K mg base CX0 (r+2*n) ((adr 0).f L) fd [x] (Qf3 K):=by
 refine⟨λvs H Q E y=>by obtain⟨a,ns,h,_⟩:=y;rw[h];rfl,λA0 outer s H args us vs Q E hr e0 hbd rel ⟨a,ns,h,hS,hO,hl,q⟩=>?_⟩
 obtain⟨sc,hs',pr,hc⟩:=comp ns hl;obtain⟨fd',G,_,_,hfun'⟩:=QaQ (base:=base) (tp sc a) (tab sc a) (hb sc) (hX sc a) n L F (hF sc);rw[hf a]at G hfun';have ef:=FunD.same hfun hfun';subst ef;rw[hps]at G;refine G.run A0 outer s H args us vs Q E hr e0 hbd rel ?_;subst h
 refine⟨[],[.scr],[],.bl true,hs',.cons (show V.ref a=V.ref (adr a).s by rw[hA]) .nil,⟨⟨rfl,(λi j a e u=>by simp at e),λn b o e u=>by simp at e⟩,ns.map V.int,by rw[hs];exact Abs.rus pr,?_⟩,hc,⟨F,hF sc,hnp.symm⟩,λα' v H' u u rv=>?_⟩
 ·rw[hA]
  rcases hS with(h|⟨o,h⟩)|h
  ·rcases hO a with z|⟨o,xs,z⟩
   ·rw[h]at z;cases z
   ·rw[h]at z;cases z
  ·exact .inl ⟨o,h⟩
  ·exact .inr h
 ·have:v=.bl true:=rv;subst this;exact q H'
end
end
section
noncomputable def Qc3(K:W.Frag)(a:Addr):FuncData:=match K.lookup a with
 |some o=>(match o.data with
  |.func fd=>fd
  |_=>default)
 |none=>default
noncomputable def fnT(F:Fn)(fd:FuncData):FuncData:=W.fnOf F.name F.qual (QbI F.st) (ZA F.st) (Qr F.st) fd.defaults fd.kwdefaults fd.doc fd.pyModule fd.annotations fd.code fd.closureTuple
noncomputable def vsN(n:Nat)(v:Nat->Value):List Value:=(List.range n).map v
def Qin(us:List Value):us=vsN us.length λi=>us.getD i .none:=by
 apply Tt;intro i;simp only[vsN,Wt,List.getElem?_range',Wj];by_cases h:i<us.length
 ·rw[List.getElem?_range h];simp[Xf h]
 ·rw[Wr (T1 h),Wr (by simpa using T1 h)];rfl
noncomputable def scB(F:Fn)(sc:Scope):Bool:=decide (sc.kind=.function)&&(!sc.isCoroutine&&(!sc.isGenerator&&(decide F.N.Nodup&&(decide (F.N.take F.ps.length=F.ps)&&(F.ps.all (λx=>decide (sc.names.lookup x=some .local)||decide (sc.names.lookup x=some .cell))&&(sc.names.all (λy=>decide (y.2≠.free))&&(decide (F.ps.length=F.np)&&decide (F.N.length=F.nN))))))))
noncomputable def fnB(K:W.Frag)(F:Fn)(a:Addr):Bool:=W.fnIn K a&&(W.codeIn K (Qc3 K a).code F.qual&&scB F (Qr F.st))
section
variable {P:Program}{w:World}{K:W.Frag}{mg:Str->Option Value}{h:Heap}{T:Tbl}{A:Adr}{gl:List (Str×G)}{bl:List Str}{F:Fn}{a:Addr}
def QeP(h1:Qc3 K a=fnT F (Qc3 K a))(h2:fnB K F a=true):FunD K F.name F.qual F.st a (Qc3 K a)/\FnScope F.N F.ps (Qr F.st)/\F.ps.length=F.np/\F.N.length=F.nN:=by
 obtain⟨i,c,s⟩:_/\_/\_:=by simpa only[fnB,Xl]using h2
 obtain⟨s1,s2,s3,s4,s5,s6,s7,s8,s9⟩:_/\_/\_/\_/\_/\_/\_/\_/\_:=by simpa only[scB,Xl,X1,Uu]using s
 have z:∃oc od sl,K.lookup a=some ⟨oc,od,.func (Qc3 K a),sl⟩:=by
  unfold W.fnIn at i;split at i
  ·rename_i oc od fd sl e
   exact⟨oc,od,sl,by rw[e];simp[Qc3,e]⟩
  ·cases i
 obtain⟨oc,od,sl,e⟩:=z
 refine⟨⟨⟨oc,od,_,_,_,_,_,_,_,sl,h1,e,c⟩,by simp only[W.keepIn,e]⟩,⟨s1,s2,s3,s4,s5,λx m=>?_,λy m=>?_⟩,s8,s9⟩
 ·simpa using Wl.mp s6 x m
 ·simpa using Wl.mp s7 y m
def Qhb(n:F.ps.length=F.np)(h3:∀v,bindArgs (Qc3 K a) ⟨vsN F.np v,[]⟩=pure (F.ps.zip (vsN F.np v))):Binds K (Qc3 K a) F.ps []:=.all λus l=>by
 have:=h3 λi=>us.getD i .none;rwa [<-n,<-l,<-Qin]at this
noncomputable def QkA{α:Type}(f:Nat->α->Bool):Nat->List α->Bool
 |_,[]=>true
 |n,a::r=>f n a&&QkA f (n+1) r
theorem YG{α:Type}{f:Nat->α->Bool}{Q:Nat->α->Prop}(q:∀n a,f n a=true->Q n a):∀{n:Nat} {l:List α},QkA f n l=true->AllI Q n l
 |_,[],_=>.nil
 |_,_::_,e=>.cons (q _ _ (U1.mp e).1) (YG q (U1.mp e).2)
def AllI.imp{α:Type}{Q R:Nat->α->Prop}(q:∀n a,Q n a->R n a){n:Nat}{l:List α}(h:AllI Q n l):AllI R n l:=by
 induction h with
 |nil=>exact .nil
 |cons e _ ih=>exact .cons (q _ _ e) ih
noncomputable def bi(x:String):Option (Option Value):=some (some (.builtin x))
noncomputable def clB(K:W.Frag)(T:Tbl)(A:Adr)(i:Nat)(C:Cl):Bool:=false
noncomputable def obB(K:W.Frag):Bool:=W.specialIn K (.builtin "object.__class__") "__get__"==bi "getset_descriptor.__get__"&&W.takesIn K (.builtin "object.__class__")==some true
def Qpm{i:Nat}{C:Cl}(o:obB K=true)(e:clB K T A i C=true):ClOk T A K i C:=nomatch e
noncomputable def erB(K:W.Frag)(a:Addr):Bool:=W.findIn K (.ref a) "__getattribute__"==bi "BaseException.__getattribute__"&&(W.findIn K (.ref a) "__getattr__"==some none&&(W.findIn K (.ref a) "__class__"==bi "object.__class__"&&(W.subIn K (.ref a) (.type "BaseException")==some true&&(W.subIn K (.ref a) (.type "object")==some true&&((W.clsIn K a).isSome&&W.excIn K a Qa9 "ValueError.__new__")))))
def Qo6{c:Nat}(o:obB K=true)(e:erB K (A.c c)= true)(n:∀f,T.efl.contains (c,f)= false): ErrCls K (A.c c)/\((∀f,T.efl.contains (c,f)= false)/\W.excIn K (A.c c) Qa9 "ValueError.__new__"=true\/∃f x,T.efl.contains (c,f)= true/\(∀f',T.efl.contains (c,f')= true->f'=f)/\T.fns'[f]?=some x/\QcD K mg (A.c c) x):= by
 obtain⟨o1,o2⟩:_/\_:=by simpa only[obB,bi,Xl,Uf]using o
 obtain⟨e1,e2,e3,e4,e5,e6,e7⟩:_/\_/\_/\_/\_/\_/\_:=by simpa only[erB,bi,Xl,Uf]using e
 exact⟨⟨e1,e2,e3,o1,o2,e4,e5,e6⟩,.inl ⟨n,e7⟩⟩
noncomputable def coB(K:W.Frag)(A:Adr)(a:Addr)(c:Co):Bool:=false
abbrev QqF(K:W.Frag)(w:World)(a:Addr):Prop:=True
def Qpk{k:Nat}{c:Co}(e:coB K A (A.k k) c=true):QqG A K k c:=nomatch e
def Qk2(co:QkA (λk c=>coB K A (A.k k) c) 0 T.cons=true)(hs:AllI (λk z=>QqF K w (A.k k)) 0 T.cons):Qao P w T A K:=λk kvs e=>by
 have c:=(YG (Q:=λk c=>coB K A (A.k k) c=true) (λz z q=>q) co).get k _ e;cases c
noncomputable def glB(K:W.Frag)(A:Adr)(p:Str×G):Bool:=match p.2 with
 |.fn i=>W.nsIn K mainGlobals p.1==some (some (.ref (A.f i)))
 |.cls i=>W.nsIn K mainGlobals p.1==some (some (.ref (A.c i)))
 |.con i=>W.nsIn K mainGlobals p.1==some (some (.ref (A.k i)))
 |.txt t=>(match W.nsIn K mainGlobals p.1 with
  |some (some (.str s _))=>s.cps.toList==t
  |_=>false)
def Qo2(X:K.In h)(G:h.Ns mainGlobals mg){p:Str×Iv.G}(e:glB K A p=true):gvP A mg p.1 p.2:=by
 obtain⟨x,g⟩:=p
 cases g with
 |fn i=>exact W.mg_of X G (by simpa[glB]using e)
 |cls i=>exact W.mg_of X G (by simpa[glB]using e)
 |con i=>exact W.mg_of X G (by simpa[glB]using e)
 |txt t=>
  simp only[glB]at e;split at e
  ·rename_i s k q;have:=Uf.mp e;subst this;exact⟨k,W.mg_of X G q⟩
  ·cases e
noncomputable def QnS(K:W.Frag)(T:Tbl)(A:Adr)(gl:List (Str×G))(bl:List Str):Bool:=obB K&&(QkA (clB K T A) 0 T.cls&&(T.fns'.all (λx=>!(T.mns.contains x))&&(decide T.fns'.Nodup&&(T.isi.all (λp=>W.kitOne K (tyW A p.1.1) (tyW A p.1.2)==some p.2)&&(gl.all (glB K A)&&(bl.all (λx=>W.nsIn K mainGlobals x==some none)&&T.esb.all (λp=>W.exmOne K (.ref (A.c p.1)) (.ref (A.c p.2))==some true)))))))
abbrev FnA(K:W.Frag)(A:Adr)(i:Nat)(F:Fn):Prop:=Qc3 K (A.f i)=fnT F (Qc3 K (A.f i))/\fnB K F (A.f i)=true/\((∀v,bindArgs (Qc3 K (A.f i)) ⟨vsN F.np v,[]⟩=pure (F.ps.zip (vsN F.np v)))\/Binds K (Qc3 K (A.f i)) F.ps [])
theorem Y9{α:Type}{Q:α->Prop}:∀{l:List α} {n:Nat},(∀a∈l,Q a)->AllI (λz a=>Q a) n l
 |[],_,_=>.nil
 |_::_,_,q=>.cons (q _ Xq) (Y9 λa m=>q a (Xm _ m))
def FnA.at{i:Nat}(q:FnA K A i F):∃fd,FunD K F.name F.qual F.st (A.f i) fd/\Binds K fd F.ps []/\FnScope F.N F.ps (Qr F.st)/\F.ps.length=F.np/\F.N.length=F.nN:=by
 obtain⟨d,s,l,n⟩:=QeP q.1 q.2.1;exact⟨_,d,q.2.2.elim (Qhb l) id,s,l,n⟩
def QkZ(X:K.In h)(G:h.Ns mainGlobals mg)(fns:AllI (FnA K A) 0 T.fns)(co:QkA (λk c=>coB K A (A.k k) c) 0 T.cons=true)(b:QnS K T A gl bl=true)
  (dfs:AllI (λz (p:Nat×Df)=>∃fd x q st,FunD K x q st (A.f p.1) fd/\QkC A K fd p.2/\∀F,T.fns[p.1]?=some F->F.ps=p.2.ps/\F.np=p.2.np) 0 T.dfl)
  (er:AllI (λz c=>ErrCls K (A.c c)/\((∀f,T.efl.contains (c,f)= false)/\W.excIn K (A.c c) Qa9 "ValueError.__new__"=true\/∃f x,T.efl.contains (c,f)= true/\(∀f',T.efl.contains (c,f')= true->f'=f)/\T.fns'[f]?=some x/\QcD K mg (A.c c) x)) 0 T.ers): Top T A K mg gl bl:=by
 obtain⟨b1,b2,b3,b4,b5,b6,b7,b8⟩:_/\_/\_/\_/\_/\_/\_/\_:=by simpa only[QnS,Xl]using b
 exact QkY (fns.imp λz z q=>q.at) (YG (λz z e=>Qpm b1 e) b2) b3 (Vy b4) (Y9 λp m=>by simpa using Wl.mp b5 p m) (YG (λz z e=>Qpk e) co) dfs
  (Y9 λp m=>Qo2 X G (Wl.mp b6 p m)) (Y9 λx m=>W.mg_none_of X G (by simpa using Wl.mp b7 x m)) er (Y9 λp m=>by simpa using Wl.mp b8 p m)
end
end
end Iv
namespace Iv
open PySem PySem.W PySem.Spec PyProof.Rows
noncomputable def YM(tb:String->Option Builtin)(p:Program)(w:World)(n₀:Nat)(ann:Option Value):Nat->SharedT->Thread->Option SharedT
 |0,_,_=>none
 |n+1,s,t=>match through t with
  |true=>some s
  |false=>match stepOk n₀ ann t with
   |false=>none
   |true=>match stepT (denote tb) p w s t with
    |some (s',t')=>YM tb p w n₀ ann n s' t'
    |none=>none
theorem Qas{tb:String->Option Builtin}{p:Program}{w:World}{n₀:Nat}{ann:Option Value}:∀{n:Nat} {s s':SharedT} {t:Thread},YM tb p w n₀ ann n s t=some s'->topRun tb p w n₀ ann n s.abs t=some s'.abs
 |0,_,_,_,h=>by cases h
 |n+1,s,s',t,h=>by
  unfold YM at h;unfold topRun
  cases he:through t with
  |true=>rw[he]at h;cases h;rfl
  |false=>
   rw[he]at h
   cases hk:stepOk n₀ ann t with
   |false=>rw[hk]at h;cases h
   |true=>
    rw[hk]at h
    cases hs:stepT (denote tb) p w s t with
    |none=>rw[hs]at h;cases h
    |some r=>obtain⟨s₂,t₂⟩:=r;rw[hs]at h;rw[stepT_spec hs];exact Qas h
structure BootT where
 t:Params->BT
 n:Nat
 life:Life
noncomputable def BootT.at(B:BootT)(w:World)(os:OsState):SharedT:=⟨B.t w.params,B.n,B.life,Array.mk [],boot_drawn,boot_toks,os⟩
noncomputable abbrev RunT(p q:Program)(loose:List Str)(Xt:Shared->Bool){α:Type}(Yf:Shared->α)(Ya:World->α)(N:Nat)(g0:Bool)(B:BootT)(m₀:Nat)(ann:Option Value)(w:World):Prop :=
 ∀os:OsState,(YM treeTable p w m₀ ann N (B.at w os) (topStub p)).map (λs=>((staticsOk (importedModules p.main.body) (boot_heap w.params) s.abs.heap&&namesBound p s.abs.heap&&gensDone s.abs&&laidKept (boot_heap w.params) s.abs.heap),openSeen q loose (importedModules p.main.body) Xt g0 s.abs,Yf s.abs))=some (true,openGood q loose,Ya w)
def left_tree{p q:Program}{loose:List Str}{Xt:Shared->Bool}{α:Type}{Yf:Shared->α}{Ya:World->α}{N:Nat}{g0:Bool}{B:BootT}{m₀:Nat}{ann:Option Value}
  (op:opening p=plainProg p.main.scope.names) (hN:Nat.ble 600 N=true) (fm:∀s,fenceModules? p s=some s)
  (hB:∀w:World,absHeap (B.t w.params) B.n B.life=boot_heap w.params)
  (size:∀w:World,((boot_heap w.params).isNs mainGlobals,(boot_heap w.params).objs.size,(boot_heap w.params).nsMap mainGlobals "__annotations__")=(true,m₀,ann))
  (run:∀w,RunT p q loose Xt Yf Ya N g0 B m₀ ann w):LeftO p q loose Xt Yf Ya N g0:=λw=>by
 obtain⟨⟨h,gs,d,k,os⟩,e,e'⟩:=Xd.mp (boot_open (N:=N) op hN fm w)
 obtain⟨rfl,rfl,rfl,rfl⟩:h=boot_heap w.params/\gs=Array.mk []/\d=boot_drawn/\k=boot_toks:=by simpa using e'
 obtain⟨z1,z2,z3⟩:_/\_/\_:=by simpa only[Prod.mk.injEq]using size w
 obtain⟨s1,r,l⟩:=Xd.mp (run w os)
 obtain⟨l1,l2,l3⟩:_/\_/\_:=by simpa only[Prod.mk.injEq]using l
 have r:=Qas r
 have ab:(B.at w os).abs=⟨boot_heap w.params,Array.mk [],boot_drawn,boot_toks,os⟩:=by
  unfold BootT.at SharedT.abs;rw[hB w]
 rw[ab]at r
 have t:topFrom treeTable p w N ⟨boot_heap w.params,Array.mk [],boot_drawn,boot_toks,os⟩=some s1.abs:=by
  unfold topFrom;dsimp only;rw[z1,z2,z3,r]
  show(match staticsOk (importedModules p.main.body) (boot_heap w.params) s1.abs.heap&&namesBound p s1.abs.heap&&gensDone s1.abs&&laidKept (boot_heap w.params) s1.abs.heap with|true=>_|false=>_)=_
  rw[l1]
 unfold openEnds;rw[e];show(topFrom treeTable p w N _).map _=_;rw[t];exact congrArg some (Prod.ext l2 l3)
section
variable (p q:Program)(loose:List Str)(Xt:Shared->Bool)(N:Nat)(g0:Bool)(B:BootT)(m₀:Nat)(ann:Option Value)
noncomputable abbrev QpF(w:World)(os:OsState):Option SharedT:=YM treeTable p w m₀ ann N (B.at w os) (topStub p)
abbrev PC(as:List Addr)(bs:List (Option Obj))(w:World):Prop:=∀os:OsState,(QpF p N B m₀ ann w os).map (λs=>as.map λa=>s.abs.heap.get? a)=some bs
variable {p q loose Xt N g0 B m₀ ann}
abbrev PL(p q:Program)(loose:List Str)(Xt:Shared->Bool)(N:Nat)(g0:Bool)(B:BootT)(m₀:Nat)(ann:Option Value)(w:World):Prop:=∀os:OsState,(QpF p N B m₀ ann w os).map (λs=>((staticsOk (importedModules p.main.body) (boot_heap w.params) s.abs.heap&&namesBound p s.abs.heap&&gensDone s.abs&&laidKept (boot_heap w.params) s.abs.heap),openSeen q loose (importedModules p.main.body) Xt g0 s.abs))=some (true,openGood q loose)
end
abbrev PX(p:Program)(N:Nat)(B:BootT)(m₀:Nat)(ann:Option Value){α:Type}(f:Shared->α)(a:α)(w:World):Prop:=∀os:OsState,(QpF p N B m₀ ann w os).map (λs=>f s.abs)=some a
noncomputable abbrev f1(q:Program)(s:Shared):=seen ((recsOf q).map (·.name)) (ownsOf q) [] {s with gens:=#[]}
noncomputable abbrev f2(s:Shared):=s.heap.bltView
noncomputable abbrev f3(q:Program)(loose:List Str)(s:Shared):Bool:=s.heap.keysOk (looseW q loose) ((recsOf q).map (·.name)) ((litsOf q).map (·.1)) ((clssOf q (looseW q loose)).map (·.name))
noncomputable abbrev f4(q:Program)(mods:List Str)(Xt:Shared->Bool)(g0:Bool)(s:Shared):Bool:=s.heap.accountedOkI mods&&s.heap.isNs mainGlobals&&s.heap.isNs builtinsNs&&tablesOk q s.heap&&Xt s&&(if g0 then s.gens.size==0 else !leftWithCleanup s.gens)
noncomputable abbrev f5(q:Program)(s:Shared):Bool:=tabsOk q s
noncomputable abbrev f6(q:Program)(loose:List Str)(s:Shared):=(pinSeenD q (drecsOf q) s,plainSeenE q (looseW q loose) s,plainSeenD q loose s)
noncomputable abbrev f7(q:Program)(loose:List Str)(s:Shared):=(wideSeen q s,clsSeenW q loose s)
noncomputable abbrev fA(p:Program)(w:World)(s:Shared):Bool:=staticsOk (importedModules p.main.body) (boot_heap w.params) s.heap&&namesBound p s.heap&&gensDone s&&laidKept (boot_heap w.params) s.heap
abbrev Lk1(p q:Program)(N:Nat)(B:BootT)(m₀:Nat)(ann:Option Value)(w:World):Prop:=PX p N B m₀ ann (λs=>(fA p w s,f1 q s,f2 s)) (true,expectedOf q,bltViewBooted) w
abbrev Lk2(p q:Program)(loose:List Str)(Xt:Shared->Bool)(N:Nat)(g0:Bool)(B:BootT)(m₀:Nat)(ann:Option Value)(w:World):Prop:=PX p N B m₀ ann (λs=>(f3 q loose s,f4 q (importedModules p.main.body) Xt g0 s,f5 q s,f6 q loose s,f7 q loose s)) (true,true,true,(pinGoodD (drecsOf q),plainGoodE q (looseW q loose),plainGoodD q loose),(wideGood q,clsGoodW q loose)) w
abbrev Lk3(p q:Program)(loose:List Str)(N:Nat)(B:BootT)(m₀:Nat)(ann:Option Value)(w:World):Prop:=PX p N B m₀ ann (λs=>(f3 q loose s,f5 q s)) (true,true) w
abbrev Lk5(p q:Program)(Xt:Shared->Bool)(N:Nat)(g0:Bool)(B:BootT)(m₀:Nat)(ann:Option Value)(w:World):Prop:=PX p N B m₀ ann (f4 q (importedModules p.main.body) Xt g0) true w
abbrev Lk4(p q:Program)(loose:List Str)(N:Nat)(B:BootT)(m₀:Nat)(ann:Option Value)(w:World):Prop:=PX p N B m₀ ann (λs=>(f6 q loose s,f7 q loose s)) ((pinGoodD (drecsOf q),plainGoodE q (looseW q loose),plainGoodD q loose),(wideGood q,clsGoodW q loose)) w
noncomputable abbrev Qn7(p q:Program)(loose:List Str)(Xt:Shared->Bool){α:Type}(Yf:Shared->α)(g0:Bool)(w:World)(s:Shared):=((staticsOk (importedModules p.main.body) (boot_heap w.params) s.heap&&namesBound p s.heap&&gensDone s&&laidKept (boot_heap w.params) s.heap),openSeen q loose (importedModules p.main.body) Xt g0 s,Yf s)
noncomputable abbrev vF(p q:Program)(w:World)(s:SharedT):=(fA p w s.abs,f1 q s.abs,f2 s.abs)
noncomputable abbrev gF(q:Program):=(true,expectedOf q,bltViewBooted)
noncomputable abbrev vK(p q:Program)(loose:List Str)(Xt:Shared->Bool)(g0:Bool)(s:SharedT):=(f3 q loose s.abs,f4 q (importedModules p.main.body) Xt g0 s.abs,f5 q s.abs)
noncomputable abbrev vL(q:Program)(loose:List Str)(s:SharedT):=(f6 q loose s.abs,f7 q loose s.abs)
noncomputable abbrev gL(q:Program)(loose:List Str):=((pinGoodD (drecsOf q),plainGoodE q (looseW q loose),plainGoodD q loose),(wideGood q,clsGoodW q loose))
end Iv
namespace Iv
open PySem
variable {a e:E}{es:List E}{i:Nat}
section
variable {T:Tbl}{cf:Cf}{d:Nat}{Z:Rho}{hs h1:Hs}{α β:Type}
def Qh{a:α}{f:α->Hs->Option β}:bd (some (a,h1)) f=f a h1:=rfl
def JI:exs T cf (d+1) [] Z hs=some (.next,Z,hs):=rfl
def QT{s:S}{r:List S}:exs T cf (d+1) (s::r) Z hs=(match ex T cf d s Z hs with
   |some (.next,ρ1,h1)=>exs T cf d r ρ1 h1
   |x=>x):=rfl
def QbS:ex T cf (d+1) (.expr e) Z hs=bd (ev T cf d e Z hs) λz h1=>some (.next,Z,h1):=rfl
def Qdo:ex T cf (d+1) (.set i e) Z hs=bd (ev T cf d e Z hs) λu h1=>some (.next,Z.set i (some u),h1):=rfl
def QcF:ex T cf (d+1) (.ret e) Z hs=bd (ev T cf d e Z hs) λu h1=>some (.ret u,Z,h1):=rfl
def ZR{t:E}{a b:List S}:ex T cf (d+1) (.ite t a b) Z hs=bd (evT T cf d t Z hs) λc h1=>if c=true then exs T cf d a Z h1 else exs T cf d b Z h1:=by
 rw[ex]
 cases h:evT T cf d t Z hs with
 |none=>rfl
 |some p=>obtain⟨c,h1⟩:=p;cases c<;>rfl
def QkE{t:Tg}{s:Src}{body:List S}:ex T cf (d+1) (.loop t s body) Z hs=bd (Q4 T (ev T cf d) Z s hs) λw h1=>Z6 T w t (exs T cf d body) (Q3 T w h1) 0 Z h1:=rfl
def y_put{o i:E}:ex T cf (d+1) (.put o i e) Z hs=bd (ev T cf d e Z hs) λu h1=>bd (ev T cf d o Z h1) λx h2=>bd (ev T cf d i Z h2) λk h3=>(Jd x k u h3).map λh4=>(.next,Z,h4):=rfl
def y_c{u:U}:ev T cf (d+1) (.c u) Z hs=some (u,hs):=rfl
def Qm:ev T cf (d+1) (.var i) Z hs=(match Z[i]? with|some (some u)=>some (u,hs)|_=>none):=rfl
def Qdp{o:Operator}{b:E}:ev T cf (d+1) (.op o a b) Z hs=bd (ev T cf d a Z hs) λu h1=>bd (ev T cf d b Z h1) λw h2=>opU o u w h2:=rfl
def Qif:ev T cf (d+1) (.neg a) Z hs=bd (ev T cf d a Z hs) λu h1=>(match u with|.int i m=>some (.int (-i) m,h1)|_=>none):=rfl
def Yq{o:CmpOp}{b:E}:ev T cf (d+1) (.cmp o a b) Z hs=bd (ev T cf d a Z hs) λu h1=>bd (ev T cf d b Z h1) λw h2=>(ZF T o u w h2).map λc=>(.bl c,h2):=rfl
def QnI:ev T cf (d+1) (.not a) Z hs=bd (ev T cf d a Z hs) λu h1=>(Yg T u h1).map λc=>(.bl (!c),h1):=rfl
def y_tup:ev T cf (d+1) (.tup es) Z hs=bd (evs (ev T cf d) Z es hs) λus h1=>some (.ref h1.length,h1++[.tup us]):=rfl
def y_lst:ev T cf (d+1) (.lst es) Z hs=bd (evs (ev T cf d) Z es hs) λus h1=>some (.ref h1.length,h1++[.lst us]):=rfl
def y_ix{b:E}:ev T cf (d+1) (.ix a b) Z hs=bd (ev T cf d a Z hs) λu h1=>bd (ev T cf d b Z h1) λw h2=>(QF T u w h2).map λx=>(x,h2):=rfl
def Qnn{lo hi:Option E}:ev T cf (d+1) (.sl a lo hi) Z hs=bd (ev T cf d a Z hs) λu h1=>bd (evO (ev T cf d) Z lo h1) λl h2=>bd (evO (ev T cf d) Z hi h2) λr h3=>slU T u l r h3:=rfl
def y_call{f:Nat}:ev T cf (d+1) (.call f es) Z hs=bd (evs (ev T cf d) Z es hs) λus h1=>cf f us h1:=rfl
def y_bi{b:Bi}:ev T cf (d+1) (.bi b es) Z hs=bd (evs (ev T cf d) Z es hs) λus h1=>biU T b us h1:=rfl
def QfN{t:Ty}:ev T cf (d+1) (.isi a t) Z hs=bd (ev T cf d a Z hs) λu h1=>(Qdm T t u h1).map λb=>(.bl b,h1):=rfl
def Qih{b:Bm}{o:E}:ev T cf (d+1) (.bm b o es) Z hs=bd (ev T cf d o Z hs) λu h1=>if Qdk b u h1=true then bd (evs (ev T cf d) Z es h1) λus h2=>bmU T b u us h2 else none:=rfl
def Qhm{s:Src}{b:Bool}{t:Option E}{el:E}:ev T cf (d+1) (.comp s b t el) Z hs=bd (Q4 T (ev T cf d) Z s hs) λw h1=>bd (QS T (ev T cf d) (Z9 (evT T cf d) t) w b el Z (Q3 T w h1) 0 [] h1) λus h2=>some (.ref h2.length,h2++[.lst us]):=rfl
def Qii{b:E}:ev T cf (d+1) (.and a b) Z hs=bd (ev T cf d a Z hs) λu h1=>(match u with|.bl true=>ev T cf d b Z h1|.bl false=>some (.bl false,h1)|_=>none):=rfl
def QpM{b:E}:ev T cf (d+1) (.or a b) Z hs=bd (ev T cf d a Z hs) λu h1=>(match u with|.bl true=>some (.bl true,h1)|.bl false=>ev T cf d b Z h1|_=>none):=rfl
def QkF:ev T cf (d+1) .dnew Z hs=some (.ref hs.length,hs++[.dic []]):=rfl
def Qho:evT T cf (d+1) (.not a) Z hs=bd (evT T cf d a Z hs) λc h1=>some (!c,h1):=rfl
def YH{b:E}:evT T cf (d+1) (.and a b) Z hs=bd (evT T cf d a Z hs) λc h1=>if c=true then evT T cf d b Z h1 else some (false,h1):=rfl
def QfO{b:E}:evT T cf (d+1) (.or a b) Z hs=bd (evT T cf d a Z hs) λc h1=>if c=true then some (true,h1)else evT T cf d b Z h1:=rfl
def Ji{o:CmpOp}{b:E}:evT T cf (d+1) (.cmp o a b) Z hs=bd (ev T cf d (.cmp o a b) Z hs) λu h1=>(Yg T u h1).map λc=>(c,h1):=rfl
def Qhn:evT T cf (d+1) (.var i) Z hs=bd (ev T cf d (.var i) Z hs) λu h1=>(Yg T u h1).map λc=>(c,h1):=rfl
def Qdq{f:Nat}:evT T cf (d+1) (.call f es) Z hs=bd (ev T cf d (.call f es) Z hs) λu h1=>(Yg T u h1).map λc=>(c,h1):=rfl
end
end Iv
namespace Iv
open PySem PySem.Spec PyProof.Rows L2
variable {tg:Expr}{H:Hp}{es:List Iv.E}{c d:Nat}{p:Pos}{ir:S}{st:Stmt}{T':Tbl}
def TX(T:Tbl)(A:Adr)(K:W.Frag)(f:Rho->Hs->Option (Nat×Hs))(E:XK):TS:=λz Y H=>∃α Z hs c hs',RS A α Z Y/\Rep T A K α hs H/\f Z hs=some (c,hs') /\
 ∀α' H' dd,Ext α α' H H'->Rep T A K α' hs' H'->EF T H' c dd->E (.ref (A.c c)) dd H'
section
variable {X:Cx}{T:Tbl}{A:Adr}{C:Ctx}{cf:Cf}{m k:Nat}{E:XK}
def QpI{t:TS}(h:PS X.nox st t):PS X st t:=λpins s Y H D I hw=>
 X2 (h pins s Y H D (I.wish _) hw) (λy y q=>q.unwish) λy y z=>False.elim z
def Qnj{es:List Expr}{t:TA}(h:PA X.nox es t):PA X es t:=λpos pins s Y H Q I hw=>
 X2 (h pos pins s Y H Q (I.wish _) hw) (λy y x=>by obtain⟨vs,H',I',r,q⟩:=x;exact⟨vs,H',I'.unwish,r,q⟩) λy y z=>False.elim z
def TX.run{K:W.Frag}{α:List Addr}{Z:Rho}{Y:St}{hs h1:Hs}{f:Rho->Hs->Option (Nat×Hs)}{D:Ends}(rs:RS A α Z Y)(rp:Rep T A K α hs H)(h:f Z hs=some (c,h1))
  (q:∀α1 H1 dd,Ext α α1 H H1->Rep T A K α1 h1 H1->EF T H1 c dd->E (.ref (A.c c)) dd H1):TX T A K f E D Y H:=⟨α,Z,hs,c,h1,rs,rp,h,q⟩
def Qf9{e f:Option Expr}{args:List Expr}(h:Qga C e f=some (c,args)): ∃x px q,e=some (.Call (.Name x px) args [] q)/\f=none/\ZK C x=true/\x≠"__debug__"/\C.gl.lookup x=some (.cls c)/\C.T.ers.contains c=true:=by
 unfold Qga at h;split at h
 ·split at h
  ·rename_i q;simp only[Xl,X1]at q;split at h
   ·rename_i z;split at h
    ·rename_i z2;cases h;exact⟨_,_,_,rfl,rfl,q.1,q.2,z,z2⟩
    ·cases h
   ·cases h
  ·cases h
 ·cases h
structure SndX(T:Tbl)(A:Adr)(C:Ctx)(X:Cx)(cf:Cf)(E:XK)(m:Nat):Prop where
 s:∀d st ir,QM m C st=some ir->PS X st (TX T A X.K (exX T cf d ir) E)
 ss:∀d sts irs,compSs m C sts=some irs->PSs X sts (TX T A X.K (exsX T cf d irs) E)
noncomputable def kdX:S->Bool
 |.rse ..|.ite ..|.cal ..|.loop ..=>true
 |_=>false
def nx(o:Option S):Prop:=∀ir,o=some ir->kdX ir=false
def Q2:nx none:=λz h=>nomatch h
def Q6{s:S}(h:kdX s=false):nx (some s):=λz e=>by cases e;exact h
def Zf{α:Type}{o:Option α}{f:α->Option S}(h:∀a,nx (f a)):nx (o.bind f):=by
 cases o with
 |none=>exact Q2
 |some a=>exact h a
def QhW{α:Type}{o:Option α}{f:α->S}(h:∀a,kdX (f a)=false):nx (o.map f):=by
 cases o with
 |none=>exact Q2
 |some a=>exact Q6 (h a)
def Qgw{c:Prop}[Decidable c]{a b:Option S}(ha:nx a)(hb:nx b):nx (if c then a else b):=by
 by_cases h:c
 ·rw[if_pos h];exact ha
 ·rw[if_neg h];exact hb
def JS(h1:∀e f p,st≠.Raise e f p)(h2:∀t a b p,st≠.If t a b p)(h3:∀tg it a o p,st≠.For tg it a o p):nx (QM (m+1) C st):=by
 cases st with
 |Raise e f p=>exact absurd rfl (h1 e f p)
 |If t a b p=>exact absurd rfl (h2 t a b p)
 |Pass=>exact Q6 rfl
 |Break=>exact Q6 rfl
 |Continue=>exact Q6 rfl
 |Expr e p=>
  unfold QM;dsimp only;generalize Qo5 e=z
  rcases z with _|_|_
  ·exact QhW λw=>rfl
  ·exact Q2
  ·exact Q6 rfl
 |Return v p=>
  cases v with
  |none=>exact Q6 rfl
  |some e=>exact QhW λw=>rfl
 |Assign ts e p=>
  unfold QM;dsimp only;generalize Qkk ts=z
  rcases z with _|z
  ·exact Q2
  ·cases z with
   |nm x=>exact Qgw (Zf λw=>Qgw (Q6 rfl) (Zf λw=>Q6 rfl)) Q2
   | «at» o f=>exact Q2
   |sub o i=>exact Qgw (Zf λw=>Zf λw=>Zf λw=>Q6 rfl) Q2
   |two x p y q=>exact Q2
   |many es=>exact Q2
 |Try b hs o fn p=>exact Qgw (Zf λw=>Zf λw=>Zf λw=>Q6 rfl) Q2
 |While t a o p=>
  cases o with
  |cons _ _=>exact Q2
  |nil=>exact Zf λw=>Zf λw=>Q6 rfl
 |For tg it a o p=>exact absurd rfl (h3 tg it a o p)
 |_=>exact Q2
def Qrp(C:Ctx)(m:Nat)(tg it:Expr)(a:List Stmt):S->Prop
 |.loop t s b=>Yp C tg=some t/\compSrc m C it=some s/\Qbs s t=true/\compSs m C a=some b
 |.loopK ..=>True
 |.loopC ..=>True
 |.loopD ..=>True
 |_=>False
def Yb{it:Expr}{a o:List Stmt}(h:QM (m+1) C (.For tg it a o p)=some ir):o=[]/\Qrp C m tg it a ir:=by
 cases o with
 |cons _ _=>exact nomatch (show none=some _ from h)
 |nil=>
  unfold QM at h;simp only[Xb]at h;obtain⟨tg',ht,it',hi,h⟩:=h;split at h
  ·simp only[Xb]at h;obtain⟨_,_,_,_,h⟩:=h;cases h;exact⟨rfl,trivial⟩
  ·split at h
   ·rename_i ok;simp only[Xb]at h;obtain⟨a',ha,h⟩:=h;split at h
    ·cases h;exact⟨rfl,trivial⟩
    ·cases h;exact⟨rfl,ht,hi,ok,ha⟩
   ·cases h
def Qnz(st:Stmt):(∃e f p,st=.Raise e f p)\/(∃t a b p,st=.If t a b p)\/(∃tg it a o p,st=.For tg it a o p)\/((∀e f p,st≠.Raise e f p)/\(∀t a b p,st≠.If t a b p)/\∀tg it a o p,st≠.For tg it a o p):=by
 cases st with
 |Raise e f p=>exact .inl ⟨e,f,p,rfl⟩
 |If t a b p=>exact .inr (.inl ⟨t,a,b,p,rfl⟩)
 |For tg it a o p=>exact .inr (.inr (.inl ⟨tg,it,a,o,p,rfl⟩))
 |_=>exact .inr (.inr (.inr ⟨λy y y z=>(nomatch z),λy y y y z=>(nomatch z),λy y y y y z=>(nomatch z)⟩))
def Zq{e f:Option Expr}(h:QM (m+1) C (.Raise e f p)=some ir):ir=.bad\/∃c args es,Qga C e f=some (c,args)/\compA m C args=some es/\ir=.rse c es:=by
 unfold QM at h;try dsimp only at h;split at h
 ·rename_i c args hr;simp only[Xb]at h;obtain⟨es,he,h⟩:=h;cases h;exact .inr ⟨c,args,es,hr,he,rfl⟩
 ·cases h;exact .inl rfl
def YE{t0:Expr}{a0 b0:List Stmt}(h:QM (m+1) C (.If t0 a0 b0 p)=some ir):∃t a b,compT m C t0=some t/\compSs m C a0=some a/\compSs m C b0=some b/\ir=.ite t a b:=by
 unfold QM at h;simp only[Xb]at h;obtain⟨t',ht,a',ha,b',hb,h⟩:=h;cases h;exact⟨t',a',b',ht,ha,hb,rfl⟩
def Qfj(h:QM (m+1) C st=some (.rse c es)): ∃x px q args p,st=.Raise (some (.Call (.Name x px) args [] q)) none p/\compA m C args=some es/\ZK C x=true/\x≠"__debug__"/\C.gl.lookup x=some (.cls c)/\C.T.ers.contains c=true:=by
 rcases Qnz st with⟨e,f,p,rfl⟩|⟨t,a,b,p,rfl⟩|⟨tg,it,a,o,p,rfl⟩|⟨h1,h2,h3⟩
 ·rcases Zq h with z|⟨c',args,es',hr,he,z⟩
  ·cases z
  ·cases z;obtain⟨x,px,q,rfl,rfl,h1,h2,h3,h4⟩:=Qf9 hr;exact⟨x,px,q,args,p,rfl,he,h1,h2,h3,h4⟩
 ·obtain⟨_,_,_,_,_,_,z⟩:=YE h;cases z
 ·exact(Yb h).2.elim
 ·exact nomatch JS h1 h2 h3 _ h
def Qfk{t:Iv.E}{a b:List S}(h:QM (m+1) C st=some (.ite t a b)):∃t0 a0 b0 p,st=.If t0 a0 b0 p/\compT m C t0=some t/\compSs m C a0=some a/\compSs m C b0=some b:=by
 rcases Qnz st with⟨e,f,p,rfl⟩|⟨t0,a0,b0,p,rfl⟩|⟨tg,it,a,o,p,rfl⟩|⟨h1,h2,h3⟩
 ·rcases Zq h with z|⟨_,_,_,_,_,z⟩<;>cases z
 ·obtain⟨t',a',b',ht,ha,hb,z⟩:=YE h;cases z;exact⟨t0,a0,b0,p,rfl,ht,ha,hb⟩
 ·exact(Yb h).2.elim
 ·exact nomatch JS h1 h2 h3 _ h
def Qc9{t:Tg}{s:Src}{b:List S}(h:QM (m+1) C st=some (.loop t s b)):∃tg it a p,st=.For tg it a [] p/\Yp C tg=some t/\compSrc m C it=some s/\Qbs s t=true/\compSs m C a=some b:=by
 rcases Qnz st with⟨e,f,p,rfl⟩|⟨t0,a0,b0,p,rfl⟩|⟨tg,it,a,o,p,rfl⟩|⟨h1,h2,h3⟩
 ·rcases Zq h with z|⟨_,_,_,_,_,z⟩<;>cases z
 ·obtain⟨_,_,_,_,_,_,z⟩:=YE h;cases z
 ·obtain⟨rfl,q⟩:=Yb h;exact⟨tg,it,a,p,rfl,q⟩
 ·exact nomatch JS h1 h2 h3 _ h
def Qfl{n:S}{f:Nat}(h:QM (m+1) C st=some (.cal n f es)):False:=by
 rcases Qnz st with⟨e,f,p,rfl⟩|⟨t0,a0,b0,p,rfl⟩|⟨tg,it,a,o,p,rfl⟩|⟨h1,h2,h3⟩
 ·rcases Zq h with z|⟨_,_,_,_,_,z⟩<;>cases z
 ·obtain⟨_,_,_,_,_,_,z⟩:=YE h;cases z
 ·exact(Yb h).2
 ·exact nomatch JS h1 h2 h3 _ h
def Qg8{x:Str}{as:List Expr}{t:Nat×List Expr}(h:Qg9 C x as=some t): ZK C x=true/\x≠"__debug__"/\C.gl.lookup x=some (.fn t.1)/\t.2=as:=by
 unfold Qg9 at h;rw[Xb]at h;obtain⟨k,hk,h⟩:=h;rw[W8]at h;obtain⟨_,h⟩:=h;cases h;obtain⟨h1,h2,h3⟩:=QbV hk;exact⟨h1,h2,h3,rfl⟩
def QbL{e:Expr}{t:Nat×List Expr}(h:Qkz C e=some t): ∃f pf a args q,e=.Call (.Name f pf) (a::args) [] q/\t.2=a::args/\ZK C f=true/\f≠"__debug__"/\C.gl.lookup f=some (.fn t.1):= by
 cases e with
 |Call g as ks q=>
  cases g with
  |Name f pf=>
   cases as with
   |nil=>cases h
   |cons a r=>
    cases ks with
    |cons _ _=>cases h
    |nil=>
     obtain⟨h1,h2,h3,h4⟩:=Qg8 (show Qg9 C f (a::r)=some t from h);exact⟨f,pf,a,r,q,rfl,h4,h1,h2,h3⟩
  |_=>exact nomatch (show none=some _ from h)
 |_=>exact nomatch (show none=some _ from h)
def TXE(T:Tbl)(A:Adr)(K:W.Frag)(f:Rho->Hs->Option (Nat×Hs))(E:XK):TE:=λY H z=>∃α Z hs c hs',RS A α Z Y/\Rep T A K α hs H/\f Z hs=some (c,hs') /\
 ∀α' H' dd,Ext α α' H H'->Rep T A K α' hs' H'->EF T H' c dd->E (.ref (A.c c)) dd H'
abbrev Qks(X:Cx)(A:Adr)(E:XK):Prop:=∀pins Y H H' s s' e B a0 c dd,Inv X pins Y H s->Inv X pins Y H' s'->Heap.FlyingW B X.stack e (.ref (A.c c)) a0 s'.heap->Cov B H' s X.stack->H' e=none->X.s₀.heap.get? e=none->DictAt s'.heap e dd->E (.ref (A.c c)) dd H'->X.xe (.ref e) s'
def Qee{f:Str}{pf q1:Pos}{a:Expr}{args:List Expr}{i:Nat}(hxf:Qks X A E)(bX:Bd X)(g:GX T A C X.nox)(F:Fc X.nox T A cf k)(hr:Room k X.A)(S:Snd T A C X.nox cf m)(gf:ZK C f=true)(df:f≠"__debug__")(lf:C.gl.lookup f=some (.fn i))(ha:compA m C (a::args)=some es)(n:Iv.S):
  PE X (.Call (.Name f pf) (a::args) [] q1) (TXE T A X.K (exX T cf (d+1) (.cal n i es)) E):=by
 have hns:=Qw ha;have st:starEach (a::args) X.env=(false,eval a X.env)::starEach args X.env:=Qt (hns a (Xq ..));have sa:(backTo q1 (starEach args X.env)).any (·.1)=false:=Zb λz hz=>hns z (Xm _ hz);intro pins s Y H Q I q;obtain⟨α,Z,hs0,c',h2,rs,R,e,q⟩:=q;simp only[exX]at e;obtain⟨us,hh1,e1,e⟩:=Qe e;rw[W8]at e;obtain⟨c3,ex'⟩:=e
 cases hF:T.fns[i]? with
 |none=>rw[hF]at c3;cases c3
 |some Fn=>
 rw[hF]at c3;have c3:us.length=Fn.np:=Vy c3;obtain⟨fd,G,bb,kp⟩:=F.xf i Fn hF;refine Va (ZJ I (show Gl X f from QX (X:=X.nox) g gf) (g.gfn f i lf) ?_ (QQ df));have pa0:=Qnj (S.a d (a::args) es ha) q1 pins s Y H (λvs H1=>∃α1,Ext α α1 H H1/\Rep T A X.K α1 hh1 H1/\RUs A α1 us vs) I ⟨α,Z,hs0,us,hh1,rs,R,e1,λα' vs H' E' R' r'=>⟨α',E',R',r'⟩⟩;refine W.callWith_K (h₀:=X.base) I.ok.mod.kin kp (X2 pa0 (λus1 s1 ⟨vs,H1,I1,r,α1,E1,R1,ru⟩=>⟨I1.kIn,?_⟩) λy y z=>z) st sa
 have ll:us1.length=Fn.ps.length:=by
  obtain⟨fd',fn',_,_,lp,_⟩:=g.txt.fn i Fn hF;rw[lp,<-c3,ru.length,r.length]
 have hsp:spX T A X.K T.xf i vs H1 (λy y=>False) (λCv o H'=>Cv=.ref (A.c c')/\EF T H' c' o/\∃α',Ext α1 α' H1 H'/\Rep T A X.K α' h2 H'):=
  ⟨α1,us,hh1,c',h2,ru,R1,ex',⟨Fn,hF,c3⟩,λα' H' dd E' R' ef=>⟨rfl,ef,α',E',R'⟩⟩
 refine wpAny_call (T8 (G.run X.A X.stack s1 H1 ⟨us1,[]⟩ us1 vs _ _ hr I1.env0 (by have:=bb s1 us1 I1.kIn (by rw[Vd];exact ll);rw[Vd]at this;exact this) r hsp) λrr s' hq=>?_)
 cases rr with
 |ok fl=>
  cases fl with
  |ret u=>
   obtain⟨_,_,_,_,_,_,_,z⟩:=hq;exact z.elim
  |next=>exact False.elim hq
  |brk=>exact False.elim hq
  |cont=>exact False.elim hq
 |error ev=>
  obtain⟨e0,C0,H',B,a0,dd,rfl,J,flw,cv,hn,hs1,h00,da,⟨hC,ef,α2,E2,R2⟩⟩:=QmF I1 bX.ex (show CXw X.prog X.w X.stack H1 s1 (λCv o H'=>Cv=.ref (A.c c')/\EF T H' c' o/\∃α',Ext α1 α' H1 H'/\Rep T A X.K α' h2 H') ev s' from hq);cases hC;exact hxf pins Y H1 H' s1 s' e0 B a0 c' dd I1 J flw cv hn h00 da (q α2 H' dd (E1.trans E2 R2.h) R2 ef)
def Qod{stt:Stmt}{t:Nat×List Expr}{n:Iv.S}(hxf:Qks X A E)(bX:Bd X)(g:GX T A C X.nox)(fl:∀x,X.fn x=true\/X.env.scope.names.lookup x=some .local)(F:Fc X.nox T A cf k)(hr:Room k X.A)(S:Snd T A C X.nox cf m)(ht:QmW C stt=some t)(ha:compA m C t.2=some es):
  PS X stt (TX T A X.K (exX T cf (d+1) (.cal n t.1 es)) E):=by
 cases stt with
 |Assign ts e p=>
  change Qpo C ts e=some t at ht
  unfold Qpo at ht;split at ht
  ·rename_i x hx;obtain⟨px,rfl⟩:=QbO hx;rw[W8]at ht;obtain⟨hl,ht⟩:=ht;rw[Xl]at hl;obtain⟨i,hi⟩:=Ug.mp hl.2;obtain⟨f,pf,a,args,q,rfl,h1,gf,df,lf⟩:=QbL ht;rw[h1]at ha
   exact Za (QaA (i:=i) g.nd (by have:=g.N;rw[show X.N=X.nox.N from rfl,this];exact Zh hi) (Jt (X:=X.nox) g hl.1) (Qee hxf bX g F hr S gf df lf ha n) rfl (fl x)) λD Y H z=>z
  ·cases ht
 |Return v p=>
  cases v with
  |none=>cases ht
  |some e=>
   obtain⟨f,pf,a,args,q,rfl,h1,gf,df,lf⟩:=QbL (show Qkz C e=some t from ht);rw[h1]at ha;exact Za (QhK (Qee hxf bX g F hr S gf df lf ha n)) λD Y H z=>z
 |Expr e p=>
  obtain⟨f,pf,a,args,q,rfl,h1,gf,df,lf⟩:=QbL (show Qkz C e=some t from ht);rw[h1]at ha;exact Za (Qbk (Qee hxf bX g F hr S gf df lf ha n) rfl) λD Y H z=>z
 |_=>exact nomatch (show none=some _ from ht)
def QpJ{it:Expr}{wi:L2.TI}(h:PI X.nox tg it wi):PI X tg it wi:=λpins s Y H R I hw=>
 X2 (h pins s Y H R (I.wish _) hw) (λv s1 z=>X2 z (λitv s2 y=>by obtain⟨it,fp,tn,J,H2,e,I2,T,st,f2,r⟩:=y;exact⟨it,fp,tn,J,H2,e,I2.unwish,T,st,f2,r⟩) λx x z=>False.elim z) λx x z=>False.elim z
def QpK{g:TG}(h:PG X.nox tg g):PG X tg g:=λpins s Y H v u Q I r hw=>
 X2 (h pins s Y H v u Q (I.wish _) r hw) (λy s' x=>by obtain⟨Y',H',I',q⟩:=x;exact⟨Y',H',I'.unwish,q⟩) λy y z=>False.elim z
def Qnh{st:List Stmt}{t:TS}(h:PSs X.nox st t):PSs X st t:=λpins s Y H D I hw=>
 X2 (h pins s Y H D (I.wish _) hw) (λy y q=>q.unwish) λy y z=>False.elim z
def Qni{b:List Stmt}{t1 t2:TS}(h1:PSs X b t1)(h2:PSs X b t2):PSs X b (λD Y H=>t1 D Y H\/t2 D Y H):=λpins s Y H D I z=>z.elim (h1 pins s Y H D I) (h2 pins s Y H D I)
def QeQ{body:List S}{w:Wk}{t:Tg}{J:It}{D:Ends}{α0:List Addr}{H0:Hp}{σ0:St}{ρ0:Rho}{h0 hs':Hs}{n:Nat}(tx:Txt T A X.K X.mg)(rs0:RS A α0 ρ0 σ0)(R0:Rep T A X.K α0 h0 H0)(W0:WJ A X.K α0 J H0 w)
  (e0:QfK T w t (exs T cf d body) (exsX T cf d body) n 0 ρ0 h0=some (c,hs'))
  (q:∀α' H' dd,Ext α0 α' H0 H'->Rep T A X.K α' hs' H'->EF T H' c dd->E (.ref (A.c c)) dd H'):
  ∃W:Nat->Nat->St->Hp->Prop,(∃m,W 0 m σ0 H0)/\∀i m Y H,W i m Y H->(J.stop i H/\D.nx Y H)\/(J.go i H/\∃N:St->Hp->Prop,(∀Y' H',N Y' H'->∃m',m'<m/\W (i+1) m' Y' H') /\
   ∀x H',J.yld i H x H'->gT X.K t x Y H' λσ2 H2=>TIS T A X.K (exs T cf d body) {D with nx:=N,ct:=N,bk:=D.nx} σ2 H2\/TX T A X.K (exsX T cf d body) E {D with nx:=N,ct:=N,bk:=D.nx} σ2 H2):=by
 refine⟨λi m Y H=>∃α Z hs,RS A α Z Y/\Rep T A X.K α hs H/\Ext α0 α H0 H/\QfK T w t (exs T cf d body) (exsX T cf d body) m i Z hs=some (c,hs'),⟨n,α0,ρ0,h0,rs0,R0,Ext.refl,e0⟩,?_⟩;rintro i m Y H ⟨α,Z,hs,rs,R,E0,e⟩
 cases m with
 |zero=>cases e
 |succ m=>
  have W:=W0.mono E0.pre E0.fz;simp only[QfK]at e;split at e
  ·cases e
  ·cases e
  ·rename_i x ei;split at e
   ·cases e
   ·rename_i ρ1 et;obtain⟨go,yl⟩:=Qco tx R W rs ei et;refine .inr ⟨go,λY' H'=>∃α Z hs,RS A α Z Y'/\Rep T A X.K α hs H'/\Ext α0 α H0 H'/\QfK T w t (exs T cf d body) (exsX T cf d body) m (i+1) Z hs=some (c,hs'),λY' H' z=>⟨m,V3 _,z⟩,?_⟩;intro v H' hy;refine yl v H' _ hy λσ2 rs2 R2 E2=>?_;have E02:Ext α0 α H0 H':=E0.trans E2 R2.h;split at e
    ·rename_i ρ2 h2 eb;exact .inl (TIS.run rs2 R2 eb λα3 σ3 H3 E3 R3 rs3=>⟨α3,ρ2,h2,rs3,R3,E02.trans E3 R3.h,e⟩)
    ·rename_i ρ2 h2 eb;exact .inl (TIS.run rs2 R2 eb λα3 σ3 H3 E3 R3 rs3=>⟨α3,ρ2,h2,rs3,R3,E02.trans E3 R3.h,e⟩)
    ·cases e
    ·exact .inr (TX.run rs2 R2 e λα3 H3 dd E3 R3 f3=>q α3 H3 dd (E02.trans E3 R3.h) R3 f3)
theorem Qp7(hxe:∀pins Y H s h' e vs c,Inv X pins Y H s->Heap.MadeExcOf s.heap h' e (.ref (A.c c)) vs->E (.ref (A.c c)) none H->X.xe (.ref e) {s with heap:=h'})(hxi:∀pins Y H s e oe vs a0 c,Inv X pins Y H s->H e=none->X.s₀.heap.get? e=none->e≠X.env.locals->s.heap.get? e=some oe->oe.cls=.ref (A.c c)->oe.data=.fields vs->vs[0]?=some a0->vs[1]?=some .none->E (.ref (A.c c)) oe.dict H->X.xe (.ref e) s)(hxf:Qks X A E)(hpo:PassesOwn (model X.prog X.w) X.A X.env X.xe)(bX:Bd X)(g:GX T A C X.nox)(fl:∀x,X.fn x=true\/X.env.scope.names.lookup x=some .local)(F:Fc X.nox T A cf k)(hr:Room (k+1) X.A)(hr3:Room 3 X.A):∀m,SndX T A C X cf E m
 |0=>⟨λd st ir h=>by first|exact Znn h|simp[QM]at h,λd sts irs h=>by exact Znn h⟩
 |m+1=>by
  have IH:=Qp7 hxe hxi hxf hpo bX g fl F hr hr3 m;have N:Snd2 T A C X.nox cf m:=Qf5 m g F (λy=>hr) hr.units;have NS:SndS T A C X.nox cf m:=Qn4 (X:=X.nox) ⟨bX.stk,bX.frm,bX.ex,bX.cm⟩ g fl F hr m;refine⟨λd st ir h=>?_,λd sts irs h=>?_⟩
  ·cases d with
   |zero=>exact ZQ λD Y H v=>by obtain⟨_,_,_,_,_,_,_,e,_⟩:=v;cases e
   |succ d=>
   cases ir with
   |rse c es=>
    obtain⟨x,px,q,args,p,rfl,ha,g1,g2,g3,g4⟩:=Qfj h;have cl:=g.gcl x c g3;rw[g.CT]at g4;have xk:=(g.txt.er c g4).2
    have en:(∀f,T.efl.contains (c,f)=false)->∀H,EF T H c none:=λz H f q=>by rw[z f]at q;cases q
    have pa:=Qnj (N.s.a d args es ha);have ln:=Q9 ha
    cases args with
    |nil=>
     have ee:es=[]:=by simpa using ln
     subst ee
     rcases xk with⟨nf,xk⟩|⟨f,x1,hf,uq,hx1,hh⟩
     case inr=>exact hh.elim
     refine Za (Qd4 (W:=λH=>E (.ref (A.c c)) none H) xk (show Gl X x from QX (X:=X.nox) g g1) cl bX.cm (λpins Y H s h' e vs I mx w=>hxe pins Y H s h' e vs c I mx w) (QQ g2)) ?_;rintro D Y H ⟨α,Z,hs,c',hs',rs,R,e,q⟩;simp only[exX,evs,bd]at e;rw[W8]at e;obtain⟨_,e⟩:=e;cases e;exact q α H none Ext.refl R (en nf H)
    |cons a r=>
     rcases xk with⟨nf,xk⟩|⟨f,x1,hf,uq,hx1,hh⟩
     case inr=>exact hh.elim
     refine Za (Qgi (W:=λH=>E (.ref (A.c c)) none H) xk (show Gl X x from QX (X:=X.nox) g g1) cl bX.cm pa (λpins Y H s h' e vs I mx w=>hxe pins Y H s h' e vs c I mx w) (Qt (Qw ha a (Xq ..))) (Zb λz hz=>Qw ha z (Xm _ hz)) (QQ g2)) ?_;rintro D Y H ⟨α,Z,hs,c',hs',rs,R,e,q⟩;simp only[exX]at e;obtain⟨us,h1,e1,e⟩:=Qe e;rw[W8]at e;obtain⟨⟨_,lz,_⟩,e⟩:=e;cases e;refine TIA.run rs R e1 λα1 vs H1 E1 R1 r1 rs1=>⟨?_,q α1 H1 none E1 R1 (en nf H1)⟩;rw[<-r1.length,Y0 e1]
     exact Wf lz (by decide)
   |ite t a b=>
    obtain⟨t0,a0,b0,p,rfl,ht,ha,hb⟩:=Qfk h;refine Za (QlC (PT.nox (N.s.t d t0 t ht).1) (IH.ss d a0 a ha) (IH.ss d b0 b hb)) ?_;rintro D Y H ⟨α,Z,hs,c',hs',rs,R,e,q⟩;simp only[exX]at e;split at e
    ·rename_i h1 e1;refine TIT.run rs R e1 λα1 H1 E1 R1 rs1=>?_;rw[if_pos rfl];exact TX.run rs1 R1 e λα2 H2 dd E2 R2 f2=>q α2 H2 dd (E1.trans E2 R2.h) R2 f2
    ·rename_i h1 e1;refine TIT.run rs R e1 λα1 H1 E1 R1 rs1=>?_;rw[if_neg Xz];exact TX.run rs1 R1 e λα2 H2 dd E2 R2 f2=>q α2 H2 dd (E1.trans E2 R2.h) R2 f2
    ·cases e
   |cal n f es=>exact(Qfl h).elim
   |loop t s b=>
    obtain⟨tg,it,a,p,rfl,ht,hi,ok,ha⟩:=Qc9 h;refine Za (Qb7 hpo bX.cm (QpJ (N.w d it _ tg hi (Qhx ht ok))) (QpK (Qnt (X:=X.nox) bX.cm g fl ht)) (Qni (Qnh (NS.ss d a b ha)) (IH.ss d a b ha)) (Jq hi)) ?_;rintro D Y H ⟨α,Z,hs,c',hs',rs,R,e,q⟩;simp only[exX]at e;obtain⟨w,h1,e1,e⟩:=Qe e;refine⟨α,Z,hs,w,h1,rs,R,e1,λα1 J H1 E1 R1 W1=>?_⟩;exact QeQ g.txt (rs.mono E1.pre) R1 W1 e λα2 H2 dd E2 R2 f2=>q α2 H2 dd (E1.trans E2 R2.h) R2 f2
   |_=>exact ZQ λD Y H u=>by obtain⟨_,_,_,_,_,_,_,e,_⟩:=u;simp[exX]at e
  ·cases d with
   |zero=>exact Ye λD Y H o=>by obtain⟨_,_,_,_,_,_,_,e,_⟩:=o;cases e
   |succ d=>
   cases sts with
   |nil=>
    cases h
    exact Ye λD Y H l=>by obtain⟨_,_,_,_,_,_,_,e,_⟩:=l;simp[exsX]at e
   |cons st r=>
    simp only[compSs,Xb]at h;obtain⟨s0,hs0,s',hs',r',hr',h⟩:=h;cases h
    have IS:PS X st (TX T A X.K (exX T cf d s') E):=by
     unfold QnA at hs';split at hs'
     ·rename_i t ht;simp only[Xd]at hs';obtain⟨es,ha,rfl⟩:=hs'
      cases d with
      |zero=>exact ZQ λD Y H j=>by obtain⟨_,_,_,_,_,_,_,e,_⟩:=j;cases e
      |succ d=>exact Qod hxf bX g fl F (hr.mono (Ur _)) N.s ht ha
     ·cases hs';exact IH.s d st s0 hs0
    intro pins s Y H D I z;obtain⟨α,Z,hs,c',hs2,rs,R,e,q⟩:=z;simp only[exsX]at e;split at e
    ·rename_i ρ1 h1 e1;refine YA (QpI (Qib hs' (λd=>NS.s d st s0 hs0) d)) (IH.ss d r r' hr') pins s Y H D I ?_;exact TIS.run rs R e1 λα1 σ1 H1 E1 R1 rs1=>TX.run (D:=D) rs1 R1 e λα2 H2 dd E2 R2 f2=>q α2 H2 dd (E1.trans E2 R2.h) R2 f2
    ·cases e
    ·refine YA IS (Ye (t:=λy y y=>False) λy y y z=>z) pins s Y H D I ?_;exact TX.run (D:=D) rs R e q
end
section
variable {P:Program}{w:World}{K:W.Frag}{mg:Str->Option Value}{base:Heap}{T:Tbl}{A:Adr}{gl:List (Str×G)}{bl:List Str}
def QjS{rm:Nat}(tp:Top T A K mg gl bl)(tab:Qao P w T A K)(hb:Jb T gl bl)(hX:XOk P w K mg base T A rm)(m f:Nat)(F:Fn)(hF:T.fns[f]?=some F):∃fd,FnOk P w K mg base (CXw P w) (rm+2+2*m) (A.f f) fd F.ps (spX T A K (ZO T m) f)/\Binds K fd F.ps []/\W.keepIn K (.ref (A.f f))=true:=by
 obtain⟨fd,fn,b,sc,lp,lN⟩:=tp.txt.fn f F hF;refine⟨fd,?_,b,fn.kp⟩
 cases m with
 |zero=>
  have no:∀vs H Q E,¬spX T A K (ZO T 0) f vs H Q E:=λvs H Q E h=>by
   obtain⟨α,us,hs,u,hs',_,_,e,_⟩:=h;cases e
  exact⟨λvs H Q E h=>absurd h (no vs H Q E),λA outer s H args us vs Q E z z z z h=>absurd h (no vs H Q E)⟩
 |succ n=>
  obtain⟨oc,od,dV,kV,doc,pm,an,cdv,ct,osl,rfl,lk,hcd⟩:=fn.ex;obtain⟨m,hm⟩:=hb f F hF;refine QmE (k:=rm+2+2*n+1) lk hcd sc (λvs H Q E h=>?_) (λA' outer s H vs Q E hr h=>?_)
  ·obtain⟨α,us,hs,u,hs',r,_,_,⟨F',h1,h2⟩,_⟩:=h;rw[hF]at h1;cases h1;rw[<-r.length,h2,lp]
  ·obtain⟨α,us,hs,c,hs',r,R,e,_,q⟩:=h;refine⟨TX T A K (exsX T (Qa T n) dd F.body) E,?_,?_⟩
   ·have gx:GX T A ⟨T,F.N,(Qr F.st).names,gl,bl,F.lc⟩ (Qfb (CXw P w) P w K mg base F.N F.qual (Qr F.st) (A.f f) cdv A' outer s H E).nox :=
     ⟨rfl,rfl,sc.nd,rfl,λz=>rfl,sc.kind,rfl,tp.gfn,tp.gcl,tp.gco,tp.gtx,tp.blt,tp.txt,tab⟩
    have fc:Fc (Qfb (CXw P w) P w K mg base F.N F.qual (Qr F.st) (A.f f) cdv A' outer s H E).nox T A (Qa T n) (rm+2*n):=⟨λf' F' h'=>by
     obtain⟨fd',G,b',kp,_⟩:=QaQ tp tab hb hX n f' F' h'
     exact⟨fd',G,b',kp⟩,JH,λi D F' hD h'=>by
     obtain⟨fd',G,_,kp,fn'⟩:=QaQ tp tab hb hX n i F' h';obtain⟨fd2,x,q,st,fn2,dk,hp⟩:=tp.txt.df i D hD;have e:=FunD.same fn2 fn';subst e;rw[(hp F' h').1]at G
     exact⟨fd2,G,kp,dk⟩,λf' F' h'=>by
     obtain⟨fd',G,b',kp⟩:=hX f' F' h'
     exact⟨fd',G.mono (Nat.le_add_right _ _),b',kp⟩⟩
    refine(Qp7 (X:=Qfb (CXw P w) P w K mg base F.N F.qual (Qr F.st) (A.f f) cdv A' outer s H E) (λpins Y H1 s1 h' e vs c I mx w=>?_) (λpins Y H1 s1 e oe vs a0 c I hn h0 hl he hc hd v0 v1 w=>?_) (λpins Y H1 H2 s1 s2 e B a0 c dd I J fl cv hn h0 da w=>?_) ?_ ⟨rfl,rfl,rfl,rfl⟩ gx (λz=>.inl rfl) fc (hr.mono (by omega)) (hr.mono (by omega)) m).ss dd (ZA F.st) F.body hm
    ·exact QcW (L:=_) rfl rfl rfl I mx w
    ·exact YW (L:=_) rfl rfl rfl I hn h0 hl he hc hd v0 v1 w
    ·exact QeA (L:=_) rfl rfl rfl J fl (cv.up I rfl) hn h0 da w
    ·exact PassesOwn.leaving
   ·simp only[ZO,hF]at e;split at e
    case isFalse=>cases e
    exact TX.run (JO r lN) R e q
def Qqw{dd:Option Addr}(h1:T'.fns'=T.fns')(h5:T'.efl=T.efl)(h:EF T H c dd):EF T' H c dd:=λf q=>by
 rw[h5]at q;rw[h1];exact h f q
def Qlt{α:List Addr}{hs:Hs}(h1:T'.fns'=T.fns')(h2:T'.cls=T.cls)(h3:T'.scr=T.scr)(h4:T'.ers=T.ers)(h5:T'.efl=T.efl)(R:Rep T A K α hs H):Rep T' A K α hs H:=by
 refine⟨⟨R.h.len,R.h.nd,λn a o e1 e2=>?_⟩,?_⟩
 ·have z:=R.h.ob n a o e1 e2
  cases o with
  |ins c fs=>
   obtain⟨dx,fv,q1,q2,q3⟩:=z
   refine⟨dx,fv,q1,?_,by rw[h2];exact q3⟩
   unfold RF at *;rw[h1];exact q2
  |err c=>
   obtain⟨dd,q1,q2,q3⟩:=z
   exact⟨dd,q1,by rw[h4];exact q2,Qqw h1 h5 q3⟩
  |_=>exact z
 ·obtain⟨vs,q1,q2⟩:=R.s
  exact⟨vs,by rw[h3];exact q1,q2⟩
def QpN{rm m:Nat}(hf:T'.fns=T.fns)(h1:T'.fns'=T.fns')(h2:T'.cls=T.cls)(h3:T'.scr=T.scr)(h4:T'.ers=T.ers)(h5:T'.efl=T.efl)(hx:T'.xf=ZO T m)(tp:Top T A K mg gl bl)(tab:Qao P w T A K)(hb:Jb T gl bl)(hX:XOk P w K mg base T A rm):
  XOk P w K mg base T' A (rm+2+2*m):=λf F hF=>by
 rw[hf]at hF;obtain⟨fd,G,b,kp⟩:=QjS tp tab hb hX m f F hF;refine⟨fd,G.imp λvs H Q E h=>?_,b,kp⟩;obtain⟨α,us,hs,c,hs',r,R,e,⟨F',e1,e2⟩,q⟩:=h
 refine⟨α,us,hs,c,hs',r,Qlt h1.symm h2.symm h3.symm h4.symm h5.symm R,by rw[<-hx];exact e,⟨F',by rw[<-hf];exact e1,e2⟩,λα' H' dd E' R' f'=>q α' H' dd E' (Qlt h1 h2 h3 h4 h5 R') (Qqw h1 h5 f')⟩
def QkX{x:Nat->List U->Hs->Option (Nat×Hs)}(tp:Top T A K mg gl bl):Top {T with xf:=x} A K mg gl bl :=
 ⟨⟨tp.txt.fn,tp.txt.df,λi C e=>let c:=tp.txt.cl i C e;⟨c.cls,c.nf,c.me,c.mks,c.kp,c.ini,c.ty⟩,tp.txt.fm,tp.txt.fd,tp.txt.isi,tp.txt.co,tp.txt.er,tp.txt.es⟩,tp.gfn,tp.gcl,tp.gco,tp.gtx,tp.blt⟩
end
end Iv
namespace K33
open PySem Iv L2
variable {c:Bool}{cf:Cf}{e e1 e2 el:E}{Q:Fl->Rho->Hs->Prop}{h h0 h1 h2 h3 hs hs':Hs}{x y z:Int}{kv4 kv5 kv7 kvH:List (List U×U)}{C:List (Nat×O)}{kvs:List (U×U)}{es:List E}{ns:List Int}{body:List S}{ra s us vs xs ys:List U}{d f g i j l ln m n o p p4 p5 p6 p7 pA pH q r w:Nat}{o3 o4 o6 o9:Option U}{Z ρ':Rho}{st:S}{src:Src}{T:Tbl}{α β:Type}{a u v:U}
noncomputable def top(i:Nat):Stmt:=PySem.Challenge.pw_stitchroom_k33_ways_up.main.body.getD i (.Pass ⟨0,0,0,0⟩)
noncomputable def Qrr:List Str:=[]
noncomputable def Qra:List Str:=[]
noncomputable def glo:List (Str×G):=([("drawers",.fn 0),("way_up",.fn 1),("names_downward",.fn 2),("held_of",.fn 3),("marked_names",.fn 4),("fallen_of",.fn 5),("_law_cell_at",.fn 6),("_law_whole",.fn 7),("_law_name",.fn 8),("_law_listed",.fn 9),("_law_gives",.fn 10),("_law_row_end",.fn 11),("_law_put_by",.fn 12),("_law_picked",.fn 13),("_law_crossed",.fn 14),("_law_step",.fn 15),("_law_web",.fn 16),("_law_names",.fn 17),("_law_above",.fn 18),("_law_held",.fn 19)]:List (Str×G))++([("_law_gone",.fn 20),("_law_due",.fn 21),("_law_refused",.fn 22),("law",.fn 23),("StitchError",.cls 0),("NotLying",.cls 1)]:List (Str×G))
noncomputable def QnC:List Str:=["len","int","tuple","list","bool","dict","isinstance","range","reversed","enumerate","all","max","sorted","ValueError"]
noncomputable def QrC:List Co:=[]
noncomputable def QrE:List Cl:=[]
noncomputable def Qrh:List ((Ty×Ty)×Bool):=[((.cls 1,.cls 1),true)]
noncomputable def N0:List Str:=["web","found","number","row","place","loop","parent"]
noncomputable def N1:List Str:=["web","names","name","fallen","above","held","way"]
noncomputable def N2:List Str:=["web","names","number"]
noncomputable def N3:List Str:=["web","held","keeper","names"]
noncomputable def N4:List Str:=["names"]
noncomputable def N5:List Str:=["web","names","lying","name","above","held","let_fall","fallen"]
noncomputable def N6:List Str:=["_law_script","_law_k"]
noncomputable def N7:List Str:=["_law_found"]
noncomputable def N8:List Str:=["_law_found"]
noncomputable def N9:List Str:=["_law_found"]
noncomputable def N10:List Str:=["_law_web_here","_law_parents","_law_cell","_law_lift","_law_side"]
noncomputable def N11:List Str:=["_law_web_here"]
noncomputable def N12:List Str:=["_law_web_here","_law_name_here","_law_more","_law_keeper","_law_row"]
noncomputable def N13:List Str:=["_law_web_here","_law_more","_law_gone_here","_law_keeper","_law_name_here","_law_some","_law_row","_law_at"]
noncomputable def N14:List Str:=["_law_web_here","_law_some","_law_more","_law_cut","_law_lift","_law_name_here"]
noncomputable def N15:List Str:=["_law_web_here","_law_cell","_law_kind","_law_more","_law_some","_law_k"]
noncomputable def N16:List Str:=["_law_script","_law_many","_law_web_here","_law_cell","_law_kept"]
noncomputable def N17:List Str:=["_law_script","_law_web_here","_law_way","_law_lying","_law_at"]
noncomputable def N18:List Str:=["_law_web_here","_law_found","_law_row","_law_place","_law_parent"]
noncomputable def N19:List Str:=["_law_web_here","_law_found","_law_name_here","_law_keeper","_law_names_here"]
noncomputable def N20:List Str:=["_law_web_here","_law_names_here","_law_above_here","_law_ends","_law_gone_here","_law_loose","_law_name_here","_law_row","_law_place","_law_falls"]
noncomputable def N21:List Str:=["_law_name_here","_law_above_here","_law_ends","_law_gone_here","_law_due_here"]
noncomputable def N22:List Str:=["_law_web_here","_law_names_here","_law_name_here","_law_good","e"]
noncomputable def N23:List Str:=["_law_script","_law_web_here","_law_names_here","_law_above_here","_law_ends","_law_gone_here","_law_some","_law_handed","_law_cell","_law_name_here","_law_found","_law_due_here","_law_row","_law_behind","_law_stranger"]
noncomputable def Qry:List (Nat×Df):=[]
noncomputable def Qru:List Str:=["_law_gone","_law_keeper","_law_found","_law_gone_here","_law_loose","fallen"]
noncomputable def QqI:List Str:=[]
noncomputable def Qrt:List Nat:=[1]
noncomputable def Qrs:List (Nat×Nat):=[(1,1),(1,0)]
noncomputable def Qq6:List Nat:=[5]
noncomputable def Qqv:List (Nat×Nat):=[]
noncomputable def Qrv:List Str:=[]
noncomputable def b0:List S:=[.set 1 (.bi .dict [.comp (.seq (.call 2 [.var 0])) false none (.tup [.var 7,.lst []])]),.loop (.pair 2 3) (.enm (.ix (.var 0) (.c (.int 0 0)))) [.loop (.pair 4 5) (.enm (.var 3)) [.loop (.name 6) (.seq (.ix (.var 5) (.c (.int 0 0)))) [.expr (.bm .append (.ix (.var 1) (.var 6)) [.tup [.var 2,.var 4]])]]],.ret (.var 1)]
noncomputable def b1:List S:=[.cal (.set 3 (.call 5 [.var 0,.var 1])) 5 [.var 0,.var 1],.set 4 (.call 0 [.var 0]),.set 5 (.call 3 [.var 0]),.ite (.cmp .NotIn (.var 2) (.var 4)) [.rse 1 [.c (.str [110,111,32,108,111,111,112,32,104,97,115,32,116,104,105,115,32,110,97,109,101])]] [],.ite (.cmp .In (.var 2) (.var 3)) [.ret (.c .non)] [],.set 6 (.lst [.var 2]),.while (.cmp .NotIn (.ix (.var 6) (.neg (.c (.int 1 0)))) (.var 5)) [.expr (.bm .append (.var 6) [.ix (.comp (.seq (.ix (.var 4) (.ix (.var 6) (.neg (.c (.int 1 0)))))) false (some (.cmp .NotIn (.var 7) (.var 3))) (.var 7)) (.c (.int 0 0))])],.ret (.var 6)]
noncomputable def b2:List S:=[.set 1 (.lst []),.loop (.name 2) (.rngA [.op .Sub (.bi .len [.ix (.var 0) (.c (.int 0 0))]) (.c (.int 1 0)),.neg (.c (.int 1 0)),.neg (.c (.int 1 0))]) [.expr (.bm .extend (.var 1) [.comp (.rng (.bi .len [.ix (.ix (.var 0) (.c (.int 0 0))) (.var 2)])) false none (.tup [.var 2,.var 3])])],.ret (.var 1)]
noncomputable def b3:List S:=[.set 1 (.op .Add (.ix (.var 0) (.c (.int 1 0))) (.ix (.var 0) (.c (.int 3 0)))),.loop (.pair 2 3) (.seq (.ix (.var 0) (.c (.int 2 0)))) [.set 1 (.op .Add (.var 1) (.var 3))],.ret (.call 4 [.var 1])]
noncomputable def b4:List S:=[.ret (.bi .dict [.comp (.seq (.var 0)) false none (.tup [.var 1,.c (.bl true)])])]
noncomputable def b5:List S:=[.set 2 (.call 4 [.ix (.var 0) (.c (.int 1 0))]),.loop (.name 3) (.seq (.var 1)) [.ite (.cmp .NotIn (.var 3) (.var 2)) [.rse 1 [.c (.str [97,32,108,111,111,112,32,105,115,32,108,101,116,32,102,97,108,108,32,116,104,97,116,32,100,111,101,115,32,110,111,116,32,108,105,101,32,111,110,32,97,32,110,101,101,100,108,101])]] []],.set 4 (.call 0 [.var 0]),.set 5 (.call 3 [.var 0]),.set 6 (.call 4 [.var 1]),.set 7 .dnewT,.loop (.name 3) (.seq (.call 2 [.var 0])) [.ite (.or (.cmp .In (.var 3) (.var 6)) (.and (.cmp .NotIn (.var 3) (.var 5)) (.bi .all [.comp (.seq (.ix (.var 4) (.var 3))) false none (.cmp .In (.var 8) (.var 7))]))) [.put (.var 7) (.var 3) (.c (.bl true))] []],.ret (.var 7)]
noncomputable def b6:List S:=[.ite (.cmp .Lt (.var 1) (.bi .len [.var 0])) [.ret (.ix (.var 0) (.var 1))] [],.ret (.c (.int 0 0))]
noncomputable def b7:List S:=[.ret (.and (.isi (.var 0) .int) (.not (.isi (.var 0) .bool)))]
noncomputable def b8:List S:=[.ret (.and (.isi (.var 0) .tuple) (.and (.cmp .Eq (.bi .len [.var 0]) (.c (.int 2 0))) (.and (.call 7 [.ix (.var 0) (.c (.int 0 0))]) (.call 7 [.ix (.var 0) (.c (.int 1 0))]))))]
noncomputable def b9:List S:=[.ret (.and (.isi (.var 0) .list) (.cmp .Eq (.comp (.seq (.var 0)) false (some (.not (.call 8 [.var 1]))) (.var 1)) (.lst [])))]
noncomputable def b10:List S:=[.set 4 (.c (.int 0 0)),.ite (.cmp .Gt (.bi .len [.var 1]) (.c (.int 0 0))) [.set 4 (.op .Sub (.c (.int 1 0)) (.op .Mult (.c (.int 2 0)) (.op .Mod (.var 2) (.c (.int 2 0)))))] [],.expr (.bm .append (.ix (.var 0) (.c (.str [103,105,118,101,110]))) [.tup [.bi .len [.ix (.var 0) (.c (.str [114,111,119,115]))],.bi .len [.ix (.var 0) (.c (.str [110,101,119]))]]]),.expr (.bm .append (.ix (.var 0) (.c (.str [110,101,119]))) [.tup [.bi .tuple [.var 1],.var 4,.var 3]])]
noncomputable def b11:List S:=[.expr (.bm .append (.ix (.var 0) (.c (.str [114,111,119,115]))) [.ix (.var 0) (.c (.str [110,101,119]))]),.put (.var 0) (.c (.str [108,101,102,116])) (.ix (.var 0) (.c (.str [103,105,118,101,110]))),.put (.var 0) (.c (.str [103,105,118,101,110])) (.lst []),.put (.var 0) (.c (.str [110,101,119])) (.lst [])]
noncomputable def b12:List S:=[.set 3 (.ix (.c (.str [119,120,121,122])) (.op .Mod (.op .FloorDiv (.var 2) (.c (.int 3 0))) (.c (.int 4 0)))),.set 4 (.bi .len [.ix (.var 0) (.c (.str [114,111,119,115]))]),.ite (.and (.cmp .Gt (.op .Mod (.var 2) (.c (.int 3 0))) (.c (.int 0 0))) (.cmp .Eq (.bm .get (.ix (.var 0) (.c (.str [112,117,116]))) [.var 3,.var 4]) (.var 4))) [.put (.ix (.var 0) (.c (.str [112,117,116]))) (.var 3) (.var 4),.expr (.bm .append (.bm .setdef (.ix (.var 0) (.c (.str [107,101,112,116]))) [.var 3,.lst []]) [.var 1])] [.expr (.bm .append (.ix (.var 0) (.c (.str [111,102,102]))) [.var 1])]]
noncomputable def b13:List S:=[.set 2 .dnewT,.loopK 3 (.ix (.var 0) (.c (.str [107,101,112,116]))) [.loop (.name 4) (.seq (.ix (.ix (.var 0) (.c (.str [107,101,112,116]))) (.var 3))) [.put (.var 2) (.var 4) (.c (.bl true))]],.set 5 (.lst []),.loop (.name 6) (.rng (.bi .len [.ix (.var 0) (.c (.str [114,111,119,115]))])) [.set 5 (.op .Add (.var 5) (.comp (.rng (.bi .len [.ix (.ix (.var 0) (.c (.str [114,111,119,115]))) (.var 6)])) false (some (.cmp .NotIn (.tup [.var 6,.var 8]) (.var 2))) (.tup [.var 6,.var 8])))],.set 7 (.op .Mod (.op .FloorDiv (.var 1) (.c (.int 4 0))) (.bi .max [.c (.int 1 0),.bi .len [.var 5]])),.loop (.name 4) (.seq (.sl (.var 5) (some (.var 7)) (some (.op .Add (.op .Add (.var 7) (.c (.int 1 0))) (.op .Mod (.var 1) (.c (.int 4 0))))))) [.expr (.bm .append (.ix (.var 0) (.c (.str [103,105,118,101,110]))) [.tup [.bi .len [.ix (.var 0) (.c (.str [114,111,119,115]))],.bi .len [.ix (.var 0) (.c (.str [110,101,119]))]]]),.expr (.bm .append (.ix (.var 0) (.c (.str [110,101,119]))) [.tup [.tup [.var 4],.c (.int 1 0),.c (.int 0 0)]])]]
noncomputable def b14:List S:=[.set 3 (.op .FloorDiv (.bi .len [.var 1]) (.c (.int 2 0))),.set 4 (.op .Sub (.c (.int 1 0)) (.op .Mult (.c (.int 2 0)) (.op .Mod (.op .FloorDiv (.var 2) (.c (.int 7 0))) (.c (.int 2 0))))),.loop (.name 5) (.seq (.sl (.var 1) (some (.var 3)) none)) [.expr (.call 10 [.var 0,.lst [.var 5],.op .FloorDiv (.var 2) (.c (.int 14 0)),.op .Sub (.c (.int 0 0)) (.var 4)])],.loop (.name 5) (.seq (.sl (.var 1) none (some (.var 3)))) [.expr (.call 10 [.var 0,.lst [.var 5],.op .FloorDiv (.var 2) (.c (.int 14 0)),.var 4])]]
noncomputable def b15:List S:=[.set 2 (.op .Mod (.var 1) (.c (.int 8 0))),.set 3 (.op .FloorDiv (.var 1) (.c (.int 8 0))),.set 4 (.sl (.ix (.var 0) (.c (.str [108,101,102,116]))) none (some (.c (.int 1 0)))),.ite (.cmp .Eq (.var 2) (.c (.int 3 0))) [.set 4 (.sl (.ix (.var 0) (.c (.str [108,101,102,116]))) none (some (.op .Add (.c (.int 2 0)) (.op .Mod (.var 3) (.c (.int 3 0))))))] [],.ite (.cmp .Eq (.var 2) (.c (.int 7 0))) [.set 4 (.sl (.ix (.var 0) (.c (.str [108,101,102,116]))) none (some (.op .Add (.c (.int 2 0)) (.op .Mod (.var 3) (.c (.int 7 0))))))] [],.ite (.cmp .Eq (.var 2) (.c (.int 5 0))) [.set 4 (.lst [])] [],.put (.var 0) (.c (.str [108,101,102,116])) (.sl (.ix (.var 0) (.c (.str [108,101,102,116]))) (some (.bi .len [.var 4])) none),.ite (.cmp .Eq (.var 4) (.lst [])) [.expr (.call 10 [.var 0,.lst [],.var 3,.c (.int 0 0)])] [.ite (.cmp .Eq (.var 2) (.c (.int 2 0))) [.expr (.bm .append (.ix (.var 0) (.c (.str [103,105,118,101,110]))) [.ix (.var 4) (.c (.int 0 0))])] [.ite (.and (.cmp .Eq (.var 2) (.c (.int 3 0))) (.cmp .Eq (.op .Mod (.op .FloorDiv (.var 3) (.c (.int 3 0))) (.c (.int 2 0))) (.c (.int 1 0)))) [.expr (.call 10 [.var 0,.rev (.var 4),.op .FloorDiv (.var 3) (.c (.int 6 0)),.c (.int 0 0)])] [.ite (.cmp .Eq (.var 2) (.c (.int 4 0))) [.loop (.name 5) (.rng (.op .Add (.c (.int 2 0)) (.op .Mod (.var 3) (.c (.int 3 0))))) [.expr (.call 10 [.var 0,.var 4,.op .Add (.op .FloorDiv (.var 3) (.c (.int 3 0))) (.var 5),.c (.int 0 0)])]] [.ite (.cmp .Eq (.var 2) (.c (.int 6 0))) [.expr (.call 12 [.var 0,.ix (.var 4) (.c (.int 0 0)),.var 3])] [.ite (.and (.cmp .Eq (.var 2) (.c (.int 7 0))) (.cmp .Gt (.bi .len [.var 4]) (.c (.int 1 0)))) [.expr (.call 14 [.var 0,.var 4,.var 3])] [.expr (.call 10 [.var 0,.var 4,.op .FloorDiv (.var 3) (.c (.int 6 0)),.c (.int 0 0)])]]]]]]]
noncomputable def b16:List S:=[.set 1 (.op .Mod (.call 6 [.var 0,.c (.int 0 0)]) (.c (.int 9 0))),.set 2 (.dsp [.str [114,111,119,115],.str [108,101,102,116]] [.lst [.comp (.rng (.var 1)) false none (.tup [.tup [],.c (.int 0 0),.c (.int 0 0)])],.comp (.rng (.var 1)) false none (.tup [.c (.int 0 0),.var 5])]),.expr (.bm .update (.var 2) [.dsp [.str [103,105,118,101,110],.str [110,101,119],.str [112,117,116],.str [107,101,112,116],.str [111,102,102]] [.lst [],.lst [],.dnew,.dnew,.lst []]]),.loop (.name 3) (.seq (.sl (.var 0) (some (.c (.int 2 0))) (some (.c (.int 62 0))))) [.ite (.and (.cmp .Eq (.ix (.var 2) (.c (.str [108,101,102,116]))) (.lst [])) (.and (.cmp .Eq (.ix (.var 2) (.c (.str [103,105,118,101,110]))) (.lst [])) (.cmp .Lt (.op .Mod (.var 3) (.c (.int 16 0))) (.c (.int 8 0))))) [.expr (.call 11 [.var 2]),.expr (.call 13 [.var 2,.op .FloorDiv (.var 3) (.c (.int 16 0))])] [],.ite (.and (.cmp .Eq (.ix (.var 2) (.c (.str [108,101,102,116]))) (.lst [])) (.cmp .NotEq (.ix (.var 2) (.c (.str [103,105,118,101,110]))) (.lst []))) [.expr (.call 11 [.var 2])] [],.expr (.call 15 [.var 2,.var 3])],.set 4 (.comp (.seq (.c (.str [119,120,121,122]))) false (some (.cmp .In (.var 5) (.ix (.var 2) (.c (.str [107,101,112,116]))))) (.tup [.var 5,.ix (.ix (.var 2) (.c (.str [107,101,112,116]))) (.var 5)])),.ret (.tup [.op .Add (.ix (.var 2) (.c (.str [114,111,119,115]))) (.lst [.ix (.var 2) (.c (.str [110,101,119]))]),.op .Add (.ix (.var 2) (.c (.str [103,105,118,101,110]))) (.ix (.var 2) (.c (.str [108,101,102,116]))),.var 4,.bi .sorted [.ix (.var 2) (.c (.str [111,102,102]))]])]
noncomputable def b17:List S:=[.set 2 (.op .Mod (.call 6 [.var 0,.c (.int 1 0)]) (.c (.int 4 0))),.set 3 (.ix (.var 1) (.c (.int 1 0))),.ite (.cmp .Eq (.var 2) (.c (.int 0 0))) [.ret (.rev (.var 3))] [],.ite (.cmp .Eq (.var 2) (.c (.int 1 0))) [.set 4 (.op .Mod (.op .FloorDiv (.call 6 [.var 0,.c (.int 1 0)]) (.c (.int 4 0))) (.bi .max [.c (.int 1 0),.bi .len [.var 3]])),.ret (.op .Add (.sl (.var 3) (some (.var 4)) (some (.op .Add (.var 4) (.c (.int 1 0))))) (.sl (.var 3) (some (.var 4)) (some (.op .Add (.var 4) (.c (.int 1 0))))))] [],.ret (.comp (.rng (.bi .len [.var 3])) false (some (.cmp .Eq (.op .Mod (.op .FloorDiv (.call 6 [.var 0,.op .Add (.c (.int 2 0)) (.op .Mod (.var 5) (.c (.int 60 0)))]) (.c (.int 3 0))) (.c (.int 2 0))) (.op .Mod (.var 2) (.c (.int 2 0))))) (.ix (.var 3) (.var 5)))]
noncomputable def b18:List S:=[.set 1 .dnewT,.loop (.name 2) (.rng (.bi .len [.ix (.var 0) (.c (.int 0 0))])) [.loop (.name 3) (.rng (.bi .len [.ix (.ix (.var 0) (.c (.int 0 0))) (.var 2)])) [.put (.var 1) (.tup [.var 2,.var 3]) (.lst [])]],.loop (.name 2) (.rng (.bi .len [.ix (.var 0) (.c (.int 0 0))])) [.loop (.name 3) (.rng (.bi .len [.ix (.ix (.var 0) (.c (.int 0 0))) (.var 2)])) [.loop (.name 4) (.seq (.ix (.ix (.ix (.ix (.var 0) (.c (.int 0 0))) (.var 2)) (.var 3)) (.c (.int 0 0)))) [.expr (.bm .append (.ix (.var 1) (.var 4)) [.tup [.var 2,.var 3]])]]],.ret (.var 1)]
noncomputable def b19:List S:=[.set 1 .dnewT,.loop (.name 2) (.seq (.op .Add (.ix (.var 0) (.c (.int 1 0))) (.ix (.var 0) (.c (.int 3 0))))) [.put (.var 1) (.var 2) (.c (.bl true))],.loop (.pair 3 4) (.seq (.ix (.var 0) (.c (.int 2 0)))) [.loop (.name 2) (.seq (.var 4)) [.put (.var 1) (.var 2) (.c (.bl true))]],.ret (.var 1)]
noncomputable def b20:List S:=[.set 4 .dnewT,.set 5 .dnewT,.loop (.name 6) (.seq (.var 1)) [.put (.var 5) (.var 6) (.c (.bl true))],.loop (.name 7) (.rngR (.bi .len [.ix (.var 0) (.c (.int 0 0))])) [.loop (.name 8) (.rng (.bi .len [.ix (.ix (.var 0) (.c (.int 0 0))) (.var 7)])) [.set 6 (.tup [.var 7,.var 8]),.set 9 (.cmp .In (.var 6) (.var 5)),.ite (.cmp .NotIn (.var 6) (.var 3)) [.set 9 (.cmp .Eq (.comp (.seq (.ix (.var 2) (.var 6))) false (some (.cmp .NotIn (.var 10) (.var 4))) (.var 10)) (.lst []))] [],.ite (.var 9) [.put (.var 4) (.var 6) (.c (.bl true))] []]],.ret (.var 4)]
noncomputable def b21:List S:=[.ite (.cmp .In (.var 0) (.var 3)) [.ret (.c .non)] [],.set 4 (.lst [.var 0]),.while (.cmp .NotIn (.ix (.var 4) (.neg (.c (.int 1 0)))) (.var 2)) [.expr (.bm .append (.var 4) [.ix (.comp (.seq (.ix (.var 1) (.ix (.var 4) (.neg (.c (.int 1 0)))))) false (some (.cmp .NotIn (.var 5) (.var 3))) (.var 5)) (.c (.int 0 0))])],.ret (.var 4)]
noncomputable def b22:List S:=[.set 3 (.c (.bl false)),.tryS (some 4) 1 [.var 0,.var 1,.var 2] 0 [.set 3 (.isi (.var 4) (.cls 1))],.ret (.var 3)]
noncomputable def b23:List S:=[.set 1 (.call 16 [.var 0]),.set 2 (.call 17 [.var 0,.var 1]),.set 3 (.call 18 [.var 1]),.set 4 (.call 19 [.var 1]),.set 5 (.call 20 [.var 1,.var 2,.var 3,.var 4]),.set 6 (.bi .list [.var 3]),.set 7 (.bi .list [.var 2]),.loopD 8 (.sl (.var 0) (some (.c (.int 2 0))) (some (.c (.int 14 0)))) [.ite (.cmp .NotEq (.var 6) (.lst [])) [.set 9 (.ix (.var 6) (.op .Mod (.op .FloorDiv (.var 8) (.c (.int 8 0))) (.bi .len [.var 6]))),.set 10 (.call 1 [.var 1,.var 7,.var 9]),.set 11 (.call 21 [.var 9,.var 3,.var 4,.var 5]),.ite (.and (.cmp .Is (.var 11) (.c .non)) (.cmp .IsNot (.var 10) (.c .non))) [.ret (.c (.bl false))] [],.ite (.and (.cmp .IsNot (.var 11) (.c .non)) (.or (.not (.call 9 [.var 10])) (.cmp .NotEq (.var 10) (.var 11)))) [.ret (.c (.bl false))] []] []],.ite (.or (.cmp .NotEq (.var 7) (.var 2)) (.cmp .NotEq (.var 1) (.call 16 [.var 0]))) [.ret (.c (.bl false))] [],.set 12 (.op .Mod (.op .FloorDiv (.call 6 [.var 0,.c (.int 1 0)]) (.c (.int 4 0))) (.op .Add (.bi .len [.ix (.var 1) (.c (.int 0 0))]) (.c (.int 1 0)))),.set 13 (.bi .len [.ix (.op .Add (.ix (.var 1) (.c (.int 0 0))) (.lst [.lst []])) (.var 12)]),.set 14 (.ix (.lst [.tup [.var 12,.var 13],.tup [.var 12,.neg (.c (.int 1 0))],.tup [.neg (.c (.int 1 0)),.c (.int 0 0)]]) (.op .Mod (.call 6 [.var 0,.c (.int 2 0)]) (.c (.int 3 0)))),.ite (.not (.call 22 [.var 1,.var 2,.var 14])) [.ret (.c (.bl false))] [],.ret (.or (.cmp .Eq (.var 6) (.lst [])) (.call 22 [.var 1,.op .Add (.var 2) (.lst [.var 14]),.ix (.var 6) (.c (.int 0 0))]))]
noncomputable def fnL:List Fn:=[⟨"drawers","drawers",(top 4),["web"],N0,1,7,false,b0⟩,
 ⟨"way_up","way_up",(top 5),["web","names","name"],N1,3,7,false,b1⟩,
 ⟨"names_downward","names_downward",(top 6),["web"],N2,1,3,false,b2⟩,
 ⟨"held_of","held_of",(top 7),["web"],N3,1,4,false,b3⟩,
 ⟨"marked_names","marked_names",(top 8),["names"],N4,1,1,false,b4⟩,
 ⟨"fallen_of","fallen_of",(top 9),["web","names"],N5,2,8,false,b5⟩,
 ⟨"_law_cell_at","_law_cell_at",(top 11),["_law_script","_law_k"],N6,2,2,false,b6⟩,
 ⟨"_law_whole","_law_whole",(top 12),["_law_found"],N7,1,1,false,b7⟩,
 ⟨"_law_name","_law_name",(top 13),["_law_found"],N8,1,1,false,b8⟩,
 ⟨"_law_listed","_law_listed",(top 14),["_law_found"],N9,1,1,false,b9⟩,
 ⟨"_law_gives","_law_gives",(top 15),["_law_web_here","_law_parents","_law_cell","_law_lift"],N10,4,5,false,b10⟩,
 ⟨"_law_row_end","_law_row_end",(top 16),["_law_web_here"],N11,1,1,false,b11⟩,
 ⟨"_law_put_by","_law_put_by",(top 17),["_law_web_here","_law_name_here","_law_more"],N12,3,5,false,b12⟩,
 ⟨"_law_picked","_law_picked",(top 18),["_law_web_here","_law_more"],N13,2,8,false,b13⟩,
 ⟨"_law_crossed","_law_crossed",(top 19),["_law_web_here","_law_some","_law_more"],N14,3,6,false,b14⟩,
 ⟨"_law_step","_law_step",(top 20),["_law_web_here","_law_cell"],N15,2,6,false,b15⟩,
 ⟨"_law_web","_law_web",(top 21),["_law_script"],N16,1,5,false,b16⟩,
 ⟨"_law_names","_law_names",(top 22),["_law_script","_law_web_here"],N17,2,5,false,b17⟩,
 ⟨"_law_above","_law_above",(top 23),["_law_web_here"],N18,1,5,false,b18⟩,
 ⟨"_law_held","_law_held",(top 24),["_law_web_here"],N19,1,5,false,b19⟩,
 ⟨"_law_gone","_law_gone",(top 25),["_law_web_here","_law_names_here","_law_above_here","_law_ends"],N20,4,10,false,b20⟩,
 ⟨"_law_due","_law_due",(top 26),["_law_name_here","_law_above_here","_law_ends","_law_gone_here"],N21,4,5,false,b21⟩,
 ⟨"_law_refused","_law_refused",(top 27),["_law_web_here","_law_names_here","_law_name_here"],N22,3,5,false,b22⟩,
 ⟨"law","law",(top 28),["_law_script"],N23,1,15,true,b23⟩]
noncomputable def tbX(s:List U):Tbl:=⟨fnL,QrE,QrC,Qrr,Qra,s,Qrh,Qry,Qru,QqI,true,Qrt,Qrs,Qq6,Qqv,Qrv,λz z z=>none⟩
noncomputable def Qk1(s:List U):Tbl:={tbX s with xf:=ZO (tbX s) 4}
noncomputable def tb(s:List U):Tbl:={tbX s with xf:=ZO (Qk1 s) 4}
noncomputable abbrev so(x:String):Str:=Str.ofString x
noncomputable abbrev rf(a:Addr):Value:=.ref a
noncomputable abbrev sv(x:String)(n:Nat):Value:=.str (Str.ofString x) n
noncomputable abbrev dk(P:Params)(x:String)(n:Nat)(v:Value):DictEntry:=DictEntry.mk (PyData.keyHash P (Str.ofString x)) (.str (Str.ofString x) n) v
noncomputable abbrev tu(xs:Array Value)(n:Nat):Obj:=Obj.mk (.type "tuple") none (Data.seq xs n) #[]
noncomputable abbrev ob(c:String)(d:Data):Obj:=Obj.mk (.type c) none d #[]
noncomputable abbrev en(P:Params)(x:Str)(k v:Value):DictEntry:=DictEntry.mk (PyData.keyHash P x) k v
noncomputable abbrev de(P:Params)(x:Str)(n:Nat)(v:Value):DictEntry:=DictEntry.mk (PyData.keyHash P x) (.str x n) v
noncomputable abbrev fo(x q:String)(s:Stmt)(d:Value)(m:String)(n c:Nat):Obj:=⟨.type "function",none,.func (W.fnOf (so x) (so q) (QbI s) (ZA s) (Qr s) d .none .none (sv m n) none (rf c) .none),#[]⟩
noncomputable abbrev z0:Value:=.int 0 0
noncomputable abbrev i0(n:Int):Value:=.int n 0
noncomputable abbrev hF:Value:=.bool false
noncomputable abbrev hT:Value:=.bool true
noncomputable abbrev sr(a:Addr):Option Value:=some (.ref a)
noncomputable abbrev hC(n:Nat):Value:=.str (Str.ofString "/claim/cut.py") n
noncomputable abbrev oc(d:Array Value):Obj:=Obj.mk (.type "code") none (Data.fields d) #[]
noncomputable abbrev cO(x q:String)(a l:Nat)(n r s u v y t:Value)(m d:Nat):Obj:=oc (#[sv x a,sv q (a+1),hC (a+2),i0 l,n,z0,z0,i0 3,r,hT,i0 181,s,u,v,y,t,i0 m,i0 l,hC d])
noncomputable abbrev dm(P:Params)(n:Nat)(x:String)(m:Nat):DictEntry:=dk P "__module__" n (sv x m)
noncomputable abbrev dq(P:Params)(n:Nat)(x:String)(m:Nat):DictEntry:=dk P "__qualname__" n (sv x m)
noncomputable abbrev hD(P:Params)(n:Nat):DictEntry:=dk P "__doc__" n .none
noncomputable abbrev dl(P:Params)(n:Nat)(x:Int)(m:Nat):DictEntry:=dk P "__firstlineno__" n (.int x m)
noncomputable abbrev ds(P:Params)(n:Nat)(a:Addr):DictEntry:=dk P "__static_attributes__" n (.ref a)
noncomputable abbrev dR(P:Params)(x:String)(n:Nat)(a:Addr):DictEntry:=dk P x n (.ref a)
noncomputable abbrev hp:Program:=PySem.Challenge.pw_stitchroom_k33_ways_up
noncomputable abbrev hr:W.RowW:=(PySem.Challenge.rw_stitchroom_k33_ways_up).row.toRowW
noncomputable def hB:Iv.BootT:=⟨λP=>(.node (W.boot_o_0 P) (.node (W.boot_o_1 P) (.node (W.boot_o_3 P) (.node (W.boot_o_7 P) .nil .nil) .nil) (.node (W.boot_o_5 P) (.node (W.boot_o_9 P) .nil .nil) .nil)) (.node (W.boot_o_2 P) (.node (W.boot_o_4 P) (.node (W.boot_o_8 P) .nil .nil) .nil) (.node (W.boot_o_6 P) (.node (W.boot_o_10 P) .nil .nil) .nil))),11,{}⟩
noncomputable def hq:Program:=W.view hp [1,2,4,5,6,7,8,9,11,12,13,14,15,16,17,18,19,20,21,22,23,24,25,26,27,28]
noncomputable abbrev hlo:List Str:=[]
noncomputable def K:Params->W.Frag:=λP=>
 (2,(Obj.mk .none none (Data.dict #[] 0) #[]))::
 (3,(ob "dict" (Data.dict #[(dk P "__name__" 165 (sv "law_stitchroom_k33_ways_up" 265)),(hD P 166),(dk P "__package__" 167 .none),(dk P "__loader__" 168 (.builtin "__main__.__loader__#opaque")),(dk P "__spec__" 169 .none),(dR P "__annotations__" 170 6),(dR P "__builtins__" 171 4),(dk P "__file__" 173 (hC 172)),(dk P "__cached__" 174 .none),(dR P "StitchError" 206 24),(dR P "NotLying" 222 37),(dR P "drawers" 230 44),(dR P "way_up" 236 49),(dR P "names_downward" 242 54),(dR P "held_of" 252 61),(dR P "marked_names" 258 66),(dR P "fallen_of" 264 71),(dR P "_law_cell_at" 274 78),(dR P "_law_whole" 281 85),(dR P "_law_name" 288 92),(dR P "_law_listed" 294 97),(dR P "_law_gives" 305 104),(dR P "_law_row_end" 312 111),(dR P "_law_put_by" 323 118),(dR P "_law_picked" 329 123),(dR P "_law_crossed" 341 130),(dR P "_law_step" 353 137),(dR P "_law_web" 359 142),(dR P "_law_names" 365 147),(dR P "_law_above" 376 154),(dR P "_law_held" 387 161),(dR P "_law_gone" 393 166),(dR P "_law_due" 399 171),(dR P "_law_refused" 410 178),(dR P "law" 431 185)] 35)))::
 (23,(ob "dict" (Data.dict #[(dm P 196 "stitchroom.errors" 187),(dl P 200 2 199),(ds P 201 22),(dR P "__weakref__" 203 25),(hD P 204)] 3)))::
 (24,(Obj.mk (.type "type") none (Data.cls (ClassData.mk (so "StitchError") [(.type "ValueError")] [(rf 24),(.type "ValueError"),(.type "Exception"),(.type "BaseException"),(.type "object")] 23 (so "StitchError") true [] [(rf 37)] false none false)) #[(sr 15),none,(some (sv "StitchError" 189)),(some (sv "StitchError" 197)),(some (.builtin "ValueError.__new__")),(some hT)]))::
 (25,(ob "getset_descriptor" (Data.fields #[(sv "__weakref__" 202),(rf 24),(.builtin "ExceptionGroup.__weakref__"),.none])))::
 (36,(ob "dict" (Data.dict #[(dm P 214 "stitchroom.errors" 187),(dl P 218 4 217),(ds P 219 35),(hD P 220)] 2)))::
 (37,(Obj.mk (.type "type") none (Data.cls (ClassData.mk (so "NotLying") [(rf 24)] [(rf 37),(rf 24),(.type "ValueError"),(.type "Exception"),(.type "BaseException"),(.type "object")] 36 (so "NotLying") true [] [] false none false)) #[(sr 28),none,(some (sv "NotLying" 207)),(some (sv "NotLying" 215)),(some (.builtin "ValueError.__new__")),(some hT)]))::
 (43,(cO "drawers" "drawers" 225 7 (i0 1) (rf 40) (rf 41) .none .none .none (rf 42) 228 229))::
 (44,(fo "drawers" "drawers" (top 4) .none "stitchroom.holds" 223 43))::
 (48,(cO "way_up" "way_up" 231 14 (i0 3) (rf 45) (rf 46) .none .none .none (rf 47) 234 235))::
 (49,(fo "way_up" "way_up" (top 5) .none "stitchroom.holds" 223 48))::
 (53,(cO "names_downward" "names_downward" 237 26 (i0 1) (rf 50) (rf 51) .none .none .none (rf 52) 240 241))::
 (54,(fo "names_downward" "names_downward" (top 6) .none "stitchroom.holds" 223 53))::
 (60,(cO "held_of" "held_of" 243 31 (i0 1) (rf 55) (rf 56) .none (rf 57) (rf 58) (rf 59) 250 251))::
 (61,(fo "held_of" "held_of" (top 7) .none "stitchroom.holds" 223 60))::
 (65,(cO "marked_names" "marked_names" 253 36 (i0 1) (rf 62) (rf 63) .none .none .none (rf 64) 256 257))::
 (66,(fo "marked_names" "marked_names" (top 8) .none "stitchroom.holds" 223 65))::
 (70,(cO "fallen_of" "fallen_of" 259 38 (i0 2) (rf 67) (rf 68) .none .none .none (rf 69) 262 263))::
 (71,(fo "fallen_of" "fallen_of" (top 9) .none "stitchroom.holds" 223 70))::
 (77,(cO "_law_cell_at" "_law_cell_at" 267 52 (i0 2) (rf 72) (rf 73) .none (rf 74) (rf 75) (rf 76) 272 273))::
 (78,(fo "_law_cell_at" "_law_cell_at" (top 11) .none "law_stitchroom_k33_ways_up" 265 77))::
 (84,(cO "_law_whole" "_law_whole" 275 56 (i0 1) (rf 79) (rf 80) .none (rf 81) (rf 82) (rf 83) 279 280))::
 (85,(fo "_law_whole" "_law_whole" (top 12) .none "law_stitchroom_k33_ways_up" 265 84))::
 (91,(cO "_law_name" "_law_name" 282 58 (i0 1) (rf 86) (rf 87) .none (rf 88) (rf 89) (rf 90) 286 287))::
 (92,(fo "_law_name" "_law_name" (top 13) .none "law_stitchroom_k33_ways_up" 265 91))::
 (96,(cO "_law_listed" "_law_listed" 289 60 (i0 1) (rf 93) (rf 94) .none .none .none (rf 95) 292 293))::
 (97,(fo "_law_listed" "_law_listed" (top 14) .none "law_stitchroom_k33_ways_up" 265 96))::
 (103,(cO "_law_gives" "_law_gives" 295 62 (i0 4) (rf 98) (rf 99) .none (rf 100) (rf 101) (rf 102) 303 304))::
 (104,(fo "_law_gives" "_law_gives" (top 15) .none "law_stitchroom_k33_ways_up" 265 103))::
 (110,(cO "_law_row_end" "_law_row_end" 306 68 (i0 1) (rf 105) (rf 106) .none (rf 107) (rf 108) (rf 109) 310 311))::
 (111,(fo "_law_row_end" "_law_row_end" (top 16) .none "law_stitchroom_k33_ways_up" 265 110))::
 (117,(cO "_law_put_by" "_law_put_by" 313 73 (i0 3) (rf 112) (rf 113) .none (rf 114) (rf 115) (rf 116) 321 322))::
 (118,(fo "_law_put_by" "_law_put_by" (top 17) .none "law_stitchroom_k33_ways_up" 265 117))::
 (122,(cO "_law_picked" "_law_picked" 324 81 (i0 2) (rf 119) (rf 120) .none .none .none (rf 121) 327 328))::
 (123,(fo "_law_picked" "_law_picked" (top 18) .none "law_stitchroom_k33_ways_up" 265 122))::
 (129,(cO "_law_crossed" "_law_crossed" 330 93 (i0 3) (rf 124) (rf 125) .none (rf 126) (rf 127) (rf 128) 339 340))::
 (130,(fo "_law_crossed" "_law_crossed" (top 19) .none "law_stitchroom_k33_ways_up" 265 129))::
 (136,(cO "_law_step" "_law_step" 342 100 (i0 2) (rf 131) (rf 132) .none (rf 133) (rf 134) (rf 135) 351 352))::
 (137,(fo "_law_step" "_law_step" (top 20) .none "law_stitchroom_k33_ways_up" 265 136))::
 (141,(cO "_law_web" "_law_web" 354 126 (i0 1) (rf 138) (rf 139) .none .none .none (rf 140) 357 358))::
 (142,(fo "_law_web" "_law_web" (top 21) .none "law_stitchroom_k33_ways_up" 265 141))::
 (146,(cO "_law_names" "_law_names" 360 139 (i0 2) (rf 143) (rf 144) .none .none .none (rf 145) 363 364))::
 (147,(fo "_law_names" "_law_names" (top 22) .none "law_stitchroom_k33_ways_up" 265 146))::
 (153,(cO "_law_above" "_law_above" 366 148 (i0 1) (rf 148) (rf 149) .none (rf 150) (rf 151) (rf 152) 374 375))::
 (154,(fo "_law_above" "_law_above" (top 23) .none "law_stitchroom_k33_ways_up" 265 153))::
 (160,(cO "_law_held" "_law_held" 377 158 (i0 1) (rf 155) (rf 156) .none (rf 157) (rf 158) (rf 159) 385 386))::
 (161,(fo "_law_held" "_law_held" (top 24) .none "law_stitchroom_k33_ways_up" 265 160))::
 (165,(cO "_law_gone" "_law_gone" 388 166 (i0 4) (rf 162) (rf 163) .none .none .none (rf 164) 391 392))::
 (166,(fo "_law_gone" "_law_gone" (top 25) .none "law_stitchroom_k33_ways_up" 265 165))::
 (170,(cO "_law_due" "_law_due" 394 180 (i0 4) (rf 167) (rf 168) .none .none .none (rf 169) 397 398))::
 (171,(fo "_law_due" "_law_due" (top 26) .none "law_stitchroom_k33_ways_up" 265 170))::
 (177,(cO "_law_refused" "_law_refused" 400 187 (i0 3) (rf 172) (rf 173) .none (rf 174) (rf 175) (rf 176) 408 409))::
 (178,(fo "_law_refused" "_law_refused" (top 27) .none "law_stitchroom_k33_ways_up" 265 177))::
 (184,(cO "law" "law" 411 194 (i0 1) (rf 179) (rf 180) .none (rf 181) (rf 182) (rf 183) 429 430))::
 (185,(fo "law" "law" (top 28) .none "law_stitchroom_k33_ways_up" 265 184))::[]
noncomputable def KA:List Addr:=[2,3,23,24,25,36,37,43,44,48,49,53,54,60,61,65,66,70,71,77,78,84,85,91,92,96,97,103,104,110,111,117,118,122,123,129,130,136,137,141,142,146,147,153,154,160,161,165,166,170,171,177,178,184,185]
def hKA:∀P,KA=(K P).map (·.1):=λz=>by kernel_rfl
noncomputable abbrev hXt:Shared->Bool:=λs=>W.xlAt hq [] s&&W.recOk (W.RowW.records hr) s
def hop:W.opening hp=W.plainProg hp.main.scope.names:=by kernel_rfl
def hfm:∀s,PySem.fenceModules? hp s=some s:=λs=>by kernel_rfl
def hbo:∀w:World,W.absHeap (hB.t w.params) hB.n hB.life=W.boot_heap w.params:=λw=>by kernel_rfl
def hsz:∀w:World,((W.boot_heap w.params).isNs mainGlobals,(W.boot_heap w.params).objs.size,(W.boot_heap w.params).nsMap mainGlobals "__annotations__")=(true,11,some (.ref 6)):=λw=>by kernel_rfl
noncomputable abbrev hYf:Shared->List (Option Obj):=λs=>KA.map s.heap.get?
noncomputable abbrev hYa:World->List (Option Obj):=λw=>(K w.params).map λp=>some p.2
noncomputable abbrev hN:Nat:=2400
noncomputable abbrev hn6:Option Value:=some (.ref 6)
abbrev hS(w:World):Prop:=Iv.RunT hp hq hlo hXt hYf hYa 2400 true hB 11 (some (.ref 6)) w
def Qrn(w:World):hS w:=λos=>by kernel_rfl
def hleft:W.LeftO hp hq hlo hXt hYf hYa 2400 true:=Iv.left_tree hop (by decide) hfm hbo hsz Qrn
noncomputable abbrev sR(n:Nat):Option U:=some (.ref n)
noncomputable abbrev sI(n:Int):Option U:=some (.int n 0)
noncomputable def tbG(x:Nat->List U->Hs->Option (Nat×Hs))(s:List U):Tbl:={tbX s with xf:=x}
def eq_int{i j:Int}:eqA T (.int i 0) (.int j 0) hs=some (decide (i=j)):=rfl
def at0{a:O}{r:Hs}:(hs++a::r)[hs.length]?=some a:=by rw[X7 (Xi _),Td];rfl
def Qn{r:Hs}{o:O}(h:hs[p]?=some o):(hs++r)[p]?=some o:=by
 rw[Xp (Xc.mp h).1];exact h
def Kp(hs hs':Hs):Prop:=∀(p:Nat) o,hs[p]?=some o->hs'[p]?=some o
def Kp.refl(hs:Hs):Kp hs hs:=λz z h=>h
def Kp.app(hs r:Hs):Kp hs (hs++r):=λz z h=>Qn h
def Kp.trans{a b c:Hs}(h:Kp a b)(h':Kp b c):Kp a c:=λp o e=>h' p o (h p o e)
def Kp.len{a b:Hs}(h:Kp a b):a.length<=b.length:=by
 cases ha:a.length with
 |zero=>lia
 |succ k=>
  have lt:k<a.length:=by lia
  have:=(Xc.mp (h k a[k] (by simp[lt]))).1
  lia
def Kp.put{a b:Hs}{o:O}(h:Kp a b)(hj:a.length<=j):Kp a (b.set j o):=λp x e=>by
 have lt:=(Xc.mp e).1
 rw[Xs (by lia)]
 exact h p x e
section

def QE{r:List S}(e:ex T cf d st Z hs=some (.next,ρ',h1)):exs T cf (d+1) (st::r) Z hs=exs T cf d r ρ' h1:=by
 rw[QT,e]
def Qij{t:E}{a:List S}(e:evT T cf (d+1) t Z hs=some (false,h1)):ex T cf (d+2) (.ite t a []) Z hs=some (.next,Z,h1):=by
 rw[ZR,e,Qh,if_neg (by decide),JI]
def QkU{a b:E}{o:CmpOp}{w:U}(ea:ev T cf d a Z hs=some (u,h1))(eb:ev T cf d b Z h1=some (w,h2))(ec:ZF T o u w h2=some c):ev T cf (d+1) (.cmp o a b) Z hs=some (.bl c,h2):=by
 rw[Yq,ea,Qh,eb,Qh,ec];rfl
def Qs{a b:E}{o:CmpOp}{w:U}(ea:ev T cf d a Z hs=some (u,h1))(eb:ev T cf d b Z h1=some (w,h2))(ec:ZF T o u w h2=some c):evT T cf (d+2) (.cmp o a b) Z hs=some (c,h2):=by
 rw[Ji,QkU ea eb ec,Qh];rfl
def Zr(hi:Z[i]?=some (some u))(e:cf f [u] hs=some (v,h1)):ev T cf (d+2) (.call f [.var i]) Z hs=some (v,h1):=by
 simp only[y_call,evs,Qm,hi,Qh,e]
end
def Yu(h:hs[p]?=some (.lst xs)):biU T .len [.ref p] hs=some (.int xs.length 0,hs):=by unfold biU;simp only[ZW,h]
def QnQ(h:hs[p]?=some (.lst xs)):biU T .tuple [.ref p] hs=some (.ref hs.length,hs++[.tup xs]):=by unfold biU;simp only[h]
def Qkl(h:hs[p]?=some (.lst xs))(hl:xs.length<1000000):bmU T .append (.ref p) [u] hs=some (.non,hs.set p (.lst (xs++[u]))):=by
 simp only[bmU,h,bmL,hl];rfl
def QiN(h:hs[p]?=some (.lst xs)):Qdk .append (.ref p) hs=true:=by simp only[Qdk,h];rfl
def Qq9:Qmh (.int 2 0) (.int x 0)=sI (2*x):=by
 have h:Qk 2=true:=by decide
 simp only[Qmh,h,Bool.true_or,We]
def md{j:Int}(h:0<j):Qmi (.int x 0) (.int j 0)=sI (x % j):=by simp only[Qmi];rw[if_pos h]
def TK(hs hs':Hs):Prop:=∀(i:Nat) us,hs[i]?=some (.tup us)->hs'[i]?=some (.tup us)
def TK.refl:TK hs hs:=λz z h=>h
def TK.trans{a b c:Hs}(h:TK a b)(h':TK b c):TK a c:=λi us e=>h' i us (h i us e)
def TK.app{r:Hs}:TK hs (hs++r):=λi us h=>Qn h
theorem TK.set{x y:O}(h:hs[i]?=some x)(n:∀us,x≠.tup us):TK hs (hs.set i y):=λj us e=>by
 have ne:i≠j:=λz=>by rw[z,e]at h;cases h;exact n us rfl
 rw[Xs ne];exact e
abbrev Nm:=Int×Int
structure Lp where
 ps:List Nm
 sd:Int
 lf:Int
def DN(hs:Hs)(u:U)(a:Nm):Prop:=∃i,u=.ref i/\hs[i]?=some (.tup [.int a.1 0,.int a.2 0])
def DL(hs:Hs)(u:U)(a:Lp):Prop:=∃i j us,u=.ref i/\hs[i]?=some (.tup [.ref j,.int a.sd 0,.int a.lf 0])/\hs[j]?=some (.tup us)/\Paired (DN hs) us a.ps
def DN.mono(t:TK hs hs'){a:Nm}(h:DN hs u a):DN hs' u a:=by obtain⟨i,e,h⟩:=h;exact⟨i,e,t _ _ h⟩
def Qb{P Q:α->β->Prop}(f:∀a b,P a b->Q a b){l:List α}{r:List β}(h:Paired P l r):Paired Q l r:=Paired.mono f h
def Qx{P:α->β->Prop}{a:α}{b:β}(h:P a b){l:List α}{r:List β}(t:Paired P l r):Paired P (l++[a]) (r++[b]):=t.snoc h
def Qd{P:α->β->Prop}{l:List α}{r:List β}(h:Paired P l r):l.length=r.length:=h.length
theorem DL.mono(t:TK hs hs'){a:Lp}(h:DL hs u a):DL hs' u a:=by obtain⟨i,j,us,e,h1,h2,h3⟩:=h;exact⟨i,j,us,e,t _ _ h1,t _ _ h2,Qb (λz z=>DN.mono t) h3⟩
def Qp8{lo hi:Option Int}(h:hs[p]?=some (.lst xs)):slU T (.ref p) lo hi hs=some (.ref hs.length,hs++[.lst (Q1 xs lo hi)]):=by simp only[slU,h]
def Qgm{P:α->β->Prop}(n:Nat){l:List α}{r:List β}(h:Paired P l r):Paired P (l.drop n) (r.drop n):=Qbn h n
def Qgk{P:α->β->Prop}(n:Nat){l:List α}{r:List β}(h:Paired P l r):Paired P (l.take n) (r.take n):=Qbm h n
noncomputable def nmK(a:Nm):List U:=[.int a.1 0,.int a.2 0]
def Qad{a:Nm}(h:DN hs u a):tkU u hs=some (nmK a):=by
 obtain⟨i,rfl,e⟩:=h;simp only[tkU,e];rfl
def Zn{r:Hs}{a:Nm}(h:DN hs u a):DN (hs++r) u a:=h.mono TK.app
noncomputable def Jx(kept:List (U×List Nm)):Nat:=(kept.map λp=>p.2.length).sum
def ZI{P:α->β->Prop}{l l':List α}{r r':List β}(h:Paired P l r)(h':Paired P l' r'):Paired P (l++l') (r++r'):=Qb9 h h'
def QqY(h:n<=1000000):Qk ((n:Int)*4)=true:=by
 simp only[Qk,Xl,X1];lia
def Yw{xs:List α}{x:α}(h:xs[i]?=some x):atU xs (i:Int)=some x:=by
 have l:=(Xc.mp h).1
 have e:ixU xs.length (i:Int)=some i:=by
  unfold ixU
  rw[if_pos (by lia),if_pos (by lia)]
  simp
 simp only[atU,e,h]
def ZG{TT:Tbl}{a:E}(e:ev TT cf d a Z h=some (u,h1)):ex TT cf (d+1) (.set i a) Z h=some (.next,Z.set i (some u),h1):=by
 rw[Qdo,e,Qh]
def ZU{TT:Tbl}{t:Option E}{w:Wk}(es:Q4 TT (ev TT cf d) Z src h=some (w,h1))(ec:QS TT (ev TT cf d) (Z9 (evT TT cf d) t) w false el Z (Q3 TT w h1) 0 [] h1=some (us,h2)):ev TT cf (d+1) (.comp src false t el) Z h=some (.ref h2.length,h2++[.lst us]):=by
 rw[Qhm,es,Qh,ec,Qh]
def Qap{TT:Tbl}{o:Operator}{a b:E}{w:U}{r:Option (U×Hs)}(ea:ev TT cf d a Z h=some (u,h1))(eb:ev TT cf d b Z h1=some (w,h2))(eo:opU o u w h2=r):ev TT cf (d+1) (.op o a b) Z h=r:=by
 rw[Qdp,ea,Qh,eb,Qh,eo]
def Qc{TT:Tbl}(e:Z[i]?=some (some u)):ev TT cf (d+1) (.var i) Z h=some (u,h):=by
 rw[Qm,e]
def QH{TT:Tbl}(e:ex TT cf (d+1) st Z h=some (.next,ρ',h1)):exs TT cf (d+2) [st] Z h=some (.next,ρ',h1):=by
 rw[QT,e];exact JI
def Qlj{f:Ev}{a:E}{i:Int}(e:f a Z h=some (.int i 0,h1)):Q4 T f Z (.rng a) h=if Qk (i*4)=true then some (.rng 0 i.toNat,h1)else none:=by
 simp only[Q4,e,Qh]
def Yk{TT:Tbl}{a:E}(e:ev TT cf d a Z h=some (.int (n:Int) 0,h1))(l:n<=1000000):Q4 TT (ev TT cf d) Z (.rng a) h=some (.rng 0 n,h1):=by
 rw[Qlj e,if_pos (QqY l),Tv]
noncomputable def szR(rows:List (List Lp)):Nat:=(rows.map List.length).sum
def Qik{kvs2:List (U×U)}(he:ev T cf d e Z hs=some (.ref n,hs))(hn:hs[n]?=some (.dic kvs))(hf:QeS i (exs T cf d body) (kvs.map (·.1)) Z (hs.set n (.fzd kvs))=some (.next,ρ',h2))(h2n:h2[n]?=some (.fzd kvs2)):ex T cf (d+1) (.loopK i e body) Z hs=some (.next,ρ',h2.set n (.dic kvs2)):=by
 have dc:Qe5 (.ref n) hs hs=some (n,kvs):=by simp only[Qe5,hn]
 rw[ex,he,Qh,dc];simp only[];rw[hf];simp only[Qir,h2n]
def Zy{P:α->β->Prop}{l:List α}{r:List β}{a b:Option Int}(h:Paired P l r):Paired P (Q1 l a b) (Q1 r a b):=by
 unfold Q1;rw[Qd h];exact Qgk _ (Qgm _ h)
def QcG:ev T cf (d+1) .dnewT Z hs=some (.ref hs.length,hs++[.dct []]):=by rw[ev]
def QbY{l:List α}{x:α}(h:l[i]?=some x):l.set i x=l:=by
 obtain⟨lt,e⟩:=Xc.mp h;rw[<-e];exact List.set_getElem_self lt
def QY{t:Tg}{w:Wk}{r:Option (Fl×Rho×Hs)}(es:Q4 T (ev T cf d) Z src hs=some (w,h1))(ef:Z6 T w t (exs T cf d body) (Q3 T w h1) 0 Z h1=r):ex T cf (d+1) (.loop t src body) Z hs=r:=by
 rw[QkE,es,Qh,ef]
def dvj{j:Int}(h:(decide ((0:Int) < j)&&decide (j<1606938044258990275541962092341162602522202993782792835301376))=true):QmO (.int x 0) (.int j 0)=sI (x / j):=by
 simp only[QmO];rw[if_pos h]
section

def Ze{j:Int}(h:Z[i]?=some (sI y)):evT T cf (d+3) (.cmp .Eq (.var i) (.c (.int j 0))) Z hs=some (decide (y=j),hs):=by
 rw[Ji,Yq,Qm,h];simp only[Qh,y_c,ZF,eq_int,Option.map,Yg]
end
def Qg0:eqS (.ref i) (.ref j)=none:=rfl
def Zz{e:Nat}(hp:hs[p]?=some (.lst xs))(he:hs[e]?=some (.lst [])):eqA T (.ref p) (.ref e) hs=some (decide (xs=[])):=by
 cases xs with
 |nil=>simp[eqA,Qg0,Jf,Qbe,QA,hp,he]
 |cons a r=>simp[eqA,Qg0,Jf,QA,hp,he]
section

end
def Qd6{P:α->β->Prop}{l:List α}{r:List β}(h:Paired P l r):Paired P l.reverse r.reverse:=QhO h
def QkD{a:E}:ev T cf (d+1) (.rev a) Z hs=bd (ev T cf d a Z hs) λu h1=>(match QA T u h1 with|some xs=>some (.ref h1.length,h1++[.lst xs.reverse])|none=>none):=by rw[ev]<;>rfl
def Qbb{a b:E}{p r:Prop}[Decidable p][Decidable r](ea:evT T cf d a Z hs=some (decide p,hs))(eb:evT T cf d b Z hs=some (decide r,hs)):evT T cf (d+1) (.and a b) Z hs=some (decide (p/\r),hs):=by
 rw[YH,ea,Qh,eb];by_cases hp:p
 ·simp[hp]
 ·simp[hp]
instance:DecidableEq Nm:=inferInstanceAs (DecidableEq (Int×Int))
def cl1{b:U}:Qa (tbG xx s) (m+1) 6 [a,b] hs=fin (exs (tbG xx s) (Qa (tbG xx s) m) dd b6 [some a,some b] hs):=rfl
def DK(hs:Hs)(u:U)(a:U×List Nm):Prop:=∃i j vs,u=.ref i/\hs[i]?=some (.tup [a.1,.ref j])/\hs[j]?=some (.lst vs)/\Paired (DN hs) vs a.2/\∃c,a.1=.str [c]/\c<128
def DRw(hs:Hs)(u:U)(a:List Lp):Prop:=∃i us,u=.ref i/\hs[i]?=some (.lst us)/\Paired (DL hs) us a
structure Wb where
 rows:List (List Lp)
 lie:List Nm
 kept:List (U×List Nm)
 off:List Nm
def DW(hs:Hs)(u:U)(D:Wb):Prop:=∃i a b k o ra rb rk ro,u=.ref i/\hs[i]?=some (.tup [.ref a,.ref b,.ref k,.ref o])/\hs[a]?=some (.lst ra)/\hs[b]?=some (.lst rb)/\hs[k]?=some (.lst rk)/\hs[o]?=some (.lst ro) /\
 Paired (DRw hs) ra D.rows/\Paired (DN hs) rb D.lie/\Paired (DK hs) rk D.kept/\Paired (DN hs) ro D.off
def DN.kp(k:Kp hs hs'){a:Nm}(h:DN hs u a):DN hs' u a:=h.mono λi us e=>k i _ e
def DL.kp(k:Kp hs hs'){a:Lp}(h:DL hs u a):DL hs' u a:=h.mono λi us e=>k i _ e
theorem DK.kp(k:Kp hs hs'){a:U×List Nm}(h:DK hs u a):DK hs' u a:=by obtain⟨i,j,vs,e,h1,h2,h3,h4⟩:=h;exact⟨i,j,vs,e,k _ _ h1,k _ _ h2,Qb (λz z=>DN.kp k) h3,h4⟩
theorem DRw.kp(k:Kp hs hs'){a:List Lp}(h:DRw hs u a):DRw hs' u a:=by obtain⟨i,us,e,h1,h2⟩:=h;exact⟨i,us,e,k _ _ h1,Qb (λz z=>DL.kp k) h2⟩
theorem DW.kp(k:Kp hs hs'){D:Wb}(h:DW hs u D):DW hs' u D:=by
 obtain⟨i,a,b,c,o,ra,rb,rk,ro,e,h1,h2,h3,h4,h5,h6,h7,h8,h9⟩:=h;exact⟨i,a,b,c,o,ra,rb,rk,ro,e,k _ _ h1,k _ _ h2,k _ _ h3,k _ _ h4,k _ _ h5,Qb (λz z=>DRw.kp k) h6,Qb (λz z=>DN.kp k) h7,Qb (λz z=>DK.kp k) h8,Qb (λz z=>DN.kp k) h9⟩
noncomputable def nmL(a:Nm):List Int:=[a.1,a.2]
noncomputable def QdP(off:List Nm):List Nm:=(L2.permK (if off.length<2 then []else off.map nmL) off.length).map λi=>off.getD i (0,0)
def Qi5{P:α->β->Prop}{x:α}{y:β}{l:List α}{r:List β}(h:Paired P l r)(i:Nat)(li:i<l.length):P (l.getD i x) (r.getD i y):=by
 obtain⟨b,e,q⟩:=Jn h (Xf li);rw[Wj,Wj,e,Xf li];exact q
theorem QhN{α β:Type}{P:α->β->Prop}{x:α}{y:β}{l:List α}{r:List β}(h:Paired P l r):∀{is:List Nat},(∀i∈is,i<l.length)->Paired P (is.map λi=>l.getD i x) (is.map λi=>r.getD i y)
 |[],_=>.nil
 |i::is,m=>.cons (Qi5 h i (m i Xq)) (QhN h λj mj=>m j (Xm _ mj))
def Qmv{nms:List Nm}(h:Paired (DN hs) us nms):QjH hs us=some (nms.map nmL):=by
 induction h with
 |nil=>rfl
 |cons h _ ih=>
  obtain⟨i,rfl,e⟩:=h;simp only[QjH,itU,e,QaN,ih,Option.map,Option.bind,Xu,nmL]
def QiC{nms:List Nm}(hp:hs[p]?=some (.lst us))(pn:Paired (DN hs) us nms)(l:us.length<64):∃vs,biU T .sorted [.ref p] hs=some (.ref hs.length,hs++[.lst vs])/\Paired (DN hs) vs (QdP nms):=by
 have el:=Qd pn
 have lt:∀ks n,∀i∈L2.permK ks n,i<n:=λks n i m=>by
  have:=(L2.permK_perm ks n).mem_iff.mp m;simpa using this
 refine⟨QcM (if nms.length<2 then []else nms.map nmL) us,?_,?_⟩
 ·have e1:(if us.length<2 then some []else QjH hs us)=some (if nms.length<2 then []else nms.map nmL):=by
   rw[Qmv pn,el];split<;>rfl
  show(QA T (.ref p) hs).bind _=_;simp only[QA,hp,Option.bind,l,We,e1,Option.map]
 ·unfold QcM QdP;rw[el]
  exact QhN pn λi m=>by rw[el];exact lt _ _ i m
def Qfc{f:α->β}{xs:List α}{a b:Option Int}:Q1 (xs.map f) a b=(Q1 xs a b).map f:=by
 unfold Q1;rw[Wd,List.map_take,List.map_drop]
def Qa5{a b:Nat}(ha:hs[a]?=some (.lst xs))(hb:hs[b]?=some (.lst ys))(l:xs.length+ys.length<=1000000):Qie (.ref a) (.ref b) hs=some (.ref hs.length,hs++[.lst (xs++ys)]):=by
 simp only[Qie,ha,hb,Qpn,l,We]
def QkQ{a b c:E}{h4:Hs}{w x:U}(ea:ev T cf d a Z h0=some (u,h1))(eb:ev T cf d b Z h1=some (v,h2))(ec:ev T cf d c Z h2=some (w,h3))(ee:ev T cf d e Z h3=some (x,h4)):ev T cf (d+1) (.tup [a,b,c,e]) Z h0=some (.ref h4.length,h4++[.tup [u,v,w,x]]):=by
 simp only[y_tup,evs,ea,eb,ec,ee,Qh]
section

def Zs(h:hs[i]?=some (.lst us))(k:us.all (λx=>okW T n x hs)=true):okW T (n+1) (.ref i) hs=true:=by simp only[okW,QA,h,k]
def Jo(h:hs[i]?=some (.tup us))(k:us.all (λx=>okW T n x hs)=true):okW T (n+1) (.ref i) hs=true:=by simp only[okW,QA,Yz,h,k]
def ZL(h:hs[i]?=some (.lst us))(h':hs[j]?=some (.lst vs))(l:us.length=vs.length)(k:(us.zip vs).all (λp=>eqW T n p.1 p.2 hs)=true):eqW T (n+1) (.ref i) (.ref j) hs=true:=by
 simp only[eqW,QA,h,h',k,l,BEq.rfl,Vh]
def Y1(h:hs[i]?=some (.tup us))(h':hs[j]?=some (.tup vs))(l:us.length=vs.length)(k:(us.zip vs).all (λp=>eqW T n p.1 p.2 hs)=true):eqW T (n+1) (.ref i) (.ref j) hs=true:=by
 simp only[eqW,QA,Yz,h,h',k,l,BEq.rfl,Vh]
def QhV:okW T (n+1) (.int x 0) hs=true:=rfl
def Qe1:eqW T (n+1) (.int x 0) (.int x 0) hs=true:=by
 show(x==x)=true;simp
def Zj{P:U->α->Prop}(f:∀u a,P u a->okW T n u hs=true){as:List α}(h:Paired P us as):us.all (λx=>okW T n x hs)=true:=by
 induction h with
 |nil=>rfl
 |cons h _ ih=>rw[Wy,f _ _ h,ih];rfl
def Yn{P:U->α->Prop}(f:∀u v a,P u a->P v a->eqW T n u v hs=true){as:List α}(h:Paired P us as)(h':Paired P vs as):us.length=vs.length/\(us.zip vs).all (λp=>eqW T n p.1 p.2 hs)=true:=by
 induction h generalizing vs with
 |nil=>cases h';exact⟨rfl,rfl⟩
 |cons h _ ih=>
  cases h' with
  |cons h' t'=>
   obtain⟨a,b⟩:=ih t';rw[Vo,Wy,f _ _ _ h h',b]
   exact⟨by simp[a],rfl⟩
def QaS{a:Nm}(h:DN hs u a):okW T (n+2) u hs=true:=by
 obtain⟨i,rfl,h⟩:=h
 exact Jo h (by simp[QhV])
def Qe4{a:Nm}(h:DN hs u a)(h':DN hs v a):eqW T (n+2) u v hs=true:=by
 obtain⟨i,rfl,h⟩:=h;obtain⟨j,rfl,h'⟩:=h'
 exact Y1 h h' rfl (by simp[Qe1])
def Qpb{a:Lp}(h:DL hs u a):okW T (n+4) u hs=true:=by
 obtain⟨i,j,us,rfl,h1,h2,h3⟩:=h
 exact Jo h1 (by simp only[Wy,Uy,QhV,Jo (n:=n+2) h2 (Zj (λz z=>QaS) h3),Vh])
def Qpc{a:Lp}(h:DL hs u a)(h':DL hs v a):eqW T (n+4) u v hs=true:=by
 obtain⟨i,j,us,rfl,h1,h2,h3⟩:=h;obtain⟨i',j',us',rfl,h1',h2',h3'⟩:=h';have:=Yn (P:=DN hs) (T:=T) (n:=n+2) (λz z z=>Qe4) h3 h3'
 exact Y1 h1 h1' rfl (by simp only[Vo,Ta,Wy,Uy,Qe1,Y1 (n:=n+2) h2 h2' this.1 this.2,Vh])
def QmL{a:List Lp}(h:DRw hs u a):okW T (n+5) u hs=true:=by
 obtain⟨i,us,rfl,h1,h2⟩:=h;exact Zs h1 (Zj (λz z=>Qpb) h2)
def Qo9{a:List Lp}(h:DRw hs u a)(h':DRw hs v a):eqW T (n+5) u v hs=true:=by
 obtain⟨i,us,rfl,h1,h2⟩:=h;obtain⟨i',us',rfl,h1',h2'⟩:=h';have:=Yn (P:=DL hs) (T:=T) (n:=n+4) (λz z z=>Qpc) h2 h2';exact ZL h1 h1' this.1 this.2
def QmN{a:U×List Nm}(h:DK hs u a):okW T (n+4) u hs=true:=by
 obtain⟨i,j,vs,rfl,h1,h2,h3,c,e,lc⟩:=h;rw[e]at h1
 have k:okW T (n+3) (.str [c]) hs=true:=by
  show([c].all λc=>decide (c<128))=true;simp[lc]
 exact Jo h1 (by simp only[Wy,Uy,k,Zs (n:=n+2) h2 (Zj (λz z=>QaS) h3),Vh])
def Qpd{a:U×List Nm}(h:DK hs u a)(h':DK hs v a):eqW T (n+4) u v hs=true:=by
 obtain⟨i,j,vs,rfl,h1,h2,h3,c,e,lc⟩:=h;obtain⟨i',j',vs',rfl,h1',h2',h3',c',e',lc'⟩:=h';rw[e]at h1 h1'
 have k:eqW T (n+3) (.str [c]) (.str [c]) hs=true:=by
  show([c]==[c])=true;simp
 have:=Yn (P:=DN hs) (T:=T) (n:=n+2) (λz z z=>Qe4) h3 h3'
 exact Y1 h1 h1' rfl (by simp only[Vo,Ta,Wy,Uy,k,ZL (n:=n+2) h2 h2' this.1 this.2,Vh])
def Qo7{D:Wb}(h:DW hs u D)(h':DW hs v D):eqA T u v hs=some true:=by
 obtain⟨i,a,b,k,o,ra,rb,rk,ro,rfl,h1,h2,h3,h4,h5,h6,h7,h8,h9⟩:=h;obtain⟨i',a',b',k',o',ra',rb',rk',ro',rfl,h1',h2',h3',h4',h5',h6',h7',h8',h9'⟩:=h'
 have ok1:okW T 20 (.ref i) hs=true:=Jo h1 (by
  simp only[Wy,Uy,Zs (n:=18) h2 (Zj (λz z=>QmL) h6),Zs (n:=18) h3 (Zj (λz z=>QaS) h7),Zs (n:=18) h4 (Zj (λz z=>QmN) h8),Zs (n:=18) h5 (Zj (λz z=>QaS) h9),Vh])
 have ok2:okW T 20 (.ref i') hs=true:=Jo h1' (by
  simp only[Wy,Uy,Zs (n:=18) h2' (Zj (λz z=>QmL) h6'),Zs (n:=18) h3' (Zj (λz z=>QaS) h7'),Zs (n:=18) h4' (Zj (λz z=>QmN) h8'),Zs (n:=18) h5' (Zj (λz z=>QaS) h9'),Vh])
 have e1:=Yn (P:=DRw hs) (T:=T) (n:=18) (λz z z=>Qo9) h6 h6';have e2:=Yn (P:=DN hs) (T:=T) (n:=18) (λz z z=>Qe4) h7 h7';have e3:=Yn (P:=DK hs) (T:=T) (n:=18) (λz z z=>Qpd) h8 h8';have e4:=Yn (P:=DN hs) (T:=T) (n:=18) (λz z z=>Qe4) h9 h9'
 have ee:eqW T 20 (.ref i) (.ref i') hs=true:=Y1 h1 h1' rfl (by
  simp only[Vo,Ta,Wy,Uy,ZL (n:=18) h2 h2' e1.1 e1.2,ZL (n:=18) h3 h3' e2.1 e2.2,ZL (n:=18) h4 h4' e3.1 e3.2,ZL (n:=18) h5 h5' e4.1 e4.2,Vh])
 have l1:Jf T (.ref i) (.ref i') hs=false:=by simp only[Jf,QA,h1,h1']
 have l2:Qbe T (.ref i) (.ref i') hs=false:=by simp only[Qbe,QA,h1,h1']
 simp only[eqA,Qg0,l1,l2,ok1,ok2,ee,Vh,We,X4,Wv]
def Qmd{nms:List Nm}(h:hs[i]?=some (.lst us))(h':hs[j]?=some (.lst vs))(p:Paired (DN hs) us nms)(p':Paired (DN hs) vs nms):eqA T (.ref i) (.ref j) hs=some true:=by
 have e1:=Yn (P:=DN hs) (T:=T) (n:=19) (λz z z=>Qe4) p p'
 have l1:Jf T (.ref i) (.ref j) hs=false:=by simp[Jf,QA,h,h',e1.1]
 have ok1:okW T 20 (.ref i) hs=true:=Zs h (Zj (λz z=>QaS) p);have ok2:okW T 20 (.ref j) hs=true:=Zs h' (Zj (λz z=>QaS) p');have ee:eqW T 20 (.ref i) (.ref j) hs=true:=ZL h h' e1.1 e1.2;simp only[eqA,Qg0,l1,ok1,ok2,ee,Vh,We,X4,Wv];split<;>rfl
end
def Qio{TT:Tbl}{t:Option E}{w:Wk}{b:Bool}(es:Q4 TT (ev TT cf d) Z src h=some (w,h1))(ec:QS TT (ev TT cf d) (Z9 (evT TT cf d) t) w b el Z (Q3 TT w h1) 0 [] h1=some (us,h2)):ev TT cf (d+1) (.comp src b t el) Z h=some (.ref h2.length,h2++[.lst us]):=by
 rw[Qhm,es,Qh,ec,Qh]
def ZH{TT:Tbl}{a:E}(e:ev TT cf d a Z h=some (u,h1)):fin (exs TT cf (d+2) [.ret a] Z h)=some (u,h1):=by
 rw[QT,QcF,e];rfl
def QjU{D:Wb}(h:DW hs u D):∃a ra,QF T u (.int 0 0) hs=sR a/\hs[a]?=some (.lst ra)/\Paired (DRw hs) ra D.rows:=by
 obtain⟨i,a,b,k,o,ra,rb,rk,ro,rfl,h1,h2,h3,h4,h5,h6,h7,h8,h9⟩:=h
 exact⟨a,ra,by simp only[QF,h1];exact Yw (i:=0) rfl,h2,h6⟩
def QoL:Qdm T .int (.int x 0) hs=some true:=rfl
def QoM:Qdm T .bool (.int x 0) hs=some false:=rfl
theorem QhP:∀ns:List Int,Paired (λ(u:U) (i:Int)=>∃r m,u=.int r m/\∃q:Int,i=r+m*q) (ns.map λi=>U.int i 0) ns
 |[]=>.nil
 |n::r=>.cons ⟨n,0,rfl,0,by simp⟩ (QhP r)
def cl7:Qa (tbG xx s) (m+1) 7 [a] hs=fin (exs (tbG xx s) (Qa (tbG xx s) m) dd b7 [some a] hs):=rfl
def cl8:Qa (tbG xx s) (m+1) 8 [a] hs=fin (exs (tbG xx s) (Qa (tbG xx s) m) dd b8 [some a] hs):=rfl
def cl9:Qa (tbG xx s) (m+1) 9 [a] hs=fin (exs (tbG xx s) (Qa (tbG xx s) m) dd b9 [some a] hs):=rfl
def Qfs:Qa (tbG xx s) (m+1) 7 [.int x 0] hs=some (.bl true,hs):=by
 rw[cl7];refine ZH (d:=98) ?_;generalize Qa (tbG xx s) m=cf;generalize tbG xx s=T;simp only[Qii,QfN,Qm,QnI,Qh,Xe,QoL,QoM,Option.map,Yg,Ti]
def QmX{a:Nm}(h:DN hs u a):Qa (tbG xx s) (m+2) 8 [u] hs=some (.bl true,hs):=by
 obtain⟨i,rfl,h⟩:=h;have w1:=Qfs (xx:=xx) (s:=s) (m:=m) (x:=a.1) (hs:=hs);have w2:=Qfs (xx:=xx) (s:=s) (m:=m) (x:=a.2) (hs:=hs);rw[cl8];refine ZH (d:=98) ?_
 have i1:Qdm (tbG xx s) .tuple (.ref i) hs=some true:=by simp only[Qdm,QaI,h];rfl
 have l1:biU (tbG xx s) .len [.ref i] hs=some (.int 2 0,hs):=by unfold biU;simp only[ZW,h];rfl
 have s1:QF (tbG xx s) (.ref i) (.int 0 0) hs=sI a.1:=by simp only[QF,h];exact Yw (i:=0) rfl
 have s2:QF (tbG xx s) (.ref i) (.int 1 0) hs=sI a.2:=by simp only[QF,h];exact Yw (i:=1) rfl
 generalize Qa (tbG xx s) (m+1)=cf at w1 w2 ⊢;generalize tbG xx s=T at i1 l1 s1 s2 ⊢;simp only[Qii,QfN,Qm,Yq,y_bi,evs,y_c,y_call,y_ix,Qh,Xe,i1,l1,s1,s2,w1,w2,Option.map,ZF,eq_int,decide_true]
def Qfg(hp:hs[p]?=some (.lst us)):∀(vs:List U) (nms:List Nm) (i k:Nat),us.drop i=vs->Paired (DN hs) vs nms->vs.length<k ->
  QS (tbG xx s) (ev (tbG xx s) (Qa (tbG xx s) (m+2)) (d+10)) (Z9 (evT (tbG xx s) (Qa (tbG xx s) (m+2)) (d+10)) (some (.not (.call 8 [(.var 1)])))) (.seqL (.ref p)) false (.var 1) [sR p] k i [] hs=some ([],hs):=by
 intro vs
 induction vs with
 |nil=>
  intro nms i k hd pr lk
  cases k with
  |zero=>simp at lk
  |succ k=>
   have e:us[i]?=none:=by rw[X6];exact Se.mp hd
   simp[QS,itm,QA,hp,e]
 |cons v vs ih=>
  intro nms i k hd pr lk
  cases pr with
  |cons dv pr=>
   cases k with
   |zero=>simp at lk
   |succ k=>
    have e:us[i]?=some v:=by
     have:=Te (xs:=us) (i:=i) (j:=0);rw[hd]at this;simpa using this.symm
    have hd':us.drop (i+1)=vs:=by rw[<-Sk,hd];rfl
    have g:=ih _ (i+1) k hd' pr (by simpa using lk)
    have cn:=QmX (xx:=xx) (s:=s) (m:=m) dv;rw[QS];generalize Qa (tbG xx s) (m+2)=cf at cn g ⊢;generalize tbG xx s=T at g ⊢
    simp only[itm,QA,hp,e,Option.map,tgt,tgN,Qdl,W6,show(0:Nat) < 1000000 by decide,We,Z9,Qho,Qdq,y_call,evs,Qm,Qh,X8,Vk,T2,Vf,X9,Wi,Xh,Xe,X4,Wv,cn,Yg,U4]
    exact g
def Qha{nms:List Nm}(hp:hs[p]?=some (.lst us))(pn:Paired (DN hs) us nms):Qa (tbG xx s) (m+3) 9 [.ref p] hs=some (.bl true,hs++[O.lst [],O.lst []]):=by
 rw[cl9];refine ZH (d:=98) ?_
 have i1:Qdm (tbG xx s) .list (.ref p) hs=some true:=by simp only[Qdm,QaI,hp];rfl
 have cn:=Qfg (xx:=xx) (s:=s) (m:=m) (d:=85) hp us nms 0 (us.length+1) rfl pn (by lia)
 have sr:Q4 (tbG xx s) (ev (tbG xx s) (Qa (tbG xx s) (m+2)) 95) [sR p] (.seq (.var 0)) hs=some (.seqL (.ref p),hs):=by
  have k1:wkS (tbG xx s) (.ref p) hs=some (.seqL (.ref p)):=by simp only[wkS,QA,hp]
  generalize Qa (tbG xx s) (m+2)=cf;generalize tbG xx s=T at k1 ⊢;simp only[Q4,Qm,Xe,Qh,k1,Option.map]
 have tn:Q3 (tbG xx s) (.seqL (.ref p)) hs=us.length+1:=by simp only[Q3,QA,hp,Uh]
 have vc:=Qio (d:=95) sr (by rw[tn];exact cn)
 have eq:=Zz (T:=tbG xx s) (hs:=hs++[O.lst [],O.lst []]) (p:=hs.length) (e:=hs.length+1) (xs:=[]) at0 (by rw[X7 (by lia)];simp)
 generalize Qa (tbG xx s) (m+2)=cf at vc ⊢;generalize tbG xx s=T at i1 vc eq ⊢
 have a1:ev T cf 97 (.cmp .Eq (.comp (.seq (.var 0)) false (some (.not (.call 8 [(.var 1)]))) (.var 1)) (.lst [])) [sR p] hs=some (.bl true,hs++[O.lst [],O.lst []]):=by
  refine QkU (d:=96) vc (w:=.ref (hs.length+1)) (h2:=hs++[O.lst [],O.lst []]) ?_ (by simpa[ZF]using eq)
  simp[y_lst,evs,Qh]
 simp only[b9,Qii,QfN,Qm,Qh,Xe,i1,Option.map];exact a1
section

def Rr(T:Tbl)(cf:Cf)(d:Nat)(e:E)(Z:Rho)(h:Hs)(Q:U->Hs->Prop):Prop:=∃u h1,ev T cf d e Z h=some (u,h1)/\Q u h1
def Xx(T:Tbl)(cf:Cf)(d:Nat)(ss:List S)(Z:Rho)(h:Hs)(Q:Fl->Rho->Hs->Prop):Prop:=∃f ρ1 h1,exs T cf d ss Z h=some (f,ρ1,h1)/\Q f ρ1 h1
def Cc(T:Tbl)(m f:Nat)(us:List U)(h:Hs)(Q:U->Hs->Prop):Prop:=∃u h1,Qa T m f us h=some (u,h1)/\Q u h1
def Fq(Q:U->Hs->Prop):Fl->Rho->Hs->Prop:=λf z h=>match f with
 |.next=>Q .non h
 |.ret u=>Q u h
 |_=>False
def Nq(T:Tbl)(cf:Cf)(d:Nat)(r:List S)(Q:Fl->Rho->Hs->Prop):Fl->Rho->Hs->Prop:=λf Z h=>match f with
 |.next=>Xx T cf d r Z h Q
 |f=>Q f Z h
def Qic{b:List S}{Q:U->Hs->Prop}(e:Qa T (m+1) f us h=fin (exs T (Qa T m) dd b Z h))(x:Xx T (Qa T m) 100 b Z h (Fq Q)):Cc T (m+1) f us h Q:=by
 obtain⟨f,ρ1,h1,a,q⟩:=x
 cases f with
 |next=>exact⟨_,_,by rw[e,show dd=100 from rfl,a];rfl,q⟩
 |ret u=>exact⟨_,_,by rw[e,show dd=100 from rfl,a];rfl,q⟩
 |brk=>exact q.elim
 |cont=>exact q.elim
def Cc.mono{Q Q':U->Hs->Prop}(c:Cc T m f us h Q)(k:∀u h1,Q u h1->Q' u h1):Cc T m f us h Q':=by obtain⟨u,h1,a,b⟩:=c;exact⟨u,h1,a,k u h1 b⟩
variable {r:List S}{G:U->Hs->Prop}
def QK(q:Q .next Z h):Xx T cf (d+1) [] Z h Q:=⟨_,_,_,JI,q⟩
def QiU{ρ1:Rho}(e:ex T cf d st Z h=some (.next,ρ1,h1))(q:Xx T cf d r ρ1 h1 Q):Xx T cf (d+1) (st::r) Z h Q:=by obtain⟨f,a,b,c,x⟩:=q;exact⟨f,a,b,by rw[QT,e];exact c,x⟩
def QR(q:Rr T cf d e Z h λu h1=>Xx T cf (d+1) r (Z.set i (some u)) h1 Q):Xx T cf (d+2) (.set i e::r) Z h Q:=by obtain⟨u,h1,a,b⟩:=q;exact QiU (by rw[Qdo,a,Qh]) b
def YQ(q:Rr T cf d e Z h λz h1=>Xx T cf (d+1) r Z h1 Q):Xx T cf (d+2) (.expr e::r) Z h Q:=by obtain⟨u,h1,a,b⟩:=q;exact QiU (by rw[QbS,a,Qh]) b
def QiV(q:Rr T cf d e Z h λu h1=>Q (.ret u) Z h1):Xx T cf (d+2) (.ret e::r) Z h Q:=by obtain⟨u,h1,a,b⟩:=q;exact⟨_,_,_,by rw[QT,QcF,a,Qh],b⟩
def Qd0{o i:E}{x k:U}{h4:Hs}(ee:ev T cf d e Z h=some (u,h1))(eo:ev T cf d o Z h1=some (x,h2))(ei:ev T cf d i Z h2=some (k,h3))(ep:Jd x k u h3=some h4)(q:Xx T cf (d+1) r Z h4 Q):Xx T cf (d+2) (.put o i e::r) Z h Q:=QiU (by rw[y_put,ee,Qh,eo,Qh,ei,Qh,ep];rfl) q
def Qb3{t:E}{a b:List S}(e:evT T cf d t Z h=some (c,h1))(q:Xx T cf d (if c=true then a else b) Z h1 (Nq T cf (d+1) r Q)):Xx T cf (d+2) (.ite t a b::r) Z h Q:=by
 obtain⟨f,ρ1,h2,x,q⟩:=q
 have e1:ex T cf (d+1) (.ite t a b) Z h=some (f,ρ1,h2):=by rw[ZR,e,Qh];cases c<;>exact x
 cases f with
 |next=>exact QiU e1 q
 |ret u=>exact⟨_,_,_,by rw[QT,e1],q⟩
 |brk=>exact⟨_,_,_,by rw[QT,e1],q⟩
 |cont=>exact⟨_,_,_,by rw[QT,e1],q⟩
def QiW{t:E}{a b:List S}(e:evT T cf d t Z h=some (c,h1))(q:Xx T cf d (if c=true then a else b) Z h1 (Fq G)):Xx T cf (d+2) [.ite t a b] Z h (Fq G):=by
 obtain⟨f,ρ1,h2,x,q⟩:=q;refine Qb3 e ⟨f,ρ1,h2,x,?_⟩
 cases f with
 |next=>exact QK q
 |ret u=>exact q
 |brk=>exact q
 |cont=>exact q
def QcR{t:E}{a b:List S}{p:Prop}[Decidable p](e:evT T cf d t Z h=some (decide p,h1))(hp:p)(q:Xx T cf d a Z h1 (Fq G)):Xx T cf (d+2) [.ite t a b] Z h (Fq G):=QiW e (by rw[W5 hp];exact q)
def Qa7{t:E}{a b:List S}{p:Prop}[Decidable p](e:evT T cf d t Z h=some (decide p,h1))(hp:¬p)(q:Xx T cf d b Z h1 (Fq G)):Xx T cf (d+2) [.ite t a b] Z h (Fq G):=QiW e (by rw[Wa hp];exact q)
def Jm{t:Tg}{w:Wk}(es:Q4 T (ev T cf d) Z src h=some (w,h1))(q:∃ρ2 h2,Z6 T w t (exs T cf d body) (Q3 T w h1) 0 Z h1=some (.next,ρ2,h2)/\Xx T cf (d+1) r ρ2 h2 Q):Xx T cf (d+2) (.loop t src body::r) Z h Q:=by obtain⟨_,_,a,b⟩:=q;exact QiU (QY es a) b
def Zi(a:ev T cf d e Z h=some (u,h1))(q:G u h1):Rr T cf d e Z h G:=⟨_,_,a,q⟩
def QhJ(a:evs (ev T (Qa T m) d) Z es h=some (us,h1))(q:Cc T m f us h1 G):Rr T (Qa T m) (d+1) (.call f es) Z h G:=by obtain⟨_,_,b,c⟩:=q;exact⟨_,_,by rw[y_call,a,Qh,b],c⟩
def QcQ{o:E}(a:ev T cf d o Z h=some (.ref p,h0))(hp:h0[p]?=some (.lst xs))(q:Rr T cf d e Z h0 λu h1=>∃ys,h1[p]?=some (.lst ys)/\ys.length<1000000/\G .non (h1.set p (.lst (ys++[u])))):Rr T cf (d+1) (.bm .append o [e]) Z h G:=by
 obtain⟨u,h1,b,ys,h2,l,g⟩:=q
 exact⟨_,_,by rw[Qih,a,Qh,if_pos (QiN hp)];simp only[evs,b,Qh,Qkl h2 l],g⟩
def QN{k r:U}(hi:Z[i]?=some (sR w))(e:QF T (.ref w) k h=some r):ev T cf (d+2) (.ix (.var i) (.c k)) Z h=some (r,h):=by rw[y_ix,Qc hi,Qh,y_c,Qh,e];rfl
def Zw(a:evs (ev T cf d) Z es h=some (us,h1))(b:cf f us h1=some (u,h2)):ev T cf (d+1) (.call f es) Z h=some (u,h2):=by rw[y_call,a,Qh,b]
def Qq5{d':Nat}{ss:List S}{h':Hs}(e:exs T cf d ss Z h=exs T cf d' r ρ' h')(x:Xx T cf d' r ρ' h' Q):Xx T cf d ss Z h Q:=by obtain⟨a,b,c,x,q⟩:=x;exact⟨a,b,c,e.trans x,q⟩
def Zg(a:ev T cf d e Z h=some (u,h1)):exs T cf (d+2) (.set i e::r) Z h=exs T cf (d+1) r (Z.set i (some u)) h1:=by rw[QT,Qdo,a,Qh]
def JL{k r:U}(hi:Z[i]?=some (some u))(e:QF T u k h=some r):ev T cf (d+2) (.ix (.var i) (.c k)) Z h=some (r,h):=by rw[y_ix,Qc hi,Qh,y_c,Qh,e];rfl
def e_1(a:ev T cf d e Z h=some (u,h1)):evs (ev T cf d) Z [e] h=some ([u],h1):=by simp only[evs,a,Qh]
def QkG{t:E}{a:List S}(e:evT T cf (d+1) t Z h=some (c,h1))(hc:c=false):ex T cf (d+2) (.ite t a []) Z h=some (.next,Z,h1):=Qij (by rw[e,hc])
def Qmf{t:E}{a:List S}(e:evT T cf (d+1) t Z h=some (c,h1))(hc:c=false):exs T cf (d+3) (.ite t a []::r) Z h=exs T cf (d+2) r Z h1:=QE (QkG e hc)
def Qil{t:E}{b:List S}(et:evT T cf (d+2) t Z h=some (c,h1))(hc:c=true)(v:ev T cf d e Z h1=some (u,h2)):fin (exs T cf (d+4) (.ite t [.ret e] b::r) Z h)=some (u,h2):=by subst hc;rw[QT,ZR,et,Qh,if_pos rfl,QT,QcF,v,Qh];rfl
def Qim{n:S}{x:Option (Fl×Rho×Hs)}(e:ex T cf d n Z h=x):ex T cf (d+1) (.cal n f es) Z h=x:=by rw[ex];exact e
def YK(a:ev T cf d e Z h=some (.ref p,h1))(hp:h1[p]?=some (.lst xs)):ev T cf (d+1) (.bi .len [e]) Z h=some (.int xs.length 0,h1):=by rw[y_bi];simp only[evs,a,Qh,Yu hp]
def Jj{a b:E}(ea:ev T cf d a Z h=some (u,h1))(eb:ev T cf d b Z h1=some (v,h2)):ev T cf (d+1) (.tup [a,b]) Z h=some (.ref h2.length,h2++[.tup [u,v]]):=by rw[y_tup];simp only[evs,ea,eb,Qh]
def Qdw{a b c:E}{w:U}(ea:ev T cf d a Z h=some (u,h1))(eb:ev T cf d b Z h1=some (v,h2))(ec:ev T cf d c Z h2=some (w,h3)):ev T cf (d+1) (.tup [a,b,c]) Z h=some (.ref h3.length,h3++[.tup [u,v,w]]):=by rw[y_tup];simp only[evs,ea,eb,ec,Qh]
def Qkv{b:Bi}{x:Option (U×Hs)}(a:ev T cf d e Z h=some (u,h1))(eb:biU T b [u] h1=x):ev T cf (d+1) (.bi b [e]) Z h=x:=by rw[y_bi];simp only[evs,a,Qh,eb]
def QoA{j:Int}(hj:(decide ((0:Int) < j)&&decide (j<1606938044258990275541962092341162602522202993782792835301376))=true):opU .FloorDiv (.int x 0) (.int j 0) h=some (.int (x / j) 0,h):=by show(QmO _ _).map _=_;rw[dvj hj];rfl
def Ql9{j:Int}(hj:0<j):opU .Mod (.int x 0) (.int j 0) h=some (.int (x % j) 0,h):=by show(Qmi _ _).map _=_;rw[md hj];rfl
def QcT{j:Int}:opU .Add (.int x 0) (.int j 0) h=some (.int (x+j) 0,h):=rfl
def Ql7{j:Int}:opU .Sub (.int x 0) (.int j 0) h=some (.int (x-j) 0,h):=rfl
def Ql8:opU .Mult (.int 2 0) (.int x 0) h=some (.int (2*x) 0,h):=by simp only[opU,Qq9];rfl
def ZC{a:E}{j:Int}(ea:ev T cf (d+1) a Z h=some (.int x 0,h1))(hj:(decide ((0:Int) < j)&&decide (j<1606938044258990275541962092341162602522202993782792835301376))=true):ev T cf (d+2) (.op .FloorDiv a (.c (.int j 0))) Z h=some (.int (x / j) 0,h1):=Qap ea y_c (QoA hj)
def Zv{a:E}{j:Int}(ea:ev T cf (d+1) a Z h=some (.int x 0,h1))(hj:0<j):ev T cf (d+2) (.op .Mod a (.c (.int j 0))) Z h=some (.int (x % j) 0,h1):=Qap ea y_c (Ql9 hj)
def QkS{a:E}(ea:ev T cf (d+1) a Z h=some (.int x 0,h1)):ev T cf (d+3) (.op .Sub (.c (.int 1 0)) (.op .Mult (.c (.int 2 0)) a)) Z h=some (.int (1-2*x) 0,h1):=Qap y_c (Qap y_c ea Ql8) Ql7
def QnU{a b:E}(ea:ev T cf d a Z h=some (.int x 0,h1))(eb:ev T cf d b Z h1=some (.int y 0,h2)):evT T cf (d+2) (.cmp .Gt a b) Z h=some (decide (y<x),h2):=Qs ea eb rfl
def Qkw{a b:E}(ea:ev T cf d a Z h=some (.int x 0,h1))(eb:ev T cf d b Z h1=some (.int y 0,h2)):evT T cf (d+2) (.cmp .Eq a b) Z h=some (decide (x=y),h2):=Qs ea eb rfl
end
abbrev Vp:=Nat->O->Prop
def Le(P P':Vp):Prop:=∀i o,P i o->P' i o
noncomputable def ad(P:Vp)(j:Nat)(x:O):Vp:=λi o=>P i o\/(i=j/\o=x)
def Le.refl{P:Vp}:Le P P:=λz z h=>h
def Le.trans{P P1 P2:Vp}(a:Le P P1)(b:Le P1 P2):Le P P2:=λi o h=>b i o (a i o h)
def le_ad{P:Vp}{x:O}:Le P (ad P j x):=λz z h=>.inl h
def QZ{P:Vp}{x:O}:ad P j x j x:=.inr ⟨rfl,rfl⟩
structure Own(h:Hs)(C:List (Nat×O))(P:Vp):Prop where
 c:∀(k i:Nat) x,C[k]?=some (i,x)->h[i]?=some x
 nd:∀(k k' i:Nat) x x',C[k]?=some (i,x)->C[k']?=some (i,x')->k=k'
 p:∀i o,P i o->h[i]?=some o
 q:∀i o,P i o->∀(k:Nat) x,C[k]?≠some (i,x)
section
variable {P:Vp}{x y:O}
def Yl{C:List α}{k k':Nat}{a b:α}(e:(C.set k a)[k']?=some b):(k'=k/\b=a)\/(k'≠k/\C[k']?=some b):=by
 by_cases z:k=k'
 ·subst z;rw[List.getElem?_set]at e;split at e
  ·split at e<;>cases e;exact .inl ⟨rfl,rfl⟩
  ·contradiction
 ·rw[Xs z]at e;exact .inr ⟨Wq z,e⟩
def Own.lt(o:Own h C P){k:Nat}(e:C[k]?=some (i,x)):i<h.length:=(Xc.mp (o.c _ _ _ e)).1
theorem Own.set(o:Own h C P)(k:Nat)(e:C[k]?=some (i,x)):Own (h.set i y) (C.set k (i,y)) P:=by
 have ne:∀(k' j:Nat) z,k'≠k->C[k']?=some (j,z)->i≠j:=λk' j z n a b=>n (o.nd _ _ _ _ _ a (b▸e));refine⟨λk' j z a=>?_,λk1 k2 j z1 z2 a b=>?_,λj z a=>?_,λj z a k' z' b=>?_⟩
 ·rcases Yl a with⟨_,rfl,rfl⟩|⟨n,a⟩
  ·rw[X0 (o.lt e)]
  ·rw[Xs (ne _ _ _ n a)];exact o.c _ _ _ a
 ·rcases Yl a with⟨e1,a⟩|⟨n1,a⟩<;>rcases Yl b with⟨e2,b⟩|⟨n2,b⟩
  ·rw[e1,e2]
  ·cases a;exact absurd rfl (ne _ _ _ n2 b)
  ·cases b;exact absurd rfl (ne _ _ _ n1 a)
  ·exact o.nd _ _ _ _ _ a b
 ·rw[Xs (λz=>o.q _ _ a k x (by rw[<-z];exact e))];exact o.p _ _ a
 ·rcases Yl b with⟨_,b⟩|⟨_,b⟩
  ·cases b;exact o.q _ _ a _ _ e
  ·exact o.q _ _ a _ _ b
def Own.add(o:Own h C P):Own (h++[y]) C (ad P h.length y):=by
 refine⟨λk j z a=>Qn (o.c _ _ _ a),o.nd,λj z a=>?_,λj z a k z' b=>?_⟩
 ·rcases a with a|⟨rfl,rfl⟩
  ·exact Qn (o.p _ _ a)
  ·exact at0
 ·rcases a with a|⟨rfl,rfl⟩
  ·exact o.q _ _ a _ _ b
  ·exact absurd (o.lt b) (Wx _)
def Own.swap(o:Own h C P)(k:Nat)(e:C[k]?=some (i,x)):Own (h++[y]) (C.set k (h.length,y)) (ad P i x):=by
 refine⟨λk' j z a=>?_,λk1 k2 j z1 z2 a b=>?_,λj z a=>?_,λj z a k' z' b=>?_⟩
 ·rcases Yl a with⟨_,a⟩|⟨_,a⟩
  ·cases a;exact at0
  ·exact Qn (o.c _ _ _ a)
 ·rcases Yl a with⟨e1,a⟩|⟨_,a⟩<;>rcases Yl b with⟨e2,b⟩|⟨_,b⟩
  ·rw[e1,e2]
  ·cases a;exact absurd (o.lt b) (Wx _)
  ·cases b;exact absurd (o.lt a) (Wx _)
  ·exact o.nd _ _ _ _ _ a b
 ·rcases a with a|⟨rfl,rfl⟩
  ·exact Qn (o.p _ _ a)
  ·exact Qn (o.c _ _ _ e)
 ·have l:j<h.length:=by
   rcases a with a|⟨rfl,rfl⟩
   ·exact(Xc.mp (o.p _ _ a)).1
   ·exact o.lt e
  rcases Yl b with⟨_,b⟩|⟨n,b⟩
  ·cases b;exact absurd l (Wx _)
  ·rcases a with a|⟨rfl,rfl⟩
   ·exact o.q _ _ a _ _ b
   ·exact n (o.nd _ _ _ _ _ b e)
def Own.new(o:Own h C P):Own (h++[y]) (C++[(h.length,y)]) P:=by
 have cs:∀(k j:Nat) z,(C++[(h.length,y)])[k]?=some (j,z)->C[k]?=some (j,z)\/(k=C.length/\j=h.length/\z=y):=λk j z a=>by
  rw[List.getElem?_append]at a;split at a
  ·exact .inl a
  ·rename_i n;have l:=(Xc.mp a).1
   have e:k=C.length:=by simp at l;lia
   subst e;simp at a;exact .inr ⟨rfl,a.1.symm,a.2.symm⟩
 refine⟨λk j z a=>?_,λk1 k2 j z1 z2 a b=>?_,λj z a=>Qn (o.p _ _ a),λj z a k z' b=>?_⟩
 ·rcases cs _ _ _ a with a|⟨_,rfl,rfl⟩
  ·exact Qn (o.c _ _ _ a)
  ·exact at0
 ·rcases cs _ _ _ a with a|⟨e1,f1,_⟩<;>rcases cs _ _ _ b with b|⟨e2,f2,_⟩
  ·exact o.nd _ _ _ _ _ a b
  ·subst f2;exact absurd (o.lt a) (Wx _)
  ·subst f1;exact absurd (o.lt b) (Wx _)
  ·rw[e1,e2]
 ·rcases cs _ _ _ b with b|⟨_,rfl,_⟩
  ·exact o.q _ _ a _ _ b
  ·exact absurd (Xc.mp (o.p _ _ a)).1 (Wx _)
end
theorem Yt{T:Tbl}{w:Wk}{t:Tg}{body:Ex}(I:Nat->Rho->Hs->Prop){n:Nat}
  (st:∀i,i<n->∀Z hs,I i Z hs->∃x ρ' ρ2 h2,itm T w i hs=some (some x)/\tgt t x Z hs=some ρ'/\body ρ' hs=some (.next,ρ2,h2)/\I (i+1) ρ2 h2)
  (en:∀Z hs,I n Z hs->itm T w n hs=some none):
  ∀(m i k:Nat) (Z:Rho) (hs:Hs),n=i+m->m<k->I i Z hs->∃ρ2 h2,Z6 T w t body k i Z hs=some (.next,ρ2,h2)/\I n ρ2 h2
 |m,i,0,Z,hs,e,l,h=>by lia
 |0,i,k+1,Z,hs,e,l,h=>by
  have e':n=i:=by lia
  subst e'
  exact⟨Z,hs,by simp only[Z6,en Z hs h],h⟩
 |m+1,i,k+1,Z,hs,e,l,h=>by
  obtain⟨x,ρ',ρ1,h1,a,b,c,d⟩:=st i (by lia) Z hs h
  obtain⟨ρ2,h2,g1,g2⟩:=Yt I st en m (i+1) k ρ1 h1 (by lia) (by lia) d
  exact⟨ρ2,h2,by simp only[Z6,a,b,c,g1],g2⟩
theorem Y5{T:Tbl}{f:Ev}{ft:Rho->Hs->Option (Bool×Hs)}{w:Wk}{el:E}{Z:Rho}(I:Nat->List U->Hs->Prop){n:Nat}
  (st:∀i,i<n->∀acc hs,I i acc hs->acc.length<1000000/\∃x b h1,itm T w i hs=some (some (.one x))/\ft (Z++[some x]) hs=some (b,h1)/\(b=true->∃u h2,f el (Z++[some x]) h1=some (u,h2)/\I (i+1) (acc++[u]) h2)/\(b=false->I (i+1) acc h1))
  (en:∀acc hs,I n acc hs->itm T w n hs=some none):
  ∀(m i k:Nat) (acc:List U) (hs:Hs),n=i+m->m<k->I i acc hs->∃us h2,QS T f ft w false el Z k i acc hs=some (us,h2)/\I n us h2
 |m,i,0,acc,hs,e,l,h=>by lia
 |0,i,k+1,acc,hs,e,l,h=>by
  have e':n=i:=by lia
  subst e'
  exact⟨acc,hs,by simp only[QS,en acc hs h],h⟩
 |m+1,i,k+1,acc,hs,e,l,h=>by
  obtain⟨la,x,b,h1,a,t,y,z⟩:=st i (by lia) acc hs h
  have sx:(Z++[none]).set Z.length (some x)=Z++[some x]:=by
   rw[Vs _ _ (Xi _),Td];rfl
  cases b with
  |true=>
   obtain⟨u,h2,c,d⟩:=y rfl
   obtain⟨us,h3,g1,g2⟩:=Y5 I st en m (i+1) k _ h2 (by lia) (by lia) d
   refine⟨us,h3,?_,g2⟩;rw[QS];simp only[a,tgt,tgN,Qdl,X4,Wv,la,We,sx,t,Qh,c,g1]
  |false=>
   obtain⟨us,h3,g1,g2⟩:=Y5 I st en m (i+1) k _ h1 (by lia) (by lia) (z rfl)
   refine⟨us,h3,?_,g2⟩;rw[QS];simp only[a,tgt,tgN,Qdl,X4,Wv,la,We,sx,t,Qh,g1]
def Zo{P:α->β->Prop}{l:List α}{r:List β}(h:Paired P l r){b:β}(e:r[i]?=some b):∃a,l[i]?=some a/\P a b:=by
 induction h generalizing i with
 |nil=>cases e
 |cons x _ ih=>
  cases i with
  |zero=>cases(show some _=some _ from e);exact⟨_,rfl,x⟩
  |succ i=>exact ih e
def Qeu{R:U->α->Prop}{L:List α}{t:Tg}{body:Ex}(I:Nat->Rho->Hs->Prop)(pu:Paired R us L)(hl:∀i Z hs,I i Z hs->hs[l]?=some (.lst us))
  (st:∀i a v,L[i]?=some a->R v a->∀Z hs,I i Z hs->∃ρ' ρ2 h2,tgt t (.one v) Z hs=some ρ'/\body ρ' hs=some (.next,ρ2,h2)/\I (i+1) ρ2 h2) (h:I 0 Z hs):
  ∃ρ2 h2,Z6 T (.seqL (.ref l)) t body (Q3 T (.seqL (.ref l)) hs) 0 Z hs=some (.next,ρ2,h2)/\I L.length ρ2 h2:=by
 have el:=pu.length
 have e:Q3 T (.seqL (.ref l)) hs=us.length+1:=by simp only[Q3,QA,hl _ _ _ h,Uh]
 rw[e]
 refine Yt I (λi hi Z hs h=>?_) (λZ hs h=>?_) L.length 0 _ Z hs (Vk _).symm (by lia) h
 ·obtain⟨v,hv,dv⟩:=Zo pu (Xf hi);obtain⟨ρ',ρ2,h2,a,b,c⟩:=st i _ v (Xf hi) dv Z hs h
  exact⟨_,ρ',ρ2,h2,by simp only[itm,QA,hl _ _ _ h,Option.map,hv],a,b,c⟩
 ·have:us[L.length]?=none:=by rw[X6];lia
  simp only[itm,QA,hl _ _ _ h,Option.map,this]
def Qba{R:U->α->Prop}{L:List α}(v:ev T cf d e Z h=some (.ref l,hs))(I:Nat->List U->Hs->Prop)(pu:Paired R us L)(ll:L.length<=900000)(hl:∀i acc hs,I i acc hs->hs[l]?=some (.lst us))
  (st:∀i a v,L[i]?=some a->R v a->∀acc hs,I i acc hs->∃u h2,ev T cf d el (Z++[some v]) hs=some (u,h2)/\I (i+1) (acc++[u]) h2) (h0:I 0 [] hs):
  ∃vs h2,ev T cf (d+1) (.comp (.seq e) false none el) Z h=some (.ref h2.length,h2++[O.lst vs])/\I L.length vs h2:=by
 have ln:=pu.length
 have tn:Q3 T (.seqL (.ref l)) hs=us.length+1:=by simp only[Q3,QA,hl _ _ _ h0,Uh]
 have sr:Q4 T (ev T cf d) Z (.seq e) h=some (.seqL (.ref l),hs):=by simp only[Q4,v,Qh,wkS,QA,hl _ _ _ h0];rfl
 obtain⟨vs,h2,g,_,i2⟩:=Y5 (T:=T) (f:=ev T cf d) (ft:=Z9 (evT T cf d) none) (w:=.seqL (.ref l)) (el:=el) (Z:=Z) (λi acc h=>acc.length=i/\I i acc h) (n:=L.length)
  (λi hi acc hs h=>by
   obtain⟨v,hv,dv⟩:=Zo pu (Xf hi);obtain⟨u,h2,b,c⟩:=st i _ v (Xf hi) dv acc hs h.2
   exact⟨by lia,v,true,hs,by simp only[itm,QA,hl _ _ _ h.2,Option.map,hv],rfl,λy=>⟨u,h2,b,by rw[Xn,h.1];rfl,c⟩,λz=>(by cases z)⟩)
  (λacc hs h=>by
   have:us[L.length]?=none:=by rw[X6];lia
   simp only[itm,QA,hl _ _ _ h.2,Option.map,this]) L.length 0 (us.length+1) [] hs (Vk _).symm (by lia) ⟨rfl,h0⟩
 exact⟨vs,h2,ZU sr (by rw[tn];exact g),i2⟩
def dN(P:Vp)(u:U)(a:Nm):Prop:=∃i,u=.ref i/\P i (.tup (nmK a))
def dL(P:Vp)(u:U)(a:Lp):Prop:=∃i j us,u=.ref i/\P i (.tup [.ref j,.int a.sd 0,.int a.lf 0])/\P j (.tup us)/\Paired (dN P) us a.ps
def dW(P:Vp)(u:U)(a:List Lp):Prop:=∃i us,u=.ref i/\P i (.lst us)/\Paired (dL P) us a
def dK(P:Vp)(x:U×Nat×List U)(y:U×List Nm):Prop:=x.1=y.1/\Paired (dN P) x.2.2 y.2
def dN.le{P P1:Vp}(l:Le P P1){a:Nm}(h:dN P u a):dN P1 u a:=by obtain⟨i,e,h⟩:=h;exact⟨i,e,l _ _ h⟩
theorem dNs.le{P P1:Vp}(l:Le P P1){as:List Nm}(h:Paired (dN P) us as):Paired (dN P1) us as:=Qb (λz z=>dN.le l) h
theorem dL.le{P P1:Vp}(l:Le P P1){a:Lp}(h:dL P u a):dL P1 u a:=by obtain⟨i,j,us,e,h1,h2,h3⟩:=h;exact⟨i,j,us,e,l _ _ h1,l _ _ h2,dNs.le l h3⟩
theorem dW.le{P P1:Vp}(l:Le P P1){a:List Lp}(h:dW P u a):dW P1 u a:=by obtain⟨i,us,e,h1,h2⟩:=h;exact⟨i,us,e,l _ _ h1,Qb (λz z=>dL.le l) h2⟩
theorem dK.le{P P1:Vp}(l:Le P P1){x:U×Nat×List U}{y:U×List Nm}(h:dK P x y):dK P1 x y:=⟨h.1,dNs.le l h.2⟩
structure Ws where
 rows:List (List Lp)
 left:List Nm
 given:List Nm
 new:List Lp
 put:List (U×U)
 kept:List (U×List Nm)
 off:List Nm
structure Ct where
 r:Nat
 l:Nat
 g:Nat
 n:Nat
 p:Nat
 k:Nat
 o:Nat
 rr:List U
 ls:List U
 gs:List U
 ns:List U
 kc:List (U×Nat×List U)
 os:List U
noncomputable def QfQ(r l g n p k o:Nat):List (U×U):=[(.str [114,111,119,115],.ref r),(.str [108,101,102,116],.ref l),(.str [103,105,118,101,110],.ref g),(.str [110,101,119],.ref n),(.str [112,117,116],.ref p),(.str [107,101,112,116],.ref k),(.str [111,102,102],.ref o)]
noncomputable def Ct.D(c:Ct):O:=.dic (QfQ c.r c.l c.g c.n c.p c.k c.o)
noncomputable def Ct.giv(c:Ct)(u:U):Ct:={c with gs:=c.gs++[u]}
noncomputable def Ct.nw(c:Ct)(u:U):Ct:={c with ns:=c.ns++[u]}
noncomputable def Ct.of(c:Ct)(u:U):Ct:={c with os:=c.os++[u]}
noncomputable def Ct.lt(c:Ct)(x:Nat)(us:List U):Ct:={c with l:=x,ls:=us}
noncomputable def Ct.en(c:Ct)(x y:Nat):Ct:={c with l:=c.g,g:=x,n:=y,rr:=c.rr++[.ref c.n],ls:=c.gs,gs:=[],ns:=[]}
noncomputable def kd(kc:List (U×Nat×List U)):List (U×U):=kc.map λx=>(x.1,.ref x.2.1)
noncomputable def Yd(f:List (U×U)->O)(w:Nat)(c:Ct)(pt:List (U×U)):List (Nat×O):=(w,c.D)::(c.r,.lst c.rr)::(c.g,.lst c.gs)::(c.n,.lst c.ns)::(c.p,.dic pt)::(c.k,f (kd c.kc))::(c.o,.lst c.os)::c.kc.map λx=>(x.2.1,.lst x.2.2)
structure Sf(f:List (U×U)->O)(P:Vp)(h:Hs)(w:Nat)(c:Ct)(W:Ws):Prop where
 ow:Own h (Yd f w c W.put) P
 dr:Paired (dW P) c.rr W.rows
 lf:P c.l (.lst c.ls)
 dl:Paired (dN P) c.ls W.left
 dg:Paired (dN P) c.gs W.given
 dn:Paired (dL P) c.ns W.new
 dk:Paired (dK P) c.kc W.kept
 dο:Paired (dN P) c.os W.off
abbrev Sx:=Sf .dic
def St(P:Vp)(h:Hs)(w:Nat)(W:Ws):Prop:=∃c,Sx P h w c W
def To(P:Vp)(w:Nat)(W:Ws):U->Hs->Prop:=λu h=>u=.non/\∃P1,Le P P1/\St P1 h w W
section
variable {f:List (U×U)->O}{P:Vp}{c:Ct}{W:Ws}{y:O}
def Sf.up{P1:Vp}(s:Sf f P h w c W)(l:Le P P1)(o:Own h1 (Yd f w c W.put) P1):Sf f P1 h1 w c W:=⟨o,Qb (λz z=>dW.le l) s.dr,l _ _ s.lf,dNs.le l s.dl,dNs.le l s.dg,Qb (λz z=>dL.le l) s.dn,Qb (λz z=>dK.le l) s.dk,dNs.le l s.dο⟩
theorem Sf.add(s:Sf f P h w c W):Sf f (ad P h.length y) (h++[y]) w c W:=s.up le_ad s.ow.add
def Sf.cw(s:Sf f P h w c W):h[w]?=some c.D:=s.ow.c 0 _ _ rfl
def Sf.cr(s:Sf f P h w c W):h[c.r]?=some (.lst c.rr):=s.ow.c 1 _ _ rfl
def Sf.cg(s:Sf f P h w c W):h[c.g]?=some (.lst c.gs):=s.ow.c 2 _ _ rfl
def Sf.cn(s:Sf f P h w c W):h[c.n]?=some (.lst c.ns):=s.ow.c 3 _ _ rfl
def Sf.cl(s:Sf f P h w c W):h[c.l]?=some (.lst c.ls):=s.ow.p _ _ s.lf
def s_k{k:List Nat}(hw:h[w]?=some (.dic kvs))(e:QB kvs (.str k)=some v):QF T (.ref w) (.str k) h=some v:=by simp only[QF,hw,ZM,Qa8,We,e];rfl
def p_k{k:U}(hw:h[w]?=some (.dic kvs))(hk:Qa8 k=true)(l:kvs.length<1000000):Jd (.ref w) k u h=some (h.set w (.dic (Zt kvs k u))):=by simp only[Jd,hw,Jg,hk,l,true_and,We]
def p_w{k:Nat}{D:List (U×U)}{x:List Nat}(hw:h[w]?=some (.dic (QfQ r l g n p k o)))(e:Zt (QfQ r l g n p k o) (.str x) u=D):Jd (.ref w) (.str x) u h=some (h.set w (.dic D)):=by rw[p_k hw rfl (show 7<1000000 by decide),e]
def p_L{k x:Nat}(hw:h[w]?=some (.dic (QfQ r l g n p k o))):Jd (.ref w) (.str [108,101,102,116]) (.ref x) h=some (h.set w (.dic (QfQ r x g n p k o))):=p_w hw rfl
def p_G{k x:Nat}(hw:h[w]?=some (.dic (QfQ r l g n p k o))):Jd (.ref w) (.str [103,105,118,101,110]) (.ref x) h=some (h.set w (.dic (QfQ r l x n p k o))):=p_w hw rfl
def p_N{k x:Nat}(hw:h[w]?=some (.dic (QfQ r l g n p k o))):Jd (.ref w) (.str [110,101,119]) (.ref x) h=some (h.set w (.dic (QfQ r l g x p k o))):=p_w hw rfl
theorem Sf.giv{a:Nm}(s:Sf f P h w c W)(d:dN P u a):Sf f P (h.set c.g (.lst (c.gs++[u]))) w (c.giv u) {W with given:=W.given++[a]}:=⟨s.ow.set 2 rfl,s.dr,s.lf,s.dl,Qx d s.dg,s.dn,s.dk,s.dο⟩
theorem Sf.nw{a:Lp}(s:Sf f P h w c W)(d:dL P u a):Sf f P (h.set c.n (.lst (c.ns++[u]))) w (c.nw u) {W with new:=W.new++[a]}:=⟨s.ow.set 3 rfl,s.dr,s.lf,s.dl,s.dg,Qx d s.dn,s.dk,s.dο⟩
theorem Sf.of{a:Nm}(s:Sf f P h w c W)(d:dN P u a):Sf f P (h.set c.o (.lst (c.os++[u]))) w (c.of u) {W with off:=W.off++[a]}:=⟨s.ow.set 6 rfl,s.dr,s.lf,s.dl,s.dg,s.dn,s.dk,Qx d s.dο⟩
theorem Sf.lt{x:Nat}{as:List Nm}(s:Sf f P h w c W)(hx:P x (.lst us))(d:Paired (dN P) us as):Sf f P (h.set w (c.lt x us).D) w (c.lt x us) {W with left:=as}:=⟨s.ow.set 0 rfl,s.dr,hx,d,s.dg,s.dn,s.dk,s.dο⟩
end
noncomputable def sz(W:Ws):Nat:=szR W.rows+W.rows.length+W.left.length+W.given.length+W.new.length+W.put.length+Jx W.kept+W.kept.length+W.off.length
def Qat(W:Ws):szR W.rows<=sz W/\W.rows.length<=sz W/\W.left.length<=sz W/\W.given.length<=sz W/\W.new.length<=sz W/\W.put.length<=sz W/\Jx W.kept<=sz W/\W.kept.length<=sz W/\W.off.length<=sz W:=by unfold sz;lia
noncomputable def QcN(m:Nat)(c:Int):Int:=if m=0 then 0 else 1-2*(c % 2)
noncomputable def QfJ(W:Ws)(lp:Lp):Ws:={W with given:=W.given++[((W.rows.length:Int),(W.new.length:Int))],new:=W.new++[lp]}
noncomputable def Yj(W:Ws)(nms:List Nm)(c z:Int):Ws:=QfJ W ⟨nms,QcN nms.length c,z⟩
noncomputable def gvS:S:=.expr (.bm .append (.ix (.var 0) (.c (.str [103,105,118,101,110]))) [(.tup [(.bi .len [(.ix (.var 0) (.c (.str [114,111,119,115])))]),(.bi .len [(.ix (.var 0) (.c (.str [110,101,119])))])])])
noncomputable def nwS(e:E):S:=.expr (.bm .append (.ix (.var 0) (.c (.str [110,101,119]))) [e])
def QkM{P:Vp}{W:Ws}{lp:Lp}{r:List S}(s:St P h w W)(l:sz W<900000)(r0:Z[0]?=some (sR w))
  (he:∀P1 h1,Le P P1->St P1 h1 w {W with given:=W.given++[((W.rows.length:Int),(W.new.length:Int))]}->Rr T cf (d+6) e Z h1 λu h2=>∃P2,Le P1 P2/\dL P2 u lp/\∀c,Sx P1 h1 w c {W with given:=W.given++[((W.rows.length:Int),(W.new.length:Int))]}->Sx P2 h2 w c {W with given:=W.given++[((W.rows.length:Int),(W.new.length:Int))]})
  (q:∀P1 h1,Le P P1->St P1 h1 w (QfJ W lp)->Xx T cf (d+8) r Z h1 Q):Xx T cf (d+10) (gvS::nwS e::r) Z h Q:=by
 obtain⟨c,s⟩:=s;have z:=Qat W;have v1:=YK (T:=T) (cf:=cf) (d:=d+5) (Z:=Z) (QN r0 (s_k s.cw (k:=[114,111,119,115]) rfl)) s.cr;have v2:=YK (T:=T) (cf:=cf) (d:=d+5) (Z:=Z) (QN r0 (s_k s.cw (k:=[110,101,119]) rfl)) s.cn;rw[Qd s.dr]at v1;rw[Qd s.dn]at v2;refine YQ (QcQ (QN r0 (s_k s.cw rfl)) s.cg (Zi (Jj v1 v2) ⟨c.gs,s.add.cg,?_,?_⟩))
 ·rw[Qd s.dg];lia
 have s1:=(s.add (y:=.tup [.int (W.rows.length:Int) 0,.int (W.new.length:Int) 0])).giv (a:=((W.rows.length:Int),(W.new.length:Int))) ⟨_,rfl,QZ⟩;obtain⟨u,h2,e2,P2,l2,d2,k2⟩:=he _ _ le_ad ⟨_,s1⟩;have s2:=k2 _ s1;refine YQ (QcQ (QN r0 (s_k s1.cw rfl)) s1.cn ⟨u,h2,e2,c.ns,s2.cn,?_,q _ _ (le_ad.trans l2) ⟨_,s2.nw d2⟩⟩);rw[Qd s.dn];lia
def QrV{b c d:U}:Qa (tbG xx s) (m+1) 10 [a,b,c,d] hs=fin (exs (tbG xx s) (Qa (tbG xx s) m) dd b10 [some a,some b,some c,some d,none] hs):=rfl
def YJ{pa:Nat}{P:Vp}{W:Ws}{nms:List Nm}{c:Int}(st:St P h w W)(hp:P pa (.lst us))(pu:Paired (dN P) us nms)(l:sz W<900000):Cc (tbG xx s) (m+1) 10 [.ref w,.ref pa,.int c 0,.int z 0] h (To P w (Yj W nms c z)):=by
 have tl:Xx (tbG xx s) (Qa (tbG xx s) m) 98 [gvS,nwS (.tup [(.bi .tuple [(.var 1)]),(.var 4),(.var 3)])] [sR w,sR pa,sI c,sI z,sI (QcN nms.length c)] h (Fq (To P w (Yj W nms c z))):=by
  refine QkM (d:=88) st l rfl (λP1 h1 l1 y=>?_) λP1 h1 l1 s1=>QK ⟨rfl,P1,l1,s1⟩;obtain⟨k,s1⟩:=y;have hp1:=s1.ow.p _ _ (l1 _ _ hp);exact Zi (Qdw (Qkv (Qc rfl) (QnQ hp1)) (Qc rfl) (Qc rfl)) ⟨_,le_ad.trans le_ad,⟨_,_,us,rfl,QZ,.inl QZ,dNs.le (l1.trans (le_ad.trans le_ad)) pu⟩,λk s1=>s1.add.add⟩
 have hp0:=st.elim λx s1=>s1.ow.p _ _ hp;have ln:=Qd pu;refine Qic QrV (QR (Zi y_c (Qb3 (QnU (YK (Qc rfl) hp0) y_c) ?_)));by_cases e:nms.length=0
 ·have e1:¬((0:Int) < us.length):=by lia
  have e2:QcN nms.length c=0:=if_pos e;rw[e2]at tl;rw[Wa e1];exact QK tl
 ·have e1:(0:Int) < us.length:=by lia
  have e2:QcN nms.length c=1-2*(c % 2):=if_neg e;rw[e2]at tl;rw[W5 e1]
  exact QR (Zi (QkS (Zv (Qc rfl) (by decide))) (QK tl))
noncomputable def Jk(W:Ws):Ws:={W with rows:=W.rows++[W.new],left:=W.given,given:=[],new:=[]}
def QrU:Qa (tbG xx s) (m+1) 11 [a] hs=fin (exs (tbG xx s) (Qa (tbG xx s) m) dd b11 [some a] hs):=rfl
def QkN{P:Vp}{W:Ws}(st:St P h w W)(l:sz W<900000):Cc (tbG xx s) (m+1) 11 [.ref w] h (To P w (Jk W)):=by
 obtain⟨c,st⟩:=st;have z:=Qat W;have o1:=st.ow.set 1 (y:=.lst (c.rr++[.ref c.n])) rfl;have o2:=λy=>(o1.set 0 (y:=y) rfl).swap 2 (y:=.lst []) rfl;have o3:=λy y'=>((o2 y).set 0 (y:=y') rfl).swap 3 (y:=.lst []) rfl;have u:=le_ad (P:=P) (j:=c.g) (x:=.lst c.gs);have v:=le_ad (P:=ad P c.g (.lst c.gs)) (j:=c.n) (x:=.lst c.ns);refine Qic QrU (YQ (QcQ (QN rfl (s_k st.cw rfl)) st.cr (Zi (QN rfl (s_k st.cw (v:=.ref c.n) rfl)) ⟨c.rr,st.cr,?_,?_⟩)))
 ·rw[Qd st.dr];lia
 refine Qd0 (QN rfl (s_k (o1.c 0 _ _ rfl) (v:=.ref c.g) rfl)) (Qc rfl) y_c (p_L (o1.c 0 _ _ rfl)) ?_;refine Qd0 (y_lst.trans rfl) (Qc rfl) y_c (p_G ((o2 _).c 0 _ _ rfl)) ?_;exact Qd0 (y_lst.trans rfl) (Qc rfl) y_c (p_N ((o3 _ _).c 0 _ _ rfl)) (QK ⟨rfl,ad (ad P c.g (.lst c.gs)) c.n (.lst c.ns),le_ad.trans le_ad,c.en _ _,⟨(o3 _ _).set 0 rfl,Qx ⟨c.n,c.ns,rfl,QZ,Qb (λt t=>dL.le (u.trans v)) st.dn⟩ (Qb (λt t=>dW.le (u.trans v)) st.dr),v _ _ QZ,dNs.le (u.trans v) st.dg,.nil,.nil,Qb (λt t=>dK.le (u.trans v)) st.dk,dNs.le (u.trans v) st.dο⟩⟩)
theorem Qew{k:U}:∀(kvs:List (U×U)),QcV kvs k=QB kvs k
 |[]=>rfl
 | (x,v)::r=>by
  unfold QcV QB;by_cases e:x=k
  ·rw[if_pos e,Tx (by simpa using e)];rfl
  ·rw[if_neg e,V4 (by simpa using e)];exact Qew r
theorem QgH{k:U}:∀(kp:List (U×List Nm)),(∃(i:Nat) (nms:List Nm),kp[i]?=some (k,nms)/\kp.find? (λp=>decide (p.1=k))=some (k,nms)/\∀(P:Vp) kc,Paired (dK P) kc kp->∃p us,kc[i]?=some (k,p,us)/\Paired (dN P) us nms/\QB (kd kc) k=sR p)\/((∀y∈kp,y.1≠k)/\kp.find? (λp=>decide (p.1=k))=none/\∀(P:Vp) kc,Paired (dK P) kc kp->QB (kd kc) k=none)
 |[]=>.inr ⟨λz m=>(by cases m),rfl,λP kc h=>(by cases h;rfl)⟩
 | (x,nms)::kp=>by
  by_cases e:x=k
  ·subst e
   refine .inl ⟨0,nms,rfl,Tx (by simp),λP kc h=>?_⟩
   cases h with
   | @cons a _ kc _ ha _=>
    obtain⟨y,p,us⟩:=a;obtain⟨rfl,d⟩:=ha
    exact⟨p,us,rfl,d,by unfold QB kd;rw[Xu,Tx (by simp)];rfl⟩
  ·have st:∀(a:U×Nat×List U) kc,a.1=x->QB (kd (a::kc)) k=QB (kd kc) k:=λa kc ea=>by
    unfold QB kd
    rw[Xu,V4 (by simpa[ea]using e)]
   rcases QgH (k:=k) kp with⟨i,n,e1,f1,r⟩|⟨m,f1,r⟩
   ·refine .inl ⟨i+1,n,e1,(V4 (by simpa using e)).trans f1,λP kc h=>?_⟩
    cases h with
    |cons ha t=>
     obtain⟨p,us,a1,a2,a3⟩:=r P _ t
     exact⟨p,us,a1,a2,by rw[st _ _ ha.1];exact a3⟩
   ·refine .inr ⟨λy my=>?_,(V4 (by simpa using e)).trans f1,λP kc h=>?_⟩
    ·rcases X5.mp my with rfl|my
     ·exact e
     ·exact m y my
    ·cases h with
     |cons ha t=>rw[st _ _ ha.1];exact r P _ t
theorem J0{p:U×List Nm}:∀{kept:List (U×List Nm)},p∈kept->p.2.length<=Jx kept
 |x::r,h=>by
  unfold Jx;rw[Xu,Vl]
  rcases X5.mp h with rfl|h
  ·lia
  ·have:=J0 h;unfold Jx at this;lia
def Qi4{P:α->β->Prop}{a:α}{b:β}(h:P a b){l:List α}{r:List β}(i:Nat)(t:Paired P l r):Paired P (l.set i a) (r.set i b):=by
 induction t generalizing i with
 |nil=>exact .nil
 |cons x t ih=>
  cases i with
  |zero=>exact .cons h t
  |succ i=>exact .cons x (ih i)
theorem Qcm{k:U}{nms:List Nm}{a:Nm}:∀{kp:List (U×List Nm)} {i:Nat},kp[i]?=some (k,nms)->Jx (kp.set i (k,nms++[a]))=Jx kp+1
 | (x,n)::kp,0,e=>by cases e;simp[Jx];lia
 | (x,n)::kp,i+1,e=>by have:=Qcm (a:=a) (kp:=kp) (i:=i) e;simp only[Jx,X9,Xu,Vl]at this ⊢;lia
theorem Jv{k:U}{p:Nat}{us vs:List U}:∀{kc:List (U×Nat×List U)} {i:Nat},kc[i]?=some (k,p,us)->kd (kc.set i (k,p,vs))=kd kc
 |x::kc,0,e=>by cases e;rfl
 |x::kc,i+1,e=>congrArg ((x.1,U.ref x.2.1)::·) (Jv (kc:=kc) e)
noncomputable def Ct.kp(c:Ct)(kc:List (U×Nat×List U)):Ct:={c with kc:=kc}
section
variable {P:Vp}{c:Ct}{W:Ws}{k:U}{a:Nm}
def Sf.ptd{f:List (U×U)->O}(s:Sf f P h w c W){pt:List (U×U)}:Sf f P (h.set c.p (.dic pt)) w c {W with put:=pt}:=⟨s.ow.set 4 rfl,s.dr,s.lf,s.dl,s.dg,s.dn,s.dk,s.dο⟩
def Sf.k7(s:Sx P h w c W)(k1:c.kc[j]?=some (k,p,us)):(Yd .dic w c W.put)[j+7]?=some (p,.lst us):=by
 show(c.kc.map λx=>(x.2.1,O.lst x.2.2))[j]?=_;rw[Wt,k1];rfl
def Sf.kold(s:Sx P h w c W){nms:List Nm}(k1:c.kc[j]?=some (k,p,us))(k2:Paired (dN P) us nms)(du:dN P u a):Sx P (h.set p (.lst (us++[u]))) w (c.kp (c.kc.set j (k,p,us++[u]))) {W with kept:=W.kept.set j (k,nms++[a])}:=by
 refine⟨?_,s.dr,s.lf,s.dl,s.dg,s.dn,Qi4 ⟨rfl,Qx du k2⟩ _ s.dk,s.dο⟩
 have e:Yd .dic w (c.kp (c.kc.set j (k,p,us++[u]))) W.put=(Yd .dic w c W.put).set (j+7) (p,.lst (us++[u])):=by
  unfold Yd Ct.kp;simp only[Jv k1,List.map_set];rfl
 rw[e];exact s.ow.set (j+7) (s.k7 k1)
def Sf.knew(s:Sx P h w c W)(du:dN P u a):Sx P (((h++[O.lst []]).set c.k (O.dic (kd c.kc++[(k,U.ref h.length)]))).set h.length (O.lst ([]++[u]))) w (c.kp (c.kc++[(k,h.length,[u])])) {W with kept:=W.kept++[(k,[a])]}:=by
 refine⟨?_,s.dr,s.lf,s.dl,s.dg,s.dn,Qx ⟨rfl,.cons du .nil⟩ s.dk,s.dο⟩;have o2:=(s.ow.new (y:=.lst [])).set 5 (y:=.dic (kd c.kc++[(k,.ref h.length)])) rfl;have e7:(Yd .dic w c W.put++[(h.length,O.lst [])]).set 5 (c.k,.dic (kd c.kc++[(k,.ref h.length)]))=(w,c.D)::(c.r,.lst c.rr)::(c.g,.lst c.gs)::(c.n,.lst c.ns)::(c.p,.dic W.put)::(c.k,.dic (kd c.kc++[(k,.ref h.length)]))::(c.o,.lst c.os)::(c.kc.map (λx=>(x.2.1,O.lst x.2.2))++[(h.length,O.lst [])]):=rfl;rw[e7]at o2
 have o3:=o2.set (c.kc.length+7) (y:=.lst ([]++[u])) (show(c.kc.map (λx=>(x.2.1,O.lst x.2.2))++[(h.length,O.lst [])])[c.kc.length]?=some (h.length,O.lst []) by simp)
 have e:Yd .dic w (c.kp (c.kc++[(k,h.length,[u])])) W.put=((w,c.D)::(c.r,.lst c.rr)::(c.g,.lst c.gs)::(c.n,.lst c.ns)::(c.p,.dic W.put)::(c.k,.dic (kd c.kc++[(k,.ref h.length)]))::(c.o,.lst c.os)::(c.kc.map (λx=>(x.2.1,O.lst x.2.2))++[(h.length,O.lst [])])).set (c.kc.length+7) (h.length,.lst ([]++[u])):=by
  unfold Yd Ct.kp kd;simp;rfl
 rw[e];exact o3
end
def QrT{b c:U}:Qa (tbG xx s) (m+1) 12 [a,b,c] hs=fin (exs (tbG xx s) (Qa (tbG xx s) m) dd b12 [some a,some b,some c,none,none] hs):=rfl
def QoH:∃c,∀T h,QF T (.str [119,120,121,122]) (.int (x / 3 % 4) 0) h=some (.str [c]):=by
 have h1:0<=x / 3 % 4:=W9 _ (by decide)
 have h2:x / 3 % 4<4:=Vb _ (by decide)
 generalize x / 3 % 4=y at h1 h2
 have:y=0\/y=1\/y=2\/y=3:=by lia
 rcases this with rfl|rfl|rfl|rfl<;>exact⟨_,λz z=>rfl⟩
def QnO{k:U}(a:ev T cf (d+1) e Z h=some (.ref p,h))(hp:h[p]?=some (.dic kvs))(hi:Z[i]?=some (some k))(hj:Z[j]?=some (some v))(hk:Qa8 k=true):ev T cf (d+2) (.bm .get e [.var i,.var j]) Z h=some ((QB kvs k).getD v,h):=by
 rw[Qih,a,Qh,if_pos (by simp only[Qdk,hp];rfl)]
 simp only[evs,Qm,hi,hj,Qh,bmU,hp,bmD,hk,We]
def QnN{k:U}{r:Option (U×Hs)}(a:ev T cf (d+1) e Z h=some (.ref p,h))(hp:h[p]?=some (.dic kvs))(hi:Z[i]?=some (some k))(hk:Qa8 k=true)(l:kvs.length<1000000)
  (er:(match QB kvs k with|some x=>some (x,h++[.lst []])|none=>some (.ref h.length,(h++[O.lst []]).set p (.dic (kvs++[(k,.ref h.length)]))))=r):ev T cf (d+2) (.bm .setdef e [.var i,.lst []]) Z h=r:=by
 rw[Qih,a,Qh,if_pos (by simp only[Qdk,hp];rfl)]
 have hp1:(h++[O.lst []])[p]?=some (.dic kvs):=Qn hp;simp only[evs,Qm,hi,y_lst,Qh,bmU,hp1,bmD,hk,l,true_and,We,Qew];exact er
def QgA{k:U}(e:QB kvs k=some v):∃p∈kvs,p.2=v:=by
 unfold QB at e
 cases f:kvs.find? λp=>decide (p.1=k)with
 |none=>rw[f]at e;cases e
 |some p=>rw[f]at e;cases e;exact⟨p,List.mem_of_find?_eq_some f,rfl⟩
def Qgf{k:U}{p:U×U}(m:p∈Zt kvs k v):p.2=v\/p∈kvs:=by
 unfold Zt at m;split at m
 ·obtain⟨q,mq,rfl⟩:=Wg.mp m;split
  ·exact .inl rfl
  ·exact .inr mq
 ·rcases Wo.mp m with m|m
  ·exact .inr m
  ·rw[Wh.mp m];exact .inl rfl
def Qb5{κ:Type}[DecidableEq κ]{kvs:List (κ×U)}{k:κ}:(Zt kvs k v).length<=kvs.length+1:=by
 unfold Zt;split<;>simp
def Iv'(pt:List (U×U)):Prop:=∀p∈pt,∃i,p.2=.int i 0
def Kk(kp:List (U×List Nm)):Prop:=∀y∈kp,Qa8 y.1=true
def QnM{W:Ws}{a:Nm}(hv:Iv' W.put)(hk:Kk W.kept)(l:sz W<900000):∃pt kp of,Iv' pt/\Kk kp/\pt.length+Jx kp+kp.length+of.length<=W.put.length+Jx W.kept+W.kept.length+W.off.length+3/\of.length+kp.length<=W.off.length+W.kept.length+1 /\
  ∀(w:Nat) (P:Vp) h u,St P h w W->dN P u a->Cc (tbG xx s) (m+1) 12 [.ref w,u,.int x 0] h (To P w {W with put:=pt,kept:=kp,off:=of}):=by
 obtain⟨ch,hc⟩:=QoH (x:=x)
 obtain⟨i,hi⟩:∃i,(QB W.put (.str [ch])).getD (.int (W.rows.length:Int) 0)=.int i 0:=by
  cases e:QB W.put (.str [ch])with
  |none=>exact⟨_,rfl⟩
  |some v=>obtain⟨p,mp,rfl⟩:=QgA e;obtain⟨i,e⟩:=hv p mp;exact⟨i,e⟩
 have z:=Qat W
 have hd:∀{w:Nat} (P:Vp) h u c (Q:U->Hs->Prop),Sx P h w c W->Xx (tbG xx s) (Qa (tbG xx s) m) 96 (if decide (0<x % 3/\i=(W.rows.length:Int))=true then [(.put (.ix (.var 0) (.c (.str [112,117,116]))) (.var 3) (.var 4)),(.expr (.bm .append (.bm .setdef (.ix (.var 0) (.c (.str [107,101,112,116]))) [(.var 3),(.lst [])]) [(.var 1)]))]else [(.expr (.bm .append (.ix (.var 0) (.c (.str [111,102,102]))) [(.var 1)]))]) [sR w,some u,sI x,some (.str [ch]),sI (W.rows.length:Int)] h (Fq Q)->Cc (tbG xx s) (m+1) 12 [.ref w,u,.int x 0] h Q:=λ{w} P h u c Q st q=>by
  have v1:=YK (T:=tbG xx s) (cf:=Qa (tbG xx s) m) (d:=96) (Z:=[sR w,some u,sI x,some (.str [ch]),none]) (QN (i:=0) rfl (s_k st.cw (k:=[114,111,119,115]) rfl)) st.cr;rw[Qd st.dr]at v1;have v2:=QnO (T:=tbG xx s) (cf:=Qa (tbG xx s) m) (d:=91) (Z:=[sR w,some u,sI x,some (.str [ch]),sI (W.rows.length:Int)]) (i:=3) (j:=4) (QN (i:=0) rfl (s_k st.cw (k:=[112,117,116]) rfl)) (st.ow.c 4 _ _ rfl) rfl rfl rfl;rw[hi]at v2
  refine Qic QrT (QR (Zi (y_ix.trans ?_) (QR (Zi v1 (QiW (Qbb (QnU (Zv (Qc rfl) (by decide)) y_c) (Qkw v2 (Qc rfl))) ?_)))))
  ·rw[y_c,Qh,Zv (ZC (Qc rfl) (by decide)) (by decide),Qh,hc];rfl
  ·exact q
 by_cases t:0<x % 3/\i=(W.rows.length:Int)
 ·simp only[W5 t,We]at hd;have hv1:Iv' (Zt W.put (.str [ch]) (.int (W.rows.length:Int) 0)):=λp mp=>(Qgf mp).elim (λe=>⟨_,e⟩) (hv p);have lp:(Zt W.put (.str [ch]) (.int (W.rows.length:Int) 0)).length<=W.put.length+1:=Qb5
  have HP:∀{w:Nat} {P:Vp} {h c},Sx P h w c W->Jd (.ref c.p) (.str [ch]) (.int (W.rows.length:Int) 0) h=some (h.set c.p (.dic (Zt W.put (.str [ch]) (.int (W.rows.length:Int) 0)))):=λst=>p_k (st.ow.c 4 _ _ rfl) rfl (by lia)
  generalize Zt W.put (.str [ch]) (.int (W.rows.length:Int) 0)=pt at hv1 lp HP
  have go:∀{w:Nat} {P:Vp} {h u c Q},Sx P h w c W->(∀r,(match QB (kd c.kc) (.str [ch])with|some x=>some (x,h.set c.p (.dic pt)++[.lst []])|none=>some (.ref (h.set c.p (.dic pt)).length,(h.set c.p (.dic pt)++[O.lst []]).set c.k (.dic (kd c.kc++[(.str [ch],.ref (h.set c.p (.dic pt)).length)]))))=some r->∃p ys,r.1=.ref p/\r.2[p]?=some (.lst ys)/\ys.length<1000000/\Q .non (r.2.set p (.lst (ys++[u]))))->Cc (tbG xx s) (m+1) 12 [.ref w,u,.int x 0] h Q:=λ{w P h u c Q} st q=>by
   have s1:=st.ptd (pt:=pt)
   have ld:(kd c.kc).length<1000000:=by have e:=Qd st.dk;simp only[kd,Wd];lia
   obtain⟨⟨v,h2⟩,er⟩:∃r,(match QB (kd c.kc) (.str [ch])with|some x=>some (x,h.set c.p (.dic pt)++[.lst []])|none=>some (.ref (h.set c.p (.dic pt)).length,(h.set c.p (.dic pt)++[O.lst []]).set c.k (.dic (kd c.kc++[(.str [ch],.ref (h.set c.p (.dic pt)).length)]))))=some r:=by split<;>exact⟨_,rfl⟩
   obtain⟨p,ys,e1,e2,e3,e4⟩:=q _ er;simp only at e1;subst e1;exact hd P h u c _ st (Qd0 (Qc rfl) (QN rfl (s_k st.cw rfl)) (Qc rfl) (HP st) (YQ (QcQ (QnN (QN rfl (s_k s1.cw rfl)) (s1.ow.c 5 _ _ rfl) rfl rfl ld er) e2 (Zi (Qc rfl) ⟨ys,e2,e3,QK e4⟩))))
  rcases QgH (k:=.str [ch]) W.kept with⟨j,nms,e1,_,r⟩|⟨_,_,r⟩
  ·refine⟨pt,W.kept.set j (.str [ch],nms++[a]),W.off,hv1,λy m=>(List.mem_or_eq_of_mem_set m).elim (hk y) (λe=>by rw[e];rfl),?_,by rw[Sg];lia,λw P h u ⟨c,st⟩ du=>go st λr0 er=>?_⟩
   ·rw[Qcm e1,Sg];lia
   obtain⟨p,us,k1,k2,k3⟩:=r P _ st.dk;have s1:=(st.ptd (pt:=pt)).add (y:=.lst []);rw[k3]at er;cases er
   have l7:us.length<1000000:=by have e:=Qd k2;have:=J0 (Xv e1);simp only at this;lia
   exact⟨p,us,rfl,s1.ow.c _ _ _ (s1.k7 k1),l7,rfl,_,le_ad,_,s1.kold k1 (dNs.le le_ad k2) (dN.le le_ad du)⟩
  ·refine⟨pt,W.kept++[(.str [ch],[a])],W.off,hv1,λy m=>(Wo.mp m).elim (hk y) (λe=>by rw[Wh.mp e];rfl),?_,by rw[Xn];exact Xi _,λw P h u ⟨c,st⟩ du=>go st λr0 er=>?_⟩
   ·simp[Jx];unfold Jx at *;lia
   rw[r P _ st.dk]at er;cases er;have s1:=st.ptd (pt:=pt)
   refine⟨_,[],rfl,?_,by decide,rfl,P,Le.refl,_,s1.knew du⟩
   have:=s1.ow.lt (k:=5) rfl
   rw[Xs (by lia)]
   exact at0
 ·simp only[Wa t,X4,Wv]at hd
  refine⟨W.put,W.kept,W.off++[a],hv,hk,by simp;lia,by simp;lia,λw P h u ⟨c,st⟩ du=>hd P h u c _ st ?_⟩
  have o6:=st.ow.c 6 _ _ rfl
  exact YQ (QcQ (QN rfl (s_k st.cw rfl)) o6 (Zi (Qc rfl) ⟨c.os,o6,by rw[Qd st.dο];lia,QK ⟨rfl,P,Le.refl,_,st.of du⟩⟩))
def Vr(R:List (List Lp))(a:Nm):Prop:=∃(r i:Nat) (row:List Lp),a=((r:Int),(i:Int))/\R[r]?=some row/\i<row.length
def Vr.app{R S:List (List Lp)}{a:Nm}(h:Vr R a):Vr (R++S) a:=by
 obtain⟨r,i,row,e,e1,l⟩:=h
 exact⟨r,i,row,e,by rw[Xp (Xc.mp e1).1];exact e1,l⟩
def Vr.grow{R:List (List Lp)}{new:List Lp}{lp:Lp}{a:Nm}(h:Vr (R++[new]) a):Vr (R++[new++[lp]]) a:=by
 obtain⟨r,i,row,e,e1,l⟩:=h;by_cases c:r<R.length
 ·exact⟨r,i,row,e,by rw[Xp c]at e1 ⊢;exact e1,l⟩
 ·have lr:=(Xc.mp e1).1
  have er:r=R.length:=by simp at lr;lia
  subst er;simp at e1;subst e1
  exact⟨R.length,i,new++[lp],e,by simp,by rw[Xn];lia⟩
structure Gd(W:Ws):Prop where
 left:∀a∈W.left,Vr W.rows a
 given:∀a∈W.given,Vr (W.rows++[W.new]) a
 new:∀lp∈W.new,lp.ps.length<=8/\∀a∈lp.ps,Vr W.rows a
 rows:∀(r:Nat) row,W.rows[r]?=some row->∀lp∈row,lp.ps.length<=8/\∀a∈lp.ps,Vr (W.rows.take r) a
 put:Iv' W.put
 kk:Kk W.kept
def QmB{W:Ws}{lp:Lp}(g:Gd W)(h8:lp.ps.length<=8)(hp:∀a∈lp.ps,Vr W.rows a):Gd (QfJ W lp):=by
 refine⟨g.left,λa m=>?_,λp m=>?_,g.rows,g.put,g.kk⟩
 ·rcases Wo.mp m with m|m
  ·exact(g.given a m).grow
  ·rw[Wh.mp m]
   exact⟨W.rows.length,W.new.length,W.new++[lp],rfl,by simp[QfJ],by simp⟩
 ·rcases Wo.mp m with m|m
  ·exact g.new p m
  ·rw[Wh.mp m];exact⟨h8,hp⟩
def QeO{W:Ws}(g:Gd W):Gd (Jk W):=by
 refine⟨g.given,λa m=>(by cases m),λp m=>(by cases m),λr row e lp m=>?_,g.put,g.kk⟩
 have e:(W.rows++[W.new])[r]?=some row:=e;show _/\∀a∈lp.ps,Vr ((W.rows++[W.new]).take r) a;by_cases l:r<W.rows.length
 ·rw[Xp l]at e;rw[List.take_append_of_le_length (Nat.le_of_lt l)];exact g.rows r row e lp m
 ·have lr:=(Xc.mp e).1
  have er:r=W.rows.length:=by simp at lr;lia
  subst er;simp at e;subst e;simpa using g.new lp m
def QdM(W:Ws)(lp:Lp):sz (QfJ W lp)=sz W+2:=by simp[sz,QfJ];lia
def Qhz(W:Ws):sz (Jk W)+W.left.length=sz W+1:=by simp[sz,Jk,szR];lia
structure Tr(k:Nat)(W W':Ws):Prop where
 gd:Gd W'
 rw:W'.rows=W.rows
 sz:sz W'<=sz W+k
 of:W'.off.length+W'.kept.length<=W.off.length+W.kept.length+1
structure Ek(n:Nat)(W W':Ws):Prop where
 gd:Gd W'
 rw:W'.rows=W.rows
 sz:sz W'=sz W+n
 of:W'.off=W.off
 kp:W'.kept=W.kept
def Ek.tr{k:Nat}{W W':Ws}(e:Ek n W W')(l:n<=k):Tr k W W':=⟨e.gd,e.rw,by rw[e.sz];lia,by rw[e.of,e.kp];lia⟩
def QaR{W:Ws}{lp:Lp}(g:Gd W)(h8:lp.ps.length<=8)(hp:∀a∈lp.ps,Vr W.rows a):Ek 2 W (QfJ W lp):=⟨QmB g h8 hp,rfl,QdM W lp,rfl,rfl⟩
theorem Y2{α:Type}{op:Ws->α->Ws}{ok:List (List Lp)->α->Prop}(hop:∀W a,Gd W->ok W.rows a->Ek 2 W (op W a)):∀(l:List α) {W:Ws},Gd W->(∀a∈l,ok W.rows a)->Ek (2*l.length) W (l.foldl op W)
 |[],W,g,_=>⟨g,rfl,rfl,rfl,rfl⟩
 |a::r,W,g,hn=>by
  have e:=hop W a g (hn a Xq)
  have t:=Y2 hop r e.gd λb m=>by rw[e.rw];exact hn b (Xm _ m)
  exact⟨t.gd,t.rw.trans e.rw,by have:=t.sz;have:=e.sz;simp only[Vx,X8]at *;lia,t.of.trans e.of,t.kp.trans e.kp⟩
def Qe2{W:Ws}{a:Nm}(g:Gd W)(h:Vr W.rows a):Ek 2 W (QfJ W ⟨[a],x,z⟩):=QaR g (show 1<=8 by decide) λb m=>by rw[Wh.mp m];exact h
noncomputable def Qqs(W:Ws)(nms:List Nm)(x z:Int):Ws:=nms.foldl (λW a=>Yj W [a] x z) W
def QhZ{L v:Nat}{P:Vp}{W:Ws}{nms:List Nm}(op:Ws->Nm->Ws)(K:Nat->Ws->Prop)(st:St P h w W)(hp:P L (.lst us))(pu:Paired (dN P) us nms)(rv:v < Z.length)(k0:K 0 W)
  (sp:∀i W1 a,i<nms.length->K i W1->a∈nms->K (i+1) (op W1 a)/\∀P1 h1 u,St P1 h1 w W1->dN P1 u a->Xx T cf d body (Z.set v (some u)) h1 (λf ρ2 h2=>f=.next/\ρ2=Z.set v (some u)/\∃P2,Le P1 P2/\St P2 h2 w (op W1 a))):
  ∃o h2,Z6 T (.seqL (.ref L)) (.name v) (exs T cf d body) (us.length+1) 0 Z h=some (.next,Z.set v o,h2)/\∃P1,Le P P1/\St P1 h2 w (nms.foldl op W):=by
 have ln:=Qd pu
 obtain⟨ρ2,h2,q1,⟨o,q2⟩,P1,l1,q3,_⟩:=Yt (T:=T) (w:=.seqL (.ref L)) (t:=.name v) (body:=exs T cf d body) (n:=us.length) (λi ρ' h'=>(∃o,ρ'=Z.set v o)/\∃P1,Le P P1/\St P1 h' w ((nms.take i).foldl op W)/\K i ((nms.take i).foldl op W))
  (λi hi ρ' h' z=>by
   obtain⟨⟨o,e⟩,P1,l1,s1,k1⟩:=z
   subst e
   obtain⟨a,ha⟩:∃a,nms[i]?=some a:=⟨nms[i],by simp[<-ln,hi]⟩
   obtain⟨u,hu,du⟩:=Zo pu ha;have hL:h'[L]?=some (.lst us):=s1.elim λy s=>s.ow.p _ _ (l1 _ _ hp);obtain⟨k2,sp⟩:=sp i _ a (ln▸hi) k1 (Xv ha);obtain⟨f,ρ2,h2,x1,rfl,rfl,P2,l2,s2⟩:=sp P1 h' u s1 (dN.le l1 du)
   have e1:(nms.take (i+1)).foldl op W=op ((nms.take i).foldl op W) a:=by rw[List.take_succ,ha,Ud];rfl
   exact⟨.one u,_,_,h2,by simp only[itm,QA,hL,Wp,hu],by rw[tgt,List.set_set],x1,⟨_,rfl⟩,P2,l1.trans l2,by rw[e1];exact s2,by rw[e1];exact k2⟩)
  (λρ' h' x=>by
   obtain⟨_,P1,l1,s1,_⟩:=x
   have hL:h'[L]?=some (.lst us):=s1.elim λy s=>s.ow.p _ _ (l1 _ _ hp)
   simp[itm,QA,hL]) us.length 0 (us.length+1) Z h (by lia) (by lia) ⟨⟨Z[v],by simp⟩,P,Le.refl,by simpa using st,by simpa using k0⟩
 exact⟨o,h2,by rw[q1,q2],P1,l1,by rw[ln,Vm]at q3;exact q3⟩
def Qh0{L:Nat}{P:Vp}{W:Ws}{nms:List Nm}(st:St P h w W)(l:sz W+2*nms.length<900000)(hp:P L (.lst us))(pu:Paired (dN P) us nms)(r0:Z[0]?=some (sR w))(r5:5 < Z.length)
  (v1:∀u h,ev (tbG xx s) (Qa (tbG xx s) (m+1)) (d+2) e1 (Z.set 5 u) h=some (.int x 0,h)) (v2:∀u h,ev (tbG xx s) (Qa (tbG xx s) (m+1)) (d+2) e2 (Z.set 5 u) h=some (.int z 0,h)):
  ∃o h2,Z6 (tbG xx s) (.seqL (.ref L)) (.name 5) (exs (tbG xx s) (Qa (tbG xx s) (m+1)) (d+5) [(.expr (.call 10 [(.var 0),(.lst [(.var 5)]),e1,e2]))]) (us.length+1) 0 Z h=some (.next,Z.set 5 o,h2)/\∃P1,Le P P1/\St P1 h2 w (Qqs W nms x z):=
 QhZ (λW a=>Yj W [a] x z) (λi W1=>sz W1=sz W+2*i) st hp pu r5 rfl λi W1 a li k1 t=>⟨by have:=QdM W1 ⟨[a],QcN [a].length x,z⟩;unfold Yj;lia,λP1 h' u r du=>by
  obtain⟨c,s1⟩:=r
  have i0:(Z.set 5 (some u))[0]?=some (sR w):=by rw[Xs (by decide)];exact r0
  have i5:(Z.set 5 (some u))[5]?=some (some u):=by rw[X0 r5]
  have W1:=YJ (xx:=xx) (s:=s) (m:=m) (c:=x) (z:=z) ⟨c,s1.add (y:=.lst [u])⟩ QZ (.cons (dN.le le_ad du) .nil) (by lia)
  refine YQ (QhJ (us:=[.ref w,.ref h'.length,.int x 0,.int z 0]) (h1:=h'++[.lst [u]]) ?_ ?_)
  ·simp only[evs,Qc i0,y_lst,Qc i5,Qh,v1,v2]
  ·exact W1.mono λv h3 q=>by obtain⟨_,P3,l3,s3⟩:=q;exact QK ⟨rfl,rfl,P3,le_ad.trans l3,s3⟩⟩
def QrR{b c:U}:Qa (tbG xx s) (m+2) 14 [a,b,c] hs=fin (exs (tbG xx s) (Qa (tbG xx s) (m+1)) dd b14 [some a,some b,some c,none,none,none] hs):=rfl
def QkR{lo hi:Option E}{a b:Option Int}(v:ev T cf d e Z h=some (.ref p,h))(hp:h[p]?=some (.lst us))(v1:evO (ev T cf d) Z lo h=some (a,h))(v2:evO (ev T cf d) Z hi h=some (b,h)):ev T cf (d+1) (.sl e lo hi) Z h=some (.ref h.length,h++[.lst (Q1 us a b)]):=by
 rw[Qnn,v,Qh,v1,Qh,v2,Qh,Qp8 hp]
def Qhs(v:ev T cf d e Z h=some (.int x 0,h)):evO (ev T cf d) Z (some e) h=some (some x,h):=by rw[evO,v];rfl
def Yr{f:Ev}(v:f e Z h=some (.ref p,h1))(hp:h1[p]?=some (.lst us)):Q4 T f Z (.seq e) h=some (.seqL (.ref p),h1):=by simp only[Q4,v,Qh,wkS,QA,hp];rfl
def Qf0(hp:h[p]?=some (.lst us)):Q3 T (.seqL (.ref p)) h=us.length+1:=by simp only[Q3,QA,hp,Option.getD]
def ZB{xs:List α}{a b:Option Int}{x:α}(h:x∈Q1 xs a b):x∈xs:=by
 unfold Q1 at h;exact List.mem_of_mem_drop (List.mem_of_mem_take h)
def Qfe{xs:List α}{a b:Option Int}:(Q1 xs a b).length<=xs.length:=by
 unfold Q1;rw[W7,Uz];lia
def Qdt{W:Ws}{nms:List Nm}(g:Gd W)(hv:∀a∈nms,Vr W.rows a)(l8:nms.length<=8)(l:sz W<800000):∃W',Tr 32 W W' /\
  ∀(w:Nat) (P:Vp) h L us,St P h w W->P L (.lst us)->Paired (dN P) us nms->Cc (tbG xx s) (m+2) 14 [.ref w,.ref L,.int x 0] h (To P w W'):=by
 obtain⟨n,hn⟩:∃n:Int,n=(nms.length:Int) / 2:=⟨_,rfl⟩;obtain⟨y,hy⟩:∃y:Int,y=1-2*(x / 7 % 2):=⟨_,rfl⟩;have la:=Qfe (xs:=nms) (a:=some n) (b:=none);have lb:=Qfe (xs:=nms) (a:=none) (b:=some n);have t1:=Y2 (op:=λW a=>Yj W [a] (x / 14) (0-y)) (λW a=>Qe2) (Q1 nms (some n) none) g λa m=>hv a (ZB m)
 have t2:=Y2 (op:=λW a=>Yj W [a] (x / 14) y) (λW a=>Qe2) (Q1 nms none (some n)) t1.gd λa m=>by rw[t1.rw];exact hv a (ZB m)
 refine⟨_,⟨t2.gd,t2.rw.trans t1.rw,by rw[t2.sz,t1.sz];lia,by rw[t2.of,t1.of,t2.kp,t1.kp];lia⟩,λw P h L us st hp pu=>?_⟩
 have hL:∀{P1:Vp} {h1} {W1:Ws},Le P P1->St P1 h1 w W1->h1[L]?=some (.lst us):=λl1 s1=>s1.elim λv s=>s.ow.p _ _ (l1 _ _ hp)
 refine Qic QrR (QR (Zi (ZC (YK (Qc rfl) (hL Le.refl st)) (by decide)) (QR (Zi (QkS (Zv (ZC (Qc rfl) (by decide)) (by decide))) ?_))))
 rw[Qd pu,<-hn,<-hy];obtain⟨c,s0⟩:=st;have s1:=s0.add (y:=.lst (Q1 us (some n) none))
 obtain⟨o,h2,f1,P2,l2,s2⟩:=Qh0 (xx:=xx) (s:=s) (m:=m) (d:=91) (e1:=.op .FloorDiv (.var 2) (.c (.int 14 0))) (e2:=.op .Sub (.c (.int 0 0)) (.var 4)) (Z:=[sR w,sR L,sI x,sI n,sI y,none]) ⟨c,s1⟩ (x:=x / 14) (z:=0-y) (nms:=Q1 nms (some n) none) (by lia) QZ (dNs.le le_ad (Zy pu)) rfl (show 5<6 by decide) (λu h=>ZC (Qc rfl) (by decide)) (λu h=>Qap y_c (Qc rfl) Ql7)
 refine Jm (Yr (QkR (Qc rfl) (hL Le.refl ⟨c,s0⟩) (Qhs (Qc rfl)) rfl) at0) ⟨_,h2,by rw[Qf0 at0];exact f1,?_⟩
 have l2':=le_ad.trans l2;have hL2:=hL l2' s2;obtain⟨c2,s2⟩:=s2;have s3:=s2.add (y:=.lst (Q1 us none (some n)))
 obtain⟨o4,h4,f4,P4,l4,s4⟩:=Qh0 (xx:=xx) (s:=s) (m:=m) (d:=90) (e1:=.op .FloorDiv (.var 2) (.c (.int 14 0))) (e2:=.var 4) (Z:=[sR w,sR L,sI x,sI n,sI y,o]) ⟨c2,s3⟩ (x:=x / 14) (z:=y) (nms:=Q1 nms none (some n)) (by have:=t1.sz;unfold Qqs;lia) QZ (dNs.le (l2'.trans le_ad) (Zy pu)) rfl (show 5<6 by decide) (λu h=>ZC (Qc rfl) (by decide)) (λu h=>Qc rfl)
 exact Jm (Yr (QkR (Qc rfl) hL2 rfl (Qhs (Qc rfl))) at0) ⟨_,h4,by rw[Qf0 at0];exact f4,QK ⟨rfl,P4,(l2'.trans le_ad).trans l4,s4⟩⟩
def Qq0{a b:O}:(hs++[a]).set hs.length b=hs++[b]:=by rw[Vs _ _ (Xi _)];simp
abbrev Gk:=List (List U×U)
noncomputable def Yi(gk:Gk)(a:Nm):Gk:=Zt gk (nmK a) (.bl true)
theorem YZ:∀(nms:List Nm) (gk:Gk),(nms.foldl Yi gk).length<=gk.length+nms.length
 |[],gk=>Xi _
 |a::r,gk=>by
  have h1:=YZ r (Yi gk a);have h2:(Yi gk a).length<=gk.length+1:=Qb5;rw[Vx,X8];lia
def Qk0{P:Vp}{a:Nm}(k:∀i o,P i o->h[i]?=some o)(d:dN P u a):tkU u h=some (nmK a):=by
 obtain⟨i,rfl,e⟩:=d;simp only[tkU,k _ _ e];rfl
def Qes{P:Vp}{H:Hs}{nms:List Nm}{gk:Gk}(kP:∀i o,P i o->H[i]?=some o)(hj:H[j]?=some (.lst us))(pu:Paired (dN P) us nms)(r2:Z[2]?=some (sR H.length))(r4:4 < Z.length)(l:gk.length+nms.length<1000000):
  ∃o,Z6 T (.seqL (.ref j)) (.name 4) (exs T cf (d+4) [.put (.var 2) (.var 4) (.c (.bl true))]) (us.length+1) 0 Z (H++[O.dct gk])=some (.next,Z.set 4 o,H++[O.dct (nms.foldl Yi gk)]):=by
 have ln:=Qd pu
 obtain⟨ρ2,h2,q1,⟨o,q2⟩,q3⟩:=Yt (T:=T) (w:=.seqL (.ref j)) (t:=.name 4) (body:=exs T cf (d+4) [.put (.var 2) (.var 4) (.c (.bl true))]) (n:=us.length) (λi ρ' h'=>(∃o,ρ'=Z.set 4 o)/\h'=H++[O.dct ((nms.take i).foldl Yi gk)])
  (λi hi ρ' h' z=>by
   obtain⟨⟨o,e⟩,e2⟩:=z
   subst e e2
   obtain⟨a,ha⟩:∃a,nms[i]?=some a:=⟨nms[i],by simp[<-ln,hi]⟩
   obtain⟨u,hu,du⟩:=Zo pu ha
   have i2:(Z.set 4 (some u))[2]?=some (sR H.length):=by rw[Xs (by decide)];exact r2
   have i4:(Z.set 4 (some u))[4]?=some (some u):=by rw[X0 r4]
   have lg:=YZ (nms.take i) gk
   have lt:(nms.take i).length<=nms.length:=by simp;lia
   have e1:(nms.take (i+1)).foldl Yi gk=Yi ((nms.take i).foldl Yi gk) a:=by rw[List.take_succ,ha,Ud];rfl
   refine⟨.one u,_,Z.set 4 (some u),H++[O.dct ((nms.take (i+1)).foldl Yi gk)],by simp only[itm,QA,Qn hj,Wp,hu],by rw[tgt,List.set_set],?_,⟨_,rfl⟩,rfl⟩
   rw[e1];generalize (nms.take i).foldl Yi gk=g at lg;have tk:=Qk0 (h:=H++[O.dct g]) (λi o e=>Qn (kP i o e)) du
   have pt:Jd (.ref H.length) u (.bl true) (H++[O.dct g])=some (H++[O.dct (Yi g a)]):=by
    simp only[Jd,at0,Jg,if_pos (show g.length<1000000 by lia),tk,Wp,Qq0]
    rfl
   rw[QT,y_put,y_c,Qh,Qc i2,Qh,Qc i4,Qh,pt]
   rfl)
  (λρ' h' y=>by obtain⟨_,e2⟩:=y;subst e2;simp[itm,QA,Qn hj]) us.length 0 (us.length+1) Z (H++[O.dct gk]) (by lia) (by lia) ⟨⟨Z[4],by simp⟩,by simp⟩
 exact⟨o,by rw[q1,q2,q3,ln,Vm]⟩
noncomputable def bdG:List S:=[(.loop (.name 4) (.seq (.ix (.ix (.var 0) (.c (.str [107,101,112,116]))) (.var 3))) [(.put (.var 2) (.var 4) (.c (.bl true)))])]
def Sf.kpt{P:Vp}{c:Ct}{W:Ws}{f:List (U×U)->O}(s:Sf f P h w c W){k:U}(k1:c.kc[j]?=some (k,p,us)):h[p]?=some (.lst us):=s.ow.c (j+7) _ _ (by
 show(c.kc.map λx=>(x.2.1,O.lst x.2.2))[j]?=_
 rw[Wt,k1];rfl)
theorem QaG{T:Tbl}{cf:Cf}{d:Nat}{W:Ws}:∀(ks:List U) (gk:Gk),(∀k∈ks,Qa8 k=true/\∃y∈W.kept,y.1=k)->gk.length+ks.length*Jx W.kept<1000000->∃gk',gk'.length<=gk.length+ks.length*Jx W.kept /\
  ∀{w:Nat} {P:Vp} {H:Hs} {c:Ct} {x:U} {o3 o4:Option U},Sf .fzd P H w c W->∃o3' o4',QeS 3 (exs T cf (d+6) bdG) ks [sR w,some x,sR H.length,o3,o4,none,none,none] (H++[O.dct gk])=some (.next,[sR w,some x,sR H.length,o3',o4',none,none,none],H++[O.dct gk'])
 |[],gk,_,_=>⟨gk,Nat.le_add_right _ _,λz=>⟨_,_,rfl⟩⟩
 |k::ks,gk,hk,l=>by
  obtain⟨kk,y,my,ey⟩:=hk k Xq
  rcases QgH (k:=k) W.kept with⟨j,nms,e1,_,r⟩|⟨n,_⟩
  ·have ll:nms.length<=Jx W.kept:=J0 (Xv e1);rw[X8,Nat.add_mul]at l;have lg:=YZ nms gk
   obtain⟨gk',l',q⟩:=QaG ks (nms.foldl Yi gk) (λk m=>hk k (Xm _ m)) (by lia)
   refine⟨gk',by rw[X8,Nat.add_mul];lia,λ{w P H c x o3 o4} s=>?_⟩
   obtain⟨p,us,k1,k2,k3⟩:=r P _ s.dk;have hp:=s.kpt k1
   obtain⟨o,f1⟩:=Qes (T:=T) (cf:=cf) (d:=d) (gk:=gk) (Z:=[sR w,some x,sR H.length,some k,o4,none,none,none]) s.ow.p hp k2 rfl (show 4<8 by decide) (by lia)
   have cw:(H++[O.dct gk])[w]?=some c.D:=Qn s.cw;have ck:(H++[O.dct gk])[c.k]?=some (.fzd (kd c.kc)):=Qn (s.ow.c 5 _ _ rfl)
   have sb:QF T (.ref c.k) k (H++[O.dct gk])=sR p:=by
    unfold QF;simp only[ck,ZM,kk,We,k3];cases k<;>rfl
   have v1:Q4 T (ev T cf (d+4)) [sR w,some x,sR H.length,some k,o4,none,none,none] (.seq (.ix (.ix (.var 0) (.c (.str [107,101,112,116]))) (.var 3))) (H++[O.dct gk])=some (.seqL (.ref p),H++[O.dct gk]):=Yr (y_ix.trans (by rw[QN rfl (s_k (v:=.ref c.k) cw rfl),Qh,Qc rfl,Qh,sb];rfl)) (Qn hp)
   have v2:exs T cf (d+6) bdG [sR w,some x,sR H.length,some k,o4,none,none,none] (H++[O.dct gk])=some (.next,[sR w,some x,sR H.length,some k,o,none,none,none],H++[O.dct (nms.foldl Yi gk)]):=QH (QY v1 (by rw[Qf0 (Qn hp)];exact f1))
   obtain⟨o3',o4',f2⟩:=q (x:=x) (o3:=some k) (o4:=o) s
   exact⟨o3',o4',by simp only[QeS,X9,Wi,v2];exact f2⟩
  ·exact absurd ey (n y my)
noncomputable def QhH(gk:Gk)(r n:Nat):List Nm:=((List.range n).map λi=>((r:Int),((i:Nat):Int))).filter λa=>!(QB gk (nmK a)).isSome
noncomputable def frs(gk:Gk)(rows:List (List Lp))(i:Nat):List Nm:=((List.range i).map λr=>QhH gk r (rows.getD r []).length).flatten
def QhG(gk:Gk)(r n:Nat):QhH gk r (n+1)=QhH gk r n++(if(QB gk (nmK ((r:Int),(n:Int)))).isSome then []else [((r:Int),(n:Int))]):=by
 unfold QhH;rw[Uq,Vg,List.filter_append]
 congr 1
 simp only[Xu,V7,List.filter_cons,List.filter_nil];cases(QB gk (nmK ((r:Int),(n:Int)))).isSome<;>rfl
def QjO(gk:Gk)(rows:List (List Lp))(i:Nat):frs gk rows (i+1)=frs gk rows i++QhH gk i (rows.getD i []).length:=by
 unfold frs;rw[Uq,Vg,List.flatten_append];simp
def Qb1(gk:Gk)(r n:Nat):(QhH gk r n).length<=n:=Wf (List.length_filter_le ..) (by simp)
theorem Qab(gk:Gk)(rows:List (List Lp)):∀i,i<=rows.length->(frs gk rows i).length+szR (rows.drop i)<=szR rows
 |0,_=>by simp[frs]
 |i+1,l=>by
  have h:=Qab gk rows i (by lia)
  have h1:=Qb1 gk i (rows.getD i []).length
  have e:rows.getD i []=rows[i]:=by simp[List.getD,show i<rows.length by lia]
  rw[Vt (by lia)]at h
  rw[QjO,Xn];rw[e]at h1 ⊢;simp only[szR,Xu,Vl]at h ⊢;lia
def QjP{gk:Gk}{rows:List (List Lp)}{a:Nm}(l:i<=rows.length)(m:a∈frs gk rows i):Vr rows a:=by
 obtain⟨L,mL,ma⟩:=List.mem_flatten.mp m;obtain⟨r,mr,rfl⟩:=Wg.mp mL;obtain⟨j,mj,rfl⟩:=Wg.mp (U5.mp ma).1
 have lr:r<rows.length:=by have:=V1.mp mr;lia
 exact⟨r,j,rows[r],rfl,by simp,by have:=V1.mp mj;simpa[List.getD,lr]using this⟩
noncomputable def Qno:E:=.cmp .NotIn (.tup [(.var 6),(.var 8)]) (.var 2)
def Qg5{G:Nat}{gk:Gk}{P:Vp}{W:Ws}(st:St P h w W)(hG:P G (.dct gk))(r2:Z[2]?=some (sR G))(r6:Z[6]?=some (sI (r:Int)))(rl:Z.length=8)(ln:n<=900000):
  ∃us h2,QS T (ev T cf (d+5)) (Z9 (evT T cf (d+5)) (some Qno)) (.rng 0 n) false (.tup [(.var 6),(.var 8)]) Z (n+1) 0 [] h=some (us,h2)/\∃P1,Le P P1/\St P1 h2 w W/\Paired (dN P1) us (QhH gk r n):=by
 refine Y5 (T:=T) (f:=ev T cf (d+5)) (ft:=Z9 (evT T cf (d+5)) (some Qno)) (w:=.rng 0 n) (el:=.tup [(.var 6),(.var 8)]) (Z:=Z) (n:=n) (λi acc h=>∃P1,Le P P1/\St P1 h w W/\Paired (dN P1) acc (QhH gk r i)) (λi hi acc h z=>?_) (λacc h x=>by simp[itm]) n 0 (n+1) [] h (by lia) (by lia) ⟨P,Le.refl,st,.nil⟩;obtain⟨P1,l1,⟨c,s1⟩,p1⟩:=z
 have la:=Qb1 gk r i;have lp:=Qd p1
 have i2:(Z++[sI (i:Int)])[2]?=some (sR G):=by rw[Xp (by lia)];exact r2
 have i6:(Z++[sI (i:Int)])[6]?=some (sI (r:Int)):=by rw[Xp (by lia)];exact r6
 have i8:(Z++[sI (i:Int)])[8]?=some (sI (i:Int)):=by rw[X7 (by lia),rl];rfl
 have tp:∀(k:Nat) h,ev T cf (k+2) (.tup [(.var 6),(.var 8)]) (Z++[sI (i:Int)]) h=some (.ref h.length,h++[O.tup (nmK ((r:Int),(i:Int)))]):=λk h=>Jj (Qc i6) (Qc i8);have s2:=s1.add (y:=.tup (nmK ((r:Int),(i:Int))));have hg:=s2.ow.p _ _ (.inl (l1 _ _ hG));have tk:=Qk0 (u:=.ref h.length) s2.ow.p ⟨_,rfl,QZ⟩
 have ec:ZF T .NotIn (.ref h.length) (.ref G) (h++[O.tup (nmK ((r:Int),(i:Int)))])=some (!(QB gk (nmK ((r:Int),(i:Int)))).isSome):=by
  simp only[ZF,ZW,hg,inD,ZM,tk,Option.map]
 refine⟨by lia,.int (i:Int) 0,_,_,by simp[itm,hi],Qs (tp _ _) (Qc i2) ec,λe=>⟨_,_,tp _ _,_,(l1.trans le_ad).trans le_ad,⟨c,s2.add⟩,?_⟩,λe=>⟨_,l1.trans le_ad,⟨c,s2⟩,?_⟩⟩
 ·rw[QhG,if_neg (by simpa using e)]
  exact Qx ⟨_,rfl,QZ⟩ (dNs.le (le_ad.trans le_ad) p1)
 ·rw[QhG,if_pos (by simpa using e),Vd]
  exact dNs.le le_ad p1
section
variable {P:Vp}{c:Ct}{W:Ws}
def Sf.fz(s:Sx P h w c W):Sf .fzd P (h.set c.k (.fzd (kd c.kc))) w c W:=⟨s.ow.set 5 rfl,s.dr,s.lf,s.dl,s.dg,s.dn,s.dk,s.dο⟩
def Sf.th(s:Sf .fzd P h w c W):Sx P (h.set c.k (.dic (kd c.kc))) w c W:=⟨s.ow.set 5 rfl,s.dr,s.lf,s.dl,s.dg,s.dn,s.dk,s.dο⟩
def QjY{P:Vp}{kc:List (U×Nat×List U)}{kp:List (U×List Nm)}(h:Paired (dK P) kc kp):(kd kc).map (·.1)=kp.map (·.1):=by
 induction h with
 |nil=>rfl
 |cons h _ ih=>rw[kd,Xu,Xu,Xu,h.1];exact congrArg _ ih
end
def Qfd{xs:List α}{a b:Int}(ha:0<=a)(hb:a<=b):(Q1 xs (some a) (some b)).length<=(b-a).toNat:=by
 unfold Q1 Qc8;simp only[if_neg (Int.not_lt.mpr ha),if_neg (Int.not_lt.mpr (Int.le_trans ha hb)),W7,Uz];refine Wf (Nat.min_le_left ..) ?_
 rw[show(b-a).toNat=b.toNat-a.toNat by lia]
 rcases Nat.le_total a.toNat xs.length with l|l
 ·rw[Nat.min_eq_left l];exact Nat.sub_le_sub_right (Nat.min_le_left ..) _
 ·rw[Nat.min_eq_right l,Nat.sub_eq_zero_of_le (Nat.min_le_right ..)];exact Ww _
def QrS{b:U}:Qa (tbG xx s) (m+1) 13 [a,b] hs=fin (exs (tbG xx s) (Qa (tbG xx s) m) dd b13 [some a,some b,none,none,none,none,none,none] hs):=rfl
def QmQ{P:Vp}{row:List Lp}(kP:∀i o,P i o->h[i]?=some o)(d:dW P u row):∃p us,u=.ref p/\h[p]?=some (.lst us)/\us.length=row.length:=by
 obtain⟨i,us,rfl,e,p⟩:=d;exact⟨i,us,rfl,kP _ _ e,Qd p⟩
def Qer{G so:Nat}{gk:Gk}{P:Vp}{W:Ws}{x:U}(st:St P h w W)(hG:P G (.dct gk))(hs:P so (.lst []))(l:sz W<900000):
  ∃o6 so' us h2,Z6 T (.rng 0 W.rows.length) (.name 6) (exs T cf (d+9) [(.set 5 (.op .Add (.var 5) (.comp (.rng (.bi .len [(.ix (.ix (.var 0) (.c (.str [114,111,119,115]))) (.var 6))])) false (some Qno) (.tup [(.var 6),(.var 8)]))))]) (W.rows.length+1) 0 [sR w,some x,sR G,o3,o4,sR so,none,none] h=some (.next,[sR w,some x,sR G,o3,o4,sR so',o6,none],h2)/\∃P1,Le P P1/\St P1 h2 w W/\P1 so' (.lst us)/\Paired (dN P1) us (frs gk W.rows W.rows.length):=by
 have z:=Qat W
 obtain⟨ρ2,h2,q1,o6,so',us,P1,e,l1,s1,h1,p1⟩:=Yt (T:=T) (w:=.rng 0 W.rows.length) (t:=.name 6) (body:=exs T cf (d+9) [(.set 5 (.op .Add (.var 5) (.comp (.rng (.bi .len [(.ix (.ix (.var 0) (.c (.str [114,111,119,115]))) (.var 6))])) false (some Qno) (.tup [(.var 6),(.var 8)]))))]) (n:=W.rows.length) (λi Z h=>∃o6 so us P1,Z=[sR w,some x,sR G,o3,o4,sR so,o6,none]/\Le P P1/\St P1 h w W/\P1 so (.lst us)/\Paired (dN P1) us (frs gk W.rows i))
  (λi hi Z h s=>by
   obtain⟨o6,so,us,P1,e,l1,st,hso,pu⟩:=s
   subst e;obtain⟨c,s1⟩:=st
   have hrow:W.rows[i]?=some W.rows[i]:=by simp
   have lr:=Qab gk W.rows i (by lia)
   have lr2:=Qab gk W.rows (i+1) (by lia)
   rw[QjO,Xn]at lr2
   have eg:W.rows.getD i []=W.rows[i]:=by simp[List.getD,hi]
   rw[eg]at lr2;obtain⟨u,hu,du⟩:=Zo s1.dr hrow;obtain⟨p,vs,rfl,hp,lv⟩:=QmQ s1.ow.p du
   have li:W.rows[i].length<=szR W.rows:=by
    rw[Vt hi]at lr;simp only[szR,Xu,Vl]at lr ⊢;lia
   have v1:ev T cf (d+4) (.ix (.ix (.var 0) (.c (.str [114,111,119,115]))) (.var 6)) [sR w,some x,sR G,o3,o4,sR so,sI (i:Int),none] h=some (.ref p,h):=y_ix.trans (by rw[QN rfl (s_k (v:=.ref c.r) s1.cw rfl),Qh,Qc rfl,Qh];simp only[QF,s1.cr,Yw hu];rfl)
   have v2:=YK v1 hp;rw[lv]at v2
   obtain⟨us2,h2,q1,P2,l2,⟨c2,s2⟩,p2⟩:=Qg5 (T:=T) (cf:=cf) (d:=d) (n:=W.rows[i].length) (r:=i) (gk:=gk) (Z:=[sR w,some x,sR G,o3,o4,sR so,sI (i:Int),none]) ⟨c,s1⟩ (l1 _ _ hG) rfl rfl rfl (by lia)
   have s3:=s2.add (y:=.lst us2);have la:=Qd pu;have lb:=Qd p2
   have a1:=Qa5 (hs:=h2++[.lst us2]) (s3.ow.p _ _ (.inl (l2 _ _ hso))) (at0 (hs:=h2) (a:=.lst us2) (r:=[])) (by lia)
   refine⟨.one (.int (i:Int) 0),_,_,_,by simp[itm,hi],rfl,QH (ZG (Qap (Qc rfl) (ZU (Yk v2 (by lia)) q1) a1)),_,_,_,_,rfl,((l1.trans l2).trans le_ad).trans le_ad,⟨c2,s3.add⟩,QZ,?_⟩
   rw[QjO,eg]
   exact ZI (dNs.le ((l2.trans le_ad).trans le_ad) pu) (dNs.le (le_ad.trans le_ad) p2))
  (λZ h q=>by simp[itm]) W.rows.length 0 (W.rows.length+1) [sR w,some x,sR G,o3,o4,sR so,none,none] h (by lia) (by lia) ⟨_,so,[],P,rfl,Le.refl,st,hs,.nil⟩
 exact⟨o6,so',us,h2,by rw[q1,e],P1,l1,s1,h1,p1⟩
def QfR{W:Ws}(g:Gd W)(l:sz W<8000)(lk:W.kept.length<=64):∃W' k,k<=8/\Ek k W W'/\∀(w:Nat) (P:Vp) h,St P h w W->Cc (tbG xx s) (m+1) 13 [.ref w,.int x 0] h (To P w W'):=by
 have z:=Qat W
 have lm:(W.kept.map (·.1)).length*Jx W.kept<=64*Jx W.kept:=Nat.mul_le_mul_right _ (by simpa using lk)
 obtain⟨gk,lg,q⟩:=QaG (T:=tbG xx s) (cf:=Qa (tbG xx s) m) (d:=91) (W:=W) (W.kept.map (·.1)) [] (λk mk=>by obtain⟨y,my,rfl⟩:=Wg.mp mk;exact⟨g.kk y my,y,my,rfl⟩) (by simp only[W6];lia)
 obtain⟨N,hN⟩:∃N,N=frs gk W.rows W.rows.length:=⟨_,rfl⟩
 have vN:∀a∈N,Vr W.rows a:=λa m=>QjP (Xi _) (by rw[<-hN];exact m)
 have lN:=Qab gk W.rows W.rows.length (Xi _);rw[<-hN]at lN;obtain⟨mx,hm⟩:∃mx:Int,mx=(if(N.length:Int) > 1 then(N.length:Int)else 1):=⟨_,rfl⟩
 have mx0:0<mx:=by rw[hm];split<;>lia
 obtain⟨at',ha⟩:∃a:Int,a=x / 4 % mx:=⟨_,rfl⟩
 have a0:0<=at':=by rw[ha];exact W9 _ (by lia)
 have m4:=Vb x (show(0:Int) < 4 by decide)
 have m0:=W9 x (show(4:Int)≠0 by decide)
 have l4:=Qfd (xs:=N) (b:=at'+1+x % 4) a0 (by lia)
 have t:=Y2 (op:=λW a=>QfJ W ⟨[a],1,0⟩) (λW a=>Qe2) (Q1 N (some at') (some (at'+1+x % 4))) g λa m=>vN a (ZB m)
 refine⟨_,_,by lia,t,λw P h r=>?_⟩;obtain⟨c,s0⟩:=r
 obtain⟨o3,o4,f1⟩:=q (x:=.int x 0) (o3:=none) (o4:=none) s0.fz;have s1:=(s0.fz.add (y:=.dct gk)).th;have lk':=s0.ow.lt (k:=5) rfl;have e1:(h++[O.dct []]).set c.k (.fzd (kd c.kc))=h.set c.k (.fzd (kd c.kc))++[O.dct []]:=List.set_append_left _ _ lk';rw[Sg]at f1;have c5:(h.set c.k (.fzd (kd c.kc))++[O.dct gk])[c.k]?=some (.fzd (kd c.kc)):=(s0.fz.add (y:=.dct gk)).ow.c 5 _ _ rfl
 refine Qic QrS (QR (Zi QcG (QiU (Qik (QN rfl (s_k (Qn s0.cw) (v:=.ref c.k) rfl)) (Qn (s0.ow.c 5 _ _ rfl)) (by rw[e1,QjY s0.dk];exact f1) c5) (QR (Zi (y_lst.trans rfl) ?_)))))
 have gG:ad P (h.set c.k (.fzd (kd c.kc))).length (.dct gk) h.length (.dct gk):=.inr ⟨by rw[Sg],rfl⟩
 have v0:=YK (T:=tbG xx s) (cf:=Qa (tbG xx s) m) (d:=94) (Z:=[sR w,sI x,sR h.length,o3,o4,some (.ref ((h.set c.k (.fzd (kd c.kc))++[O.dct gk]).set c.k (.dic (kd c.kc))).length),none,none]) (QN (i:=0) rfl (s_k (s1.add (y:=.lst [])).cw (k:=[114,111,119,115]) rfl)) (s1.add (y:=.lst [])).cr;rw[Qd s1.dr]at v0
 obtain⟨o6,so,us,h2,f2,P2,l2,⟨c2,s2⟩,hso,pu⟩:=Qer (T:=tbG xx s) (cf:=Qa (tbG xx s) m) (d:=86) (x:=.int x 0) (o3:=o3) (o4:=o4) ⟨c,s1.add (y:=.lst [])⟩ (le_ad _ _ gG) QZ (by lia)
 refine Jm (Yk v0 (by lia)) ⟨_,h2,f2,?_⟩
 rw[<-hN]at pu;have v5:=YK (T:=tbG xx s) (cf:=Qa (tbG xx s) m) (d:=91) (Z:=[sR w,sI x,sR h.length,o3,o4,sR so,o6,none]) (Qc (i:=5) rfl) (s2.ow.p _ _ hso);rw[Qd pu]at v5
 have v6:ev (tbG xx s) (Qa (tbG xx s) m) 94 (.op .Mod (.op .FloorDiv (.var 1) (.c (.int 4 0))) (.bi .max [(.c (.int 1 0)),(.bi .len [(.var 5)])])) [sR w,sI x,sR h.length,o3,o4,sR so,o6,none] h2=some (.int at' 0,h2):=by
  rw[ha]
  refine Qap (ZC (Qc rfl) (by decide)) (y_bi.trans ?_) (Ql9 mx0)
  simp only[evs,y_c,Qh];rw[v5,hm];rfl
 have s3:=s2.add (y:=.lst (Q1 us (some at') (some (at'+1+x % 4))))
 obtain⟨o,h4,f4,P4,l4',s4⟩:=QhZ (T:=tbG xx s) (cf:=Qa (tbG xx s) m) (d:=93) (v:=4) (body:=[gvS,nwS (.tup [(.tup [(.var 4)]),(.c (.int 1 0)),(.c (.int 0 0))])]) (Z:=[sR w,sI x,sR h.length,o3,o4,sR so,o6,sI at']) (λW a=>QfJ W ⟨[a],1,0⟩) (λi W1=>sz W1=sz W+2*i) ⟨c2,s3⟩ QZ (dNs.le le_ad (Zy (a:=some at') (b:=some (at'+1+x % 4)) pu)) (show 4<8 by decide) rfl
  λi W1 a li k1 n=>⟨by have:=QdM W1 ⟨[a],1,0⟩;lia,λP1 h' u st du=>QkM (d:=83) st (by lia) rfl (λP2 h2 l2 j=>by obtain⟨k,s1⟩:=j;exact Zi (Qdw (y_tup.trans (by rw[evs,Qc rfl];rfl)) y_c y_c) ⟨_,le_ad.trans le_ad,⟨_,_,[u],rfl,QZ,.inl QZ,.cons (dN.le (l2.trans (le_ad.trans le_ad)) du) .nil⟩,λk s1=>s1.add.add⟩) λP1 h1 l1 s1=>QK ⟨rfl,rfl,P1,l1,s1⟩⟩
 refine QR (Zi v6 (Jm (Yr (QkR (Qc rfl) (s2.ow.p _ _ hso) (Qhs (Qc rfl)) (Qhs (Qap (Qap (Qc rfl) y_c QcT) (Zv (Qc rfl) (by decide)) QcT))) at0) ⟨_,h4,by rw[Qf0 at0];exact f4,QK ⟨rfl,P4,?_,s4⟩⟩))
 exact(((le_ad.trans le_ad).trans l2).trans le_ad).trans l4'
def QiX{p0:Nat}{P:Vp}{c:Ct}{W:Ws}{b:U}{k j:Int}{u0 u1:List U}{N0 N1:List Nm}{r:List S}(s:Sx P h w c W)(hp:P p0 (.lst u0))(d0:Paired (dN P) u0 N0)(e1:ev T cf (d+1) e [sR w,some a,sI k,some b,sR p0,none] h=some (.ref h.length,h++[.lst u1]))(d1:Paired (dN P) u1 N1)
  (q:∀P' h' p' us',Le P P'->Sx P' h' w c W->P' p' (.lst us')->Paired (dN P') us' (if k=j then N1 else N0)->Xx T cf (d+4) r [sR w,some a,sI k,some b,sR p',none] h' Q):
  Xx T cf (d+5) (.ite (.cmp .Eq (.var 2) (.c (.int j 0))) [.set 4 e] []::r) [sR w,some a,sI k,some b,sR p0,none] h Q:=by
 refine Qb3 (Ze rfl) ?_;by_cases z:k=j
 ·rw[W5 z]
  exact QR (Zi e1 (QK (q _ _ _ u1 le_ad s.add QZ (by rw[if_pos z];exact dNs.le le_ad d1))))
 ·rw[Wa z]
  exact QK (q _ _ _ u0 Le.refl s hp (by rw[if_neg z];exact d0))
noncomputable def hdN(L:List Nm)(k y:Int):List Nm:=if k=5 then []else if k=7 then Q1 L none (some (2+y % 7))else if k=3 then Q1 L none (some (2+y % 3))else Q1 L none (some 1)
def Qg3{xs:List α}{b:Int}(hb:0<=b):(Q1 xs none (some b)).length<=b.toNat:=by
 unfold Q1 Qc8
 simp only[if_neg (show ¬b<0 by lia),W7,Uz]
 lia
def Qmz{L:List Nm}{k:Int}:(∀a∈hdN L k y,a∈L)/\(hdN L k y).length<=8:=by
 have m7:=Vb y (show(0:Int) < 7 by decide)
 have n7:=W9 y (show(7:Int)≠0 by decide)
 have m3:=Vb y (show(0:Int) < 3 by decide)
 have n3:=W9 y (show(3:Int)≠0 by decide)
 have c1:=λ(b:Int) (h0:0<=b) (h:b<=8)=>Wf (Qg3 (xs:=L) h0) (show b.toNat<=8 by lia)
 unfold hdN;split
 ·exact⟨λa m=>(by cases m),by simp⟩
 ·split
  ·exact⟨λa m=>ZB m,c1 _ (by lia) (by lia)⟩
  ·split
   ·exact⟨λa m=>ZB m,c1 _ (by lia) (by lia)⟩
   ·exact⟨λa m=>ZB m,c1 _ (by decide) (by decide)⟩
noncomputable def gvN(W:Ws)(nms:List Nm)(y:Int)(n:Nat):Ws:=(List.range n).foldl (λW (k:Nat)=>Yj W nms (y+k) 0) W
def Qet{P:Vp}{W:Ws}{nms:List Nm}{k:U}(st:St P h w W)(hp:P p (.lst us))(pu:Paired (dN P) us nms)(l:sz W+2*n<900000)(gk:∀i,sz (gvN W nms (y / 3) i)=sz W+2*i):
  ∃ρ2 h2,Z6 (tbG xx s) (.rng 0 n) (.name 5) (exs (tbG xx s) (Qa (tbG xx s) (m+1)) (d+7) [(.expr (.call 10 [(.var 0),(.var 4),(.op .Add (.op .FloorDiv (.var 3) (.c (.int 3 0))) (.var 5)),(.c (.int 0 0))]))]) (n+1) 0 [sR w,some a,some k,sI y,sR p,none] h=some (.next,ρ2,h2)/\∃P1,Le P P1/\St P1 h2 w (gvN W nms (y / 3) n):=by
 obtain⟨ρ2,h2,q1,_,P1,l1,q3⟩:=Yt (T:=tbG xx s) (w:=.rng 0 n) (t:=.name 5) (body:=exs (tbG xx s) (Qa (tbG xx s) (m+1)) (d+7) [(.expr (.call 10 [(.var 0),(.var 4),(.op .Add (.op .FloorDiv (.var 3) (.c (.int 3 0))) (.var 5)),(.c (.int 0 0))]))]) (n:=n) (λi ρ' h'=>(∃o,ρ'=[sR w,some a,some k,sI y,sR p,o])/\∃P1,Le P P1/\St P1 h' w (gvN W nms (y / 3) i))
  (λi hi ρ' h' x=>by
   obtain⟨⟨o,e⟩,P1,l1,s1⟩:=x
   subst e
   have W1:=YJ (xx:=xx) (s:=s) (m:=m) (c:=y / 3+(i:Int)) (z:=0) s1 (l1 _ _ hp) (dNs.le l1 pu) (by rw[gk];lia)
   obtain⟨f,ρ2,h2,x1,rfl,rfl,P2,l2,s2⟩:Xx (tbG xx s) (Qa (tbG xx s) (m+1)) (d+7) [(.expr (.call 10 [(.var 0),(.var 4),(.op .Add (.op .FloorDiv (.var 3) (.c (.int 3 0))) (.var 5)),(.c (.int 0 0))]))] [sR w,some a,some k,sI y,sR p,sI (i:Int)] h' (λf ρ2 h2=>f=.next/\ρ2=[sR w,some a,some k,sI y,sR p,sI (i:Int)]/\∃P2,Le P1 P2/\St P2 h2 w (Yj (gvN W nms (y / 3) i) nms (y / 3+(i:Int)) 0)):=by
    refine YQ (QhJ (us:=[.ref w,.ref p,.int (y / 3+(i:Int)) 0,.int 0 0]) (h1:=h') ?_ ?_)
    ·have v:=Qap (TT:=tbG xx s) (cf:=Qa (tbG xx s) (m+1)) (d:=d+3) (Z:=[sR w,some a,some k,sI y,sR p,sI (i:Int)]) (h:=h') (ZC (Qc (i:=3) rfl) (j:=3) (by decide)) (Qc (i:=5) rfl) QcT
     rw[evs,Qc rfl,Qh,evs,Qc rfl,Qh,evs,v];rfl
    ·exact W1.mono λv h3 ⟨_,P3,l3,s3⟩=>QK ⟨rfl,rfl,P3,l3,s3⟩
   refine⟨.one (.int (i:Int) 0),_,_,h2,by simp[itm,hi],rfl,x1,⟨_,rfl⟩,P2,l1.trans l2,?_⟩
   rw[gvN,Uq,Ud]
   exact s2)
  (λρ' h' u=>by simp[itm]) n 0 (n+1) _ h (by lia) (by lia) ⟨⟨none,rfl⟩,P,Le.refl,st⟩
 exact⟨ρ2,h2,q1,P1,l1,q3⟩
def QrQ{b:U}:Qa (tbG xx s) (m+1) 15 [a,b] hs=fin (exs (tbG xx s) (Qa (tbG xx s) m) dd b15 [some a,some b,none,none,none,none] hs):=rfl
noncomputable def brE:S:=(.ite (.cmp .Eq (.var 4) (.lst [])) [(.expr (.call 10 [(.var 0),(.lst []),(.var 3),(.c (.int 0 0))]))] [(.ite (.cmp .Eq (.var 2) (.c (.int 2 0))) [(.expr (.bm .append (.ix (.var 0) (.c (.str [103,105,118,101,110]))) [(.ix (.var 4) (.c (.int 0 0)))]))] [(.ite (.and (.cmp .Eq (.var 2) (.c (.int 3 0))) (.cmp .Eq (.op .Mod (.op .FloorDiv (.var 3) (.c (.int 3 0))) (.c (.int 2 0))) (.c (.int 1 0)))) [(.expr (.call 10 [(.var 0),(.rev (.var 4)),(.op .FloorDiv (.var 3) (.c (.int 6 0))),(.c (.int 0 0))]))] [(.ite (.cmp .Eq (.var 2) (.c (.int 4 0))) [(.loop (.name 5) (.rng (.op .Add (.c (.int 2 0)) (.op .Mod (.var 3) (.c (.int 3 0))))) [(.expr (.call 10 [(.var 0),(.var 4),(.op .Add (.op .FloorDiv (.var 3) (.c (.int 3 0))) (.var 5)),(.c (.int 0 0))]))])] [(.ite (.cmp .Eq (.var 2) (.c (.int 6 0))) [(.expr (.call 12 [(.var 0),(.ix (.var 4) (.c (.int 0 0))),(.var 3)]))] [(.ite (.and (.cmp .Eq (.var 2) (.c (.int 7 0))) (.cmp .Gt (.bi .len [(.var 4)]) (.c (.int 1 0)))) [(.expr (.call 14 [(.var 0),(.var 4),(.var 3)]))] [(.expr (.call 10 [(.var 0),(.var 4),(.op .FloorDiv (.var 3) (.c (.int 6 0))),(.c (.int 0 0))]))])])])])])])
def To.le{P P1:Vp}{W:Ws}(l:Le P P1)(t:To P1 w W u h):To P w W u h:=by obtain⟨a,P2,l2,s⟩:=t;exact⟨a,P2,l.trans l2,s⟩
def Qaz{P P1:Vp}{W:Ws}(e:evs (ev T (Qa T m) d) Z es h=some (us,h1))(l:Le P P1)(c:Cc T m f us h1 (To P1 w W)):Xx T (Qa T m) (d+3) [.expr (.call f es)] Z h (Fq (To P w W)):=by
 obtain⟨u,h2,a,t⟩:=c
 refine YQ (Zi (u:=u) (h1:=h2) (by rw[y_call,e,Qh,a]) (QK ?_))
 have:=t.1;subst this;exact t.le l
def QfS{W:Ws}{nms:List Nm}{k:Int}(g:Gd W)(l:sz W<8000)(hv:∀a∈nms,Vr W.rows a)(l8:nms.length<=8):∃W',Tr 32 W W' /\
  ∀(w:Nat) (P:Vp) h p us,St P h w W->P p (.lst us)->Paired (dN P) us nms->Xx (tbG xx s) (Qa (tbG xx s) (m+2)) 93 [brE] [sR w,sI x,sI k,sI y,sR p,none] h (Fq (To P w W')):=by
 have t1:∀{w:Nat} {P:Vp} {h p us},St P h w W->P p (.lst us)->Paired (dN P) us nms->evT (tbG xx s) (Qa (tbG xx s) (m+2)) 91 (.cmp .Eq (.var 4) (.lst [])) [sR w,sI x,sI k,sI y,sR p,none] h=some (decide (nms=[]),h++[.lst []]):=λ{w P h p us} st hp pu=>by
  have e:decide (us=[])=decide (nms=[]):=by cases pu<;>rfl
  rw[<-e];exact Qs (Qc rfl) (y_lst.trans rfl) (Zz (Qn (st.elim λt s=>s.ow.p _ _ hp)) at0)
 by_cases n0:nms=[]
 ·refine⟨Yj W [] y 0,(QaR (lp:=⟨[],QcN 0 y,0⟩) g (show 0<=8 by decide) λa m=>(by cases m)).tr (by decide),λw P h p us st hp pu=>QcR (t1 st hp pu) n0 ?_⟩
  obtain⟨c,s0⟩:=st
  exact Qaz (P1:=ad (ad P h.length (.lst [])) (h++[O.lst []]).length (.lst [])) rfl (le_ad.trans le_ad) (YJ ⟨c,s0.add.add⟩ QZ .nil (by lia))
 obtain⟨b,r,rfl⟩:=List.exists_cons_of_ne_nil n0;have hd:∀{P:Vp} {us},Paired (dN P) us (b::r)->∃u,us[0]?=some u/\dN P u b:=λpu=>Zo pu rfl;have NX:∀{w:Nat} {P:Vp} {h p us} {Q:U->Hs->Prop} {r':List S},St P h w W->P p (.lst us)->Paired (dN P) us (b::r)->(∀c,Sx (ad P h.length (.lst [])) (h++[.lst []]) w c W->Xx (tbG xx s) (Qa (tbG xx s) (m+2)) 91 r' [sR w,sI x,sI k,sI y,sR p,none] (h++[.lst []]) (Fq Q))->Xx (tbG xx s) (Qa (tbG xx s) (m+2)) 93 [.ite (.cmp .Eq (.var 4) (.lst [])) [(.expr (.call 10 [(.var 0),(.lst []),(.var 3),(.c (.int 0 0))]))] r'] [sR w,sI x,sI k,sI y,sR p,none] h (Fq Q):=λst hp pu q=>Qa7 (t1 st hp pu) n0 (st.elim λc s0=>q c s0.add);by_cases k2:k=2
 ·refine⟨{W with given:=W.given++[b]},⟨⟨g.left,λa m=>?_,g.new,g.rows,g.put,g.kk⟩,rfl,by simp[sz];lia,by simp⟩,λw P h p us st hp pu=>NX st hp pu λc s1=>QcR (Ze rfl) k2 ?_⟩
  ·rcases Wo.mp m with m|m
   ·exact g.given a m
   ·rw[Wh.mp m];exact(hv b Xq).app
  obtain⟨u,hu,du⟩:=hd pu;have a0:atU us 0=some u:=Yw (i:=0) hu;have z:=Qat W
  exact YQ (QcQ (QN rfl (s_k s1.cw rfl)) s1.cg (Zi (y_ix.trans (by rw[Qc rfl,Qh,y_c,Qh];simp only[QF,s1.ow.p _ _ (le_ad _ _ hp),a0];rfl)) ⟨c.gs,s1.cg,by rw[Qd s1.dg];lia,QK ⟨rfl,_,le_ad,_,s1.giv (dN.le le_ad du)⟩⟩))
 by_cases k3:k=3/\y / 3 % 2=1
 ·refine⟨Yj W (b::r).reverse (y / 6) 0,(QaR g (by simpa using l8) λa m=>hv a (List.mem_reverse.mp m)).tr (by decide),λw P h p us st hp pu=>NX st hp pu λc s1=>Qa7 (Ze rfl) k2 (QcR (Qbb (Ze rfl) (Qkw (Zv (ZC (Qc rfl) (by decide)) (by decide)) y_c)) k3 ?_)⟩
  refine Qaz (us:=[.ref w,.ref (h++[O.lst []]).length,.int (y / 6) 0,.int 0 0]) (h1:=h++[O.lst []]++[.lst us.reverse]) ?_ (le_ad.trans le_ad) (YJ ⟨c,s1.add⟩ QZ (dNs.le (le_ad.trans le_ad) (Qd6 pu)) (by lia))
  have hp1:=s1.ow.p _ _ (le_ad _ _ hp)
  have e1:∀d,ev (tbG xx s) (Qa (tbG xx s) (m+2)) (d+2) (.rev (.var 4)) [sR w,sI x,sI k,sI y,sR p,none] (h++[O.lst []])=some (.ref (h++[O.lst []]).length,h++[O.lst []]++[.lst us.reverse]):=λd=>by rw[QkD,Qc rfl,Qh];simp only[QA,hp1]
  rw[evs,Qc rfl,Qh,evs,e1,Qh,evs,ZC (Qc rfl) (by decide)]
  rfl
 by_cases k4:k=4
 ·have m3:=Vb y (show(0:Int) < 3 by decide)
  have n3:=W9 y (show(3:Int)≠0 by decide)
  obtain⟨n,hn⟩:∃n:Nat,2+y % 3=(n:Int):=⟨(2+y % 3).toNat,by lia⟩
  have E:=λi=>Y2 (op:=λW (j:Nat)=>Yj W (b::r) (y / 3+j) 0) (ok:=λR t=>R=W.rows) (λW1 j g1 e=>QaR g1 l8 (by rw[e];exact hv)) (List.range i) g λt t=>rfl
  have EL:∀i,sz (gvN W (b::r) (y / 3) i)=sz W+2*i:=λi=>by have:=(E i).sz;rw[Ts]at this;exact this
  refine⟨gvN W (b::r) (y / 3) n,(E n).tr (by rw[Ts];lia),λw P h p us st hp pu=>NX st hp pu λc s1=>Qa7 (Ze rfl) k2 (Qa7 (Qbb (Ze rfl) (Qkw (Zv (ZC (Qc rfl) (by decide)) (by decide)) y_c)) k3 (QcR (Ze rfl) k4 ?_))⟩
  obtain⟨ρ2,h2,q1,P1,l1,s2⟩:=Qet (xx:=xx) (s:=s) (m:=m+1) (d:=76) (a:=.int x 0) (k:=.int k 0) (n:=n) ⟨c,s1⟩ (le_ad _ _ hp) (dNs.le le_ad pu) (by lia) EL
  have v:=Qap (TT:=tbG xx s) (cf:=Qa (tbG xx s) (m+2)) (d:=82) (Z:=[sR w,sI x,sI k,sI y,sR p,none]) (h:=h++[O.lst []]) y_c (Zv (Qc (i:=3) rfl) (j:=3) (by decide)) (QcT (x:=2))
  rw[hn]at v
  exact Jm (Yk v (by lia)) ⟨_,_,q1,QK ⟨rfl,P1,le_ad.trans l1,s2⟩⟩
 by_cases k6:k=6
 ·obtain⟨pt,kp,of,i1,i2,i3,i4,q⟩:=QnM (xx:=xx) (s:=s) (m:=m+1) (W:=W) (a:=b) (x:=y) g.put g.kk (by lia)
  refine⟨{W with put:=pt,kept:=kp,off:=of},⟨⟨g.left,g.given,g.new,g.rows,i1,i2⟩,rfl,by simp only[sz];lia,i4⟩,λw P h p us st hp pu=>NX st hp pu λc s1=>Qa7 (Ze rfl) k2 (Qa7 (Qbb (Ze rfl) (Qkw (Zv (ZC (Qc rfl) (by decide)) (by decide)) y_c)) k3 (Qa7 (Ze rfl) k4 (QcR (Ze rfl) k6 ?_)))⟩
  obtain⟨u,hu,du⟩:=hd pu;have a0:atU us 0=some u:=Yw (i:=0) hu;have hp1:=s1.ow.p _ _ (le_ad _ _ hp);refine Qaz (us:=[.ref w,u,.int y 0]) (h1:=h++[O.lst []]) ?_ le_ad (q w _ _ u ⟨c,s1⟩ (dN.le le_ad du))
  have e1:∀d,ev (tbG xx s) (Qa (tbG xx s) (m+2)) (d+2) (.ix (.var 4) (.c (.int 0 0))) [sR w,sI x,sI k,sI y,sR p,none] (h++[O.lst []])=some (u,h++[O.lst []]):=λd=>by rw[y_ix,Qc rfl,Qh,y_c,Qh];simp only[QF,hp1,a0];rfl
  rw[evs,Qc rfl,Qh,evs,e1];rfl
 have t7:∀{w:Nat} {P:Vp} {h p us},h[p]?=some (.lst us)->Paired (dN P) us (b::r)->evT (tbG xx s) (Qa (tbG xx s) (m+2)) 81 (.and (.cmp .Eq (.var 2) (.c (.int 7 0))) (.cmp .Gt (.bi .len [(.var 4)]) (.c (.int 1 0)))) [sR w,sI x,sI k,sI y,sR p,none] h=some (decide (k=7/\(1:Int) < (b::r).length),h):=λ{w P h p us} hp pu=>by
  have e:=QnU (YK (T:=tbG xx s) (cf:=Qa (tbG xx s) (m+2)) (d:=77) (Z:=[sR w,sI x,sI k,sI y,sR p,none]) (Qc (i:=4) rfl) hp) (y_c (u:=.int 1 0));rw[Qd pu]at e;exact Qbb (Ze rfl) e
 by_cases k7:k=7/\(1:Int) < (b::r).length
 ·obtain⟨W',tr,q⟩:=Qdt (xx:=xx) (s:=s) (m:=m) (W:=W) (nms:=b::r) (x:=y) g hv l8 (by lia)
  refine⟨W',tr,λw P h p us st hp pu=>NX st hp pu λc s1=>Qa7 (Ze rfl) k2 (Qa7 (Qbb (Ze rfl) (Qkw (Zv (ZC (Qc rfl) (by decide)) (by decide)) y_c)) k3 (Qa7 (Ze rfl) k4 (Qa7 (Ze rfl) k6 (QcR (t7 (s1.ow.p _ _ (le_ad _ _ hp)) pu) k7 ?_))))⟩
  exact Qaz rfl le_ad (q w _ _ p us ⟨c,s1⟩ (le_ad _ _ hp) (dNs.le le_ad pu))
 ·refine⟨Yj W (b::r) (y / 6) 0,(QaR g l8 hv).tr (by decide),λw P h p us st hp pu=>NX st hp pu λc s1=>Qa7 (Ze rfl) k2 (Qa7 (Qbb (Ze rfl) (Qkw (Zv (ZC (Qc rfl) (by decide)) (by decide)) y_c)) k3 (Qa7 (Ze rfl) k4 (Qa7 (Ze rfl) k6 (Qa7 (t7 (s1.ow.p _ _ (le_ad _ _ hp)) pu) k7 ?_))))⟩
  refine Qaz (us:=[.ref w,.ref p,.int (y / 6) 0,.int 0 0]) (h1:=h++[O.lst []]) ?_ le_ad (YJ ⟨c,s1⟩ (le_ad _ _ hp) (dNs.le le_ad pu) (by lia))
  rw[evs,Qc rfl,Qh,evs,Qc rfl,Qh,evs,ZC (Qc rfl) (by decide)]
  rfl
def QkK{W:Ws}(g:Gd W)(l:sz W<7900):∃W',Tr 32 W W'/\∀(w:Nat) (P:Vp) h,St P h w W->Cc (tbG xx s) (m+3) 15 [.ref w,.int x 0] h (To P w W'):=by
 have hN:=Qmz (L:=W.left) (k:=x % 8) (y:=x / 8);have lc:=Qfe (xs:=W.left) (a:=some ((hdN W.left (x % 8) (x / 8)).length:Int)) (b:=none)
 obtain⟨W',tr,q⟩:=QfS (xx:=xx) (s:=s) (m:=m) (W:={W with left:=Q1 W.left (some ((hdN W.left (x % 8) (x / 8)).length:Int)) none}) (nms:=hdN W.left (x % 8) (x / 8)) (x:=x) (k:=x % 8) (y:=x / 8) ⟨λa m=>g.left a (ZB m),g.given,g.new,g.rows,g.put,g.kk⟩ (by simp only[sz]at l ⊢;lia) (λa m=>g.left a (hN.1 a m)) hN.2
 refine⟨W',⟨tr.gd,tr.rw,by have:=tr.sz;simp only[sz]at this ⊢;lia,tr.of⟩,λw P h z=>?_⟩;obtain⟨c,s0⟩:=z
 have sl:∀{P:Vp} {h e} {d p0:Nat} {j:Int} {o:Option U},Sx P h w c W->ev (tbG xx s) (Qa (tbG xx s) (m+2)) (d+2) e [sR w,sI x,sI (x % 8),sI (x / 8),o,none] h=some (.int j 0,h)->ev (tbG xx s) (Qa (tbG xx s) (m+2)) (d+3) (.sl (.ix (.var 0) (.c (.str [108,101,102,116]))) none (some e)) [sR w,sI x,sI (x % 8),sI (x / 8),o,none] h=some (.ref h.length,h++[.lst (Q1 c.ls none (some j))]):=λs v=>QkR (QN rfl (s_k s.cw rfl)) s.cl rfl (Qhs v)
 refine Qic QrQ (QR (Zi (Zv (Qc rfl) (by decide)) (QR (Zi (ZC (Qc rfl) (by decide)) (QR (Zi (sl (p0:=0) s0 y_c) ?_))))))
 refine QiX s0.add QZ (dNs.le le_ad (Zy s0.dl)) (sl (p0:=0) s0.add (Qap y_c (Zv (Qc rfl) (by decide)) QcT)) (dNs.le le_ad (Zy s0.dl)) λP1 h1 p1 u1 l1 s1 hp1 d1=>?_
 refine QiX s1 hp1 d1 (sl (p0:=0) s1 (Qap y_c (Zv (Qc rfl) (by decide)) QcT)) (Zy s1.dl) λP2 h2 p2 u2 l2 s2 hp2 d2=>?_
 refine QiX s2 hp2 d2 (y_lst.trans rfl) .nil λP3 h3 p3 u3 l3 s3 hp3 d3=>?_;have v:=YK (T:=tbG xx s) (cf:=Qa (tbG xx s) (m+2)) (d:=90) (Z:=[sR w,sI x,sI (x % 8),sI (x / 8),sR p3,none]) (Qc (i:=4) rfl) (s3.ow.p _ _ hp3);rw[Qd d3]at v;have s4:=s3.add (y:=.lst (Q1 c.ls (some ((hdN W.left (x % 8) (x / 8)).length:Int)) none));refine Qd0 (QkR (QN rfl (s_k s3.cw rfl)) s3.cl (Qhs v) rfl) (Qc rfl) y_c (p_L s4.cw) ?_;obtain⟨f,Z,h5,e5,q5⟩:=q w _ _ p3 u3 ⟨_,s4.lt QZ (dNs.le le_ad (Zy s3.dl))⟩ (le_ad _ _ hp3) (dNs.le le_ad d3);refine⟨f,Z,h5,e5,?_⟩;have lt:=((((le_ad (P:=P)).trans l1).trans l2).trans l3).trans (le_ad (j:=h3.length) (x:=.lst (Q1 c.ls (some ((hdN W.left (x % 8) (x / 8)).length:Int)) none)))
 cases f with
 |next=>exact To.le lt q5
 |ret u=>exact To.le lt q5
 |brk=>exact q5
 |cont=>exact q5
noncomputable def bdW:List S:=[(.ite (.and (.cmp .Eq (.ix (.var 2) (.c (.str [108,101,102,116]))) (.lst [])) (.and (.cmp .Eq (.ix (.var 2) (.c (.str [103,105,118,101,110]))) (.lst [])) (.cmp .Lt (.op .Mod (.var 3) (.c (.int 16 0))) (.c (.int 8 0))))) [(.expr (.call 11 [(.var 2)])),(.expr (.call 13 [(.var 2),(.op .FloorDiv (.var 3) (.c (.int 16 0)))]))] []),(.ite (.and (.cmp .Eq (.ix (.var 2) (.c (.str [108,101,102,116]))) (.lst [])) (.cmp .NotEq (.ix (.var 2) (.c (.str [103,105,118,101,110]))) (.lst []))) [(.expr (.call 11 [(.var 2)]))] []),(.expr (.call 15 [(.var 2),(.var 3)]))]
section
variable {P:Vp}{c:Ct}{W:Ws}
def Qd9{N:List Nm}(p:Paired (dN P) us N):decide (us=[])=decide (N=[]):=by cases p<;>rfl
def t_L(s:Sx P h w c W)(r2:Z[2]?=some (sR w)):evT T cf (d+4) (.cmp .Eq (.ix (.var 2) (.c (.str [108,101,102,116]))) (.lst [])) Z h=some (decide (W.left=[]),h++[.lst []]):=by
 rw[<-Qd9 s.dl];exact Qs (QN r2 (s_k s.cw rfl)) (y_lst.trans rfl) (Zz (Qn s.cl) at0)
def t_G(s:Sx P h w c W)(r2:Z[2]?=some (sR w)):evT T cf (d+4) (.cmp .Eq (.ix (.var 2) (.c (.str [103,105,118,101,110]))) (.lst [])) Z h=some (decide (W.given=[]),h++[.lst []]):=by
 rw[<-Qd9 s.dg];exact Qs (QN r2 (s_k s.cw rfl)) (y_lst.trans rfl) (Zz (Qn s.cg) at0)
def QqL(s:Sx P h w c W)(r2:Z[2]?=some (sR w)):evT T cf (d+4) (.cmp .NotEq (.ix (.var 2) (.c (.str [103,105,118,101,110]))) (.lst [])) Z h=some (decide (W.given≠[]),h++[.lst []]):=by
 have e:decide (W.given≠[])=!decide (W.given=[]):=by simp
 rw[e,<-Qd9 s.dg]
 exact Qs (QN r2 (s_k s.cw rfl)) (y_lst.trans rfl) (by show(eqA _ _ _ _).map _=_;rw[Zz (Qn s.cg) at0];rfl)
def Qit{a b:E}{p q:Prop}[Decidable p][Decidable q](s:Sx P h w c W)(ea:∃P1 h1,Le P P1/\Sx P1 h1 w c W/\evT T cf d a Z h=some (decide p,h1))(eb:∀P1 h1,Sx P1 h1 w c W->∃P2 h2,Le P1 P2/\Sx P2 h2 w c W/\evT T cf d b Z h1=some (decide q,h2)):∃P2 h2,Le P P2/\Sx P2 h2 w c W/\evT T cf (d+1) (.and a b) Z h=some (decide (p/\q),h2):=by
 obtain⟨P1,h1,l1,s1,e1⟩:=ea;by_cases hp:p
 ·obtain⟨P2,h2,l2,s2,e2⟩:=eb P1 h1 s1;refine⟨P2,h2,l1.trans l2,s2,?_⟩
  rw[YH,e1,Qh,if_pos (by simpa using hp),e2]
  simp[hp]
 ·refine⟨P1,h1,l1,s1,?_⟩
  rw[YH,e1,Qh,if_neg (by simpa using hp)]
  simp[hp]
end
def QkJ{W:Ws}(g:Gd W)(l:sz W<7800)(lk:W.kept.length<=64):∃W',Gd W'/\sz W'<=sz W+42/\W'.off.length+W'.kept.length<=W.off.length+W.kept.length+1 /\
  ∀(w:Nat) (Z:Rho),Z[2]?=some (sR w)->Z[3]?=some (sI x)->∀(P:Vp) h,St P h w W->Xx (tbG xx s) (Qa (tbG xx s) (m+3)) (d+13) bdW Z h λf ρ' h'=>f=.next/\ρ'=Z/\∃P1,Le P P1/\St P1 h' w W':=by
 have go:∀{w:Nat} {Z:Rho} {f:Nat} {es:List E} {us:List U} {P:Vp} {h:Hs} {W':Ws} {k:Nat} {r:List S} {Q:Fl->Rho->Hs->Prop},evs (ev (tbG xx s) (Qa (tbG xx s) (m+3)) k) Z es h=some (us,h)->Cc (tbG xx s) (m+3) f us h (To P w W')->(∀P1 h1,Le P P1->St P1 h1 w W'->Xx (tbG xx s) (Qa (tbG xx s) (m+3)) (k+2) r Z h1 Q)->Xx (tbG xx s) (Qa (tbG xx s) (m+3)) (k+3) (.expr (.call f es)::r) Z h Q:=λe c q=>by
  obtain⟨u,h1,a,_,P1,l1,s1⟩:=c
  exact YQ (Zi (by rw[y_call,e,Qh,a]) (q P1 h1 l1 s1))
 have v2:∀{w:Nat} {Z:Rho},Z[2]?=some (sR w)->∀k h,evs (ev (tbG xx s) (Qa (tbG xx s) (m+3)) (k+1)) Z [.var 2] h=some ([.ref w],h):=λr2 k h=>by rw[evs,Qc r2];rfl
 obtain⟨W1,g1,z1,o1,c1⟩:∃W1,Gd W1/\sz W1<=sz W+9/\W1.off.length+W1.kept.length=W.off.length+W.kept.length/\∀(w:Nat) (Z:Rho),Z[2]?=some (sR w)->Z[3]?=some (sI x)->∀(P:Vp) h (r:List S) (Q:Fl->Rho->Hs->Prop),St P h w W->(∀P1 h1,Le P P1->St P1 h1 w W1->Xx (tbG xx s) (Qa (tbG xx s) (m+3)) (d+12) r Z h1 Q)->Xx (tbG xx s) (Qa (tbG xx s) (m+3)) (d+13) (.ite (.and (.cmp .Eq (.ix (.var 2) (.c (.str [108,101,102,116]))) (.lst [])) (.and (.cmp .Eq (.ix (.var 2) (.c (.str [103,105,118,101,110]))) (.lst [])) (.cmp .Lt (.op .Mod (.var 3) (.c (.int 16 0))) (.c (.int 8 0))))) [(.expr (.call 11 [(.var 2)])),(.expr (.call 13 [(.var 2),(.op .FloorDiv (.var 3) (.c (.int 16 0)))]))] []::r) Z h Q:=by
  have tt:∀(w:Nat) (Z:Rho),Z[2]?=some (sR w)->Z[3]?=some (sI x)->∀(P:Vp) h c,Sx P h w c W->∃P2 h2,Le P P2/\Sx P2 h2 w c W/\evT (tbG xx s) (Qa (tbG xx s) (m+3)) (d+11) (.and (.cmp .Eq (.ix (.var 2) (.c (.str [108,101,102,116]))) (.lst [])) (.and (.cmp .Eq (.ix (.var 2) (.c (.str [103,105,118,101,110]))) (.lst [])) (.cmp .Lt (.op .Mod (.var 3) (.c (.int 16 0))) (.c (.int 8 0))))) Z h=some (decide (W.left=[]/\W.given=[]/\x % 16<8),h2):=λw Z r2 r3 P h c s0=>
   Qit s0 ⟨_,_,le_ad,s0.add,t_L s0 r2⟩ λP1 h1 s1=>Qit s1 ⟨_,_,le_ad,s1.add,t_G s1 r2⟩ λP2 h2 s2=>⟨P2,h2,Le.refl,s2,Qs (Zv (Qc r3) (by decide)) y_c rfl⟩
  by_cases cd:W.left=[]/\W.given=[]/\x % 16<8
  ·have ze:=Qhz W
   obtain⟨W1,k,lk',ek,q⟩:=QfR (xx:=xx) (s:=s) (m:=m+2) (W:=Jk W) (x:=x / 16) (QeO g) (by lia) lk
   refine⟨W1,ek.gd,by have:=ek.sz;lia,by rw[ek.of,ek.kp];rfl,λw Z r2 r3 P h r Q ⟨c,s0⟩ qq=>?_⟩
   obtain⟨P2,h2,l2,s2,e2⟩:=tt w Z r2 r3 P h c s0;refine Qb3 e2 ?_;rw[W5 cd]
   refine go (v2 r2 _ _) (QkN ⟨c,s2⟩ (by lia)) λP3 h3 l3 s3=>go (us:=[.ref w,.int (x / 16) 0]) ?_ (q w P3 h3 s3) λP4 h4 l4 s4=>QK (qq P4 h4 ((l2.trans l3).trans l4) s4)
   rw[evs,Qc r2,Qh,evs,ZC (Qc r3) (by decide)]
   rfl
  ·refine⟨W,g,by lia,rfl,λw Z r2 r3 P h r Q z qq=>?_⟩;obtain⟨c,s0⟩:=z
   obtain⟨P2,h2,l2,s2,e2⟩:=tt w Z r2 r3 P h c s0;refine Qb3 e2 ?_;rw[Wa cd];exact QK (qq P2 h2 l2 ⟨c,s2⟩)
 obtain⟨W2,g2,z2,o2,c2⟩:∃W2,Gd W2/\sz W2<=sz W1+1/\W2.off.length+W2.kept.length=W1.off.length+W1.kept.length/\∀(w:Nat) (Z:Rho),Z[2]?=some (sR w)->∀(P:Vp) h (r:List S) (Q:Fl->Rho->Hs->Prop),St P h w W1->(∀P1 h1,Le P P1->St P1 h1 w W2->Xx (tbG xx s) (Qa (tbG xx s) (m+3)) (d+11) r Z h1 Q)->Xx (tbG xx s) (Qa (tbG xx s) (m+3)) (d+12) (.ite (.and (.cmp .Eq (.ix (.var 2) (.c (.str [108,101,102,116]))) (.lst [])) (.cmp .NotEq (.ix (.var 2) (.c (.str [103,105,118,101,110]))) (.lst []))) [(.expr (.call 11 [(.var 2)]))] []::r) Z h Q:=by
  have tt:∀(w:Nat) (Z:Rho),Z[2]?=some (sR w)->∀(P:Vp) h c,Sx P h w c W1->∃P2 h2,Le P P2/\Sx P2 h2 w c W1/\evT (tbG xx s) (Qa (tbG xx s) (m+3)) (d+10) (.and (.cmp .Eq (.ix (.var 2) (.c (.str [108,101,102,116]))) (.lst [])) (.cmp .NotEq (.ix (.var 2) (.c (.str [103,105,118,101,110]))) (.lst []))) Z h=some (decide (W1.left=[]/\W1.given≠[]),h2):=λw Z r2 P h c s0=>
   Qit s0 ⟨_,_,le_ad,s0.add,t_L s0 r2⟩ λP1 h1 s1=>⟨_,_,le_ad,s1.add,QqL s1 r2⟩
  by_cases cd:W1.left=[]/\W1.given≠[]
  ·have ze:=Qhz W1
   refine⟨Jk W1,QeO g1,by lia,rfl,λw Z r2 P h r Q y qq=>?_⟩;obtain⟨c,s0⟩:=y
   obtain⟨P2,h2,l2,s2,e2⟩:=tt w Z r2 P h c s0;refine Qb3 e2 ?_;rw[W5 cd]
   exact go (v2 r2 _ _) (QkN ⟨c,s2⟩ (by lia)) λP3 h3 l3 s3=>QK (qq P3 h3 (l2.trans l3) s3)
  ·refine⟨W1,g1,by lia,rfl,λw Z r2 P h r Q v qq=>?_⟩;obtain⟨c,s0⟩:=v
   obtain⟨P2,h2,l2,s2,e2⟩:=tt w Z r2 P h c s0;refine Qb3 e2 ?_;rw[Wa cd];exact QK (qq P2 h2 l2 ⟨c,s2⟩)
 obtain⟨W3,tr,q⟩:=QkK (xx:=xx) (s:=s) (m:=m) (W:=W2) (x:=x) g2 (by lia)
 refine⟨W3,tr.gd,by have:=tr.sz;lia,by have:=tr.of;lia,λw Z r2 r3 P h st=>c1 w Z r2 r3 P h _ _ st λP1 h1 l1 s1=>c2 w Z r2 P1 h1 _ _ s1 λP2 h2 l2 s2=>go (us:=[.ref w,.int x 0]) ?_ (q w P2 h2 s2) λP3 h3 l3 s3=>QK ⟨rfl,rfl,P3,(l1.trans l2).trans l3,s3⟩⟩
 rw[evs,Qc r2,Qh,evs,Qc r3];rfl
theorem Js{s:List U}{m d:Nat}:∀(vs:List Int) (W:Ws),Gd W->sz W+42*vs.length<7800->W.off.length+W.kept.length+vs.length<64->∃W',Gd W'/\sz W'<=sz W+42*vs.length/\W'.off.length<64 /\
  ∀(w L i k:Nat) (X:List Int) (a b:Option U) (P:Vp) h o,X.drop i=vs->vs.length<k->P L (.lst (X.map λn=>U.int n 0))->St P h w W->∃h2 o',Z6 (tbG xx s) (.seqL (.ref L)) (.name 3) (exs (tbG xx s) (Qa (tbG xx s) (m+3)) (d+13) bdW) k i [a,b,sR w,o,none] h=some (.next,[a,b,sR w,o',none],h2)/\∃P1,Le P P1/\St P1 h2 w W'
 |[],W,g,l,l2=>⟨W,g,Xi _,by lia,λw L i k X a b P h o hd lk hP st=>by
  obtain⟨k,rfl⟩:∃j,k=j+1:=⟨k-1,by simp at lk;lia⟩
  have hL:=st.elim λz s=>s.ow.p _ _ hP
  have e:(X.map λn=>U.int n 0)[i]?=none:=by rw[X6,Wd];exact Se.mp hd
  exact⟨h,o,by simp only[Z6,itm,QA,hL,Wp,e,Option.map_none],P,Le.refl,st⟩⟩
 |v::vs,W,g,l,l2=>by
  rw[X8]at l l2
  obtain⟨W1,g1,z1,o1,q1⟩:=QkJ (xx:=xx) (s:=s) (m:=m) (d:=d) (x:=v) g (by lia) (by lia)
  obtain⟨W2,g2,z2,o2,q2⟩:=Js (xx:=xx) (s:=s) (m:=m) (d:=d) vs W1 g1 (by lia) (by lia)
  refine⟨W2,g2,by rw[X8];lia,o2,λw L i k X a b P h o hd lk hP st=>?_⟩
  obtain⟨k,rfl⟩:∃j,k=j+1:=⟨k-1,by simp at lk;lia⟩
  have hL:=st.elim λz s=>s.ow.p _ _ hP
  have e0:X[i]?=some v:=by
   have:=Te (xs:=X) (i:=i) (j:=0);rw[hd]at this;simpa using this.symm
  have e:(X.map λn=>U.int n 0)[i]?=sI v:=by rw[Wt,e0];rfl
  obtain⟨f,ρ1,h1,x1,rfl,rfl,P1,l1,s1⟩:=q1 w [a,b,sR w,sI v,none] rfl rfl P h st
  obtain⟨h2,o',f2,P2,l2,s2⟩:=q2 w L (i+1) k X a b P1 h1 (sI v) (by rw[<-Sk,hd];rfl) (by simp at lk;lia) (l1 _ _ hP) s1
  refine⟨h2,o',?_,P2,l1.trans l2,s2⟩;simp only[Z6,itm,QA,hL,e,Wp,tgt,X9,Wi,x1];exact f2
noncomputable def W0(n:Nat):Ws:=⟨[(List.range n).map λz=>⟨[],0,0⟩],(List.range n).map λ(k:Nat)=>((0:Int),(k:Int)),[],[],[],[],[]⟩
def QjL(n:Nat):Gd (W0 n):=by
 refine⟨λa m=>?_,λa m=>(by cases m),λa m=>(by cases m),λr row e lp m=>?_,λp m=>(by cases m),λp m=>(by cases m)⟩
 ·obtain⟨k,mk,rfl⟩:=Wg.mp m
  exact⟨0,k,_,rfl,rfl,by simpa using mk⟩
 ·cases r with
  |zero=>
   cases e;obtain⟨k,mk,rfl⟩:=Wg.mp m
   exact⟨by simp,λa m=>(by cases m)⟩
  |succ r=>simp[W0]at e
def Qix(n:Nat):sz (W0 n)=2*n+1:=by simp[sz,W0,szR,Jx];lia
def Qcv{P:Vp}{D:Vp->U->α->Prop}{F:Nat->α}(mono:∀P P1 u a,Le P P1->D P u a->D P1 u a)(o:Own h C P)(ln:n<1000000)
  (st:∀i P1 h1,Own h1 C P1->∃u h2 P2,ev T cf d el (Z++[some (.int ((i:Nat):Int) 0)]) h1=some (u,h2)/\Le P1 P2/\Own h2 C P2/\D P2 u (F i)):
  ∃us h2,QS T (ev T cf d) (Z9 (evT T cf d) none) (.rng 0 n) false el Z (n+1) 0 [] h=some (us,h2)/\∃P2,Le P P2/\Own h2 C P2/\Paired (D P2) us ((List.range n).map F):=by
 refine Y5 (T:=T) (f:=ev T cf d) (ft:=Z9 (evT T cf d) none) (w:=.rng 0 n) (el:=el) (Z:=Z) (n:=n) (λi acc h=>∃P1,Le P P1/\Own h C P1/\Paired (D P1) acc ((List.range i).map F)) (λi hi acc h y=>?_) (λacc h x=>by simp[itm]) n 0 (n+1) [] h (by lia) (by lia) ⟨P,Le.refl,o,.nil⟩;obtain⟨P1,l1,o1,p1⟩:=y
 have lp:=Qd p1;rw[Wd,Ts]at lp;obtain⟨u,h2,P2,e,l2,o2,d2⟩:=st i P1 h o1
 refine⟨by lia,.int (i:Int) 0,true,h,by simp[itm,hi],rfl,λx=>⟨u,h2,e,P2,l1.trans l2,o2,?_⟩,λz=>(by cases z)⟩
 rw[Uq,Vg];exact Qx d2 (Qb (λx x=>mono _ _ _ _ l2) p1)
def QkT{ks:List U}(e:evs (ev T cf d) Z es (h++[.dic []])=some (us,h1))(c:h1[h.length]?=some (.dic [])):ev T cf (d+1) (.dsp ks es) Z h=some (.ref h.length,h1.set h.length (.dic (Jr [] (ks.zip us)))):=by
 rw[ev,e,Qh,c]
def QnP{H:Hs}{e:Nat}{more:List (U×U)}(hw:H[w]?=some (.dic kvs))(he:H[e]?=some (.dic more))(ne:w≠e)(l:kvs.length+more.length<=1000000):bmU T .update (.ref w) [.ref e] H=some (.non,H.set w (.dic (Jr kvs more))):=by
 simp only[bmU,hw,bmD,he];rw[if_pos ⟨ne,l⟩]
noncomputable def sk:Nat->Nat
 |0=>0
 |1=>1
 |k+2=>k+3
def Own.del{P:Vp}{a b x:Nat×O}(o:Own h (a::b::x::C) P):Own h (a::b::C) P:=by
 have m:∀(k:Nat) y,(a::b::C)[k]?=some y->(a::b::x::C)[sk k]?=some y:=λk y e=>match k with
  |0=>e
  |1=>e
  |k+2=>e
 have inj:∀k k',sk k=sk k'->k=k':=λk k' e=>by
  rcases k with _|_|k<;>rcases k' with _|_|k'<;>simp[sk]at e ⊢<;>lia
 exact⟨λk i z e=>o.c _ _ _ (m _ _ e),λk k' i z z' e e'=>inj _ _ (o.nd _ _ _ _ _ (m _ _ e) (m _ _ e')),o.p,λi z p k z' e=>o.q _ _ p _ _ (m _ _ e)⟩
noncomputable def Qqm:List S:=[(.set 2 (.dsp [(.str [114,111,119,115]),(.str [108,101,102,116])] [(.lst [(.comp (.rng (.var 1)) false none (.tup [(.tup []),(.c (.int 0 0)),(.c (.int 0 0))]))]),(.comp (.rng (.var 1)) false none (.tup [(.c (.int 0 0)),(.var 5)]))])),(.expr (.bm .update (.var 2) [(.dsp [(.str [103,105,118,101,110]),(.str [110,101,119]),(.str [112,117,116]),(.str [107,101,112,116]),(.str [111,102,102])] [(.lst []),(.lst []),.dnew,.dnew,(.lst [])])]))]
def QkL{r:List S}(ln:n<=1000)(q:∀P h1,Le (λi o=>h[i]?=some o) P->St P h1 h.length (W0 n)->Xx T cf (d+12) r [some a,sI (n:Int),sR h.length,none,none] h1 Q):Xx T cf (d+14) (Qqm++r) [some a,sI (n:Int),none,none,none] h Q:=by
 have o0:Own h [] (λi o=>h[i]?=some o):=⟨λk i x e=>(by cases k<;>cases e),λk k' i x x' e=>(by cases k<;>cases e),λi o e=>e,λi o w k x e=>(by cases k<;>cases e)⟩
 have o1:=o0.new (y:=.dic [])
 obtain⟨us1,h2,c1,P2,l2,o2,p1⟩:=Qcv (α:=Lp) (T:=T) (cf:=cf) (d:=d+9) (n:=n) (el:=.tup [(.tup []),(.c (.int 0 0)),(.c (.int 0 0))]) (Z:=[some a,sI (n:Int),none,none,none]) (D:=dL) (F:=λw=>⟨[],0,0⟩) (λw w w w l=>dL.le l) o1 (by lia) λi P1 h1 o1=>⟨_,_,_,Qdw (y_tup.trans rfl) y_c y_c,le_ad.trans le_ad,o1.add.add,_,_,[],rfl,QZ,.inl QZ,.nil⟩
 have o3:=(o2.add (y:=.lst us1)).new (y:=.lst [.ref h2.length])
 obtain⟨us2,h4,c2,P4,l4,o4,p2⟩:=Qcv (α:=Nm) (T:=T) (cf:=cf) (d:=d+10) (n:=n) (el:=.tup [(.c (.int 0 0)),(.var 5)]) (Z:=[some a,sI (n:Int),none,none,none]) (D:=dN) (F:=λk=>(0,(k:Int))) (λw w w w l=>dN.le l) o3 (by lia) λi P1 h1 o1=>⟨_,_,_,Jj y_c (Qc rfl),le_ad,o1.add,_,rfl,QZ⟩
 have o5:=o4.add (y:=.lst us2)
 have v1:evs (ev T cf (d+11)) [some a,sI (n:Int),none,none,none] [(.lst [(.comp (.rng (.var 1)) false none (.tup [(.tup []),(.c (.int 0 0)),(.c (.int 0 0))]))]),(.comp (.rng (.var 1)) false none (.tup [(.c (.int 0 0)),(.var 5)]))] (h++[.dic []])=some ([.ref (h2++[O.lst us1]).length,.ref h4.length],h4++[.lst us2]):=by
  rw[evs,y_lst,evs,ZU (Yk (Qc rfl) (by lia)) c1,Qh,evs,Qh,Qh,Qh,evs,ZU (Yk (Qc rfl) (by lia)) c2]
  rfl
 have o6:=o5.set 0 (y:=.dic [(.str [114,111,119,115],.ref (h2++[O.lst us1]).length),(.str [108,101,102,116],.ref h4.length)]) rfl;refine QR (Zi (QkT v1 (o5.c 0 _ _ rfl)) ?_);generalize e7:(h4++[O.lst us2]).set h.length (.dic [(.str [114,111,119,115],.ref (h2++[O.lst us1]).length),(.str [108,101,102,116],.ref h4.length)])=H at o6;have o7:=(((((o6.new (y:=.dic [])).new (y:=.lst [])).new (y:=.lst [])).new (y:=.dic [])).new (y:=.dic [])).new (y:=.lst []);have o8:=λy=>o7.set 2 (y:=y) rfl;have o9:=λy y'=>((o8 y).set 0 (y:=y') rfl).del;have ne:h.length≠H.length:=λz=>Wx _ (Nat.lt_of_lt_of_eq (o6.lt (k:=0) rfl) z.symm);refine YQ (Zi (u:=.non) (h1:=_) ?_ (q _ _ ?_ ⟨⟨_,h4.length,_,_,_,_,_,[.ref h2.length],us2,[],[],[],[]⟩,⟨o9 (.dic [(.str [103,105,118,101,110],.ref (H++[O.dic []]).length),(.str [110,101,119],.ref (H++[O.dic []]++[O.lst []]).length),(.str [112,117,116],.ref (H++[O.dic []]++[O.lst []]++[O.lst []]).length),(.str [107,101,112,116],.ref (H++[O.dic []]++[O.lst []]++[O.lst []]++[O.dic []]).length),(.str [111,102,102],.ref (H++[O.dic []]++[O.lst []]++[O.lst []]++[O.dic []]++[O.dic []]).length)]) _,.cons ⟨_,us1,rfl,?_,?_⟩ .nil,?_,?_,.nil,.nil,.nil,.nil⟩⟩))
 ·show ev T cf (d+11) _ _ ((h4++[O.lst us2]).set h.length (.dic [(.str [114,111,119,115],.ref (h2++[O.lst us1]).length),(.str [108,101,102,116],.ref h4.length)]))=_
  rw[e7,Qih,Qc rfl,Qh,if_pos (by simp only[Qdk,o6.c 0 _ _ rfl];rfl),evs,QkT (h:=H) (by simp only[evs,y_lst,QkF,Qh];rfl) (o7.c 2 _ _ rfl),Qh,evs,Qh,Qh]
  exact QnP ((o8 _).c 0 _ _ rfl) ((o8 _).c 2 _ _ rfl) ne (show 2+5<=1000000 by decide)
 ·exact(l2.trans le_ad).trans (l4.trans le_ad)
 ·exact le_ad _ _ (l4 _ _ QZ)
 ·exact Qb (λw w=>dL.le (le_ad.trans (l4.trans le_ad))) p1
 ·exact QZ
 ·exact dNs.le le_ad p2
def dN.to{P:Vp}(k:∀i o,P i o->h[i]?=some o){a:Nm}(d:dN P u a):DN h u a:=by obtain⟨i,e,d⟩:=d;exact⟨i,e,k _ _ d⟩
theorem dNs.to{P:Vp}(k:∀i o,P i o->h[i]?=some o){as:List Nm}(d:Paired (dN P) us as):Paired (DN h) us as:=Qb (λz z=>dN.to k) d
theorem dLs.to{P:Vp}(k:∀i o,P i o->h[i]?=some o){as:List Lp}(d:Paired (dL P) us as):Paired (DL h) us as:=Qb (λz z y=>by obtain⟨i,j,vs,e,a,b,c⟩:=y;exact⟨i,j,vs,e,k _ _ a,k _ _ b,dNs.to k c⟩) d
noncomputable def kq(kept:List (U×List Nm))(c:Nat):List (U×List Nm):=match kept.find? λp=>decide (p.1=U.str [c])with
 |some p=>[(.str [c],p.2)]
 |none=>[]
def Qmo(kept:List (U×List Nm))(c:Nat):((kq kept c).map (·.2)).flatten.length<=Jx kept:=by
 unfold kq;split
 ·rename_i p e;simpa using J0 (List.mem_of_find?_eq_some e)
 ·simp
noncomputable def ks4:List Nat:=[119,120,121,122]
noncomputable def Qnp:E:=.cmp .In (.var 5) (.ix (.var 2) (.c (.str [107,101,112,116])))
noncomputable def elK:E:=.tup [(.var 5),(.ix (.ix (.var 2) (.c (.str [107,101,112,116]))) (.var 5))]
def Qfh{P:Vp}{c:Ct}{W:Ws}(s:Sx P h w c W)(r2:Z[2]?=some (sR w))(rl:Z.length=5):
  ∃us h2,QS T (ev T cf (d+4)) (Z9 (evT T cf (d+4)) (some Qnp)) (.strW ks4) false elK Z 5 0 [] h=some (us,h2)/\us.length<=4/\∃P1,Le P P1/\Sx P1 h2 w c W/\Paired (DK h2) us (ks4.flatMap (kq W.kept)):=by
 refine Y5 (T:=T) (f:=ev T cf (d+4)) (ft:=Z9 (evT T cf (d+4)) (some Qnp)) (w:=.strW ks4) (el:=elK) (Z:=Z) (n:=4) (λi acc h=>acc.length<=i/\∃P1,Le P P1/\Sx P1 h w c W/\Paired (DK h) acc ((ks4.take i).flatMap (kq W.kept))) (λi hi acc h y=>?_) (λacc h x=>rfl) 4 0 5 [] h rfl (by decide) ⟨Xi _,P,Le.refl,s,.nil⟩;obtain⟨la,P1,l1,s1,p1⟩:=y
 obtain⟨ch,hc,l128⟩:∃ch,ks4[i]?=some ch/\ch<128:=by
  have:i=0\/i=1\/i=2\/i=3:=by lia
  rcases this with rfl|rfl|rfl|rfl<;>exact⟨_,rfl,by decide⟩
 have e1:(ks4.take (i+1)).flatMap (kq W.kept)=(ks4.take i).flatMap (kq W.kept)++kq W.kept ch:=by rw[List.take_succ,hc,List.flatMap_append];simp
 have i2:(Z++[some (.str [ch])])[2]?=some (sR w):=by rw[Xp (by lia)];exact r2
 have i5:(Z++[some (.str [ch])])[5]?=some (some (.str [ch])):=by rw[X7 (by lia),rl];rfl
 have ck:h[c.k]?=some (.dic (kd c.kc)):=s1.ow.c 5 _ _ rfl
 have ec:ZF T .In (.str [ch]) (.ref c.k) h=some (QB (kd c.kc) (.str [ch])).isSome:=by simp only[ZF,ZW,ck,inD,ZM,Qa8,We,Option.map]
 have tt:Z9 (evT T cf (d+4)) (some Qnp) (Z++[some (.str [ch])]) h=some ((QB (kd c.kc) (.str [ch])).isSome,h):=Qs (Qc i5) (QN i2 (s_k s1.cw rfl)) ec
 rcases QgH (k:=.str [ch]) W.kept with⟨j,nms,_,f1,r⟩|⟨_,f1,r⟩
 ·obtain⟨p,us,k1,k2,k3⟩:=r P1 _ s1.dk;rw[k3]at tt
  refine⟨by lia,.str [ch],true,h,by simp only[itm,hc,Wp],tt,λx=>⟨.ref h.length,h++[.tup [.str [ch],.ref p]],Jj (Qc i5) (y_ix.trans (by rw[QN i2 (s_k (v:=.ref c.k) s1.cw rfl),Qh,Qc i5,Qh,s_k ck k3];rfl)),by rw[Xn];exact Nat.succ_le_succ la,_,l1.trans le_ad,s1.add,?_⟩,λz=>(by cases z)⟩
  rw[e1,kq,f1];exact Qx ⟨_,p,us,rfl,at0,Qn (s1.kpt k1),Qb (λx x=>DN.kp (Kp.app _ _)) (dNs.to s1.ow.p k2),ch,rfl,l128⟩ (Qb (λx x=>DK.kp (Kp.app _ _)) p1)
 ·rw[r P1 _ s1.dk]at tt
  refine⟨by lia,.str [ch],false,h,by simp only[itm,hc,Wp],tt,λz=>(by cases z),λx=>⟨by lia,P1,l1,s1,?_⟩⟩
  rw[e1,kq,f1,Vd];exact p1
structure WOk(D:Wb):Prop where
 rl:D.rows.length<=7000
 rs:szR D.rows<=7000
 ll:D.lie.length<=7000
 ol:D.off.length<=64
 kl:(D.kept.map (·.2)).flatten.length<=28000
 lv:∀a∈D.lie,Vr D.rows a
 rv:∀(r:Nat) row,D.rows[r]?=some row->∀lp∈row,lp.ps.length<=8/\∀a∈lp.ps,Vr (D.rows.take r) a
noncomputable def Qkt(W:Ws):Wb:=⟨W.rows++[W.new],W.given++W.left,ks4.flatMap (kq W.kept),QdP W.off⟩
def QkI{W:Ws}(g:Gd W)(l:sz W<=2600)(lo:W.off.length<64):WOk (Qkt W):=by
 have z:=Qat W
 refine⟨by simp[Qkt];lia,?_,?_,?_,?_,λa m=>?_,(QeO g).rows⟩
 ·have e:szR (W.rows++[W.new])=szR W.rows+W.new.length:=by simp[szR]
  show szR (W.rows++[W.new])<=_;lia
 ·show(W.given++W.left).length<=_;rw[Xn];lia
 ·show(QdP W.off).length<=_;unfold QdP;rw[Wd,L2.permK_length];lia
 ·have k:=Qmo W.kept;have k1:=k 119;have k2:=k 120;have k3:=k 121;have k4:=k 122;simp only[Qkt,ks4,List.flatMap_cons,List.flatMap_nil,Vd,Vg,List.flatten_append,Xn];lia
 ·rcases Wo.mp m with m|m
  ·exact g.given a m
  ·exact(g.left a m).app
def Qnd{a b:Nat}(ha:hs[a]?=some (.lst xs))(hb:hs[b]?=some (.lst ys))(l:xs.length+ys.length<=1000000):opU .Add (.ref a) (.ref b) hs=some (.ref hs.length,hs++[.lst (xs++ys)]):=Qa5 ha hb l
noncomputable def Qqb:E:=(.tup [(.op .Add (.ix (.var 2) (.c (.str [114,111,119,115]))) (.lst [(.ix (.var 2) (.c (.str [110,101,119])))])),(.op .Add (.ix (.var 2) (.c (.str [103,105,118,101,110]))) (.ix (.var 2) (.c (.str [108,101,102,116])))),(.var 4),(.bi .sorted [(.ix (.var 2) (.c (.str [111,102,102])))])])
def QnL{kl:Nat}{P:Vp}{c:Ct}{W:Ws}{rk:List U}(s:Sx P h w c W)(l:sz W<=2600)(lo:W.off.length<64)(r2:Z[2]?=some (sR w))(r4:Z[4]?=some (sR kl))(hk:h[kl]?=some (.lst rk))(dk:Paired (DK h) rk (ks4.flatMap (kq W.kept))):
  Rr T cf (d+5) Qqb Z h λu h1=>Kp h h1/\DW h1 u (Qkt W):=by
 have z:=Qat W;have lr:=Qd s.dr;have lg:=Qd s.dg;have lf:=Qd s.dl;have sw:=λ(h1:Hs) (k:Kp h h1)=>k _ _ s.cw
 have a1:=Qnd (hs:=h++[.lst [.ref c.n]]) (Qn s.cr) at0 (by simp;lia)
 have v1:ev T cf (d+4) (.op .Add (.ix (.var 2) (.c (.str [114,111,119,115]))) (.lst [(.ix (.var 2) (.c (.str [110,101,119])))])) Z h=_:=Qap (QN r2 (s_k (v:=.ref c.r) s.cw rfl)) (y_lst.trans (by rw[evs,QN r2 (s_k (v:=.ref c.n) s.cw rfl),Qh,evs,Qh,Qh])) a1
 have k1:Kp h (h++[O.lst [.ref c.n]]++[.lst (c.rr++[.ref c.n])]):=(Kp.app _ _).trans (Kp.app _ _);have h1a:(h++[O.lst [.ref c.n]]++[.lst (c.rr++[.ref c.n])])[(h++[O.lst [.ref c.n]]).length]?=some (.lst (c.rr++[.ref c.n])):=at0;generalize h++[O.lst [.ref c.n]]++[.lst (c.rr++[.ref c.n])]=H1 at v1 k1 h1a
 have a2:=Qnd (hs:=H1) (k1 _ _ s.cg) (k1 _ _ s.cl) (by lia)
 have v2:ev T cf (d+4) (.op .Add (.ix (.var 2) (.c (.str [103,105,118,101,110]))) (.ix (.var 2) (.c (.str [108,101,102,116])))) Z H1=_:=Qap (QN r2 (s_k (v:=.ref c.g) (sw _ k1) rfl)) (QN r2 (s_k (v:=.ref c.l) (sw _ k1) rfl)) a2;have k2:=k1.trans (Kp.app H1 [.lst (c.gs++c.ls)]);have h2a:(H1++[O.lst (c.gs++c.ls)])[H1.length]?=some (.lst (c.gs++c.ls)):=at0;have k12:=Kp.app H1 [.lst (c.gs++c.ls)];generalize H1++[O.lst (c.gs++c.ls)]=H2 at v2 k2 h2a k12;have tN:∀{us as},Paired (dN P) us as->Paired (DN h) us as:=λd=>dNs.to s.ow.p d
 obtain⟨vs,e3,p3⟩:=QiC (T:=T) (hs:=H2) (k2 _ _ (s.ow.c 6 _ _ rfl)) (Qb (λy y=>DN.kp k2) (tN s.dο)) (by rw[Qd s.dο];exact lo)
 have v3:=Qkv (T:=T) (cf:=cf) (d:=d+3) (Z:=Z) (QN r2 (s_k (sw _ k2) (k:=[111,102,102]) (v:=.ref c.o) rfl)) e3;refine Zi (QkQ v1 v2 (Qc r4) v3) ?_;have k3:Kp H2 (H2++[O.lst vs]++[.tup [.ref (h++[O.lst [.ref c.n]]).length,.ref H1.length,.ref kl,.ref H2.length]]):=(Kp.app _ _).trans (Kp.app _ _);have k4:=k2.trans k3;refine⟨k4,_,_,_,_,_,_,_,_,vs,rfl,at0,(k12.trans k3) _ _ h1a,k3 _ _ h2a,k4 _ _ hk,Qn at0,?_,ZI (Qb (λy y=>DN.kp k4) (tN s.dg)) (Qb (λy y=>DN.kp k4) (tN s.dl)),Qb (λy y=>DK.kp k4) dk,Qb (λy y=>DN.kp k3) p3⟩;refine Qx ⟨c.n,c.ns,rfl,k4 _ _ s.cn,Qb (λy y=>DL.kp k4) (dLs.to s.ow.p s.dn)⟩ (Qb (λu a x=>by obtain⟨i,us,e,a1,a2⟩:=x;exact⟨i,us,e,k4 _ _ (s.ow.p _ _ a1),Qb (λy y=>DL.kp k4) (dLs.to s.ow.p a2)⟩) s.dr)
noncomputable def QD(ns:List Int)(k:Nat):Int:=ns.getD k 0
def Qfu{k:Nat}:Qa (tbG xx (ns.map λn=>U.int n 0)) (m+1) 6 [.scr,.int (k:Int) 0] hs=some (.int (QD ns k) 0,hs):=by
 rw[cl1]
 have l:biU (tbG xx (ns.map λn=>U.int n 0)) .len [.scr] hs=some (.int ns.length 0,hs):=by
  show some (U.int ((ns.map λn=>U.int n 0).length:Nat) 0,hs)=_;rw[Wd]
 by_cases c:k<ns.length
 ·have g:QF (tbG xx (ns.map λn=>U.int n 0)) .scr (.int (k:Int) 0) hs=sI (QD ns k):=by
   show(match ZW (tbG xx (ns.map λn=>U.int n 0)) .scr hs with|some xs=>atU xs (k:Int)|none=>none)=_
   refine Yw (i:=k) ?_;show(ns.map λn=>U.int n 0)[k]?=_;rw[Wt,Xf c];simp[QD,c]
  generalize Qa _ m=cf;generalize tb (ns.map λn=>U.int n 0)=T at l g ⊢
  have p:decide ((k:Int) < (ns.length:Int))=true:=W5 (by lia)
  simp only[b6,dd,QT,ZR,Ji,Yq,Qm,y_bi,evs,Qh,l,ZF,Yg,QcF,y_ix,g,fin,Xe,Xh,p,Option.map,We]
 ·generalize Qa _ m=cf;generalize tb (ns.map λn=>U.int n 0)=T at l ⊢
  have p:decide ((k:Int) < (ns.length:Int))=false:=Wa (by lia)
  have e:QD ns k=0:=by unfold QD;rw[Wj,Wr (by lia)];rfl
  simp only[b6,dd,QT,ZR,Ji,Yq,Qm,y_bi,evs,Qh,l,ZF,Yg,JI,QcF,y_c,fin,Xe,Xh,p,Option.map,X4,Wv,e]
noncomputable def Qnq:E:=(.cmp .Eq (.op .Mod (.op .FloorDiv (.call 6 [(.var 0),(.op .Add (.c (.int 2 0)) (.op .Mod (.var 5) (.c (.int 60 0))))]) (.c (.int 3 0))) (.c (.int 2 0))) (.op .Mod (.var 2) (.c (.int 2 0))))
noncomputable def Qqx:E:=(.comp (.rng (.bi .len [(.var 3)])) false (some Qnq) (.ix (.var 3) (.var 5)))
noncomputable def Qqp:S:=(.ite (.cmp .Eq (.var 2) (.c (.int 0 0))) [(.ret (.rev (.var 3)))] [])
noncomputable def Qk8:S:=(.set 4 (.op .Mod (.op .FloorDiv (.call 6 [(.var 0),(.c (.int 1 0))]) (.c (.int 4 0))) (.bi .max [(.c (.int 1 0)),(.bi .len [(.var 3)])])))
noncomputable def Qns:E:=(.sl (.var 3) (some (.var 4)) (some (.op .Add (.var 4) (.c (.int 1 0)))))
noncomputable def QgL:S:=(.ite (.cmp .Eq (.var 2) (.c (.int 1 0))) [Qk8,(.ret (.op .Add Qns Qns))] [])
def QrP:Qa (tbG xx s) (m+1) 16 [a] hs=fin (exs (tbG xx s) (Qa (tbG xx s) m) dd b16 [some a,none,none,none,none] hs):=rfl
def Qna:b16=.set 1 (.op .Mod (.call 6 [(.var 0),(.c (.int 0 0))]) (.c (.int 9 0)))::(Qqm++[(.loop (.name 3) (.seq (.sl (.var 0) (some (.c (.int 2 0))) (some (.c (.int 62 0))))) bdW),(.set 4 (.comp (.seq (.c (.str ks4))) false (some Qnp) elK)),(.ret Qqb)]):=rfl
def QnK:∃D:Wb,WOk D/\∀hs:Hs,∃hs' u,Qa (tbG xx (ns.map λn=>U.int n 0)) (m+4) 16 [.scr] hs=some (u,hs')/\Kp hs hs'/\DW hs' u D:=by
 obtain⟨n,hn⟩:∃n:Nat,QD ns 0 % 9=(n:Int):=⟨(QD ns 0 % 9).toNat,by have:=W9 (QD ns 0) (show(9:Int)≠0 by decide);lia⟩
 have n9:n<9:=by have:=Vb (QD ns 0) (show(0:Int) < 9 by decide);lia
 have lc:(Q1 ns (some 2) (some 62)).length<=60:=Qfd (a:=2) (b:=62) (by decide) (by decide)
 have z0:=Qix n
 obtain⟨W,g,lz,lo,q⟩:=Js (xx:=xx) (s:=ns.map λn=>U.int n 0) (m:=m) (d:=82) (Q1 ns (some 2) (some 62)) (W0 n) (QjL n) (by lia) (by simp[W0];lia)
 refine⟨Qkt W,QkI g (by lia) lo,λhs=>?_⟩
 have c0:∀h,Qa (tbG xx (ns.map λn=>U.int n 0)) (m+3) 6 [.scr,.int 0 0] h=some (.int (QD ns 0) 0,h):=λh=>Qfu (k:=0)
 have v0:ev (tbG xx (ns.map λn=>U.int n 0)) (Qa (tbG xx (ns.map λn=>U.int n 0)) (m+3)) 98 (.op .Mod (.call 6 [(.var 0),(.c (.int 0 0))]) (.c (.int 9 0))) [some .scr,none,none,none,none] hs=some (.int (n:Int) 0,hs):=by
  rw[<-hn]
  exact Zv (y_call.trans (by rw[evs,Qc rfl,Qh,evs,y_c,Qh,evs,Qh,Qh,Qh,c0])) (by decide)
 have main:Cc (tbG xx (ns.map λn=>U.int n 0)) (m+4) 16 [.scr] hs λu h1=>Kp hs h1/\DW h1 u (Qkt W):=by
  refine Qic QrP ?_;rw[Qna]
  refine QR (Zi v0 (QkL (d:=85) (n:=n) (by lia) λP1 h1 l1 z=>?_));obtain⟨c1,s1⟩:=z
  have s2:=s1.add (y:=.lst ((Q1 ns (some 2) (some 62)).map λn=>U.int n 0));obtain⟨h3,o3,f3,P3,l3,c3,s3⟩:=q hs.length h1.length 0 ((Q1 ns (some 2) (some 62)).length+1) (Q1 ns (some 2) (some 62)) (some .scr) (sI (n:Int)) _ _ none rfl (V3 _) QZ ⟨c1,s2⟩
  have vs:ev (tbG xx (ns.map λn=>U.int n 0)) (Qa (tbG xx (ns.map λn=>U.int n 0)) (m+3)) 95 (.sl (.var 0) (some (.c (.int 2 0))) (some (.c (.int 62 0)))) [some .scr,sI (n:Int),sR hs.length,none,none] h1=some (.ref h1.length,h1++[.lst ((Q1 ns (some 2) (some 62)).map λn=>U.int n 0)]):=by
   rw[Qnn,Qc rfl,Qh,Qhs y_c,Qh,Qhs y_c,Qh,<-Qfc];rfl
  refine Jm (Yr vs at0) ⟨_,h3,by rw[Qf0 at0,Wd];exact f3,?_⟩
  obtain⟨us,h4,e4,_,P4,l4,s4,p4⟩:=Qfh (T:=tbG xx (ns.map λn=>U.int n 0)) (cf:=Qa (tbG xx (ns.map λn=>U.int n 0)) (m+3)) (d:=89) (Z:=[some .scr,sI (n:Int),sR hs.length,o3,none]) s3 rfl rfl;refine QR (Zi (ZU (w:=.strW ks4) rfl e4) (QiV ?_))
  obtain⟨u,h5,e5,k5,d5⟩:=QnL (T:=tbG xx (ns.map λn=>U.int n 0)) (cf:=Qa (tbG xx (ns.map λn=>U.int n 0)) (m+3)) (d:=88) (Z:=[some .scr,sI (n:Int),sR hs.length,o3,sR h4.length]) (s4.add (y:=.lst us)) (by lia) lo rfl rfl at0 (Qb (λx x=>DK.kp (Kp.app _ _)) p4)
  exact⟨u,h5,e5,λi o e=>k5 _ _ (Qn (s4.ow.p _ _ (l4 _ _ (l3 _ _ (le_ad _ _ (l1 _ _ e)))))),d5⟩
 obtain⟨u,h1,e,k,d⟩:=main;exact⟨h1,u,e,k,d⟩
def Qn6{x:Option U}:(Z++[none]).set Z.length x=Z++[x]:=by rw[Vs _ _ (Xi _),Td];rfl
def Qpj{f:Ev}{ft:Rho->Hs->Option (Bool×Hs)}{w:Wk}(I:Nat->List U->Hs->Prop)
  (st:∀i,i<n->∀acc hs,I i acc hs->acc.length<1000000/\∃x u h2,itm T w i hs=some (some (.one x))/\ft ((Z++[none]).set Z.length (some x)) hs=some (true,hs)/\f el ((Z++[none]).set Z.length (some x)) hs=some (u,h2)/\I (i+1) (acc++[u]) h2)
  (en:∀acc hs,I n acc hs->itm T w n hs=some none):
  ∀(m i k:Nat) (acc:List U) (hs:Hs),n=i+m->m<k->I i acc hs->∃us h2,QS T f ft w false el Z k i acc hs=some (us,h2)/\I n us h2 :=
 Y5 I (λi hi acc hs h=>by
  obtain⟨la,x,u,h2,a,b,c,d⟩:=st i hi acc hs h;rw[Qn6]at b c
  exact⟨la,x,true,hs,a,b,λy=>⟨u,h2,c,d⟩,λz=>(by cases z)⟩) en
abbrev Ky:=List (Nm×Nat)
abbrev Fu:=Nm->List Nm
noncomputable def kv(K:Ky):List (List U×U):=K.map λp=>(nmK p.1,.ref p.2)
structure DF(hs:Hs)(K:Ky)(f:Fu):Prop where
 ky:(K.map (·.1)).Nodup
 pl:(K.map (·.2)).Nodup
 ls:∀p∈K,∃us,hs[p.2]?=some (.lst us)/\Paired (DN hs) us (f p.1)
def YU{a b:Nm}(h:nmK a=nmK b):a=b:=by
 simp only[nmK,List.cons.injEq,U.int.injEq,and_true]at h;exact Prod.ext h.1 h.2
def Qby(K:Ky):(kv K).map (·.1)=(K.map (·.1)).map nmK:=by simp[kv]
theorem Qch:∀{l:List Nm},l.Nodup->(l.map nmK).Nodup
 |[],_=>by simp
 |a::l,h=>by
  have h1:=Vw.mp h;rw[Xu,Vw];refine⟨λm=>?_,Qch h1.2⟩;obtain⟨b,mb,e⟩:=Wg.mp m;rw[YU e]at mb;exact h1.1 mb
theorem JZ:∀{K:Ky},(K.map (·.1)).Nodup->∀{a:Nm} {j:Nat},(a,j)∈K->QB (kv K) (nmK a)=sR j
 |[],_,a,j,m=>by simp at m
 | (b,i)::K,h,a,j,m=>by
  have h1:=Vw.mp (by simpa using h:(b::K.map (·.1)).Nodup)
  rcases X5.mp m with e|m
  ·cases e;simp[QB,kv]
  ·have ne:nmK b≠nmK a:=λz=>h1.1 (by rw[YU z];exact Wg.mpr ⟨_,m,rfl⟩)
   have ih:=JZ h1.2 m;unfold QB at ih ⊢
   rw[show kv ((b,i)::K)=(nmK b,.ref i)::kv K from rfl,V4 (by simpa using ne)]
   exact ih
theorem DF.kp{K:Ky}{f:Fu}(h:DF hs K f)(k:Kp hs h2):DF h2 K f :=
 ⟨h.ky,h.pl,λp m=>by obtain⟨us,a,b⟩:=h.ls p m;exact⟨us,k _ _ a,Qb (λz z=>DN.kp k) b⟩⟩
theorem Qme:∀{K:Ky},(K.map (·.2)).Nodup->∀{a b:Nm} {j:Nat},(a,j)∈K->(b,j)∈K->a=b
 |[],_,a,b,j,m,_=>by simp at m
 | (c,i)::K,h,a,b,j,m,m'=>by
  have h1:=Vw.mp (by simpa using h:(i::K.map (·.2)).Nodup)
  rcases X5.mp m with e|m<;>rcases X5.mp m' with e'|m'
  ·cases e;cases e';rfl
  ·cases e;exact absurd (Wg.mpr ⟨_,m',rfl⟩) h1.1
  ·cases e';exact absurd (Wg.mpr ⟨_,m,rfl⟩) h1.1
  ·exact Qme h1.2 m m'
noncomputable def QfH(f:Fu)(a x:Nm):Fu:=λb=>if b=a then f b++[x]else f b
def DF.push{K:Ky}{f:Fu}{a x:Nm}(h:DF hs K f)(m:(a,j)∈K)(hj:hs[j]?=some (.lst us)):
  DF ((hs++[O.tup [.int x.1 0,.int x.2 0]]).set j (.lst (us++[.ref hs.length]))) K (QfH f a x):=by
 have tk:TK hs ((hs++[O.tup [.int x.1 0,.int x.2 0]]).set j (.lst (us++[.ref hs.length]))):=TK.app.trans (TK.set (Qn hj) (by simp))
 have lj:=(Xc.mp hj).1;refine⟨h.ky,h.pl,λp mp=>?_⟩;obtain⟨vs,e,q⟩:=h.ls p mp;by_cases hp:p.2=j
 ·have ea:p.1=a:=Qme h.pl (j:=j) (by rw[<-hp];exact mp) m
  have ev:vs=us:=by rw[hp,hj]at e;cases e;rfl
  subst ev
  refine⟨vs++[.ref hs.length],by rw[hp,X0 (by simp;lia)],?_⟩
  rw[QfH,if_pos ea];refine Qx ⟨hs.length,rfl,?_⟩ (Qb (λy y=>DN.mono tk) q)
  rw[Xs (by lia)]
  exact at0
 ·have na:p.1≠a:=λz=>hp (by
   have l1:=JZ h.ky (a:=p.1) (j:=p.2) mp;have l2:=JZ h.ky m;rw[z]at l1;rw[l1]at l2;cases l2
   rfl)
  refine⟨vs,by rw[Xs (Wq hp)];exact Qn e,?_⟩
  rw[QfH,if_neg na];exact Qb (λy y=>DN.mono tk) q
structure FS(h0:Hs)(p:Nat)(K:Ky)(f:Fu)(hs:Hs):Prop where
 kp:Kp h0 hs
 lp:h0.length<=p
 di:hs[p]?=some (.dct (kv K))
 df:DF hs K f
 ge:∀q∈K,h0.length<=q.2
def FS.more{K:Ky}{f:Fu}(h:FS h0 p K f hs)(k:Kp hs h2):FS h0 p K f h2:=⟨h.kp.trans k,h.lp,k _ _ h.di,h.df.kp k,h.ge⟩
def Qf2{K:Ky}{a:Nm}(hp:hs[p]?=some (.dct (kv K)))(k:(K.map (·.1)).Nodup)(m:(a,j)∈K)(h:DN hs u a):QF T (.ref p) u hs=sR j:=by
 obtain⟨i,rfl,e⟩:=h;have t:=Qad (hs:=hs) (u:=.ref i) (a:=a) ⟨i,rfl,e⟩;simp only[QF,hp,ZM,t,Wp,JZ k m];rfl
def Qcj{K:Ky}{a:Nm}(h:a∈K.map (·.1)):∃j,(a,j)∈K:=by
 obtain⟨p,m,rfl⟩:=Wg.mp h;exact⟨p.2,m⟩
def QiZ{iF iA:Nat}{K:Ky}{f:Fu}{a x:Nm}(h:FS h0 p K f hs)(rF:Z[iF]?=some (sR p))(rA:Z[iA]?=some (some u))(hu:DN hs u a)(ma:a∈K.map (·.1))(l:(f a).length<1000000)
  (v1:ev T cf (d+8) e1 Z hs=some (.int x.1 0,hs)) (v2:ev T cf (d+8) e2 Z hs=some (.int x.2 0,hs)):
  ∃h2,exs T cf (d+12) [.expr (.bm .append (.ix (.var iF) (.var iA)) [(.tup [e1,e2])])] Z hs=some (.next,Z,h2)/\FS h0 p K (QfH f a x) h2:=by
 obtain⟨j,mj⟩:=Qcj ma;obtain⟨us,hj,pu⟩:=h.df.ls _ mj;have el:=Qd pu;have gj:=h.ge _ mj;have sb:=Qf2 (T:=T) h.di h.df.ky mj hu
 have ap:=Qkl (T:=T) (p:=j) (hs:=hs++[O.tup [.int x.1 0,.int x.2 0]]) (xs:=us) (u:=.ref hs.length) (Qn hj) (by simp only at el;lia)
 have np:p≠j:=λz=>by rw[<-z]at hj;rw[h.di]at hj;cases hj
 refine⟨(hs++[O.tup [.int x.1 0,.int x.2 0]]).set j (.lst (us++[.ref hs.length])),?_,⟨(h.kp.trans (Kp.app _ [O.tup [.int x.1 0,.int x.2 0]])).put gj,h.lp,?_,h.df.push (x:=x) mj hj,h.ge⟩⟩
 rotate_left
 ·rw[Xs (Wq np)];exact Qn h.di
 ·simp only[QT,QbS,Qih,y_ix,Qm,rF,rA,Qh,sb,Option.map,QiN hj,We,evs,y_tup,v1,v2,ap,JI]
noncomputable def Yv{α:Type}(g:Nat->α->Fu->Fu):Nat->List α->Fu->Fu
 |_,[],f=>f
 |i,x::xs,f=>Yv g (i+1) xs (g i x f)
theorem Z8{α:Type}{g:Nat->α->Fu->Fu}{wt:α->Nat}(hg:∀i x f a,(g i x f a).length<=(f a).length+wt x):∀(xs:List α) (i:Nat) (f:Fu) (a:Nm),(Yv g i xs f a).length<=(f a).length+(xs.map wt).sum
 |[],i,f,a=>by simp[Yv]
 |x::xs,i,f,a=>by
  have h1:=Z8 hg xs (i+1) (g i x f) a;have h2:=hg i x f a;simp only[Yv,Xu,Vl];lia
def Qev{w:Wk}{t:Tg}{body:Ex}{K:Ky}(P:Rho->Prop)(g:Nat->α->Fu->Fu)(wt:α->Nat)(hg:∀i x f a,(g i x f a).length<=(f a).length+wt x)(xs:List α)
  (st:∀i x,xs[i]?=some x->∀Z hs f,P Z->FS h0 p K f hs->(∀a,(f a).length+wt x<=900000)->∃m ρ' ρ2 h2,itm T w i hs=some (some m)/\tgt t m Z hs=some ρ'/\body ρ' hs=some (.next,ρ2,h2)/\P ρ2/\FS h0 p K (g i x f) h2)
  (en:∀hs,Kp h0 hs->itm T w xs.length hs=some none) {f:Fu} (hP:P Z) (h:FS h0 p K f hs) (l:∀a,(f a).length+(xs.map wt).sum<=900000):
  ∃ρ2 h2,Z6 T w t body (xs.length+1) 0 Z hs=some (.next,ρ2,h2)/\P ρ2/\FS h0 p K (Yv g 0 xs f) h2:=by
 obtain⟨ρ2,h2,g1,g2,f2,g3,g4,g5⟩:=Yt (T:=T) (w:=w) (t:=t) (body:=body) (n:=xs.length) (λi Z hs=>P Z/\∃f',FS h0 p K f' hs/\Yv g i (xs.drop i) f'=Yv g 0 xs f/\∀a,(f' a).length+((xs.drop i).map wt).sum<=900000)
  (λi hi Z hs y=>by
   obtain⟨a,f',b,c,e⟩:=y
   obtain⟨x,hx⟩:∃x,xs[i]?=some x:=⟨xs[i],by simp[hi]⟩
   have hd:xs.drop i=x::xs.drop (i+1):=by
    rw[Vt hi];rw[Xf hi]at hx;cases hx;rfl
   rw[hd]at c e;simp only[Xu,Vl]at e
   obtain⟨m,ρ',ρ2,h2,q1,q2,q3,q4,q5⟩:=st i x hx Z hs f' a b (λz=>by have:=e z;lia)
   exact⟨m,ρ',ρ2,h2,q1,q2,q3,q4,_,q5,by simpa[Yv]using c,λz=>by have:=e z;have:=hg i x f' z;lia⟩)
  (λZ hs v=>by obtain⟨_,f',b,_,_⟩:=v;exact en hs b.kp) xs.length 0 (xs.length+1) Z hs (by lia) (by lia) ⟨hP,f,h,by simp,by simpa using l⟩
 rw[List.drop_length]at g4
 exact⟨ρ2,h2,g1,g2,by rw[<-g4];exact g3⟩
noncomputable def Qhi(x:Nm)(ps:List Nm)(f:Fu):Fu:=Yv (λz a f=>QfH f a x) 0 ps f
noncomputable def Qkm(r:Nat)(row:List Lp)(f:Fu):Fu:=Yv (λq lp f=>Qhi ((r:Int),(q:Int)) lp.ps f) 0 row f
noncomputable def QkB(rows:List (List Lp))(f:Fu):Fu:=Yv (λr row f=>Qkm r row f) 0 rows f
noncomputable def wtL(row:List Lp):Nat:=(row.map λlp=>lp.ps.length).sum
noncomputable def wtR(rows:List (List Lp)):Nat:=(rows.map wtL).sum
def QbT{x:Nm}(i:Nat)(b:Nm)(f:Fu)(a:Nm):(QfH f b x a).length<=(f a).length+1:=by
 unfold QfH;split<;>simp
theorem Qiy{α:Type}:∀l:List α,(l.map λz=>1).sum=l.length
 |[]=>rfl
 |_::l=>by rw[Xu,Vl,Qiy l,X8];lia
def Qam(x:Nm)(ps:List Nm)(f:Fu)(a:Nm):(Qhi x ps f a).length<=(f a).length+ps.length:=by
 have:=Z8 (g:=λz a f=>QfH f a x) (wt:=λz=>1) (λi b f a=>QbT i b f a) ps 0 f a;rw[Qiy]at this;exact this
def Qan(r:Nat)(row:List Lp)(f:Fu)(a:Nm):(Qkm r row f a).length<=(f a).length+wtL row :=
 Z8 (g:=λq (lp:Lp) f=>Qhi ((r:Int),(q:Int)) lp.ps f) (wt:=λlp=>lp.ps.length) (λi lp f a=>Qam _ _ f a) row 0 f a
def Qmj{iF iA:Nat}{K:Ky}{f:Fu}{ps:List Nm}{x:Nm}(P:Rho->Prop)(hj:h0[j]?=some (.tup us))(pu:Paired (DN h0) us ps)(mp:∀a∈ps,a∈K.map (·.1))
  (hP:∀Z u,P Z->P (Z.set iA (some u))/\(Z.set iA (some u))[iF]?=some (sR p)/\(Z.set iA (some u))[iA]?=some (some u)/\∀hs,ev T cf (d+8) e1 (Z.set iA (some u)) hs=some (.int x.1 0,hs)/\ev T cf (d+8) e2 (Z.set iA (some u)) hs=some (.int x.2 0,hs)) (h:FS h0 p K f hs) (l:∀a,(f a).length+ps.length<=900000) (h1:P Z):
  ∃ρ2 h2,Z6 T (.seqT (.ref j)) (.name iA) (exs T cf (d+12) [.expr (.bm .append (.ix (.var iF) (.var iA)) [(.tup [e1,e2])])]) (us.length+1) 0 Z hs=some (.next,ρ2,h2)/\P ρ2/\FS h0 p K (Qhi x ps f) h2:=by
 have el:=Qd pu;rw[el]
 refine Qev P (λz a f=>QfH f a x) (λz=>1) (λi b f a=>QbT i b f a) ps ?_ ?_ h1 h (by simpa[Qiy]using l)
 ·intro i a ha Z hs f hp fs lf;obtain⟨u,hu,du⟩:=Zo pu ha;obtain⟨p1,p2,p3,p4⟩:=hP Z u hp
  obtain⟨h2,g1,g2⟩:=QiZ (T:=T) (cf:=cf) (d:=d) (iF:=iF) (iA:=iA) (Z:=Z.set iA (some u)) (x:=x) fs p2 p3 (du.kp fs.kp) (mp a (Xv ha)) (by have:=lf a;lia) (p4 hs).1 (p4 hs).2
  exact⟨.one u,_,_,h2,by simp only[itm,Yz,fs.kp _ _ hj,Option.map,hu],rfl,g1,p1,g2⟩
 ·intro hs k
  have:us[ps.length]?=none:=by rw[X6];lia
  simp only[itm,Yz,k _ _ hj,Option.map,this]
noncomputable def Qr6:List S:=[.expr (.bm .append (.ix (.var 1) (.var 6)) [(.tup [(.var 2),(.var 4)])])]
noncomputable def Qpu:List S:=[.loop (.name 6) (.seq (.ix (.var 5) (.c (.int 0 0)))) Qr6]
noncomputable def Qpv:List S:=[.loop (.pair 4 5) (.enm (.var 3)) Qpu]
noncomputable def lpD:S:=.loop (.pair 2 3) (.enm (.ix (.var 0) (.c (.int 0 0)))) Qpv
def QpO(h:hs[j]?=some (.tup us)):wkS T (.ref j) hs=some (.seqT (.ref j)):=by simp only[wkS,QA,Yz,h]
def QpP(h:hs[j]?=some (.tup us)):Q3 T (.seqT (.ref j)) hs=us.length+1:=by simp only[Q3,Yz,h,Uh]
def QpQ(h:hs[j]?=some (.lst us)):Q3 T (.enmL (.ref j)) hs=us.length+1:=by simp only[Q3,QA,h,Uh]
def QjW{K:Ky}{f:Fu}{lp:Lp}(dl:DL h0 v lp)(mp:∀a∈lp.ps,a∈K.map (·.1))(h:FS h0 p K f hs)(l:∀a,(f a).length+lp.ps.length<=900000):
  ∃o6' h2,exs T cf (d+14) Qpu [some u,sR p,sI r,o3,sI q,some v,o6] hs=some (.next,[some u,sR p,sI r,o3,sI q,some v,o6'],h2)/\FS h0 p K (Qhi ((r:Int),(q:Int)) lp.ps f) h2:=by
 obtain⟨i,j,us,rfl,hi,hj,pu⟩:=dl
 obtain⟨ρ2,h2,g1,⟨o6',rfl⟩,g3⟩:=Qmj (T:=T) (cf:=cf) (d:=d) (iF:=1) (iA:=6) (e1:=.var 2) (e2:=.var 4) (x:=((r:Int),(q:Int))) (λZ=>∃o,Z=[some u,sR p,sI r,o3,sI q,sR i,o]) hj pu mp
  (λZ w z=>by obtain⟨o,e⟩:=z;subst e;exact⟨⟨some w,rfl⟩,rfl,rfl,λhs=>⟨Qc rfl,Qc rfl⟩⟩) h l ⟨o6,rfl⟩
 refine⟨o6',h2,QH (QY (w:=.seqT (.ref j)) (h1:=hs) ?_ ?_),g3⟩
 ·have s1:QF T (.ref i) (.int 0 0) hs=sR j:=by simp only[QF,h.kp _ _ hi];exact Yw (i:=0) rfl
  simp only[Q4,y_ix,Qm,y_c,Qh,Xh,Xe,s1,Option.map,QpO (h.kp _ _ hj)]
 ·rw[QpP (h.kp _ _ hj)];exact g1
def QmK{K:Ky}{f:Fu}{o5:Option U}{row:List Lp}(dr:DRw h0 v row)(mp:∀lp∈row,∀a∈lp.ps,a∈K.map (·.1))(h:FS h0 p K f hs)(l:∀a,(f a).length+wtL row<=900000):
  ∃o4' o5' o6' h2,exs T cf (d+16) Qpv [some u,sR p,sI r,some v,o4,o5,o6] hs=some (.next,[some u,sR p,sI r,some v,o4',o5',o6'],h2)/\FS h0 p K (Qkm r row f) h2:=by
 obtain⟨i,us,rfl,hi,pu⟩:=dr;have el:=Qd pu
 obtain⟨ρ2,h2,g1,⟨o4',o5',o6',rfl⟩,g3⟩:=Qev (T:=T) (w:=.enmL (.ref i)) (t:=.pair 4 5) (body:=exs T cf (d+14) Qpu) (λZ=>∃o4 o5 o6,Z=[some u,sR p,sI r,sR i,o4,o5,o6]) (λq lp f=>Qhi ((r:Int),(q:Int)) lp.ps f) (λlp=>lp.ps.length) (λi lp f a=>Qam _ _ f a) row
  (λq lp hq Z hs f ⟨o4,o5,o6,e⟩ fs lf=>by
   subst e;obtain⟨w,hw,dw⟩:=Zo pu hq;obtain⟨o6',h2,g1,g2⟩:=QjW (T:=T) (cf:=cf) (d:=d) (r:=r) (q:=q) (u:=u) (o3:=sR i) (o6:=o6) dw (mp lp (Xv hq)) fs lf
   exact⟨.two (.int q 0) w,_,_,h2,by simp only[itm,QA,fs.kp _ _ hi,Option.map,hw],rfl,g1,⟨_,_,_,rfl⟩,g2⟩)
  (λhs k=>by
   have:us[row.length]?=none:=by rw[X6];lia
   simp only[itm,QA,k _ _ hi,Option.map,this]) ⟨o4,o5,o6,rfl⟩ h l
 refine⟨o4',o5',o6',h2,QH (QY (w:=.enmL (.ref i)) (h1:=hs) ?_ ?_),g3⟩
 ·have e2:QA T (.ref i) hs=some us:=by simp only[QA,h.kp _ _ hi]
  simp only[Q4,Qm,Qh,Xh,Xe,e2]
 ·rw[QpQ (h.kp _ _ hi),el];exact g1
def QjV{K:Ky}{f:Fu}{D:Wb}(dw:DW h0 u D)(mp:∀row∈D.rows,∀lp∈row,∀a∈lp.ps,a∈K.map (·.1))(h:FS h0 p K f hs)(l:∀a,(f a).length+wtR D.rows<=900000):
  ∃ρ2 h2,ex T cf (d+17) lpD [some u,sR p,none,none,none,none,none] hs=some (.next,ρ2,h2)/\ρ2[1]?=some (sR p)/\FS h0 p K (QkB D.rows f) h2:=by
 obtain⟨a,ra,s1,ha,pa⟩:=QjU (T:=T) (dw.kp h.kp)
 have ha0:∃ra,h0[a]?=some (.lst ra)/\Paired (DRw h0) ra D.rows:=by
  obtain⟨i,a',b,k,o,ra',rb,rk,ro,rfl,q1,q2,q3,q4,q5,q6,q7,q8,q9⟩:=dw
  have:a'=a:=by
   have s2:QF T (.ref i) (.int 0 0) hs=sR a':=by simp only[QF,h.kp _ _ q1];exact Yw (i:=0) rfl
   rw[s1]at s2;cases s2;rfl
  subst this;exact⟨ra',q2,q6⟩
 obtain⟨ra',ha0,pa0⟩:=ha0;have el:=Qd pa0
 obtain⟨ρ2,h2,g1,⟨o2,o3,o4,o5,o6,rfl⟩,g3⟩:=Qev (T:=T) (w:=.enmL (.ref a)) (t:=.pair 2 3) (body:=exs T cf (d+16) Qpv) (λZ=>∃o2 o3 o4 o5 o6,Z=[some u,sR p,o2,o3,o4,o5,o6]) (λr row f=>Qkm r row f) wtL (λi lp f a=>Qan _ _ f a) D.rows
  (λr row hr Z hs f z fs lf=>by
   obtain⟨o2,o3,o4,o5,o6,e⟩:=z
   subst e;obtain⟨w,hw,dw⟩:=Zo pa0 hr;obtain⟨o4',o5',o6',h2,g1,g2⟩:=QmK (T:=T) (cf:=cf) (d:=d) (r:=r) (u:=u) (o4:=o4) (o5:=o5) (o6:=o6) dw (mp row (Xv hr)) fs lf
   exact⟨.two (.int r 0) w,_,_,h2,by simp only[itm,QA,fs.kp _ _ ha0,Option.map,hw],rfl,g1,⟨_,_,_,_,_,rfl⟩,g2⟩)
  (λhs k=>by
   have:ra'[D.rows.length]?=none:=by rw[X6];lia
   simp only[itm,QA,k _ _ ha0,Option.map,this]) ⟨none,none,none,none,none,rfl⟩ h l
 refine⟨[some u,sR p,o2,o3,o4,o5,o6],h2,QY (w:=.enmL (.ref a)) (h1:=hs) ?_ ?_,rfl,g3⟩
 ·have e2:QA T (.ref a) hs=some ra':=by simp only[QA,h.kp _ _ ha0]
  simp only[Q4,y_ix,Qm,y_c,Qh,Xe,s1,Option.map,e2]
 ·rw[QpQ (h.kp _ _ ha0),el];exact g1
noncomputable def Ym(r n:Nat):List Nm:=(List.range n).map λk:Nat=>((r:Int),(k:Int))
noncomputable def Ys(g:Nat->Nat)(rows:List (List Lp))(m:Nat):List Nm:=((List.range m).map λj=>Ym (g j) (rows.getD (g j) []).length).flatten
def YO(r n:Nat):Ym r (n+1)=Ym r n++[((r:Int),(n:Int))]:=by simp[Ym,Uq]
def Zc(r n:Nat):(Ym r n).length=n:=by simp[Ym]
def Zk(g:Nat->Nat)(rows:List (List Lp))(m:Nat):Ys g rows (m+1)=Ys g rows m++Ym (g m) (rows.getD (g m) []).length:=by simp[Ys,Uq]
def mem_rowN{a:Nm}:a∈Ym r n↔a.1=r/\∃k,k<n/\a.2=(k:Int):=by
 unfold Ym;rw[Wg];constructor
 ·rintro⟨k,hk,rfl⟩;exact⟨rfl,k,V1.mp hk,rfl⟩
 ·rintro⟨h1,k,hk,h2⟩;exact⟨k,V1.mpr hk,Prod.ext h1.symm h2.symm⟩
def JV{g:Nat->Nat}{rows:List (List Lp)}{a:Nm}:a∈Ys g rows m↔∃j,j<m/\a∈Ym (g j) (rows.getD (g j) []).length:=by
 unfold Ys;rw[List.mem_flatten];constructor
 ·rintro⟨l,ml,ma⟩;obtain⟨j,mj,rfl⟩:=Wg.mp ml;exact⟨j,V1.mp mj,ma⟩
 ·rintro⟨j,hj,ma⟩;exact⟨_,Wg.mpr ⟨j,V1.mpr hj,rfl⟩,ma⟩
def Qel(r n:Nat):(Ym r n).Nodup:=by
 unfold Ym List.Nodup;rw[List.pairwise_map];refine List.Pairwise.imp ?_ (Tz (n:=n));intro a b h e;have:=congrArg Prod.snd e;simp only at this;lia
def Qbt{g:Nat->Nat}{rows:List (List Lp)}(hg:∀i j,i<j->j<m->g i≠g j):(Ys g rows m).Nodup:=by
 unfold Ys List.Nodup;rw[List.pairwise_flatten];refine⟨λl ml=>?_,?_⟩
 ·obtain⟨j,_,rfl⟩:=Wg.mp ml;exact Qel _ _
 ·rw[List.pairwise_map];refine List.Pairwise.imp_of_mem ?_ (Tz (n:=m));intro i j mi mj lt x mx y my e;have h1:=(mem_rowN.mp mx).1;have h2:=(mem_rowN.mp my).1;rw[e,h2]at h1
  exact hg i j lt (V1.mp mj) (by lia)
noncomputable def upN(rows:List (List Lp)):List Nm:=Ys id rows rows.length
noncomputable def gD(n j:Nat):Nat:=n-1-j
noncomputable def dnN(rows:List (List Lp)):List Nm:=Ys (gD rows.length) rows rows.length
def QoE(rows:List (List Lp)):(upN rows).Nodup:=Qbt λi j h z=>by simp only[id];lia
def Qjt(rows:List (List Lp)):(dnN rows).Nodup:=Qbt λi j h l=>by unfold gD;lia
def YV{rows:List (List Lp)}{a:Nm}:a∈upN rows↔∃j,j<rows.length/\a∈Ym j (rows.getD j []).length:=JV
def mem_dn{rows:List (List Lp)}{a:Nm}:a∈dnN rows↔a∈upN rows:=by
 rw[YV];unfold dnN;rw[JV];constructor
 ·rintro⟨j,hj,m⟩
  exact⟨gD rows.length j,by unfold gD;lia,m⟩
 ·rintro⟨j,hj,m⟩
  refine⟨gD rows.length j,by unfold gD;lia,?_⟩
  have:gD rows.length (gD rows.length j)=j:=by unfold gD;lia
  rw[this];exact m
def Qip(rows:List (List Lp)):(dnN rows).length=(upN rows).length:=((List.perm_ext_iff_of_nodup (Qjt rows) (QoE rows)).mpr λa=>mem_dn).length_eq
def QbU(rows:List (List Lp)):(upN rows).length=szR rows:=by
 unfold upN Ys szR;rw[List.length_flatten,List.map_map]
 have:(List.range rows.length).map (List.length∘λj=>Ym (id j) (rows.getD (id j) []).length)=rows.map List.length:=by
  apply List.ext_getElem
  ·simp
  ·intro i h1 h2;simp[Zc]at h1 ⊢;rw[Xf h1];rfl
 rw[this]
theorem JU{g:Nat->Nat}{rows:List (List Lp)}:∀{k m:Nat},m<=k->(Ys g rows m).length<=(Ys g rows k).length
 |0,m,h=>by
  have:m=0:=by lia
  subst this;exact Xi _
 |k+1,m,h=>by
  by_cases e:m=k+1
  ·subst e;exact Xi _
  ·have:=JU (g:=g) (rows:=rows) (k:=k) (m:=m) (by lia)
   rw[Zk,Xn];lia
def Qj2{N:Nat}{w:U}(l:N<=1000000):∃z us,QS T (ev T cf (d+5)) (Z9 (evT T cf (d+5)) none) (.rng 0 N) false (.tup [(.var 2),(.var 3)]) [some u,some w,sI r] (N+1) 0 [] hs=some (us,hs++z)/\Paired (DN (hs++z)) us (Ym r N):=by
 obtain⟨us,h2,g1,z,rfl,g2⟩:=Qpj (T:=T) (f:=ev T cf (d+5)) (ft:=Z9 (evT T cf (d+5)) none) (w:=.rng 0 N) (el:=.tup [(.var 2),(.var 3)]) (Z:=[some u,some w,sI r]) (n:=N) (λi acc h=>∃z,h=hs++z/\Paired (DN h) acc (Ym r i))
  (λi hi acc h y=>by
   obtain⟨z,e,pa⟩:=y
   have el:=Qd pa;rw[Zc]at el
   refine⟨by lia,.int (i:Int) 0,.ref h.length,h++[.tup [.int r 0,.int i 0]],by simp[itm,hi],rfl,?_,z++[.tup [.int r 0,.int i 0]],by rw[e,Uw],?_⟩
   ·simp only[y_tup,evs,Qm,Qh,T2,Vf,X8,W6,Vk,Nat.reduceAdd,X9,Wi,Xh,Xe]
   ·rw[YO]
    exact Qx ⟨h.length,rfl,at0⟩ (Qb (λx x=>Zn) pa))
  (λacc h x=>by simp[itm]) N 0 (N+1) [] hs (by lia) (by lia) ⟨[],by simp,.nil⟩
 exact⟨z,us,g1,g2⟩
noncomputable def bdN:List S:=[(.expr (.bm .extend (.var 1) [(.comp (.rng (.bi .len [(.ix (.ix (.var 0) (.c (.int 0 0))) (.var 2))])) false none (.tup [(.var 2),(.var 3)]))]))]
noncomputable def lpN:S:=(.loop (.name 2) (.rngA [(.op .Sub (.bi .len [(.ix (.var 0) (.c (.int 0 0)))]) (.c (.int 1 0))),(.neg (.c (.int 1 0))),(.neg (.c (.int 1 0)))]) bdN)
def QpC:b2=[(.set 1 (.lst [])),lpN,(.ret (.var 1))]:=rfl
def cl2:Qa (tbG xx s) (m+1) 2 [a] hs=fin (exs (tbG xx s) (Qa (tbG xx s) m) dd b2 [some a,none,none] hs):=rfl
def Qo4(h:hs[p]?=some (.lst xs))(h':hs[q]?=some (.lst ys))(l:xs.length+ys.length<=1000000):bmU T .extend (.ref p) [.ref q] hs=some (.non,hs.set p (.lst (xs++ys))):=by
 simp only[bmU,h,bmL,h',l,We]
def Qoj(h:hs[p]?=some (.lst xs)):Qdk .extend (.ref p) hs=true:=by simp only[Qdk,h];rfl
def Qe3{D:Wb}(h:DW h0 u D):∃a ra,(∀(T:Tbl) hs,Kp h0 hs->QF T u (.int 0 0) hs=sR a)/\h0[a]?=some (.lst ra)/\Paired (DRw h0) ra D.rows:=by
 obtain⟨i,a,b,k,o,ra,rb,rk,ro,rfl,h1,h2,h3,h4,h5,h6,h7,h8,h9⟩:=h
 exact⟨a,ra,λT hs kp=>by simp only[QF,kp _ _ h1];exact Yw (i:=0) rfl,h2,h6⟩
def Qli{f:Ev}(h:evs f Z es hs=some ([.int ((n:Int) - 1) 0,.int (-1) 0,.int (-1) 0],h1))(l:n<=1000000):Q4 T f Z (.rngA es) hs=some (.rngC ((n:Int) - 1) (-1) n,h1):=by
 have c1:(Qk (((n:Int) - 1)*16)&&Qk ((-1:Int)*16)&&decide ((0:Int) < -1)&&decide ((-1:Int) < 1073741824))=false:=by simp
 have c3:Qk (((n:Int) - 1)*16)=true:=by
  simp only[Qk,Xl,X1];lia
 have c2:(Qk (((n:Int) - 1)*16)&&Qk ((-1:Int)*16)&&decide ((-1:Int)=-1))=true:=by rw[c3];decide
 have e:(((n:Int) - 1) - -1).toNat=n:=by lia
 simp only[Q4,h,Qh]
 rw[if_neg (by rw[c1];decide),if_pos (by rw[c3];decide),e]
def Qid{D:Wb}(dw:DW h0 u D)(lr:D.rows.length<=100000)(ls:szR D.rows<=900000):
  ∃h2 us,Qa (tbG xx s) (m+1) 2 [u] h0=some (.ref h0.length,h2)/\Kp h0 h2/\h2[h0.length]?=some (.lst us)/\Paired (DN h2) us (dnN D.rows):=by
 obtain⟨a,ra,sa,ha,pa⟩:=Qe3 dw;have el:=Qd pa
 have ln:∀k,k<=D.rows.length->(Ys (gD D.rows.length) D.rows k).length<=900000:=λk hk=>by
  have h1:=JU (g:=gD D.rows.length) (rows:=D.rows) hk;have h2:=Qip D.rows;rw[QbU]at h2;unfold dnN at h2;lia
 rw[cl2,QpC];show ∃h2 us,fin (exs (tbG xx s) (Qa (tbG xx s) m) 100 _ _ _)=_/\_;generalize Qa (tbG xx s) m=cf;generalize tbG xx s=T
 obtain⟨ρ2,h2,g1,⟨o,rfl⟩,k2,us,hp,pu⟩:=Yt (T:=T) (w:=.rngC ((ra.length:Int) - 1) (-1) ra.length) (t:=.name 2) (body:=exs T cf 97 bdN) (n:=ra.length) (λi Z hs=>(∃o,Z=[some u,sR h0.length,o])/\Kp h0 hs/\∃us,hs[h0.length]?=some (.lst us)/\Paired (DN hs) us (Ys (gD D.rows.length) D.rows i))
  (λi hi Z hs y=>by
   obtain⟨⟨o,e⟩,kp,us,hp,pu⟩:=y
   subst e
   have hg:gD D.rows.length i<D.rows.length:=by unfold gD;lia
   obtain⟨row,hr⟩:∃row,D.rows[gD D.rows.length i]?=some row:=⟨_,Xf hg⟩
   have er:D.rows.getD (gD D.rows.length i) []=row:=by rw[Wj,hr];rfl
   obtain⟨v,hv,j,vs,rfl,hj,pv⟩:=Zo pa hr;have evl:=Qd pv;have eu:=Qd pu
   have l1:=ln (i+1) (by lia)
   rw[Zk,Xn,Zc,er]at l1
   have ei:((ra.length:Int) - 1)+(i:Int)*(-1)=((gD D.rows.length i:Nat):Int):=by unfold gD;lia
   have s2:QF T (.ref a) (.int ((gD D.rows.length i:Nat):Int) 0) hs=sR j:=by simp only[QF,kp _ _ ha];exact Yw hv
   obtain⟨z,ns,c1,c2⟩:=Qj2 (T:=T) (cf:=cf) (d:=88) (r:=gD D.rows.length i) (N:=vs.length) (u:=u) (w:=.ref h0.length) (hs:=hs) (by lia)
   have vl:ev T cf 93 (.bi .len [(.ix (.ix (.var 0) (.c (.int 0 0))) (.var 2))]) [some u,sR h0.length,some (.int ((gD D.rows.length i:Nat):Int) 0)] hs=some (.int (vs.length:Int) 0,hs):=by
    simp only[y_bi,evs,y_ix,Qm,y_c,Qh,Xh,Xe,sa T hs kp,Option.map,s2,Yu (kp _ _ hj)]
   have vc:=ZU (t:=none) (el:=.tup [(.var 2),(.var 3)]) (Yk vl (by lia)) c1
   have en:=Qd c2;rw[Zc]at en
   have x1:=Qo4 (T:=T) (p:=h0.length) (q:=(hs++z).length) (hs:=hs++z++[O.lst ns]) (Qn (Qn hp)) at0 (by lia)
   have tk:TK (hs++z) (List.set (hs++z++[O.lst ns]) h0.length (O.lst (us++ns))):=TK.app.trans (TK.set (Qn (Qn hp)) (by simp))
   refine⟨.one (.int ((gD D.rows.length i:Nat):Int) 0),_,[some u,sR h0.length,some (.int ((gD D.rows.length i:Nat):Int) 0)],List.set (hs++z++[O.lst ns]) h0.length (O.lst (us++ns)),by simp only[itm,hi,We,ei],rfl,?_,⟨_,rfl⟩,(kp.trans ((Kp.app _ _).trans (Kp.app _ _))).put (Xi _),us++ns,?_,?_⟩
   ·simp only[X9,Wi];refine QH ?_;simp only[QbS,Qih,Qm,Xh,Xe,Qh,Qoj hp,We,evs,vc,x1]
   ·rw[X0];have:=Kp.len kp;have:=(Xc.mp hp).1;simp;lia
   ·rw[Zk,er,<-evl]
    exact ZI (Qb (λx x z=>(Zn z).mono tk) pu) (Qb (λx x z=>z.mono tk) c2))
  (λZ hs x=>by simp[itm]) ra.length 0 (ra.length+1) [some u,sR h0.length,none] (h0++[O.lst []]) (by lia) (by lia) ⟨⟨_,rfl⟩,Kp.app _ _,[],at0,.nil⟩
 refine⟨h2,us,?_,k2,hp,by rw[el]at pu;exact pu⟩
 have x1:ex T cf 99 (.set 1 (.lst [])) [some u,none,none] h0=some (.next,[some u,sR h0.length,none],h0++[O.lst []]):=by
  simp[Qdo,y_lst,evs,Qh]
 have vl:evs (ev T cf 97) [some u,sR h0.length,none] [(.op .Sub (.bi .len [(.ix (.var 0) (.c (.int 0 0)))]) (.c (.int 1 0))),(.neg (.c (.int 1 0))),(.neg (.c (.int 1 0)))] (h0++[O.lst []])=some ([.int ((ra.length:Int) - 1) 0,.int (-1) 0,.int (-1) 0],h0++[O.lst []]):=by
  simp only[evs,Qdp,y_bi,y_ix,Qm,y_c,Qif,Qh,Xe,sa T _ (Kp.app h0 [O.lst []]),Option.map,Yu (Qn ha),opU,Qn3,gz]
 have x2:ex T cf 98 lpN [some u,sR h0.length,none] (h0++[O.lst []])=some (.next,[some u,sR h0.length,o],h2):=QY (Qli vl (by lia)) g1
 rw[QE x1,QE x2];exact ZH (d:=96) (Qc rfl)
def PrD(hs:Hs)(u:U)(q:Nm×Nat):Prop:=∃i v,u=.ref i/\hs[i]?=some (.tup [v,.ref q.2])/\DN hs v q.1/\hs[q.2]?=some (.lst [])
theorem PrD.kp(k:Kp hs h2){q:Nm×Nat}(h:PrD hs u q):PrD h2 u q:=by obtain⟨i,v,e,a,b,c⟩:=h;exact⟨i,v,e,k _ _ a,b.kp k,k _ _ c⟩
def QlG{K:Ky}(h:Paired (PrD hs) us K):QhM hs us=some (kv K):=by
 induction h with
 |nil=>rfl
 |cons h _ ih=>
  obtain⟨i,v,rfl,e,d,_⟩:=h;simp only[QhM,e,Qad d,Option.bind,ih,Option.map];rfl
def Qd1{kvs:List (List U×U)}{k:List U}(h:k∉kvs.map (·.1)):Zt kvs k v=kvs++[(k,v)]:=by
 unfold Zt;rw[if_neg];intro z;rw[List.any_eq_true]at z;obtain⟨p,mp,e⟩:=z
 exact h (Wg.mpr ⟨p,mp,by simpa using e⟩)
theorem Qcq:∀(l acc:List (List U×U)),((acc++l).map (·.1)).Nodup->l.foldl (λa p=>Zt a p.1 p.2) acc=acc++l
 |[],acc,_=>by simp
 |p::l,acc,h=>by
  have hn:p.1∉acc.map (·.1):=λm=>by
   rw[Vg,Uc]at h
   exact h.2.2 _ m _ (by simp) rfl
  rw[Vx,Qd1 hn,Qcq l (acc++[(p.1,p.2)]) (by simpa using h)]
  simp
def QjR{K:Ky}(h:(K.map (·.1)).Nodup):QbB (kv K)=kv K:=by
 have:=Qcq (kv K) [] (by rw[Vf,Qby];exact Qch h)
 simpa[QbB]using this
noncomputable def cmD:E:=(.comp (.seq (.call 2 [(.var 0)])) false none (.tup [(.var 7),(.lst [])]))
def QpD:b0=[(.set 1 (.bi .dict [cmD])),lpD,(.ret (.var 1))]:=rfl
def cl0:Qa (tbG xx s) (m+1) 0 [a] hs=fin (exs (tbG xx s) (Qa (tbG xx s) m) dd b0 [some a,none,none,none,none,none,none] hs):=rfl
def Qg6{nms:List Nm}(v:ev T cf (d+4) (.call 2 [(.var 0)]) [some u,none,none,none,none,none,none] h=some (.ref p,hs))(hp:hs[p]?=some (.lst us))(pu:Paired (DN hs) us nms)(l:nms.length<=900000):
  ∃vs h2 K,ev T cf (d+5) cmD [some u,none,none,none,none,none,none] h=some (.ref h2.length,h2++[O.lst vs])/\Kp hs h2/\K.map (·.1)=nms/\Paired (PrD h2) vs K/\(K.map (·.2)).Nodup/\∀q∈K,hs.length<=q.2:=by
 obtain⟨vs,h2,g1,k2,K,e2,p2,n2,ge⟩:=Qba (el:=.tup [(.var 7),(.lst [])]) v (λi acc h=>Kp hs h/\∃K:Ky,K.map (·.1)=nms.take i/\Paired (PrD h) acc K/\(K.map (·.2)).Nodup/\∀q∈K,hs.length<=q.2) pu l (λw w w z=>z.1 _ _ hp)
  (λi a u ha du acc h t=>by
   obtain⟨kp,K,e,pa,nd,ge⟩:=t
   have kq:Kp h (h++[O.lst []]++[O.tup [u,.ref h.length]]):=(Kp.app _ _).trans (Kp.app _ _);refine⟨_,_,Jj (Qc rfl) (y_lst.trans rfl),kp.trans kq,K++[(a,h.length)],?_,?_,?_,?_⟩
   ·rw[Vg,e,Vj,ha];rfl
   ·exact Qx ⟨_,u,rfl,at0,(du.kp kp).kp kq,Qn at0⟩ (Qb (λw w=>PrD.kp kq) pa)
   ·rw[Vg,Uc]
    refine⟨nd,by simp,λx mx y my e=>?_⟩
    obtain⟨q,mq,rfl⟩:=Wg.mp mx
    have:y=h.length:=by simpa using my
    have lt:q.2<h.length:=by
     obtain⟨i,hi⟩:=Vi mq;obtain⟨_,_,_,_,_,_,_,c⟩:=Zo pa hi;exact(Xc.mp c).1
    lia
   ·intro q mq
    rcases Wo.mp mq with mq|mq
    ·exact ge q mq
    ·rw[Wh.mp mq]
     exact Kp.len kp) ⟨Kp.refl _,[],by simp,.nil,by simp,by simp⟩
 exact⟨vs,h2,K,g1,k2,by simpa using e2,p2,n2,ge⟩
noncomputable def F0:Fu:=λz=>[]
def QjZ{K:Ky}(hl:hs[l]?=some (.lst vs))(p:Paired (PrD hs) vs K)(h:(K.map (·.1)).Nodup):biU T .dict [.ref l] hs=some (.ref hs.length,hs++[.dct (kv K)]):=by
 show(QaF (.ref l) hs).bind _=_;simp only[QaF,hl,Option.bind,QlG p,Option.map,QjR h]
def Y6{D:Wb}(dw:DW h0 u D)(lr:D.rows.length<=100000)(ls:szR D.rows<=900000)(lw:wtR D.rows<=900000)(mp:∀row∈D.rows,∀lp∈row,∀a∈lp.ps,a∈upN D.rows):
  ∃h2 p K,Qa (tbG xx s) (m+2) 0 [u] h0=some (.ref p,h2)/\FS h0 p K (QkB D.rows F0) h2/\K.map (·.1)=dnN D.rows:=by
 obtain⟨h1,us,c1,k1,hp,pu⟩:=Qid (xx:=xx) (s:=s) (m:=m) dw lr ls
 have ld:(dnN D.rows).length<=900000:=by rw[Qip,QbU];exact ls
 rw[cl0,QpD];show ∃h2 p K,fin (exs (tbG xx s) (Qa (tbG xx s) (m+1)) 100 _ _ _)=_/\_;generalize Qa (tbG xx s) (m+1)=cf at c1 ⊢;generalize tbG xx s=T at c1 ⊢;obtain⟨vs,h2,K,vc,k2,eK,p2,n2,ge⟩:=Qg6 (T:=T) (cf:=cf) (d:=92) (u:=u) (Zr rfl c1) hp pu ld
 have nd:(K.map (·.1)).Nodup:=by rw[eK];exact Qjt _
 have kq:Kp h2 (h2++[O.lst vs]):=Kp.app _ _;have dc:=QjZ (T:=T) (hs:=h2++[O.lst vs]) (l:=h2.length) at0 (Qb (λz z=>PrD.kp kq) p2) nd;have k3:Kp h2 (h2++[O.lst vs]++[.dct (kv K)]):=kq.trans (Kp.app _ _);have kh:=k1.trans (k2.trans k3)
 have fs:FS h0 (h2++[O.lst vs]).length K F0 (h2++[O.lst vs]++[.dct (kv K)]):=by
  refine⟨kh,?_,at0,⟨nd,n2,λq mq=>?_⟩,λq mq=>?_⟩
  ·have:=Kp.len (k1.trans (k2.trans kq));exact this
  ·obtain⟨i,hi⟩:=Vi mq;obtain⟨_,_,_,_,_,_,_,c⟩:=Zo p2 hi;exact⟨[],k3 _ _ c,.nil⟩
  ·have:=ge q mq;have:=Kp.len k1;lia
 obtain⟨ρ2,h3,e3,r1,fs3⟩:=QjV (T:=T) (cf:=cf) (d:=81) dw (λrow mr lp ml a ma=>by rw[eK,mem_dn];exact mp row mr lp ml a ma) fs (λa=>by simpa[F0]using lw)
 refine⟨h3,_,K,?_,fs3,eK⟩;exact(congrArg fin ((Zg (Qkv vc dc)).trans (QE e3))).trans (ZH (Qc r1))
noncomputable def Qnx:E:=(.bi .len [(.ix (.var 0) (.c (.int 0 0)))])
noncomputable def QgD:E:=(.bi .len [(.ix (.ix (.var 0) (.c (.int 0 0))) (.var 2))])
noncomputable def Qpy:List S:=[(.put (.var 1) (.tup [(.var 2),(.var 3)]) (.lst []))]
noncomputable def Qpz:List S:=[(.loop (.name 3) (.rng QgD) Qpy)]
noncomputable def Qqk:S:=(.loop (.name 2) (.rng Qnx) Qpz)
noncomputable def Qr7:List S:=[(.expr (.bm .append (.ix (.var 1) (.var 4)) [(.tup [(.var 2),(.var 3)])]))]
noncomputable def Qpw:List S:=[(.loop (.name 4) (.seq (.ix (.ix (.ix (.ix (.var 0) (.c (.int 0 0))) (.var 2)) (.var 3)) (.c (.int 0 0)))) Qr7)]
noncomputable def Qpx:List S:=[(.loop (.name 3) (.rng QgD) Qpw)]
noncomputable def Qqj:S:=(.loop (.name 2) (.rng Qnx) Qpx)
def Qm8:b18=[(.set 1 .dnewT),Qqk,Qqj,(.ret (.var 1))]:=rfl
def QrN:Qa (tbG xx s) (m+1) 18 [a] hs=fin (exs (tbG xx s) (Qa (tbG xx s) m) dd b18 [some a,none,none,none,none] hs):=rfl
theorem FS.put{K:Ky}(h:FS h0 p K F0 hs)(na:((r:Int),(q:Int))∉K.map (·.1))(l:K.length<1000000):
  ∃h2,exs T cf (d+6) Qpy [some u,sR p,sI r,sI q,o4] hs=some (.next,[some u,sR p,sI r,sI q,o4],h2)/\FS h0 p (K++[(((r:Int),(q:Int)),hs.length)]) F0 h2:=by
 have lk:(kv K).length<1000000:=by simpa[kv]using l
 have nk:nmK ((r:Int),(q:Int))∉(kv K).map (·.1):=λm=>by
  rw[Qby]at m;obtain⟨b,mb,e⟩:=Wg.mp m;rw[YU e]at mb;exact na mb
 have dn:DN (hs++[O.lst []]++[O.tup [.int r 0,.int q 0]]) (.ref (hs++[O.lst []]).length) ((r:Int),(q:Int)):=⟨_,rfl,at0⟩;have hd:(hs++[O.lst []]++[O.tup [.int r 0,.int q 0]])[p]?=some (.dct (kv K)):=Qn (Qn h.di)
 have pt:Jd (.ref p) (.ref (hs++[O.lst []]).length) (.ref hs.length) (hs++[O.lst []]++[O.tup [.int r 0,.int q 0]])=some ((hs++[O.lst []]++[O.tup [.int r 0,.int q 0]]).set p (.dct (kv (K++[(((r:Int),(q:Int)),hs.length)])))):=by
  simp only[Jd,hd,Jg,lk,We,Qad dn,Wp,Qd1 nk];simp[kv]
 have lp:p<hs.length:=(Xc.mp h.di).1
 have kp2:∀(i:Nat) o,i≠p->hs[i]?=some o->((hs++[O.lst []]++[O.tup [.int r 0,.int q 0]]).set p (.dct (kv (K++[(((r:Int),(q:Int)),hs.length)]))))[i]?=some o:=λi o ne e=>by
  rw[Xs (Wq ne)];exact Qn (Qn e)
 refine⟨(hs++[O.lst []]++[O.tup [.int r 0,.int q 0]]).set p (.dct (kv (K++[(((r:Int),(q:Int)),hs.length)]))),?_,⟨(h.kp.trans ((Kp.app _ _).trans (Kp.app _ _))).put h.lp,h.lp,?_,⟨?_,?_,?_⟩,?_⟩⟩
 ·refine QH ?_;simp only[y_put,y_lst,y_tup,Qm,evs,Qh,Xh,Xe,pt,Option.map]
 ·rw[X0];simp;lia
 ·rw[Vg,Uc]
  refine⟨h.df.ky,by simp,λx mx y my e=>na ?_⟩
  have:y=((r:Int),(q:Int)):=by simpa using my
  rw[<-this,<-e];exact mx
 ·rw[Vg,Uc]
  refine⟨h.df.pl,by simp,λx mx y my e=>?_⟩
  obtain⟨z,mz,rfl⟩:=Wg.mp mx
  have:y=hs.length:=by simpa using my
  obtain⟨us,hz,_⟩:=h.df.ls z mz;have:=(Xc.mp hz).1;lia
 ·intro z mz
  rcases Wo.mp mz with mz|mz
  ·obtain⟨us,hz,pz⟩:=h.df.ls z mz
   have e0:us=[]:=by cases pz;rfl
   subst e0
   exact⟨[],kp2 _ _ (λe=>by rw[e,h.di]at hz;cases hz) hz,.nil⟩
  ·rw[Wh.mp mz]
   exact⟨[],by rw[Xs (by lia)];exact Qn at0,.nil⟩
 ·intro z mz
  rcases Wo.mp mz with mz|mz
  ·exact h.ge z mz
  ·rw[Wh.mp mz];exact Kp.len h.kp
def Qdr{a:E}{ρ2:Rho}(va:ev T cf d a Z hs=some (.int (n:Int) 0,hs))(l:n<=1000000)(g:Z6 T (.rng 0 n) (.name i) (exs T cf d body) (n+1) 0 Z hs=some (.next,ρ2,h2)):ex T cf (d+1) (.loop (.name i) (.rng a) body) Z hs=some (.next,ρ2,h2):=QY (Yk va l) g
def Qdx{a:Nat}{w:Option U}(sa:QF T u (.int 0 0) hs=sR a)(ha:hs[a]?=some (.lst ra))(hr:ra[r]?=sR j)(hj:hs[j]?=some (.lst vs)):ev T cf (d+5) QgD [some u,w,sI r,o3,o4] hs=some (.int (vs.length:Int) 0,hs):=by
 have s2:QF T (.ref a) (.int (r:Int) 0) hs=sR j:=by simp only[QF,ha];exact Yw hr
 simp only[QgD,y_bi,evs,y_ix,Qm,y_c,Qh,Xh,Xe,sa,Option.map,s2,Yu hj]
def Qko{a:Nat}{K:Ky}(sa:∀(T:Tbl) hs,Kp h0 hs->QF T u (.int 0 0) hs=sR a)(ha:h0[a]?=some (.lst ra))(hr:ra[r]?=sR j)(hj:h0[j]?=some (.lst vs))
  (h:FS h0 p K F0 hs) {pre:List Nm} (ep:K.map (·.1)=pre) (nd:(pre++Ym r vs.length).Nodup) (l:pre.length+vs.length<=900000):
  ∃o3' h2 K',exs T cf (d+8) Qpz [some u,sR p,sI r,o3,none] hs=some (.next,[some u,sR p,sI r,o3',none],h2)/\FS h0 p K' F0 h2/\K'.map (·.1)=pre++Ym r vs.length:=by
 obtain⟨ρ2,h2,g1,⟨o3',rfl⟩,K',g2,g3⟩:=Yt (T:=T) (w:=.rng 0 vs.length) (t:=.name 3) (body:=exs T cf (d+6) Qpy) (n:=vs.length) (λq Z hs=>(∃o3,Z=[some u,sR p,sI r,o3,none])/\∃K:Ky,FS h0 p K F0 hs/\K.map (·.1)=pre++Ym r q)
  (λq hq Z hs z=>by
   obtain⟨⟨o3,e⟩,K,fs,eK⟩:=z
   subst e
   have lK:K.length=pre.length+q:=by
    have:=congrArg List.length eK;simpa[Zc]using this
   have na:((r:Int),(q:Int))∉K.map (·.1):=by
    rw[eK];intro m
    rcases Wo.mp m with m|m
    ·rw[Uc]at nd;exact nd.2.2 _ m _ (mem_rowN.mpr ⟨rfl,q,hq,rfl⟩) rfl
    ·obtain⟨_,k,hk,e⟩:=mem_rowN.mp m;simp only at e;lia
   obtain⟨h2,e1,e2⟩:=fs.put (T:=T) (cf:=cf) (d:=d) (u:=u) (o4:=none) na (by lia)
   refine⟨.one (.int q 0),_,_,h2,by simp[itm,hq],rfl,e1,⟨_,rfl⟩,_,e2,?_⟩
   rw[Vg,eK,YO,Uw]
   rfl)
  (λZ hs y=>by simp[itm]) vs.length 0 (vs.length+1) _ hs (by lia) (by lia) ⟨⟨o3,rfl⟩,K,h,by simpa[Ym]using ep⟩
 exact⟨o3',h2,K',QH (Qdr (d:=d+6) (Qdx (d:=d+1) (sa T hs h.kp) (h.kp _ _ ha) hr (h.kp _ _ hj)) (by lia) g1),g2,g3⟩
def Qhk{D:Wb}(dw:DW h0 u D)(lr:D.rows.length<=100000)(ls:szR D.rows<=900000)(h:FS h0 p [] F0 hs):
  ∃o2 o3 h2 K,ex T cf (d+9) Qqk [some u,sR p,none,none,none] hs=some (.next,[some u,sR p,o2,o3,none],h2)/\FS h0 p K F0 h2/\K.map (·.1)=upN D.rows:=by
 obtain⟨a,ra,sa,ha,pa⟩:=Qe3 dw;have el:=Qd pa
 have ln:∀k,k<=D.rows.length->(Ys id D.rows k).length<=900000:=λk hk=>by
  have h1:=JU (g:=id) (rows:=D.rows) hk;have h2:=QbU D.rows;unfold upN at h2;lia
 obtain⟨ρ2,h2,g1,⟨o2,o3,rfl⟩,K,g2,g3⟩:=Yt (T:=T) (w:=.rng 0 ra.length) (t:=.name 2) (body:=exs T cf (d+8) Qpz) (n:=ra.length) (λr Z hs=>(∃o2 o3,Z=[some u,sR p,o2,o3,none])/\∃K:Ky,FS h0 p K F0 hs/\K.map (·.1)=Ys id D.rows r)
  (λr hr Z hs z=>by
   obtain⟨⟨o2,o3,e⟩,K,fs,eK⟩:=z
   subst e
   obtain⟨row,hrow⟩:∃row,D.rows[r]?=some row:=⟨_,Xf (by lia)⟩
   have er:D.rows.getD r []=row:=by rw[Wj,hrow];rfl
   obtain⟨v,hv,j,vs,rfl,hj,pv⟩:=Zo pa hrow;have evl:=Qd pv
   have e1:Ys id D.rows (r+1)=Ys id D.rows r++Ym r vs.length:=by rw[Zk,id,er,evl]
   have l1:=ln (r+1) (by lia)
   have nd:(Ys id D.rows (r+1)).Nodup:=Qbt λi j h y=>by simp only[id];lia
   rw[e1]at l1 nd;rw[Xn,Zc]at l1;obtain⟨o3',h2,K',c1,c2,c3⟩:=Qko (T:=T) (cf:=cf) (d:=d) (o3:=o3) sa ha hv hj fs eK nd l1
   exact⟨.one (.int r 0),_,_,h2,by simp[itm,hr],rfl,c1,⟨_,_,rfl⟩,K',c2,by rw[e1];exact c3⟩)
  (λZ hs y=>by simp[itm]) ra.length 0 (ra.length+1) _ hs (by lia) (by lia) ⟨⟨none,none,rfl⟩,[],h,by simp[Ys]⟩
 refine⟨o2,o3,h2,K,Qdr (n:=ra.length) ?_ (by lia) g1,g2,by rw[g3,el];rfl⟩
 simp only[Qnx,y_bi,evs,y_ix,Qm,y_c,Qh,Xe,sa T hs h.kp,Option.map,Yu (h.kp _ _ ha)]
def Qkp{a:Nat}{K:Ky}{f:Fu}{lp:Lp}(sa:∀(T:Tbl) hs,Kp h0 hs->QF T u (.int 0 0) hs=sR a)(ha:h0[a]?=some (.lst ra))(hr:ra[r]?=sR j)(hj:h0[j]?=some (.lst vs))(hq:vs[q]?=some v)
  (dl:DL h0 v lp) (mp:∀a∈lp.ps,a∈K.map (·.1)) (h:FS h0 p K f hs) (l:∀a,(f a).length+lp.ps.length<=900000):
  ∃o4' h2,exs T cf (d+14) Qpw [some u,sR p,sI r,sI q,o4] hs=some (.next,[some u,sR p,sI r,sI q,o4'],h2)/\FS h0 p K (Qhi ((r:Int),(q:Int)) lp.ps f) h2:=by
 obtain⟨i,k,us,rfl,hi,hk,pu⟩:=dl
 obtain⟨ρ2,h2,g1,⟨o4',rfl⟩,g3⟩:=Qmj (T:=T) (cf:=cf) (d:=d) (iF:=1) (iA:=4) (e1:=.var 2) (e2:=.var 3) (x:=((r:Int),(q:Int))) (λZ=>∃o,Z=[some u,sR p,sI r,sI q,o]) hk pu mp
  (λZ w z=>by obtain⟨o,e⟩:=z;subst e;exact⟨⟨some w,rfl⟩,rfl,rfl,λhs=>⟨Qc rfl,Qc rfl⟩⟩) h l ⟨o4,rfl⟩
 refine⟨o4',h2,QH (QY (w:=.seqT (.ref k)) (h1:=hs) ?_ ?_),g3⟩
 ·have s1:QF T (.ref i) (.int 0 0) hs=sR k:=by simp only[QF,h.kp _ _ hi];exact Yw (i:=0) rfl
  have s2:QF T (.ref a) (.int (r:Int) 0) hs=sR j:=by simp only[QF,h.kp _ _ ha];exact Yw hr
  have s3:QF T (.ref j) (.int (q:Int) 0) hs=sR i:=by simp only[QF,h.kp _ _ hj];exact Yw hq
  simp only[Q4,y_ix,Qm,y_c,Qh,Xh,Xe,sa T hs h.kp,s1,s2,s3,Option.map,QpO (h.kp _ _ hk)]
 ·rw[QpP (h.kp _ _ hk)];exact g1
def Qkn{a:Nat}{K:Ky}{f:Fu}{row:List Lp}(sa:∀(T:Tbl) hs,Kp h0 hs->QF T u (.int 0 0) hs=sR a)(ha:h0[a]?=some (.lst ra))(hr:ra[r]?=sR j)(hj:h0[j]?=some (.lst vs))
  (pv:Paired (DL h0) vs row) (mp:∀lp∈row,∀a∈lp.ps,a∈K.map (·.1)) (h:FS h0 p K f hs) (l:∀a,(f a).length+wtL row<=900000) (lv:vs.length<=900000):
  ∃o3' o4' h2,exs T cf (d+16) Qpx [some u,sR p,sI r,o3,o4] hs=some (.next,[some u,sR p,sI r,o3',o4'],h2)/\FS h0 p K (Qkm r row f) h2:=by
 have el:=Qd pv
 obtain⟨ρ2,h2,g1,⟨o3',o4',rfl⟩,g3⟩:=Qev (T:=T) (w:=.rng 0 vs.length) (t:=.name 3) (body:=exs T cf (d+14) Qpw) (λZ=>∃o3 o4,Z=[some u,sR p,sI r,o3,o4]) (λq (lp:Lp) f=>Qhi ((r:Int),(q:Int)) lp.ps f) (λlp=>lp.ps.length) (λi lp f a=>Qam _ _ f a) row
  (λq lp hq Z hs f z fs lf=>by
   obtain⟨o3,o4,e⟩:=z
   subst e;obtain⟨w,hw,dw⟩:=Zo pv hq;have lt:=(Xc.mp hw).1;obtain⟨o4',h2,g1,g2⟩:=Qkp (T:=T) (cf:=cf) (d:=d) (o4:=o4) sa ha hr hj hw dw (mp lp (Xv hq)) fs lf
   exact⟨.one (.int q 0),_,_,h2,by simp[itm,lt],rfl,g1,⟨_,_,rfl⟩,g2⟩)
  (λhs k=>by simp[itm,el]) ⟨o3,o4,rfl⟩ h l
 rw[<-el]at g1
 exact⟨o3',o4',h2,QH (Qdr (d:=d+14) (Qdx (d:=d+9) (sa T hs h.kp) (h.kp _ _ ha) hr (h.kp _ _ hj)) (by lia) g1),g3⟩
theorem QdN:∀{rows:List (List Lp)} {row:List Lp},row∈rows->row.length<=szR rows
 |[],_,m=>by simp at m
 |r::rows,row,m=>by
  simp only[szR,Xu,Vl]
  rcases X5.mp m with rfl|m
  ·lia
  ·have:=QdN m;unfold szR at this;lia
def Qhj{K:Ky}{f:Fu}{o2:Option U}{D:Wb}(dw:DW h0 u D)(lr:D.rows.length<=100000)(ls:szR D.rows<=900000)(mp:∀row∈D.rows,∀lp∈row,∀a∈lp.ps,a∈K.map (·.1))(h:FS h0 p K f hs)(l:∀a,(f a).length+wtR D.rows<=900000):
  ∃ρ2 h2,ex T cf (d+17) Qqj [some u,sR p,o2,o3,none] hs=some (.next,ρ2,h2)/\ρ2[1]?=some (sR p)/\FS h0 p K (QkB D.rows f) h2:=by
 obtain⟨a,ra,sa,ha,pa⟩:=Qe3 dw;have el:=Qd pa
 obtain⟨ρ2,h2,g1,⟨o2',o3',o4',rfl⟩,g3⟩:=Qev (T:=T) (w:=.rng 0 ra.length) (t:=.name 2) (body:=exs T cf (d+16) Qpx) (λZ=>∃o2 o3 o4,Z=[some u,sR p,o2,o3,o4]) (λr row f=>Qkm r row f) wtL (λi lp f a=>Qan _ _ f a) D.rows
  (λr row hr Z hs f z fs lf=>by
   obtain⟨o2,o3,o4,e⟩:=z
   subst e;obtain⟨w,hw,j,vs,rfl,hj,pv⟩:=Zo pa hr;have lt:=(Xc.mp hw).1;have lv:=QdN (Xv hr);have ev:=Qd pv
   obtain⟨o3',o4',h2,g1,g2⟩:=Qkn (T:=T) (cf:=cf) (d:=d) (o3:=o3) (o4:=o4) sa ha hw hj pv (mp row (Xv hr)) fs lf (by lia)
   exact⟨.one (.int r 0),_,_,h2,by simp[itm,lt],rfl,g1,⟨_,_,_,rfl⟩,g2⟩)
  (λhs k=>by simp[itm,el]) ⟨o2,o3,none,rfl⟩ h l
 rw[<-el]at g1
 refine⟨[some u,sR p,o2',o3',o4'],h2,Qdr (n:=ra.length) ?_ (by lia) g1,rfl,g3⟩
 simp only[Qnx,y_bi,evs,y_ix,Qm,y_c,Qh,Xe,sa T hs h.kp,Option.map,Yu (h.kp _ _ ha)]
def Qka{D:Wb}(dw:DW h0 u D)(lr:D.rows.length<=100000)(ls:szR D.rows<=900000)(lw:wtR D.rows<=900000)(mp:∀row∈D.rows,∀lp∈row,∀a∈lp.ps,a∈upN D.rows):
  ∃h2 p K,Qa (tbG xx s) (m+1) 18 [u] h0=some (.ref p,h2)/\FS h0 p K (QkB D.rows F0) h2/\K.map (·.1)=upN D.rows:=by
 rw[QrN,Qm8];show ∃h2 p K,fin (exs (tbG xx s) (Qa (tbG xx s) m) 100 _ _ _)=_/\_;generalize Qa (tbG xx s) m=cf;generalize tbG xx s=T
 have x1:ex T cf 99 (.set 1 .dnewT) [some u,none,none,none,none] h0=some (.next,[some u,sR h0.length,none,none,none],h0++[.dct []]):=ZG (by rw[QcG])
 have fs:FS h0 h0.length [] F0 (h0++[.dct []]):=⟨Kp.app _ _,Xi _,at0,⟨by simp,by simp,λq m=>by simp at m⟩,λq m=>by simp at m⟩
 obtain⟨o2,o3,h2,K,g1,g2,g3⟩:=Qhk (T:=T) (cf:=cf) (d:=89) dw lr ls fs
 obtain⟨ρ2,h3,e3,r1,fs3⟩:=Qhj (T:=T) (cf:=cf) (d:=80) (o2:=o2) (o3:=o3) dw lr ls (λrow mr lp ml a ma=>by rw[g3];exact mp row mr lp ml a ma) g2 (λa=>by simpa[F0]using lw)
 refine⟨h3,_,K,?_,fs3,g3⟩;rw[QE x1,QE g1,QE e3];exact ZH (d:=95) (Qc r1)
def Ord(rows:List (List Lp)):Prop:=∀(r:Nat) row,rows[r]?=some row->∀lp∈row,∀a∈lp.ps,a.1<(r:Int)
theorem Z7{α:Type}{g:Nat->α->Fu->Fu}{P:Nm->Nm->Prop}:∀(xs:List α) (i:Nat) (f:Fu),(∀j x f,xs[j]?=some x->(∀a b,b∈f a->P a b)->∀a b,b∈g (i+j) x f a->P a b)->(∀a b,b∈f a->P a b)->∀a b,b∈Yv g i xs f a->P a b
 |[],i,f,_,h=>h
 |x::xs,i,f,hg,h=>by
  refine Z7 xs (i+1) (g i x f) (λj y f' hy hf=>?_) (hg 0 x f rfl h)
  have:=hg (j+1) y f' (by simpa using hy) hf
  rw[show i+1+j=i+(j+1) by lia]
  exact this
def Qhh{P:Nm->Nm->Prop}{x:Nm}{ps:List Nm}{f:Fu}(h:∀a b,b∈f a->P a b)(hp:∀a∈ps,P a x):∀a b,b∈Qhi x ps f a->P a b:=by
 refine Z7 ps 0 f (λj c f' hc hf a b m=>?_) h;unfold QfH at m;split at m
 ·rename_i e
  rcases Wo.mp m with m|m
  ·exact hf a b m
  ·rw[Wh.mp m,e];exact hp c (Xv hc)
 ·exact hf a b m
def QfC{rows:List (List Lp)}(o:Ord rows){a b:Nm}(m:b∈QkB rows F0 a):a.1<b.1/\b∈upN rows:=by
 refine Z7 (P:=λa b=>a.1<b.1/\b∈upN rows) rows 0 F0 (λr row f hr hf=>?_) (λa b m=>by simp[F0]at m) a b m
 rw[Vk];refine Z7 (P:=λa b=>a.1<b.1/\b∈upN rows) row 0 f (λq lp f' hq hf'=>?_) hf;rw[Vk];refine Qhh hf' λc hc=>⟨o r row hr lp (Xv hq) c hc,?_⟩;rw[YV];have lr:=(Xc.mp hr).1;have lq:=(Xc.mp hq).1;refine⟨r,lr,mem_rowN.mpr ⟨rfl,q,?_,rfl⟩⟩;rw[Wj,hr];exact lq
def Qh1{kvs:List (List U×U)}{k:List U}:(QB kvs k).isSome=true↔k∈kvs.map (·.1):=by
 unfold QB;rw[Tq,List.find?_isSome];constructor
 ·rintro⟨p,mp,e⟩
  exact Wg.mpr ⟨p,mp,by simpa using e⟩
 ·intro m;obtain⟨p,mp,e⟩:=Wg.mp m
  exact⟨p,mp,by simpa using e⟩
def Qgd{kvs:List (List U×U)}{k x:List U}:x∈(Zt kvs k v).map (·.1)↔x∈kvs.map (·.1)\/x=k:=by
 unfold Zt;split
 ·rename_i h
  have e:(kvs.map λp=>if p.1=k then(p.1,v)else p).map (·.1)=kvs.map (·.1):=by
   rw[List.map_map];refine List.map_congr_left λp y=>?_;simp only[Function.comp];split<;>rfl
  rw[e];refine⟨.inl,λh'=>h'.elim id λz=>?_⟩;rw[List.any_eq_true]at h;obtain⟨p,mp,e⟩:=h;rw[z]
  exact Wg.mpr ⟨p,mp,by simpa using e⟩
 ·simp
structure SDk(kvs:List (List U×U))(L:List Nm):Prop where
 len:kvs.length<=L.length
 key:∀a,nmK a∈kvs.map (·.1)↔a∈L
def Qav:SDk [] []:=⟨by simp,λa=>by simp⟩
def QbZ{kvs:List (List U×U)}{L:List Nm}{a:Nm}(h:SDk kvs L):SDk (Zt kvs (nmK a) v) (L++[a]):=by
 refine⟨?_,λb=>?_⟩
 ·have:=h.len;unfold Zt;split<;>simp<;>lia
 ·rw[Qgd,h.key,Wo,Wh]
  exact⟨λz=>z.imp id YU,λz=>z.imp id λe=>by rw[e]⟩
def QeJ{kvs:List (List U×U)}{L:List Nm}{a:Nm}(hp:hs[p]?=some (.dct kvs))(sd:SDk kvs L)(h:DN hs u a):ZF T .In u (.ref p) hs=some (decide (a∈L)):=by
 have e:(QB kvs (nmK a)).isSome=decide (a∈L):=by
  rw[Um,Qh1,sd.key,decide_eq_true_iff]
 simp only[ZF,ZW,hp,inD,ZM,Qad h,Option.map,e]
def QaC{kvs:List (List U×U)}{L:List Nm}{a:Nm}(hp:hs[p]?=some (.dct kvs))(sd:SDk kvs L)(h:DN hs u a):ZF T .NotIn u (.ref p) hs=some (!decide (a∈L)):=by
 have e:(QB kvs (nmK a)).isSome=decide (a∈L):=by
  rw[Um,Qh1,sd.key,decide_eq_true_iff]
 simp only[ZF,ZW,hp,inD,ZM,Qad h,Option.map,e]
theorem QeV{v:U}:∀(l:List Nm) {kvs:List (List U×U)} {L:List Nm},SDk kvs L->SDk ((l.map λa=>(nmK a,v)).foldl (λacc p=>Zt acc p.1 p.2) kvs) (L++l)
 |[],kvs,L,h=>by simpa using h
 |a::l,kvs,L,h=>by
  have:=QeV (v:=v) l (QbZ (a:=a) (v:=v) h);simpa using this
def PrT(hs:Hs)(u:U)(a:Nm):Prop:=∃i v,u=.ref i/\hs[i]?=some (.tup [v,.bl true])/\DN hs v a
theorem PrT.kp(k:Kp hs h2){a:Nm}(h:PrT hs u a):PrT h2 u a:=by obtain⟨i,v,e,x,y⟩:=h;exact⟨i,v,e,k _ _ x,y.kp k⟩
def QlF{L:List Nm}(h:Paired (PrT hs) us L):QhM hs us=some (L.map λa=>(nmK a,.bl true)):=by
 induction h with
 |nil=>rfl
 |cons h _ ih=>
  obtain⟨i,v,rfl,e,d⟩:=h;simp only[QhM,e,Qad d,Option.bind,ih,Option.map,Xu]
def QrG:Qa (tbG xx s) (m+1) 4 [a] hs=fin (exs (tbG xx s) (Qa (tbG xx s) m) dd b4 [some a] hs):=rfl
def YF{L:List Nm}(hl:hs[l]?=some (.lst us))(pu:Paired (DN hs) us L)(ll:L.length<=900000):
  ∃h2 p kvs,Qa (tbG xx s) (m+1) 4 [.ref l] hs=some (.ref p,h2)/\Kp hs h2/\hs.length<=p/\h2[p]?=some (.dct kvs)/\SDk kvs L:=by
 rw[QrG];show ∃h2 p kvs,fin (exs (tbG xx s) (Qa (tbG xx s) m) 100 _ _ _)=_/\_;generalize Qa (tbG xx s) m=cf;generalize tbG xx s=T
 obtain⟨vs,h2,vc,k2,p2⟩:=Qba (T:=T) (cf:=cf) (d:=96) (e:=.var 0) (el:=.tup [(.var 1),(.c (.bl true))]) (Z:=[sR l]) (Qc rfl) (λi acc h=>Kp hs h/\Paired (PrT h) acc (L.take i)) pu ll (λy y y z=>z.1 _ _ hl)
  (λi a u ha du acc h x=>by
   obtain⟨kp,pa⟩:=x
   have kq:Kp h (h++[O.tup [u,.bl true]]):=Kp.app _ _;refine⟨_,_,Jj (Qc rfl) y_c,kp.trans kq,?_⟩;rw[Vj,ha]
   exact Qx ⟨_,u,rfl,at0,(du.kp kp).kp kq⟩ (Qb (λy y=>PrT.kp kq) pa)) ⟨Kp.refl _,.nil⟩
 rw[Vm]at p2;have kq:Kp h2 (h2++[O.lst vs]):=Kp.app _ _
 have dc:biU T .dict [.ref h2.length] (h2++[O.lst vs])=some (.ref (h2++[O.lst vs]).length,h2++[O.lst vs]++[.dct (QbB (L.map λa=>(nmK a,.bl true)))]):=by
  show(QaF (.ref h2.length) (h2++[O.lst vs])).bind _=_
  have e0:QaF (.ref h2.length) (h2++[O.lst vs])=some vs:=by simp only[QaF,at0]
  simp only[e0,Option.bind,QlF (Qb (λy y=>PrT.kp kq) p2),Option.map]
 refine⟨h2++[O.lst vs]++[.dct (QbB (L.map λa=>(nmK a,.bl true)))],(h2++[O.lst vs]).length,QbB (L.map λa=>(nmK a,.bl true)),?_,k2.trans (kq.trans (Kp.app _ _)),(k2.trans kq).len,at0,?_⟩
 ·exact ZH (Qkv vc dc)
 ·have:=QeV (v:=.bl true) L Qav;rw[Vf]at this;exact this
def JY{iD iN:Nat}{nms L:List Nm}{kvs:List (List U×U)}(hD:Z[iD]?=some (sR p))(ne:iN≠iD)(lN:iN < Z.length)(hp:hs[p]?=some (.dct kvs))(hl:hs[l]?=some (.lst us))(pu:Paired (DN hs) us nms)(sd:SDk kvs L)(ll:L.length+nms.length<=900000):
  ∃o kvs',Z6 T (.seqL (.ref l)) (.name iN) (exs T cf (d+6) [(.put (.var iD) (.var iN) (.c (.bl true)))]) (Q3 T (.seqL (.ref l)) hs) 0 Z hs=some (.next,Z.set iN o,hs.set p (.dct kvs'))/\SDk kvs' (L++nms):=by
 have lp:=(Xc.mp hp).1
 have nlp:p≠l:=λz=>by rw[z,hl]at hp;cases hp
 obtain⟨w0,hw0⟩:∃w,Z[iN]?=some w:=⟨_,Xf lN⟩
 have tk:∀x,TK hs (hs.set p x):=λx=>TK.set hp (by simp)
 have hl':∀x,(hs.set p x)[l]?=some (.lst us):=λx=>by rw[Xs nlp];exact hl
 obtain⟨ρ2,h2,g1,⟨o,rfl⟩,kvs',rfl,g2⟩:=Qeu (T:=T) (l:=l) (t:=.name iN) (body:=exs T cf (d+6) [(.put (.var iD) (.var iN) (.c (.bl true)))]) (Z:=Z) (hs:=hs) (λi ρ' h=>(∃o,ρ'=Z.set iN o)/\∃kvs',h=hs.set p (.dct kvs')/\SDk kvs' (L++nms.take i)) pu (λy y y s=>by obtain⟨_,_,e,_⟩:=s;exact e▸hl' _)
  (λi a u ha du ρ' h r=>by
   obtain⟨⟨o,e1⟩,kv,e2,sd⟩:=r
   subst e1 e2;have hp':(hs.set p (.dct kv))[p]?=some (.dct kv):=X0 lp
   have lk:kv.length<1000000:=by
    have:=sd.len;rw[Xn,W7]at this;lia
   have pt:Jd (.ref p) u (.bl true) (hs.set p (.dct kv))=some (hs.set p (.dct (Zt kv (nmK a) (.bl true)))):=by
    simp only[Jd,hp',Jg,lk,We,Qad (du.mono (tk _)),Wp,List.set_set]
   have r1:(Z.set iN (some u))[iD]?=some (sR p):=by rw[Xs ne];exact hD
   have r2:(Z.set iN (some u))[iN]?=some (some u):=X0 lN
   refine⟨Z.set iN (some u),Z.set iN (some u),hs.set p (.dct (Zt kv (nmK a) (.bl true))),by simp only[tgt,List.set_set],QH (y_put.trans (by simp only[y_c,Qm,r1,r2,Qh,pt,Option.map])),⟨_,rfl⟩,_,rfl,?_⟩
   rw[Vj,ha];have:=QbZ (a:=a) (v:=.bl true) sd
   simpa using this) ⟨⟨w0,(QbY hw0).symm⟩,kvs,(QbY hp).symm,by simpa using sd⟩
 exact⟨o,kvs',g1,by simpa using g2⟩
noncomputable def Q8(D:Wb)(i:Nat):List Nm:=D.lie++D.off++((D.kept.take i).map (·.2)).flatten
noncomputable def Qo(D:Wb):List Nm:=Q8 D D.kept.length
def Zm{D:Wb}{k:U×List Nm}(h:D.kept[i]?=some k):Q8 D (i+1)=Q8 D i++k.2:=by
 unfold Q8;rw[Vj,h];simp
theorem Qcp{D:Wb}:∀{k i:Nat},i<=k->(Q8 D i).length<=(Q8 D k).length
 |0,i,h=>by
  have:i=0:=by lia
  subst this;exact Xi _
 |k+1,i,h=>by
  by_cases e:i=k+1
  ·subst e;exact Xi _
  ·have h1:=Qcp (D:=D) (k:=k) (i:=i) (by lia)
   cases q:D.kept[k]? with
   |none=>
    have:Q8 D (k+1)=Q8 D k:=by unfold Q8;rw[Vj,q];simp
    rw[this];exact h1
   |some x=>rw[Zm q,Xn];lia
def QeL{D:Wb}(h:D.kept.length<=i):Q8 D i=Qo D:=by
 unfold Qo Q8;rw[List.take_of_length_le h,Vm]
def Z4{D:Wb}(h:(Qo D).length<=n):(Q8 D i).length<=n:=by
 by_cases l:i<=D.kept.length
 ·exact Wf (Qcp l) h
 ·rw[QeL (by lia)]
  exact h
def QgC{D:Wb}{a:Nm}(h:a∈D.lie):a∈Qo D:=by
 unfold Qo Q8;exact Ue _ (Ue _ h)
def QmJ{D:Wb}(h:DW h0 u D):∃b k o rb rk ro,(∀(T:Tbl) hs,Kp h0 hs->QF T u (.int 1 0) hs=sR b/\QF T u (.int 2 0) hs=sR k/\QF T u (.int 3 0) hs=sR o) /\
  h0[b]?=some (.lst rb)/\h0[k]?=some (.lst rk)/\h0[o]?=some (.lst ro)/\Paired (DN h0) rb D.lie/\Paired (DK h0) rk D.kept/\Paired (DN h0) ro D.off:=by
 obtain⟨i,a,b,k,o,ra,rb,rk,ro,rfl,h1,h2,h3,h4,h5,h6,h7,h8,h9⟩:=h;refine⟨b,k,o,rb,rk,ro,λT hs kp=>⟨?_,?_,?_⟩,h3,h4,h5,h7,h8,h9⟩
 ·simp only[QF,kp _ _ h1];exact Yw (i:=1) rfl
 ·simp only[QF,kp _ _ h1];exact Yw (i:=2) rfl
 ·simp only[QF,kp _ _ h1];exact Yw (i:=3) rfl
noncomputable def lpH:S:=(.loop (.pair 2 3) (.seq (.ix (.var 0) (.c (.int 2 0)))) [(.set 1 (.op .Add (.var 1) (.var 3)))])
def QpB:b3=[(.set 1 (.op .Add (.ix (.var 0) (.c (.int 1 0))) (.ix (.var 0) (.c (.int 3 0))))),lpH,(.ret (.call 4 [(.var 1)]))]:=rfl
def QrH:Qa (tbG xx s) (m+1) 3 [a] hs=fin (exs (tbG xx s) (Qa (tbG xx s) m) dd b3 [some a,none,none,none] hs):=rfl
def QnJ(h:hs[j]?=some (.lst us)):wkS T (.ref j) hs=some (.seqL (.ref j)):=by simp only[wkS,QA,h]
def Qal{D:Wb}(dw:DW h0 u D)(ll:(Qo D).length<=900000):
  ∃h2 p kvs,Qa (tbG xx s) (m+2) 3 [u] h0=some (.ref p,h2)/\Kp h0 h2/\h0.length<=p/\h2[p]?=some (.dct kvs)/\SDk kvs (Qo D):=by
 obtain⟨b,k,o,rb,rk,ro,sb,hb,hk,ho,pb,pk,po⟩:=QmJ dw;have CM:=λ(l:Nat) (hs:Hs) (us:List U) (L:List Nm) (x:hs[l]?=some (.lst us)) (y:Paired (DN hs) us L) (z:L.length<=900000)=>YF (xx:=xx) (s:=s) (m:=m) x y z;rw[QrH,QpB];show ∃h2 p kvs,fin (exs (tbG xx s) (Qa (tbG xx s) (m+1)) 100 _ _ _)=_/\_;generalize Qa (tbG xx s) (m+1)=cf at CM ⊢;generalize tbG xx s=T;have eb:=Qd pb;have eo:=Qd po;have ek:=Qd pk;have l0:=Z4 (i:=0) ll
 have e0:Q8 D 0=D.lie++D.off:=by simp[Q8]
 rw[e0,Xn]at l0
 obtain⟨ρ2,h2,g1,⟨l,us,o2,o3,rfl,k2,hl,pu⟩⟩:=Qeu (T:=T) (l:=k) (t:=.pair 2 3) (body:=exs T cf 97 [(.set 1 (.op .Add (.var 1) (.var 3)))]) (Z:=[some u,sR h0.length,none,none]) (hs:=h0++[O.lst (rb++ro)]) (λi Z hs=>∃l us o2 o3,Z=[some u,sR l,o2,o3]/\Kp h0 hs/\hs[l]?=some (.lst us)/\Paired (DN hs) us (Q8 D i)) pk (λw w w r=>by obtain⟨_,_,_,_,_,kp,_⟩:=r;exact kp _ _ hk)
  (λi x v hx q Z hs n=>by
   obtain⟨ii,j,vs,e',hii,hj,pv,_⟩:=q;obtain⟨l,us,o2,o3,e,kp,hl,pu⟩:=n
   subst e e';have eu:=Qd pu;have ev:=Qd pv;have l1:=Z4 (i:=i+1) ll;rw[Zm hx,Xn]at l1;have kq:Kp hs (hs++[O.lst (us++vs)]):=Kp.app _ _
   refine⟨[some u,sR l,some x.1,sR j],_,_,by simp only[tgt,kp _ _ hii,X9,Wi],QH (ZG (Qap (Qc rfl) (Qc rfl) (show opU .Add _ _ _=_ from Qa5 hl (kp _ _ hj) (by lia)))),_,_,_,_,rfl,kp.trans kq,at0,?_⟩
   rw[Zm hx]
   exact ZI (Qb (λw w=>DN.kp kq) pu) (Qb (λw w=>DN.kp (kp.trans kq)) pv)) ⟨_,_,_,_,rfl,Kp.app _ _,at0,by rw[e0];exact ZI (Qb (λw w=>Zn) pb) (Qb (λw w=>Zn) po)⟩
 obtain⟨h3,p,kvs,g3,k3,lp,hp,sd⟩:=CM l h2 us (Qo D) hl pu ll;refine⟨h3,p,kvs,?_,k2.trans k3,Wf k2.len lp,hp,sd⟩
 exact(congrArg fin ((Zg (Qap (JL rfl (sb T h0 (Kp.refl _)).1) (JL rfl (sb T h0 (Kp.refl _)).2.2) (show opU .Add _ _ _=_ from Qa5 hb ho (by lia)))).trans (QE (QY (Yr (JL rfl (sb T _ (Kp.app h0 _)).2.1) (Qn hk)) g1)))).trans (ZH (Zr rfl g3))
noncomputable def ptH:List S:=[(.put (.var 1) (.var 2) (.c (.bl true)))]
noncomputable def Qrc:S:=(.loop (.name 2) (.seq (.op .Add (.ix (.var 0) (.c (.int 1 0))) (.ix (.var 0) (.c (.int 3 0))))) ptH)
noncomputable def Qrb:S:=(.loop (.pair 3 4) (.seq (.ix (.var 0) (.c (.int 2 0)))) [(.loop (.name 2) (.seq (.var 4)) ptH)])
def Qm7:b19=[(.set 1 .dnewT),Qrc,Qrb,(.ret (.var 1))]:=rfl
def QrM:Qa (tbG xx s) (m+1) 19 [a] hs=fin (exs (tbG xx s) (Qa (tbG xx s) m) dd b19 [some a,none,none,none,none] hs):=rfl
def Qft{D:Wb}(dw:DW h0 u D)(ll:(Qo D).length<=900000):
  ∃h2 p kvs,Qa (tbG xx s) (m+1) 19 [u] h0=some (.ref p,h2)/\Kp h0 h2/\h0.length<=p/\h2[p]?=some (.dct kvs)/\SDk kvs (Qo D):=by
 obtain⟨b,k,o,rb,rk,ro,sb,hb,hk,ho,pb,pk,po⟩:=QmJ dw;rw[QrM,Qm7];show ∃h2 p kvs,fin (exs (tbG xx s) (Qa (tbG xx s) m) 100 _ _ _)=_/\_;generalize Qa (tbG xx s) m=cf;generalize tbG xx s=T;have eb:=Qd pb;have eo:=Qd po;have ek:=Qd pk;have l0:=Z4 (i:=0) ll
 have e0:Q8 D 0=D.lie++D.off:=by simp[Q8]
 have l0':=l0;rw[e0,Xn]at l0';generalize hA:h0++[O.dct []]=A
 have kA:Kp h0 A:=by rw[<-hA];exact Kp.app _ _
 have hpA:A[h0.length]?=some (.dct []):=by rw[<-hA];exact at0
 have kB:Kp A (A++[O.lst (rb++ro)]):=Kp.app _ _
 obtain⟨o2,kv1,g1,sd1⟩:=JY (T:=T) (cf:=cf) (d:=91) (l:=A.length) (iD:=1) (iN:=2) (hs:=A++[O.lst (rb++ro)]) (us:=rb++ro) (nms:=Q8 D 0) (L:=[]) (Z:=[some u,sR h0.length,none,none,none]) rfl (by decide) (by simp) (kB _ _ hpA) at0 (by rw[e0];exact ZI (Qb (λz z=>DN.kp (kA.trans kB)) pb) (Qb (λz z=>DN.kp (kA.trans kB)) po)) Qav (by simpa using l0)
 rw[Vf]at sd1
 have lA:h0.length<A.length:=by rw[<-hA];simp
 have kC:Kp h0 ((A++[O.lst (rb++ro)]).set h0.length (.dct kv1)):=(kA.trans kB).put (Xi _)
 have hpC:((A++[O.lst (rb++ro)]).set h0.length (.dct kv1))[h0.length]?=some (.dct kv1):=X0 (by simp;lia)
 obtain⟨ρ2,h2,g2,⟨q2,q3,q4,kv2,rfl,k2,hp2,sd2⟩⟩:=Qeu (T:=T) (l:=k) (t:=.pair 3 4) (body:=exs T cf 96 [(.loop (.name 2) (.seq (.var 4)) ptH)]) (Z:=[some u,sR h0.length,o2,none,none]) (λi Z hs=>∃q2 q3 q4 kv,Z=[some u,sR h0.length,q2,q3,q4]/\Kp h0 hs/\hs[h0.length]?=some (.dct kv)/\SDk kv (Q8 D i)) pk (λz z z y=>by obtain⟨_,_,_,_,_,kp,_⟩:=y;exact kp _ _ hk)
  (λi x v hx w Z hs r=>by
   obtain⟨ii,j,vs,e',hii,hj,pv,_⟩:=w;obtain⟨q2,q3,q4,kv,e,kp,hp,sd⟩:=r
   subst e e';have l1:=Z4 (i:=i+1) ll;rw[Zm hx,Xn]at l1
   obtain⟨o5,kv',g,sd'⟩:=JY (T:=T) (cf:=cf) (d:=88) (l:=j) (iD:=1) (iN:=2) (hs:=hs) (L:=Q8 D i) (Z:=[some u,sR h0.length,q2,some x.1,sR j]) rfl (by decide) (by simp) hp (kp _ _ hj) (Qb (λz z=>DN.kp kp) pv) sd l1
   exact⟨[some u,sR h0.length,q2,some x.1,sR j],_,_,by simp only[tgt,kp _ _ hii,X9,Wi],QH (QY (Yr (Qc rfl) (kp _ _ hj)) g),_,_,_,kv',rfl,kp.put (Xi _),X0 (Xc.mp hp).1,by rw[Zm hx];exact sd'⟩) ⟨_,_,_,_,rfl,kC,hpC,sd1⟩
 refine⟨h2,h0.length,kv2,?_,k2,Xi _,hp2,sd2⟩
 exact(congrArg fin ((Zg (show ev T cf 98 .dnewT _ h0=some (.ref h0.length,A) by rw[QcG,hA])).trans ((QE (QY (Yr (Qap (JL rfl (sb T _ kA).1) (JL rfl (sb T _ kA).2.2) (show opU .Add _ _ _=_ from Qa5 (kA _ _ hb) (kA _ _ ho) (by lia))) at0) g1)).trans (QE (QY (Yr (JL rfl (sb T _ kC).2.1) (kC _ _ hk)) g2))))).trans (ZH (Qc rfl))
noncomputable def ZD(F:Fu)(H N acc:List Nm)(a:Nm):Bool:=decide (a∈N)||(!decide (a∈H)&&(F a).all λb=>decide (b∈acc))
noncomputable def Jp(F:Fu)(H N acc:List Nm)(a:Nm):List Nm:=if ZD F H N acc a=true then acc++[a]else acc
noncomputable def fal(F:Fu)(H N:List Nm)(l:List Nm):List Nm:=l.foldl (Jp F H N) []
def KpX(p:Nat)(hs h2:Hs):Prop:=∀(i:Nat) o,i≠p->hs[i]?=some o->h2[i]?=some o
def KpX.trans{a b c:Hs}(h:KpX p a b)(h':KpX p b c):KpX p a c:=λi o n e=>h' i o n (h i o n e)
def KpX.app{a r:Hs}:KpX p a (a++r):=λi o z e=>Qn e
theorem KpX.set{a:Hs}{x:O}:KpX p a (a.set p x):=λi o n e=>by rw[Xs (Wq n)];exact e
def KpX.refl{a:Hs}:KpX p a a:=λz z z e=>e
def KpX.tk{a b:Hs}{kv:List (List U×U)}(h:KpX p a b)(hp:a[p]?=some (.dct kv)):TK a b:=λi us e=>h i _ (λz=>by rw[z,hp]at e;cases e) e
theorem KpX.lst{a b:Hs}{kv:List (List U×U)}(h:KpX p a b)(hp:a[p]?=some (.dct kv))(e:a[i]?=some (.lst us)):b[i]?=some (.lst us):=h i _ (λz=>by rw[z,hp]at e;cases e) e
def KpX.df{a b:Hs}{kv:List (List U×U)}{K:Ky}{f:Fu}(h:KpX p a b)(hp:a[p]?=some (.dct kv))(d:DF a K f):DF b K f :=
 ⟨d.ky,d.pl,λq m=>by obtain⟨us,x,y⟩:=d.ls q m;exact⟨us,h.lst hp x,Qb (λz z=>DN.mono (h.tk hp)) y⟩⟩
def KpX.kp{a b:Hs}(h:KpX p a b)(k:Kp h0 a)(l:h0.length<=p):Kp h0 b:=λi o e=>h i o (λz=>by have:=(Xc.mp e).1;lia) (k i o e)
def Qj3{bs acc:List Nm}(l8:Z.length=8)(r7:Z[7]?=some (sR p7))(v:ev T cf (d+3) e Z hs=some (.ref j,hs))(hj:hs[j]?=some (.lst us))(pu:Paired (DN hs) us bs)(h7:hs[p7]?=some (.dct kv7))(s7:SDk kv7 acc)(l:bs.length<=900000):
  ev T cf (d+4) (.comp (.seq e) false none (.cmp .In (.var 8) (.var 7))) Z hs=some (.ref hs.length,hs++[O.lst (bs.map λb=>U.bl (decide (b∈acc)))]):=by
 obtain⟨vs,h2,g1,rfl,rfl⟩:=Qba (el:=.cmp .In (.var 8) (.var 7)) v (λi ac h=>h=hs/\ac=(bs.take i).map λb=>U.bl (decide (b∈acc))) pu l (λy y y z=>z.1▸hj)
  (λi b u hb du ac h x=>by
   obtain⟨e1,e2⟩:=x
   subst e1 e2
   have r8:(Z++[some u])[8]?=some (some u):=by rw[<-l8];simp
   have r7':(Z++[some u])[7]?=some (sR p7):=by rw[Xp (by lia)];exact r7
   refine⟨.bl (decide (b∈acc)),_,?_,rfl,?_⟩
   ·simp only[Yq,Qm,r8,r7',Qh,QeJ h7 s7 du,Option.map]
   ·rw[Vj,hb]
    simp) ⟨rfl,by simp⟩
 rw[Vm]at g1;exact g1
theorem Qcz{α:Type}{f:α->Bool}:∀l:List α,Y7 (l.map λb=>U.bl (f b))=some (l.map f)
 |[]=>rfl
 |a::l=>by simp only[Xu,Y7,Qcz l,Option.map]
noncomputable def QnR:E:=(.or (.cmp .In (.var 3) (.var 6)) (.and (.cmp .NotIn (.var 3) (.var 5)) (.bi .all [(.comp (.seq (.ix (.var 4) (.var 3))) false none (.cmp .In (.var 8) (.var 7)))])))
noncomputable def bdF:List S:=[(.ite QnR [(.put (.var 7) (.var 3) (.c (.bl true)))] [])]
def QnV{b:Bi}{k:Bool}(e:ev T cf d (.bi b es) Z hs=some (.bl k,h1)):evT T cf (d+1) (.bi b es) Z hs=some (k,h1):=by
 rw[show evT T cf (d+1) (.bi b es) Z hs=bd (ev T cf d (.bi b es) Z hs) λu h1=>(Yg T u h1).map λc=>(c,h1)from rfl,e];rfl
def QgV{K:Ky}{F:Fu}{H N acc:List Nm}{kv6:List (List U×U)}{a:Nm}(l8:Z.length=8)(r3:Z[3]?=some (some u))(r4:Z[4]?=some (sR p4))(r5:Z[5]?=some (sR p5))(r6:Z[6]?=some (sR p6))(r7:Z[7]?=some (sR p7))
  (hu:DN hs u a) (h4:hs[p4]?=some (.dct (kv K))) (df:DF hs K F) (ma:a∈K.map (·.1)) (h5:hs[p5]?=some (.dct kv5)) (s5:SDk kv5 H) (h6:hs[p6]?=some (.dct kv6)) (s6:SDk kv6 N) (h7:hs[p7]?=some (.dct kv7)) (s7:SDk kv7 acc) (lF:(F a).length<=900000):
  ∃r,evT T cf (d+12) QnR Z hs=some (ZD F H N acc a,hs++r):=by
 have i6:=QeJ (T:=T) h6 s6 hu;have n5:=QaC (T:=T) h5 s5 hu;have t6:∀d,evT T cf (d+3) (.cmp .In (.var 3) (.var 6)) Z hs=some (decide (a∈N),hs):=λd=>Qs (Qc r3) (Qc r6) i6;have t5:∀d,evT T cf (d+3) (.cmp .NotIn (.var 3) (.var 5)) Z hs=some (!decide (a∈H),hs):=λd=>Qs (Qc r3) (Qc r5) n5;unfold QnR;by_cases c1:a∈N
 ·refine⟨[],?_⟩
  rw[QfO,t6 (d+8),Qh,if_pos (by simp[c1])]
  simp[ZD,c1]
 ·by_cases c2:a∈H
  ·refine⟨[],?_⟩
   rw[QfO,t6 (d+8),Qh,if_neg (by simp[c1]),YH,t5 (d+7),Qh,if_neg (by simp[c2])]
   simp[ZD,c1,c2]
  ·obtain⟨j,mj⟩:=Qcj ma;obtain⟨us,hj,pu⟩:=df.ls _ mj;have sb:=Qf2 (T:=T) h4 df.ky mj hu
   have vc:=Qj3 (T:=T) (cf:=cf) (d:=d+4) l8 r7 (show ev T cf (d+7) (.ix (.var 4) (.var 3)) Z hs=some (.ref j,hs) by simp only[y_ix,Qm,r4,r3,Qh,sb,Option.map]) hj pu h7 s7 lF
   refine⟨[O.lst ((F a).map λb=>U.bl (decide (b∈acc)))],?_⟩
   have al:ev T cf (d+9) (.bi .all [(.comp (.seq (.ix (.var 4) (.var 3))) false none (.cmp .In (.var 8) (.var 7)))]) Z hs=some (.bl ((F a).all λb=>decide (b∈acc)),hs++[O.lst ((F a).map λb=>U.bl (decide (b∈acc)))]):=by
    rw[y_bi];simp only[evs,vc,Qh];show(QA T (.ref hs.length) _).bind _=_
    have e0:QA T (.ref hs.length) (hs++[O.lst ((F a).map λb=>U.bl (decide (b∈acc)))])=some ((F a).map λb=>U.bl (decide (b∈acc))):=by simp only[QA,at0]
    simp only[e0,Option.bind,Qcz,Option.map,List.all_map,Function.comp,id];rfl
   rw[QfO,t6 (d+8),Qh,if_neg (by simp[c1]),YH,t5 (d+7),Qh,if_pos (by simp[c2]),QnV al]
   simp[ZD,c1,c2]
def QgU{K:Ky}{F:Fu}{H N acc:List Nm}{kv6:List (List U×U)}{a:Nm}(l8:Z.length=8)(r3:Z[3]?=some (some u))(r4:Z[4]?=some (sR p4))(r5:Z[5]?=some (sR p5))(r6:Z[6]?=some (sR p6))(r7:Z[7]?=some (sR p7))
  (hu:DN hs u a) (h4:hs[p4]?=some (.dct (kv K))) (df:DF hs K F) (ma:a∈K.map (·.1)) (h5:hs[p5]?=some (.dct kv5)) (s5:SDk kv5 H) (h6:hs[p6]?=some (.dct kv6)) (s6:SDk kv6 N) (h7:hs[p7]?=some (.dct kv7)) (s7:SDk kv7 acc) (lF:(F a).length<=900000) (la:acc.length<900000):
  ∃h2 kv',exs T cf (d+14) bdF Z hs=some (.next,Z,h2)/\KpX p7 hs h2/\h2[p7]?=some (.dct kv')/\SDk kv' (Jp F H N acc a):=by
 obtain⟨r,t⟩:=QgV (T:=T) (cf:=cf) (d:=d) l8 r3 r4 r5 r6 r7 hu h4 df ma h5 s5 h6 s6 h7 s7 lF;have lp:=(Xc.mp h7).1;have h7':(hs++r)[p7]?=some (.dct kv7):=Qn h7
 have lk:kv7.length<1000000:=by have:=s7.len;lia
 cases q:ZD F H N acc a with
 |true=>
  rw[q]at t
  have pt:Jd (.ref p7) u (.bl true) (hs++r)=some ((hs++r).set p7 (.dct (Zt kv7 (nmK a) (.bl true)))):=by
   simp only[Jd,h7',Jg,lk,We,Qad (Zn hu),Wp]
  refine⟨(hs++r).set p7 (.dct (Zt kv7 (nmK a) (.bl true))),Zt kv7 (nmK a) (.bl true),?_,KpX.app.trans KpX.set,X0 (by simp;lia),?_⟩
  ·refine QH (d:=d+12) ?_;rw[ZR,t,Qh,if_pos rfl];refine QH (d:=d+10) ?_;simp only[y_put,y_c,Qm,r7,r3,Qh,pt,Option.map]
  ·unfold Jp;rw[q,if_pos rfl];exact QbZ s7
 |false=>
  rw[q]at t;refine⟨hs++r,kv7,?_,KpX.app,h7',?_⟩
  ·refine QH (d:=d+12) ?_
   rw[ZR,t,Qh,if_neg (by decide),JI]
  ·unfold Jp
   rw[q,if_neg (by decide)]
   exact s7
noncomputable def rs5:S:=(.rse 1 [(.c (.str [97,32,108,111,111,112,32,105,115,32,108,101,116,32,102,97,108,108,32,116,104,97,116,32,100,111,101,115,32,110,111,116,32,108,105,101,32,111,110,32,97,32,110,101,101,100,108,101]))])
noncomputable def Qhe:List S:=[(.ite (.cmp .NotIn (.var 3) (.var 2)) [rs5] [])]
noncomputable def QoG:S:=(.loop (.name 3) (.seq (.var 1)) Qhe)
noncomputable def Qrd:S:=(.loop (.name 3) (.seq (.call 2 [(.var 0)])) bdF)
def Qkh:b5=[(.set 2 (.call 4 [(.ix (.var 0) (.c (.int 1 0)))])),QoG,(.set 4 (.call 0 [(.var 0)])),(.set 5 (.call 3 [(.var 0)])),(.set 6 (.call 4 [(.var 1)])),(.set 7 .dnewT),Qrd,(.ret (.var 7))]:=rfl
def QqA{b:U}:Qa (tbG xx s) (m+1) 5 [a,b] hs=fin (exs (tbG xx s) (Qa (tbG xx s) m) dd b5 [some a,some b,none,none,none,none,none,none] hs):=rfl
structure Bnd(D:Wb):Prop where
 lr:D.rows.length<=100000
 ls:szR D.rows<=100000
 lw:wtR D.rows<=900000
 lh:(Qo D).length<=900000
 mp:∀row∈D.rows,∀lp∈row,∀a∈lp.ps,a∈upN D.rows
 od:Ord D.rows
noncomputable def FD(D:Wb):Fu:=QkB D.rows F0
def QfG{D:Wb}(b:Bnd D)(a:Nm):(FD D a).length<=900000:=by
 have:=Z8 (g:=λr row f=>Qkm r row f) (wt:=wtL) (λi row f a=>Qan i row f a) D.rows 0 F0 a;simp only[F0,W6,Vk]at this;exact Wf this b.lw
def Qey{D:Wb}(b:Bnd D):D.lie.length<=900000:=by
 have:=b.lh;unfold Qo Q8 at this;simp only[Xn]at this;lia
def Qgv{F:Fu}{H N acc:List Nm}{a:Nm}:(Jp F H N acc a).length<=acc.length+1:=by
 unfold Jp;split<;>simp
theorem QbC{F:Fu}{H N:List Nm}:∀(l acc:List Nm),(l.foldl (Jp F H N) acc).length<=acc.length+l.length
 |[],acc=>by simp
 |a::l,acc=>by
  have h1:=QbC (F:=F) (H:=H) (N:=N) l (Jp F H N acc a);have h2:=Qgv (F:=F) (H:=H) (N:=N) (acc:=acc) (a:=a);simp only[Vx,X8];lia
def Qh7{D:Wb}(b:Bnd D):(dnN D.rows).length<=100000:=by rw[Qip,QbU];exact b.ls
def Qcy{D:Wb}{N:List Nm}(dw:DW h0 u D)(bn:Bnd D)(hl:h0[ln]?=some (.lst us))(pu:Paired (DN h0) us N)(lN:N.length<=900000)(hN:∀a∈N,a∈D.lie):
  ∃h2 p kvs,Qa (tbG xx s) (m+3) 5 [u,.ref ln] h0=some (.ref p,h2)/\Kp h0 h2/\h0.length<=p/\h2[p]?=some (.dct kvs)/\SDk kvs (fal (FD D) (Qo D) N (dnN D.rows)):=by
 obtain⟨b,k,o,rb,rk,ro,sb,hb,hk,ho,pb,pk,po⟩:=QmJ dw;obtain⟨h1,p2,kv2,g1,k1,lp2,hp2,sd2⟩:=YF (xx:=xx) (s:=s) (m:=m+1) hb pb (Qey bn)
 obtain⟨h3,p4,K,g3,f3,e3⟩:=Y6 (xx:=xx) (s:=s) (m:=m) (dw.kp k1) bn.lr (by have:=bn.ls;lia) bn.lw bn.mp
 have k3:=k1.trans f3.kp;obtain⟨h4,p5,kv5,g4,k4,lp5,hp5,sd5⟩:=Qal (xx:=xx) (s:=s) (m:=m) (dw.kp k3) bn.lh;have k03:=k3.trans k4;obtain⟨h5,p6,kv6,g5,k5,lp6,hp6,sd6⟩:=YF (xx:=xx) (s:=s) (m:=m+1) (k03 _ _ hl) (Qb (λy y=>DN.kp k03) pu) lN;have k05:=k03.trans k5;have k6:Kp h5 (h5++[O.dct []]):=Kp.app _ _
 obtain⟨h6,ds,g6,k7,hd,pd⟩:=Qid (xx:=xx) (s:=s) (m:=m+1) (dw.kp (k05.trans k6)) bn.lr (by have:=bn.ls;lia)
 have h7p:h6[h5.length]?=some (.dct []):=k7 _ _ at0;have k56:=k6.trans k7;have eN:=Qd pu;have ed:=Qd pd;have ld:=Qh7 bn;rw[QqA,Qkh];show ∃h2 p kvs,fin (exs (tbG xx s) (Qa (tbG xx s) (m+2)) 100 _ _ _)=_/\_;generalize Qa (tbG xx s) (m+2)=cf at g1 g3 g4 g5 g6 ⊢;generalize tbG xx s=T at *
 obtain⟨ρ2,h2',q1,⟨o3,rfl⟩,rfl⟩:=Qeu (T:=T) (l:=ln) (t:=.name 3) (body:=exs T cf 97 Qhe) (Z:=[some u,sR ln,sR p2,none,none,none,none,none]) (hs:=h1) (λi Z h=>(∃o,Z=[some u,sR ln,sR p2,o,none,none,none,none])/\h=h1) pu (λy y y z=>z.2▸k1 _ _ hl)
  (λi a v ha dv Z h x=>by
   obtain⟨⟨o,e⟩,e'⟩:=x
   subst e e'
   exact⟨_,_,h,rfl,QH (QkG (Qs (Qc rfl) (Qc rfl) (QaC hp2 sd2 (dv.kp k1))) (by simp[hN a (Xv ha)])),⟨_,rfl⟩,rfl⟩) ⟨⟨_,rfl⟩,rfl⟩
 have l4:p4<h5.length:=by have:=(Xc.mp f3.di).1;have:=(k4.trans k5).len;lia
 have l5:p5<h5.length:=by have:=(Xc.mp hp5).1;have:=k5.len;lia
 have l6:p6<h5.length:=(Xc.mp hp6).1;have K4:=(k4.trans k5).trans k56;have d4:=f3.df.kp K4
 obtain⟨ρ7,h7,q7,⟨o7,rfl⟩,kx,kv7,hp7,sd7⟩:=Qeu (T:=T) (l:=(h5++[O.dct []]).length) (t:=.name 3) (body:=exs T cf 92 bdF) (Z:=[some u,sR ln,sR p2,o3,sR p4,sR p5,sR p6,sR h5.length]) (hs:=h6) (λi Z h=>(∃o,Z=[some u,sR ln,sR p2,o,sR p4,sR p5,sR p6,sR h5.length])/\KpX h5.length h6 h/\∃kv,h[h5.length]?=some (.dct kv)/\SDk kv (fal (FD D) (Qo D) N ((dnN D.rows).take i))) pd (λy y y z=>z.2.1.lst h7p hd)
  (λi a v ha dv Z h w=>by
   obtain⟨⟨o,e⟩,kx,kv,hp,sd⟩:=w
   subst e;have hi:=(Xc.mp ha).1;have la:=QbC (F:=FD D) (H:=Qo D) (N:=N) ((dnN D.rows).take i) [];rw[W7]at la
   obtain⟨h',kv',t1,t2,t3,t4⟩:=QgU (T:=T) (cf:=cf) (d:=78) (Z:=[some u,sR ln,sR p2,some v,sR p4,sR p5,sR p6,sR h5.length]) rfl rfl rfl rfl rfl rfl (dv.mono (kx.tk h7p)) (kx _ _ (by lia) (K4 _ _ f3.di)) (kx.df h7p d4) (by rw[e3];exact Xv ha) (kx _ _ (by lia) ((k5.trans k56) _ _ hp5)) sd5 (kx _ _ (by lia) (k56 _ _ hp6)) sd6 hp sd (QfG bn a) (by simp only[fal,W6,Vk]at la ⊢;lia)
   refine⟨_,_,h',rfl,t1,⟨_,rfl⟩,kx.trans t2,kv',t3,?_⟩;unfold fal at t4 ⊢;rw[Vj,ha,Ud]
   exact t4) ⟨⟨_,rfl⟩,KpX.refl,[],h7p,by simpa[fal]using Qav⟩
 rw[Vm]at sd7;refine⟨h7,h5.length,kv7,?_,kx.kp (k05.trans k56) k05.len,k05.len,hp7,sd7⟩;exact(congrArg fin ((Zg (Zw (e_1 (JL rfl (sb T h0 (Kp.refl _)).1)) g1)).trans ((QE (QY (Yr (Qc rfl) (k1 _ _ hl)) q1)).trans ((Zg (Zr rfl g3)).trans ((Zg (Zr rfl g4)).trans ((Zg (Zr rfl g5)).trans ((Zg QcG).trans (QE (QY (Yr (Zr rfl g6) hd) q7))))))))).trans (ZH (Qc rfl))
def QbR{r:List S}{ρ1:Rho}(e:ex T cf d st Z hs=some (.next,ρ1,h1)):exsX T cf (d+1) (st::r) Z hs=exsX T cf d r ρ1 h1:=by
 rw[exsX,e]
def Qdn{r:List S}(e:ex T cf d st Z hs=none):exsX T cf (d+1) (st::r) Z hs=exX T cf d st Z hs:=by
 rw[exsX,e]
def QaD{r:List S}(e:ex T cf d st Z hs=none):exs T cf (d+1) (st::r) Z hs=none:=by
 rw[QT,e]
def QnH{x:List Nat}:ex (tbG xx s) cf (d+2) (.rse 1 [(.c (.str x))]) Z hs=none/\exX (tbG xx s) cf (d+2) (.rse 1 [(.c (.str x))]) Z hs=some (1,hs):=by
 refine⟨by rw[ex],?_⟩
 rw[exX];have h:(tbG xx s).ers.contains 1=true:=rfl;simp only[evs,y_c,Qh]
 rw[if_pos ⟨h,by simp[tbG,tbX,Qqv]⟩]
def Qnm{x:List Nat}{t:E}(e:evT (tbG xx s) cf (d+4) t Z hs=some (true,hs)):ex (tbG xx s) cf (d+5) (.ite t [(.rse 1 [(.c (.str x))])] []) Z hs=none/\exX (tbG xx s) cf (d+5) (.ite t [(.rse 1 [(.c (.str x))])] []) Z hs=some (1,hs):=by
 have z:=QnH (xx:=xx) (s:=s) (cf:=cf) (d:=d+1) (x:=x) (Z:=Z) (hs:=hs);refine⟨?_,?_⟩
 ·rw[ZR,e,Qh,if_pos rfl,QaD z.1]
 ·rw[exX,e];simp only;rw[Qdn z.1,z.2]
theorem Qhr{s:List U}{cf:Cf}{d ln p2:Nat}{u:U}{h1:Hs}{us:List U}{lie:List Nm}{kv2:List (List U×U)}(hl:h1[ln]?=some (.lst us))(hp2:h1[p2]?=some (.dct kv2))(sd2:SDk kv2 lie):
  ∀(vs:List U) (N:List Nm) (i k:Nat) (o:Option U),us.drop i=vs->Paired (DN h1) vs N->(∃a∈N,a∉lie)->vs.length<k ->
  Z6 (tbG xx s) (.seqL (.ref ln)) (.name 3) (exs (tbG xx s) cf (d+6) Qhe) k i [some u,sR ln,sR p2,o,none,none,none,none] h1=none /\
  QfK (tbG xx s) (.seqL (.ref ln)) (.name 3) (exs (tbG xx s) cf (d+6) Qhe) (exsX (tbG xx s) cf (d+6) Qhe) k i [some u,sR ln,sR p2,o,none,none,none,none] h1=some (1,h1)
 |[],N,i,k,o,hd,pr,⟨a,ma,_⟩,lk=>by cases pr;simp at ma
 |v::vs,N,i,0,o,hd,pr,hx,lk=>by simp at lk
 |v::vs,N,i,k+1,o,hd,pr,hx,lk=>by
  cases pr with
  |cons dv pr=>
   rename_i a N
   have e:us[i]?=some v:=by
    have:=Te (xs:=us) (i:=i) (j:=0);rw[hd]at this;simpa using this.symm
   have hd':us.drop (i+1)=vs:=by rw[<-Sk,hd];rfl
   have it:itm (tbG xx s) (.seqL (.ref ln)) i h1=some (some (.one v)):=by simp only[itm,QA,hl,Option.map,e]
   have nn:=QaC (T:=tbG xx s) hp2 sd2 dv;have tt:∀d,evT (tbG xx s) cf (d+3) (.cmp .NotIn (.var 3) (.var 2)) [some u,sR ln,sR p2,some v,none,none,none,none] h1=some (!decide (a∈lie),h1):=λd=>Qs (Qc rfl) (Qc rfl) nn;by_cases c:a∈lie
   ·have hx':∃a∈N,a∉lie:=by
     obtain⟨b,mb,nb⟩:=hx
     rcases X5.mp mb with rfl|mb
     ·exact absurd c nb
     ·exact⟨b,mb,nb⟩
    obtain⟨g1,g2⟩:=Qhr (xx:=xx) (s:=s) (cf:=cf) (d:=d) (u:=u) hl hp2 sd2 vs N (i+1) k (some v) hd' pr hx' (by simp at lk;lia)
    have b:exs (tbG xx s) cf (d+6) Qhe [some u,sR ln,sR p2,some v,none,none,none,none] h1=some (.next,[some u,sR ln,sR p2,some v,none,none,none,none],h1):=by
     refine QH (d:=d+4) ?_
     rw[ZR,tt (d+1),Qh,if_neg (by simp[c]),JI]
    refine⟨?_,?_⟩
    ·simp only[Z6,it,tgt,X9,Wi,b];exact g1
    ·simp only[QfK,it,tgt,X9,Wi,b];exact g2
   ·have z:=λx=>Qnm (xx:=xx) (s:=s) (cf:=cf) (d:=d) (x:=x) (by rw[tt (d+1)];simp[c]:evT (tbG xx s) cf (d+4) (.cmp .NotIn (.var 3) (.var 2)) [some u,sR ln,sR p2,some v,none,none,none,none] h1=some (true,h1))
    have b1:exs (tbG xx s) cf (d+6) Qhe [some u,sR ln,sR p2,some v,none,none,none,none] h1=none:=QaD (z _).1
    have b2:exsX (tbG xx s) cf (d+6) Qhe [some u,sR ln,sR p2,some v,none,none,none,none] h1=some (1,h1):=by
     unfold Qhe rs5;rw[Qdn (z _).1,(z _).2]
    refine⟨?_,?_⟩
    ·simp only[Z6,it,tgt,X9,Wi,b1]
    ·simp only[QfK,it,tgt,X9,Wi,b1,b2]
def QrF{b:U}:ZO (tbG xx s) (m+1) 5 [a,b] hs=exsX (tbG xx s) (Qa (tbG xx s) m) dd b5 [some a,some b,none,none,none,none,none,none] hs:=rfl
def JJ{D:Wb}{N:List Nm}(dw:DW h0 u D)(bn:Bnd D)(hl:h0[ln]?=some (.lst us))(pu:Paired (DN h0) us N)(hN:∃a∈N,a∉D.lie):
  Qa (tbG xx s) (m+3) 5 [u,.ref ln] h0=none/\∃h2,ZO (tbG xx s) (m+3) 5 [u,.ref ln] h0=some (1,h2)/\Kp h0 h2:=by
 obtain⟨b,k,o,rb,rk,ro,sb,hb,hk,ho,pb,pk,po⟩:=QmJ dw;obtain⟨h1,p2,kv2,g1,k1,lp2,hp2,sd2⟩:=YF (xx:=xx) (s:=s) (m:=m+1) hb pb (Qey bn)
 have x1:ex (tbG xx s) (Qa (tbG xx s) (m+2)) 99 (.set 2 (.call 4 [(.ix (.var 0) (.c (.int 1 0)))])) [some u,sR ln,none,none,none,none,none,none] h0=some (.next,[some u,sR ln,sR p2,none,none,none,none,none],h1):=by
  refine ZG ?_;generalize Qa (tbG xx s) (m+2)=cf at g1 ⊢;simp only[y_call,evs,y_ix,Qm,y_c,Qh,Xe,(sb (tbG xx s) h0 (Kp.refl _)).1,Option.map,g1]
 obtain⟨q1,q2⟩:=Qhr (xx:=xx) (s:=s) (cf:=Qa (tbG xx s) (m+2)) (d:=91) (u:=u) (k1 _ _ hl) hp2 sd2 us N 0 (us.length+1) none rfl (Qb (λz z=>DN.kp k1) pu) hN (by lia)
 have sr:Q4 (tbG xx s) (ev (tbG xx s) (Qa (tbG xx s) (m+2)) 97) [some u,sR ln,sR p2,none,none,none,none,none] (.seq (.var 1)) h1=some (.seqL (.ref ln),h1):=by
  simp only[Q4,Qm,Qh,Xh,Xe,Option.map,QnJ (k1 _ _ hl)]
 have x2:ex (tbG xx s) (Qa (tbG xx s) (m+2)) 98 QoG [some u,sR ln,sR p2,none,none,none,none,none] h1=none:=QY sr (by rw[Qf0 (k1 _ _ hl)];exact q1)
 refine⟨?_,h1,?_,k1⟩
 ·rw[QqA,Qkh];show fin (exs (tbG xx s) (Qa (tbG xx s) (m+2)) 100 _ _ _)=_;rw[QE x1,QaD x2];rfl
 ·rw[QrF,Qkh];show exsX (tbG xx s) (Qa (tbG xx s) (m+2)) 100 _ _ _=_;rw[QbR x1,Qdn x2,QoG,exX,sr,Qh,Qf0 (k1 _ _ hl)];exact q2
def Qpa(rows:List (List Lp)):(dnN rows).Pairwise λx y=>y.1<=x.1:=by
 unfold dnN Ys;rw[List.pairwise_flatten];refine⟨λl ml=>?_,?_⟩
 ·obtain⟨j,_,rfl⟩:=Wg.mp ml;refine List.Pairwise.imp_of_mem ?_ (Qel _ _);intro x y mx my _;rw[(mem_rowN.mp mx).1,(mem_rowN.mp my).1];exact Int.le_refl _
 ·rw[List.pairwise_map];refine List.Pairwise.imp ?_ (Tz (n:=rows.length));intro i j lt x mx y my;rw[(mem_rowN.mp mx).1,(mem_rowN.mp my).1];unfold gD;lia
theorem Qcr{F:Fu}{H N:List Nm}{b:Nm}:∀(l acc:List Nm),b∉l->(b∈l.foldl (Jp F H N) acc↔b∈acc)
 |[],acc,_=>T6
 |a::l,acc,h=>by
  have n1:b≠a:=λz=>h (by simp[z])
  rw[Vx,Qcr l _ λm=>h (Xm _ m)];unfold Jp;split
  ·simp[n1]
  ·exact T6
theorem QeU{F:Fu}{H N:List Nm}{b:Nm}:∀(l acc:List Nm),b∈acc->b∈l.foldl (Jp F H N) acc
 |[],acc,h=>h
 |a::l,acc,h=>by
  rw[Vx];refine QeU l _ ?_;unfold Jp;split
  ·exact Ue _ h
  ·exact h
def Qma{F:Fu}{H N acc:List Nm}{a:Nm}(h:ZD F H N acc a=true):Jp F H N acc a=acc++[a]:=by unfold Jp;rw[if_pos h]
def Qmb{F:Fu}{H N acc:List Nm}{a:Nm}(h:ZD F H N acc a=false):Jp F H N acc a=acc:=by unfold Jp;rw[h,if_neg (by decide)]
def QdB{D:Wb}(bn:Bnd D){N:List Nm}{a:Nm}(ma:a∈dnN D.rows)(nf:a∉fal (FD D) (Qo D) N (dnN D.rows))(nh:a∉Qo D):∃b∈FD D a,b∉fal (FD D) (Qo D) N (dnN D.rows):=by
 obtain⟨pre,post,e⟩:=List.append_of_mem ma;have pw:=Qpa D.rows;have nd:=Qjt D.rows;rw[e]at pw nd nf ⊢;unfold fal at nf ⊢;rw[Ud,Vx]at nf ⊢
 have h1:ZD (FD D) (Qo D) N (pre.foldl (Jp (FD D) (Qo D) N) []) a=false:=by
  cases q:ZD (FD D) (Qo D) N (pre.foldl (Jp (FD D) (Qo D) N) []) a with
  |false=>rfl
  |true=>
   exfalso;refine nf (QeU _ _ ?_);rw[Qma q];simp
 rw[Qmb h1];simp only[ZD,nh,Tf,Ti,So,Bool.or_eq_false_iff,List.all_eq_false]at h1;obtain⟨_,b,mb,nb⟩:=h1;refine⟨b,mb,?_⟩;have ab:=QfC bn.od mb
 have np:b∉post:=λm=>by
  have:=(List.pairwise_append.mp pw).2.1;have:=(List.pairwise_cons.mp this).1 b m;lia
 rw[Qcr _ _ np];simpa using nb
noncomputable def Qo3(F:Fu)(Fl:List Nm)(a:Nm):Nm:=((F a).filter λb=>!decide (b∈Fl)).headD a
noncomputable def Qku(F:Fu)(H Fl:List Nm):Nat->Nm->List Nm
 |0,a=>[a]
 |n+1,a=>if a∈H then [a]else a::Qku F H Fl n (Qo3 F Fl a)
def QmC{D:Wb}(bn:Bnd D){N:List Nm}{a:Nm}(ma:a∈dnN D.rows)(nf:a∉fal (FD D) (Qo D) N (dnN D.rows))(nh:a∉Qo D):
  ∃b r,(FD D a).filter (λb=>!decide (b∈fal (FD D) (Qo D) N (dnN D.rows)))=b::r/\Qo3 (FD D) (fal (FD D) (Qo D) N (dnN D.rows)) a=b/\a.1<b.1/\b∈dnN D.rows/\b∉fal (FD D) (Qo D) N (dnN D.rows):=by
 obtain⟨b0,m0,n0⟩:=QdB bn ma nf nh
 have m1:b0∈(FD D a).filter (λb=>!decide (b∈fal (FD D) (Qo D) N (dnN D.rows))):=U5.mpr ⟨m0,by simpa using n0⟩
 cases q:(FD D a).filter (λb=>!decide (b∈fal (FD D) (Qo D) N (dnN D.rows)))with
 |nil=>rw[q]at m1;simp at m1
 |cons b r=>
  have mb:b∈(FD D a).filter (λb=>!decide (b∈fal (FD D) (Qo D) N (dnN D.rows))):=by rw[q];simp
  have mb:=U5.mp mb;have ab:=QfC bn.od mb.1
  exact⟨b,r,rfl,by unfold Qo3;rw[q];rfl,ab.1,mem_dn.mpr ab.2,by simpa using mb.2⟩
theorem YD{T:Tbl}{cf:Cf}{d j iF pF:Nat}{hs:Hs}{us:List U}{L:List Nm}{kvF:List (List U×U)}{Z:Rho}(rF:Z[iF]?=some (sR pF))(hj:hs[j]?=some (.lst us))(hF:hs[pF]?=some (.dct kvF))(sF:SDk kvF L):
  ∀(vs:List U) (bs:List Nm) (i k:Nat) (acc:List U) (out:List Nm),us.drop i=vs->Paired (DN hs) vs bs->vs.length<k->acc.length+vs.length<=1000000->Paired (DN hs) acc out ->
  ∃us',QS T (ev T cf (d+3)) (Z9 (evT T cf (d+3)) (some (.cmp .NotIn (.var Z.length) (.var iF)))) (.seqL (.ref j)) false (.var Z.length) Z k i acc hs=some (us',hs)/\Paired (DN hs) us' (out++bs.filter λb=>!decide (b∈L))
 |vs,bs,i,0,acc,out,_,_,lk,_,_=>by lia
 |[],bs,i,k+1,acc,out,hd,pr,lk,la,pa=>by
  cases pr
  refine⟨acc,?_,by simpa using pa⟩
  have e:us[i]?=none:=by rw[X6];exact Se.mp hd
  simp[QS,itm,QA,hj,e]
 |v::vs,bs,i,k+1,acc,out,hd,pr,lk,la,pa=>by
  cases pr with
  |cons dv pr=>
   rename_i b bs
   have e:us[i]?=some v:=by
    have:=Te (xs:=us) (i:=i) (j:=0);rw[hd]at this;simpa using this.symm
   have hd':us.drop (i+1)=vs:=by rw[<-Sk,hd];rfl
   rw[X8]at lk la;have lF:=(Xc.mp rF).1
   have rX:((Z++[none]).set Z.length (some v))[Z.length]?=some (some v):=by simp
   have rF':((Z++[none]).set Z.length (some v))[iF]?=some (sR pF):=by rw[Xs (by lia),Xp lF];exact rF
   have nn:=QaC (T:=T) hF sF dv;have tt:evT T cf (d+3) (.cmp .NotIn (.var Z.length) (.var iF)) ((Z++[none]).set Z.length (some v)) hs=some (!decide (b∈L),hs):=Qs (Qc rX) (Qc rF') nn;have vv:ev T cf (d+3) (.var Z.length) ((Z++[none]).set Z.length (some v)) hs=some (v,hs):=Qc rX
   have la':acc.length<1000000:=by lia
   by_cases c:b∈L
   ·obtain⟨us',g1,g2⟩:=YD (T:=T) (cf:=cf) (d:=d) rF hj hF sF vs bs (i+1) k acc out hd' pr (by lia) (by lia) pa
    refine⟨us',?_,by simpa[c]using g2⟩
    rw[QS];simp only[itm,QA,hj,e,Option.map,tgt,tgN,Qdl,X4,Wv,la',We,Z9,tt,Qh,c,decide_true,U4];exact g1
   ·obtain⟨us',g1,g2⟩:=YD (T:=T) (cf:=cf) (d:=d) rF hj hF sF vs bs (i+1) k (acc++[v]) (out++[b]) hd' pr (by lia) (by simp;lia) (Qx dv pa)
    refine⟨us',?_,by simpa[c]using g2⟩
    rw[QS];simp only[itm,QA,hj,e,Option.map,tgt,tgN,Qdl,X4,Wv,la',We,Z9,tt,Qh,c,Tf,Ti,vv];exact g1
noncomputable def Qbx(iW:Nat):E:=(.ix (.var iW) (.neg (.c (.int 1 0))))
noncomputable def Qdu(iW iH:Nat):E:=(.cmp .NotIn (Qbx iW) (.var iH))
noncomputable def Qdv(iW iA iF iX:Nat):List S:=[(.expr (.bm .append (.var iW) [(.ix (.comp (.seq (.ix (.var iA) (Qbx iW))) false (some (.cmp .NotIn (.var iX) (.var iF))) (.var iX)) (.c (.int 0 0)))]))]
def Qki{xs:List α}{v:α}:atU (xs++[v]) (-1)=some v:=by
 have e:ixU (xs++[v]).length (-1)=some xs.length:=by
  unfold ixU
  rw[if_neg (by decide),if_pos (by simp only[Xn,Vn];lia)]
  congr 1
  simp only[Xn,Vn];lia
 unfold atU;rw[e];simp
def Qgl{P:U->Nm->Prop}{a:Nm}{pre:List Nm}(h:Paired P us (pre++[a])):∃xs v,us=xs++[v]/\P v a/\Paired P xs pre:=by
 induction pre generalizing us with
 |nil=>cases h with|cons h t=>cases t;exact⟨[],_,rfl,h,.nil⟩
 |cons b pre ih=>
  cases h with
  |cons h t=>
   obtain⟨xs,v,rfl,d,p⟩:=ih t;exact⟨_::xs,v,rfl,d,.cons h p⟩
theorem YI{T:Tbl}{cf:Cf}{d iW iH iA iF pw pA pH pF:Nat}{B:Hs}{D:Wb}{K:Ky}{N:List Nm}{kvH kvF:List (List U×U)}{Z:Rho}(bn:Bnd D)(rW:Z[iW]?=some (sR pw))(rH:Z[iH]?=some (sR pH))(rA:Z[iA]?=some (sR pA))(rF:Z[iF]?=some (sR pF))(lB:B.length<=pw)
  (hA:B[pA]?=some (.dct (kv K))) (df:DF B K (FD D)) (eK:∀a,a∈dnN D.rows->a∈K.map (·.1)) (hH:B[pH]?=some (.dct kvH)) (sH:SDk kvH (Qo D)) (hF:B[pF]?=some (.dct kvF)) (sF:SDk kvF (fal (FD D) (Qo D) N (dnN D.rows))):
  ∀(n k:Nat) (a:Nm) (pre:List Nm) (us:List U) (hs:Hs),Kp B hs->hs[pw]?=some (.lst us)->Paired (DN hs) us (pre++[a])->a∈dnN D.rows->a∉fal (FD D) (Qo D) N (dnN D.rows)->(D.rows.length:Int)<=a.1+n->n<k->pre.length+n+1<=900000 ->
  ∃h2 us2,Zu (evT T cf (d+12) (Qdu iW iH)) (exs T cf (d+12) (Qdv iW iA iF Z.length)) k Z hs=some (.next,Z,h2)/\Kp B h2/\h2[pw]?=some (.lst us2)/\Paired (DN h2) us2 (pre++Qku (FD D) (Qo D) (fal (FD D) (Qo D) N (dnN D.rows)) n a)
 |n,0,a,pre,us,hs,kp,hw,pu,ma,nf,lr,lk,ll=>by lia
 |0,k+1,a,pre,us,hs,kp,hw,pu,ma,nf,lr,lk,ll=>by
  exfalso;rw[mem_dn,YV]at ma;obtain⟨j,hj,m⟩:=ma;have:=(mem_rowN.mp m).1;lia
 |n+1,k+1,a,pre,us,hs,kp,hw,pu,ma,nf,lr,lk,ll=>by
  obtain⟨xs,v,rfl,dv,px⟩:=Qgl pu
  have sl:QF T (.ref pw) (.int (-1) 0) hs=some v:=by simp only[QF,hw,Qki]
  have vl:∀d,ev T cf (d+3) (Qbx iW) Z hs=some (v,hs):=λd=>by
   unfold Qbx;simp only[y_ix,Qm,rW,Qif,y_c,Qh,sl,Option.map]
  have tt:evT T cf (d+12) (Qdu iW iH) Z hs=some (!decide (a∈Qo D),hs):=by
   unfold Qdu;exact Qs (vl (d+7)) (Qc rH) (QaC (kp _ _ hH) sH dv)
  by_cases c:a∈Qo D
  ·refine⟨hs,xs++[v],?_,kp,hw,?_⟩
   ·rw[Zu,tt];simp[c]
   ·rw[Qku,if_pos c];exact pu
  ·obtain⟨b,r,e1,e2,lt,mb,nb⟩:=QmC bn ma nf c;obtain⟨j,mj⟩:=Qcj (eK a ma);have df':=df.kp kp;obtain⟨ws,hj,pw'⟩:=df'.ls _ mj;have ew:=Qd pw';have lF:=QfG bn a;have sb:=Qf2 (T:=T) (kp _ _ hA) df'.ky mj dv
   obtain⟨us',g1,g2⟩:=YD (T:=T) (cf:=cf) (d:=d+4) rF hj (kp _ _ hF) sF ws (FD D a) 0 (ws.length+1) [] [] rfl pw' (by lia) (by simp only at ew;simp;lia) .nil
   rw[Vf,e1]at g2
   cases g2 with
   |cons dw g2=>
    rename_i w us'
    have sr:Q4 T (ev T cf (d+7)) Z (.seq (.ix (.var iA) (Qbx iW))) hs=some (.seqL (.ref j),hs):=by
     have vx:ev T cf (d+7) (.ix (.var iA) (Qbx iW)) Z hs=some (.ref j,hs):=by
      rw[y_ix,Qc rA,Qh,vl (d+3),Qh,sb];rfl
     simp only[Q4,vx,Qh,QnJ hj,Option.map]
    have vc:=ZU (t:=some (.cmp .NotIn (.var Z.length) (.var iF))) (el:=.var Z.length) sr (by rw[Qf0 hj];exact g1)
    have s0:QF T (.ref hs.length) (.int 0 0) (hs++[O.lst (w::us')])=some w:=by simp only[QF,at0];exact Yw (i:=0) rfl
    have vi:ev T cf (d+9) (.ix (.comp (.seq (.ix (.var iA) (Qbx iW))) false (some (.cmp .NotIn (.var Z.length) (.var iF))) (.var Z.length)) (.c (.int 0 0))) Z hs=some (w,hs++[O.lst (w::us')]):=by
     rw[y_ix,vc,Qh,y_c,Qh,s0];rfl
    have lx:=Qd pu
    have ap:=Qkl (T:=T) (p:=pw) (u:=w) (Qn (r:=[O.lst (w::us')]) hw) (by simp only[Xn,Vn]at lx ⊢;lia)
    have kq:Kp hs (hs++[O.lst (w::us')]):=Kp.app _ _
    have tk:TK hs ((hs++[O.lst (w::us')]).set pw (.lst (xs++[v]++[w]))):=TK.app.trans (TK.set (Qn hw) (by simp))
    have lpw:=(Xc.mp hw).1
    have bb:exs T cf (d+12) (Qdv iW iA iF Z.length) Z hs=some (.next,Z,(hs++[O.lst (w::us')]).set pw (.lst (xs++[v]++[w]))):=by
     unfold Qdv;refine QH ?_;simp only[QbS,Qih,Qc rW,Qh,QiN hw,We,evs,vi,ap]
    obtain⟨h2,us2,q1,q2,q3,q4⟩:=YI (T:=T) (cf:=cf) (d:=d) (N:=N) bn rW rH rA rF lB hA df eK hH sH hF sF n k b (pre++[a]) (xs++[v]++[w]) ((hs++[O.lst (w::us')]).set pw (.lst (xs++[v]++[w]))) ((kp.trans kq).put lB) (X0 (by simp;lia)) (Qx (dw.mono tk) (Qb (λz z=>DN.mono tk) pu)) mb nb (by lia) (by lia) (by simp;lia)
    refine⟨h2,us2,?_,q2,q3,?_⟩
    ·rw[Zu,tt];simp only[c,Tf,Ti,bb];exact q1
    ·rw[Qku,if_neg c,e2];simpa using q4
def y_while{t:E}:ex T cf (d+1) (.while t body) Z hs=Zu (evT T cf d t) (exs T cf d body) 1000000 Z hs:=by rw[ex]
def Qlb(K:Ky):SDk (kv K) (K.map (·.1)):=by
 refine⟨by simp[kv],λa=>?_⟩
 rw[Qby];constructor
 ·intro m;obtain⟨b,mb,e⟩:=Wg.mp m;rw[<-YU e];exact mb
 ·intro m;exact Wg.mpr ⟨a,m,rfl⟩
noncomputable def rs1:S:=(.rse 1 [(.c (.str [110,111,32,108,111,111,112,32,104,97,115,32,116,104,105,115,32,110,97,109,101]))])
noncomputable def QmR:S:=(.cal (.set 3 (.call 5 [(.var 0),(.var 1)])) 5 [(.var 0),(.var 1)])
noncomputable def Qqo:S:=(.ite (.cmp .NotIn (.var 2) (.var 4)) [rs1] [])
noncomputable def Qrj:S:=(.ite (.cmp .In (.var 2) (.var 3)) [(.ret (.c .non))] [])
noncomputable def QqJ:S:=(.while (Qdu 6 5) (Qdv 6 4 3 7))
def QfA:b1=[QmR,(.set 4 (.call 0 [(.var 0)])),(.set 5 (.call 3 [(.var 0)])),Qqo,Qrj,(.set 6 (.lst [(.var 2)])),QqJ,(.ret (.var 6))]:=rfl
def Qj5{b c:U}:Qa (tbG xx s) (m+1) 1 [a,b,c] hs=fin (exs (tbG xx s) (Qa (tbG xx s) m) dd b1 [some a,some b,some c,none,none,none,none] hs):=rfl
def Qpp{w:U}{D:Wb}{N:List Nm}{a:Nm}(dw:DW h0 u D)(bn:Bnd D)(hl:h0[ln]?=some (.lst us))(pu:Paired (DN h0) us N)(lN:N.length<=900000)(hN:∀a∈N,a∈D.lie)(da:DN h0 w a)(ma:a∈dnN D.rows):
  ∃h2,Kp h0 h2/\((a∈fal (FD D) (Qo D) N (dnN D.rows)/\Qa (tbG xx s) (m+4) 1 [u,.ref ln,w] h0=some (.non,h2)) \/
   (a∉fal (FD D) (Qo D) N (dnN D.rows)/\∃p vs,Qa (tbG xx s) (m+4) 1 [u,.ref ln,w] h0=some (.ref p,h2)/\h2[p]?=some (.lst vs)/\Paired (DN h2) vs (Qku (FD D) (Qo D) (fal (FD D) (Qo D) N (dnN D.rows)) D.rows.length a))):=by
 obtain⟨h1,p3,kvF,g1,k1,lp3,hp3,sF⟩:=Qcy (xx:=xx) (s:=s) (m:=m) dw bn hl pu lN hN
 obtain⟨h2,p4,K,g2,f2,e2⟩:=Y6 (xx:=xx) (s:=s) (m:=m+1) (dw.kp k1) bn.lr (by have:=bn.ls;lia) bn.lw bn.mp
 have k2:=k1.trans f2.kp;obtain⟨h3,p5,kvH,g3,k3,lp5,hp5,sH⟩:=Qal (xx:=xx) (s:=s) (m:=m+1) (dw.kp k2) bn.lh;have k03:=k2.trans k3;have da3:=da.kp k03;have hA:=k3 _ _ f2.di;have hF:=(f2.kp.trans k3) _ _ hp3;have nA:=QaC (T:=tbG xx s) hA (Qlb K) da3
 have mK:a∈K.map (·.1):=by rw[e2];exact ma
 have iF:=QeJ (T:=tbG xx s) hF sF da3
 have ha0:0<=a.1:=by
  rw[mem_dn,YV]at ma;obtain⟨j,hj,mm⟩:=ma;have:=(mem_rowN.mp mm).1;lia
 have lrw:=bn.lr;rw[Qj5,QfA];show ∃h2,Kp h0 h2/\((_/\fin (exs (tbG xx s) (Qa (tbG xx s) (m+3)) 100 _ _ _)=_)\/(_/\∃p vs,fin (exs (tbG xx s) (Qa (tbG xx s) (m+3)) 100 _ _ _)=_/\_));generalize Qa (tbG xx s) (m+3)=cf at g1 g2 g3 ⊢;generalize tbG xx s=T at nA iF ⊢
 have ch:∀r,exs T cf 100 (QmR::.set 4 (.call 0 [(.var 0)])::.set 5 (.call 3 [(.var 0)])::Qqo::r) [some u,sR ln,some w,none,none,none,none] h0=exs T cf 96 r [some u,sR ln,some w,sR p3,sR p4,sR p5,none] h3:=λr=>(QE (Qim (ZG (Zw rfl g1)))).trans ((Zg (Zr rfl g2)).trans ((Zg (Zr rfl g3)).trans (Qmf (Qs (Qc rfl) (Qc rfl) nA) (by simp[mK]))))
 by_cases c:a∈fal (FD D) (Qo D) N (dnN D.rows)
 ·refine⟨h3,k03,.inl ⟨c,?_⟩⟩;rw[ch]
  exact Qil (Qs (Qc rfl) (Qc rfl) iF) (by simp[c]) y_c
 ·obtain⟨h4,vs,q1,q2,q3,q4⟩:=YI (T:=T) (cf:=cf) (d:=80) (iW:=6) (iH:=5) (iA:=4) (iF:=3) (pw:=h3.length) (B:=h3) (N:=N) (Z:=[some u,sR ln,some w,sR p3,sR p4,sR p5,sR h3.length]) bn rfl rfl rfl rfl (Xi _) hA (f2.df.kp k3) (λb mb=>by rw[e2];exact mb) hp5 sH hF sF D.rows.length 1000000 a [] [w] (h3++[O.lst [w]]) (Kp.app _ _) at0 (.cons (Zn da3) .nil) ma c (by lia) (by lia) (by simp;lia)
  refine⟨h4,k03.trans q2,.inr ⟨c,h3.length,vs,?_,q3,q4⟩⟩
  exact(congrArg fin ((ch _).trans ((Qmf (Qs (Qc rfl) (Qc rfl) iF) (by simp[c])).trans ((Zg (y_lst.trans rfl)).trans (QE (y_while.trans q1)))))).trans (ZH (Qc rfl))
def Qqz{b c:U}:ZO (tbG xx s) (m+1) 1 [a,b,c] hs=exsX (tbG xx s) (Qa (tbG xx s) m) dd b1 [some a,some b,some c,none,none,none,none] hs:=rfl
def Qhq{w:U}{D:Wb}{N:List Nm}(dw:DW h0 u D)(bn:Bnd D)(hl:h0[ln]?=some (.lst us))(pu:Paired (DN h0) us N)(hN:∃a∈N,a∉D.lie)(hy:(tbG xx s).xf 5 [u,.ref ln] h0=some (1,h2)):
  Qa (tbG xx s) (m+4) 1 [u,.ref ln,w] h0=none/\ZO (tbG xx s) (m+4) 1 [u,.ref ln,w] h0=some (1,h2):=by
 have nf:=(JJ (xx:=xx) (s:=s) (m:=m) dw bn hl pu hN).1
 have x1:ex (tbG xx s) (Qa (tbG xx s) (m+3)) 99 QmR [some u,sR ln,some w,none,none,none,none] h0=none:=by
  unfold QmR;rw[ex,Qdo,y_call];simp only[evs,Qm,Qh,Xh,Xe,nf];rfl
 have np:(match (tbG xx s).fns[5]? with|some F=>decide ([u,U.ref ln].length=F.np)|none=>false)=true:=rfl
 refine⟨?_,?_⟩
 ·rw[Qj5,QfA];show fin (exs (tbG xx s) (Qa (tbG xx s) (m+3)) 100 _ _ _)=_;rw[QaD x1];rfl
 ·rw[Qqz,QfA];show exsX (tbG xx s) (Qa (tbG xx s) (m+3)) 100 _ _ _=_;rw[Qdn x1];unfold QmR;rw[exX];simp only[evs,Qm,Qh,Xh,Xe];exact(if_pos np).trans hy
def Qhp{w:U}{D:Wb}{N:List Nm}{a:Nm}(dw:DW h0 u D)(bn:Bnd D)(hl:h0[ln]?=some (.lst us))(pu:Paired (DN h0) us N)(lN:N.length<=900000)(hN:∀a∈N,a∈D.lie)(da:DN h0 w a)(na:a∉dnN D.rows):
  Qa (tbG xx s) (m+4) 1 [u,.ref ln,w] h0=none/\∃h2,ZO (tbG xx s) (m+4) 1 [u,.ref ln,w] h0=some (1,h2)/\Kp h0 h2:=by
 obtain⟨h1,p3,kvF,g1,k1,lp3,hp3,sF⟩:=Qcy (xx:=xx) (s:=s) (m:=m) dw bn hl pu lN hN
 obtain⟨h2,p4,K,g2,f2,e2⟩:=Y6 (xx:=xx) (s:=s) (m:=m+1) (dw.kp k1) bn.lr (by have:=bn.ls;lia) bn.lw bn.mp
 have k2:=k1.trans f2.kp;obtain⟨h3,p5,kvH,g3,k3,lp5,hp5,sH⟩:=Qal (xx:=xx) (s:=s) (m:=m+1) (dw.kp k2) bn.lh;have k03:=k2.trans k3;have da3:=da.kp k03;have hA:=k3 _ _ f2.di;have nA:=QaC (T:=tbG xx s) hA (Qlb K) da3
 have nK:a∉K.map (·.1):=by rw[e2];exact na
 have t:∀{d c} {e:E} {Z:Rho} {h:Hs},evT (tbG xx s) (Qa (tbG xx s) (m+3)) d e Z h=some (c,h)->c=true->evT (tbG xx s) (Qa (tbG xx s) (m+3)) d e Z h=some (true,h):=λe z=>z▸e;refine⟨?_,h3,?_,k03⟩
 ·rw[Qj5,QfA]
  exact congrArg fin ((QE (Qim (ZG (Zw rfl g1)))).trans ((Zg (Zr rfl g2)).trans ((Zg (Zr rfl g3)).trans (QaD (Qnm (d:=91) (t (Qs (Qc rfl) (Qc rfl) nA) (by simp[nK]))).1))))
 ·rw[Qqz,QfA]
  exact(QbR (Qim (ZG (Zw rfl g1)))).trans ((QbR (ZG (Zr rfl g2))).trans ((QbR (ZG (Zr rfl g3))).trans ((Qdn (Qnm (d:=91) (t (Qs (Qc rfl) (Qc rfl) nA) (by simp[nK]))).1).trans (Qnm (d:=91) (t (Qs (Qc rfl) (Qc rfl) nA) (by simp[nK]))).2)))
def Qm4:b22=[(.set 3 (.c (.bl false))),(.tryS (some 4) 1 [(.var 0),(.var 1),(.var 2)] 0 [(.set 3 (.isi (.var 4) (.cls 1)))]),(.ret (.var 3))]:=rfl
def QrJ{b c:U}:Qa (tbG xx s) (m+1) 22 [a,b,c] hs=fin (exs (tbG xx s) (Qa (tbG xx s) m) dd b22 [some a,some b,some c,none,none] hs):=rfl
def QaY{l w:U}(hf:Qa (tbG xx s) m 1 [u,l,w] h0=none)(hx:(tbG xx s).xf 1 [u,l,w] h0=some (1,h2)):Qa (tbG xx s) (m+1) 22 [u,l,w] h0=some (.bl true,h2++[.err 1]):=by
 have np:(tbG xx s).ers.contains 1=true/\(tbG xx s).esb.contains (1,0)=true/\(match (tbG xx s).fns[1]? with|some F=>decide ([u,l,w].length=F.np)|none=>false)=true:=⟨rfl,rfl,rfl⟩
 have ei:Qdm (tbG xx s) (.cls 1) (.ref h2.length) (h2++[O.err 1])=some true:=by
  have e0:QaI (.ref h2.length) (h2++[O.err 1])=some (.cls 1):=by simp only[QaI,at0]
  unfold Qdm;rw[e0];rfl
 rw[QrJ,Qm4];show fin (exs (tbG xx s) (Qa (tbG xx s) m) 100 _ _ _)=_
 have x1:ex (tbG xx s) (Qa (tbG xx s) m) 99 (.set 3 (.c (.bl false))) [some u,some l,some w,none,none] h0=some (.next,[some u,some l,some w,some (.bl false),none],h0):=ZG (by rw[y_c])
 have xs:exs (tbG xx s) (Qa (tbG xx s) m) 97 [(.set 3 (.isi (.var 4) (.cls 1)))] [some u,some l,some w,some (.bl false),sR h2.length] (h2++[O.err 1])=some (.next,[some u,some l,some w,some (.bl true),sR h2.length],h2++[O.err 1]):=by
  refine QH (ZG ?_);simp only[QfN,Qm,Qh,Xh,Xe,ei,Option.map]
 have x2:ex (tbG xx s) (Qa (tbG xx s) m) 98 (.tryS (some 4) 1 [(.var 0),(.var 1),(.var 2)] 0 [(.set 3 (.isi (.var 4) (.cls 1)))]) [some u,some l,some w,some (.bl false),none] h0=some (.next,[some u,some l,some w,some (.bl true),none],h2++[O.err 1]):=by
  rw[ex];simp only[evs,Qm,Qh,Xh,Xe,hf,hx];refine(if_pos np).trans ?_;simp only[Qp9,Qqt,X9,Wi,xs,QmA]
 rw[QE x1,QE x2];exact ZH (d:=96) (Qc rfl)
def Qm5:b21=[(.ite (.cmp .In (.var 0) (.var 3)) [(.ret (.c .non))] []),(.set 4 (.lst [(.var 0)])),(.while (Qdu 4 2) (Qdv 4 1 3 5)),(.ret (.var 4))]:=rfl
def QrK{b c e:U}:Qa (tbG xx s) (m+1) 21 [a,b,c,e] hs=fin (exs (tbG xx s) (Qa (tbG xx s) m) dd b21 [some a,some b,some c,some e,none] hs):=rfl
def QmM{D:Wb}{a:Nm}(ma:a∈dnN D.rows):0<=a.1:=by
 rw[mem_dn,YV]at ma;obtain⟨j,hj,mm⟩:=ma;have:=(mem_rowN.mp mm).1;lia
def Qpr{pF:Nat}{w:U}{D:Wb}{N:List Nm}{a:Nm}{K:Ky}{kvF:List (List U×U)}(bn:Bnd D)(hA:h0[pA]?=some (.dct (kv K)))(df:DF h0 K (FD D))(eK:∀a,a∈dnN D.rows->a∈K.map (·.1))(hH:h0[pH]?=some (.dct kvH))(sH:SDk kvH (Qo D))(hF:h0[pF]?=some (.dct kvF))(sF:SDk kvF (fal (FD D) (Qo D) N (dnN D.rows)))(da:DN h0 w a)(ma:a∈dnN D.rows):
  ∃h2,Kp h0 h2/\((a∈fal (FD D) (Qo D) N (dnN D.rows)/\Qa (tbG xx s) (m+1) 21 [w,.ref pA,.ref pH,.ref pF] h0=some (.non,h2)) \/
   (a∉fal (FD D) (Qo D) N (dnN D.rows)/\∃p vs,Qa (tbG xx s) (m+1) 21 [w,.ref pA,.ref pH,.ref pF] h0=some (.ref p,h2)/\h2[p]?=some (.lst vs)/\Paired (DN h2) vs (Qku (FD D) (Qo D) (fal (FD D) (Qo D) N (dnN D.rows)) D.rows.length a))):=by
 have iF:=QeJ (T:=tbG xx s) hF sF da;have ha0:=QmM ma;have lrw:=bn.lr;rw[QrK,Qm5];show ∃h2,Kp h0 h2/\((_/\fin (exs (tbG xx s) (Qa (tbG xx s) m) 100 _ _ _)=_)\/(_/\∃p vs,fin (exs (tbG xx s) (Qa (tbG xx s) m) 100 _ _ _)=_/\_));generalize Qa (tbG xx s) m=cf;generalize tbG xx s=T at iF ⊢;by_cases c:a∈fal (FD D) (Qo D) N (dnN D.rows)
 ·refine⟨h0,Kp.refl _,.inl ⟨c,?_⟩⟩
  exact Qil (Qs (Qc rfl) (Qc rfl) iF) (by simp[c]) y_c
 ·obtain⟨h4,vs,q1,q2,q3,q4⟩:=YI (T:=T) (cf:=cf) (d:=84) (iW:=4) (iH:=2) (iA:=1) (iF:=3) (pw:=h0.length) (B:=h0) (N:=N) (Z:=[some w,sR pA,sR pH,sR pF,sR h0.length]) bn rfl rfl rfl rfl (Xi _) hA df eK hH sH hF sF D.rows.length 1000000 a [] [w] (h0++[O.lst [w]]) (Kp.app _ _) at0 (.cons (Zn da) .nil) ma c (by lia) (by lia) (by simp;lia)
  refine⟨h4,q2,.inr ⟨c,h0.length,vs,?_,q3,q4⟩⟩
  exact(congrArg fin ((Qmf (Qs (Qc rfl) (Qc rfl) iF) (by simp[c])).trans ((Zg (y_lst.trans rfl)).trans (QE (y_while.trans q1))))).trans (ZH (Qc rfl))
def QqZ(l:n<=1000000):Qk ((n:Int)*16)=true:=by
 simp only[Qk,Xl,X1];lia
def Qn5(l:n<=1000000):(Qk ((n:Int)*16)&&decide ((0:Int)<=(n:Int)))=true:=by
 rw[QqZ l,So];exact W5 (Int.natCast_nonneg n)
def Qlh{f:Ev}{a:E}{i:Int}(h:f a Z hs=some (.int i 0,h1)):Q4 T f Z (.rngR a) hs=if Qk (i*16)&&decide (0<=i)then some (.rngC (i-1) (-1) i.toNat,h1)else none:=by simp only[Q4,h,Qh]
def Qlf{f:Ev}{a:E}(h:f a Z hs=some (.int (n:Int) 0,h1))(l:n<=1000000):Q4 T f Z (.rngR a) hs=some (.rngC ((n:Int) - 1) (-1) n,h1):=by
 rw[Qlh h,Qn5 l,if_pos rfl,Tv]
noncomputable def Qqu:E:=(.cmp .Eq (.comp (.seq (.ix (.var 2) (.var 6))) false (some (.cmp .NotIn (.var 10) (.var 4))) (.var 10)) (.lst []))
noncomputable def QoT:S:=(.ite (.cmp .NotIn (.var 6) (.var 3)) [(.set 9 Qqu)] [])
noncomputable def QnE:List S:=[(.set 6 (.tup [(.var 7),(.var 8)])),(.set 9 (.cmp .In (.var 6) (.var 5))),QoT,(.ite (.var 9) [(.put (.var 4) (.var 6) (.c (.bl true)))] [])]
noncomputable def Qjw:S:=(.loop (.name 8) (.rng (.bi .len [(.ix (.ix (.var 0) (.c (.int 0 0))) (.var 7))])) QnE)
noncomputable def Qre:S:=(.loop (.name 7) (.rngR (.bi .len [(.ix (.var 0) (.c (.int 0 0)))])) [Qjw])
def Qm6:b20=[(.set 4 .dnewT),(.set 5 .dnewT),(.loop (.name 6) (.seq (.var 1)) [(.put (.var 5) (.var 6) (.c (.bl true)))]),Qre,(.ret (.var 4))]:=rfl
def QrL{b c e:U}:Qa (tbG xx s) (m+1) 20 [a,b,c,e] hs=fin (exs (tbG xx s) (Qa (tbG xx s) m) dd b20 [some a,some b,some c,some e,none,none,none,none,none,none] hs):=rfl
theorem QfB{L:List Nm}:∀(l:List Nm),(l.all λb=>decide (b∈L))=decide (l.filter (λb=>!decide (b∈L))=[])
 |[]=>rfl
 |a::l=>by
  rw[Wy,QfB l,List.filter_cons];by_cases c:a∈L
  ·simp[c]
  ·simp[c]
def QjK{K:Ky}{F:Fu}{H N acc:List Nm}{l w r q:U}{a:Nm}{p5:U}(hNH:∀a∈N,a∈H)(da:DN hs w a)(hA:hs[pA]?=some (.dct (kv K)))(df:DF hs K F)(ma:a∈K.map (·.1))(hH:hs[pH]?=some (.dct kvH))(sH:SDk kvH H)(h4:hs[p4]?=some (.dct kv4))(s4:SDk kv4 acc)(lF:(F a).length<=900000):
  ∃z,ex T cf (d+13) QoT [some u,some l,sR pA,sR pH,sR p4,some p5,some w,some r,some q,some (.bl (decide (a∈N)))] hs=some (.next,[some u,some l,sR pA,sR pH,sR p4,some p5,some w,some r,some q,some (.bl (ZD F H N acc a))],hs++z):=by
 have nH:=QaC (T:=T) hH sH da;unfold QoT;by_cases c:a∈H
 ·refine⟨[],?_⟩
  rw[ZR,Qs (Qc rfl) (Qc rfl) nH,Qh,if_neg (by simp[c]),JI]
  simp[ZD,c]
 ·have cN:a∉N:=λz=>c (hNH a z);obtain⟨j,mj⟩:=Qcj ma;obtain⟨us,hj,pu⟩:=df.ls _ mj;have el:=Qd pu;have sb:=Qf2 (T:=T) hA df.ky mj da
  obtain⟨us',g1,g2⟩:=YD (T:=T) (cf:=cf) (d:=d+5) (iF:=4) (Z:=[some u,some l,sR pA,sR pH,sR p4,some p5,some w,some r,some q,some (.bl (decide (a∈N)))]) rfl hj h4 s4 us (F a) 0 (us.length+1) [] [] rfl pu (by lia) (by simp only at el;simp;lia) .nil
  rw[Vf]at g2;have e2:=Qd g2
  have sr:Q4 T (ev T cf (d+8)) [some u,some l,sR pA,sR pH,sR p4,some p5,some w,some r,some q,some (.bl (decide (a∈N)))] (.seq (.ix (.var 2) (.var 6))) hs=some (.seqL (.ref j),hs):=by
   simp only[Q4,y_ix,Qm,Qh,Xh,Xe,sb,Option.map,QnJ hj]
  have vc:=ZU (t:=some (.cmp .NotIn (.var 10) (.var 4))) (el:=.var 10) sr (by rw[Qf0 hj];exact g1)
  have en:=Zz (T:=T) (e:=(hs++[O.lst us']).length) (Qn (r:=[O.lst []]) (at0 (hs:=hs) (a:=O.lst us'))) at0
  have ef:decide (us'=[])=ZD F H N acc a:=by
   have:us'=[]↔(F a).filter (λb=>!decide (b∈acc))=[]:=by
    rw[<-Ul,<-Ul,e2]
   simp only[ZD,cN,c,Tf,Bool.false_or,Ti,So];rw[QfB];exact decide_eq_decide.mpr this
  refine⟨[O.lst us']++[O.lst []],?_⟩
  rw[<-Uw,ZR,Qs (Qc rfl) (Qc rfl) nH,Qh,if_pos (by simp[c])]
  refine QH (ZG ?_);unfold Qqu;rw[Yq,vc];simp only[Qh,y_lst,evs,ZF,en,Option.map,ef]
def QeN{K:Ky}{F:Fu}{H N acc:List Nm}{l:U}(hNH:∀a∈N,a∈H)(hA:hs[pA]?=some (.dct (kv K)))(df:DF hs K F)(ma:((r:Int),(q:Int))∈K.map (·.1))(hH:hs[pH]?=some (.dct kvH))(sH:SDk kvH H)(h5:hs[p5]?=some (.dct kv5))(s5:SDk kv5 N)(h4:hs[p4]?=some (.dct kv4))(s4:SDk kv4 acc)(lF:(F ((r:Int),(q:Int))).length<=900000)(la:acc.length<900000):
  ∃h2 kv' o6' o9',exs T cf (d+17) QnE [some u,some l,sR pA,sR pH,sR p4,sR p5,o6,sI r,sI q,o9] hs=some (.next,[some u,some l,sR pA,sR pH,sR p4,sR p5,o6',sI r,sI q,o9'],h2)/\KpX p4 hs h2/\h2[p4]?=some (.dct kv')/\SDk kv' (Jp F H N acc ((r:Int),(q:Int))):=by
 have kq:Kp hs (hs++[O.tup [.int r 0,.int q 0]]):=Kp.app _ _;have da:DN (hs++[O.tup [.int r 0,.int q 0]]) (.ref hs.length) ((r:Int),(q:Int)):=⟨_,rfl,at0⟩;have i5:=QeJ (T:=T) (kq _ _ h5) s5 da;obtain⟨z,g⟩:=QjK (T:=T) (cf:=cf) (d:=d+1) (u:=u) (l:=l) (r:=.int r 0) (q:=.int q 0) (p5:=.ref p5) hNH da (kq _ _ hA) (df.kp kq) ma (kq _ _ hH) sH (kq _ _ h4) s4 lF
 have x1:ex T cf (d+16) (.set 6 (.tup [(.var 7),(.var 8)])) [some u,some l,sR pA,sR pH,sR p4,sR p5,o6,sI r,sI q,o9] hs=some (.next,[some u,some l,sR pA,sR pH,sR p4,sR p5,sR hs.length,sI r,sI q,o9],hs++[O.tup [.int r 0,.int q 0]]):=by
  refine ZG ?_;simp only[y_tup,evs,Qm,Qh,Xh,Xe]
 have x2:ex T cf (d+15) (.set 9 (.cmp .In (.var 6) (.var 5))) [some u,some l,sR pA,sR pH,sR p4,sR p5,sR hs.length,sI r,sI q,o9] (hs++[O.tup [.int r 0,.int q 0]])=some (.next,[some u,some l,sR pA,sR pH,sR p4,sR p5,sR hs.length,sI r,sI q,some (.bl (decide (((r:Int),(q:Int))∈N)))],hs++[O.tup [.int r 0,.int q 0]]):=by
  refine ZG ?_;simp only[Yq,Qm,Qh,Xh,Xe,i5,Option.map]
 generalize hB:hs++[O.tup [.int r 0,.int q 0]]++z=B at g
 have kB:Kp hs B:=by rw[<-hB];exact kq.trans (Kp.app _ _)
 have dB:DN B (.ref hs.length) ((r:Int),(q:Int)):=by rw[<-hB];exact Zn da
 have h4':=kB _ _ h4;have lp:=(Xc.mp h4').1
 have lk:kv4.length<1000000:=by have:=s4.len;lia
 unfold QnE;rw[QE (d:=d+16) x1,QE (d:=d+15) x2,QE (d:=d+14) g]
 cases c:ZD F H N acc ((r:Int),(q:Int))with
 |true=>
  have pt:Jd (.ref p4) (.ref hs.length) (.bl true) B=some (B.set p4 (.dct (Zt kv4 (nmK ((r:Int),(q:Int))) (.bl true)))):=by
   simp only[Jd,h4',Jg,lk,We,Qad dB,Wp]
  refine⟨B.set p4 (.dct (Zt kv4 (nmK ((r:Int),(q:Int))) (.bl true))),_,sR hs.length,some (.bl true),?_,KpX.trans (b:=B) (λi o y e=>kB i o e) KpX.set,X0 lp,?_⟩
  ·refine QH (d:=d+12) ?_;rw[ZR,Qhn];simp only[Qm,Qh,Xh,Xe,Yg,Option.map];rw[if_pos trivial];refine QH (d:=d+10) ?_;simp only[y_put,y_c,Qm,Qh,Xh,Xe,pt,Option.map]
  ·rw[Qma c];exact QbZ s4
 |false=>
  refine⟨B,kv4,sR hs.length,some (.bl false),?_,λi o y e=>kB i o e,h4',?_⟩
  ·refine QH (d:=d+12) ?_;rw[ZR,Qhn];simp only[Qm,Qh,Xh,Xe,Yg,Option.map]
   rw[if_neg (by simp),JI]
  ·rw[Qmb c];exact s4
def QgW{F:Fu}{H N l:List Nm}{a:Nm}:fal F H N (l++[a])=Jp F H N (fal F H N l) a:=by
 unfold fal;rw[Ud];rfl
def QmH{F:Fu}{H N:List Nm}(l:List Nm):(fal F H N l).length<=l.length:=by
 have:=QbC (F:=F) (H:=H) (N:=N) l [];simpa[fal]using this
def QgP{a:Nat}{B:Hs}{K:Ky}{F:Fu}{H N pre:List Nm}{kv0:List (List U×U)}{l:U}{o8:Option U}(hNH:∀a∈N,a∈H)(kB:Kp h0 B)(lp:h0.length<=p4)(h4B:B[p4]?=some (.dct kv0))(nA:pA≠p4)(nH:pH≠p4)(n5:p5≠p4)
  (hA:B[pA]?=some (.dct (kv K))) (df:DF B K F) (hH:B[pH]?=some (.dct kvH)) (sH:SDk kvH H) (h5:B[p5]?=some (.dct kv5)) (s5:SDk kv5 N) (lF:∀a,(F a).length<=900000)
  (sa:∀(T:Tbl) hs,Kp h0 hs->QF T u (.int 0 0) hs=sR a) (ha:h0[a]?=some (.lst ra)) (hr:ra[r]?=sR j) (hj:h0[j]?=some (.lst vs)) (mK:∀b∈Ym r vs.length,b∈K.map (·.1)) (kx:KpX p4 B hs) (h4:hs[p4]?=some (.dct kv4)) (s4:SDk kv4 (fal F H N pre)) (ll:pre.length+vs.length<=900000):
  ∃h2 kv' o6' o8' o9',exs T cf (d+24) [Qjw] [some u,some l,sR pA,sR pH,sR p4,sR p5,o6,sI r,o8,o9] hs=some (.next,[some u,some l,sR pA,sR pH,sR p4,sR p5,o6',sI r,o8',o9'],h2)/\KpX p4 B h2/\h2[p4]?=some (.dct kv')/\SDk kv' (fal F H N (pre++Ym r vs.length)):=by
 obtain⟨ρ2,h2,g1,⟨o6',o8',o9',rfl⟩,k2,kv2,hp2,sd2⟩:=Yt (T:=T) (w:=.rng 0 vs.length) (t:=.name 8) (body:=exs T cf (d+22) QnE) (n:=vs.length) (λq Z hs=>(∃o6 o8 o9,Z=[some u,some l,sR pA,sR pH,sR p4,sR p5,o6,sI r,o8,o9])/\KpX p4 B hs/\∃kv,hs[p4]?=some (.dct kv)/\SDk kv (fal F H N (pre++Ym r q)))
  (λq hq Z hs z=>by
   obtain⟨⟨o6,o8,o9,e⟩,kx,kv4,h4,s4⟩:=z
   subst e;have le:=QmH (F:=F) (H:=H) (N:=N) (pre++Ym r q);rw[Xn,Zc]at le
   obtain⟨h',kv',o6',o9',t1,t2,t3,t4⟩:=QeN (T:=T) (cf:=cf) (d:=d+5) (u:=u) (l:=l) (r:=r) (q:=q) (o6:=o6) (o9:=o9) hNH (kx _ _ nA hA) (kx.df h4B df) (mK _ (mem_rowN.mpr ⟨rfl,q,hq,rfl⟩)) (kx _ _ nH hH) sH (kx _ _ n5 h5) s5 h4 s4 (lF _) (by lia)
   refine⟨.one (.int q 0),[some u,some l,sR pA,sR pH,sR p4,sR p5,o6,sI r,sI q,o9],_,h',by simp[itm,hq],rfl,t1,⟨_,_,_,rfl⟩,kx.trans t2,kv',t3,?_⟩
   rw[YO,<-Uw,QgW]
   exact t4)
  (λZ hs y=>by simp[itm]) vs.length 0 (vs.length+1) [some u,some l,sR pA,sR pH,sR p4,sR p5,o6,sI r,o8,o9] hs (by lia) (by lia) ⟨⟨_,_,_,rfl⟩,kx,kv4,h4,by simpa[Ym]using s4⟩
 refine⟨h2,kv2,o6',o8',o9',?_,k2,hp2,sd2⟩;have kp:=kx.kp kB lp
 have s2:QF T (.ref a) (.int (r:Int) 0) hs=sR j:=by simp only[QF,kp _ _ ha];exact Yw hr
 refine QH (d:=d+22) (Qdr (n:=vs.length) ?_ (by lia) g1)
 simp only[y_bi,evs,y_ix,Qm,y_c,Qh,Xh,Xe,sa T hs kp,Option.map,s2,Yu (kp _ _ hj)]
def QmZ{D:Wb}{N:List Nm}{K:Ky}(dw:DW h0 u D)(bn:Bnd D)(hl:h0[ln]?=some (.lst us))(pu:Paired (DN h0) us N)(lN:N.length<=900000)(hN:∀a∈N,a∈D.lie)
  (hA:h0[pA]?=some (.dct (kv K))) (df:DF h0 K (FD D)) (eK:∀a,a∈dnN D.rows->a∈K.map (·.1)) (hH:h0[pH]?=some (.dct kvH)) (sH:SDk kvH (Qo D)):
  ∃h2 p kvs,Qa (tbG xx s) (m+1) 20 [u,.ref ln,.ref pA,.ref pH] h0=some (.ref p,h2)/\Kp h0 h2/\h0.length<=p/\h2[p]?=some (.dct kvs)/\SDk kvs (fal (FD D) (Qo D) N (dnN D.rows)):=by
 obtain⟨a,ra,sa,ha,pa⟩:=Qe3 dw;have el:=Qd pa
 have lnN:∀k,k<=D.rows.length->(Ys (gD D.rows.length) D.rows k).length<=900000:=λk hk=>by
  have h1:=JU (g:=gD D.rows.length) (rows:=D.rows) hk;have h2:=Qh7 bn;unfold dnN at h2;lia
 have lrw:=bn.lr;have lA:=(Xc.mp hA).1;have lH:=(Xc.mp hH).1;rw[QrL,Qm6];show ∃h2 p kvs,fin (exs (tbG xx s) (Qa (tbG xx s) m) 100 _ _ _)=_/\_;generalize Qa (tbG xx s) m=cf;generalize tbG xx s=T;generalize hA1:h0++[O.dct []]=A1
 have kA1:Kp h0 A1:=by rw[<-hA1];exact Kp.app _ _
 have hp4:A1[h0.length]?=some (.dct []):=by rw[<-hA1];exact at0
 have l1:A1.length=h0.length+1:=by rw[<-hA1];simp
 have kA2:Kp A1 (A1++[O.dct []]):=Kp.app _ _;have k02:=kA1.trans kA2
 obtain⟨o6,kv5,g3,sd5⟩:=JY (T:=T) (cf:=cf) (d:=90) (l:=ln) (iD:=5) (iN:=6) (hs:=A1++[O.dct []]) (us:=us) (nms:=N) (L:=[]) (Z:=[some u,sR ln,sR pA,sR pH,sR h0.length,sR A1.length,none,none,none,none]) rfl (by decide) (by simp) at0 (k02 _ _ hl) (Qb (λz z=>DN.kp k02) pu) Qav (by simpa using lN)
 rw[Vf]at sd5;have kB1:Kp A1 ((A1++[O.dct []]).set A1.length (.dct kv5)):=kA2.put (Xi _)
 have h5B:((A1++[O.dct []]).set A1.length (.dct kv5))[A1.length]?=some (.dct kv5):=X0 (by simp)
 generalize (A1++[O.dct []]).set A1.length (.dct kv5)=B at g3 kB1 h5B;have kB:=kA1.trans kB1;have h4B:=kB1 _ _ hp4
 obtain⟨ρ2,h2,g1,⟨o6',o7',o8',o9',rfl⟩,k2,kv2,hp2,sd2⟩:=Yt (T:=T) (w:=.rngC ((ra.length:Int) - 1) (-1) ra.length) (t:=.name 7) (body:=exs T cf 95 [Qjw]) (n:=ra.length) (λi Z hs=>(∃o6 o7 o8 o9,Z=[some u,sR ln,sR pA,sR pH,sR h0.length,sR A1.length,o6,o7,o8,o9])/\KpX h0.length B hs/\∃kv,hs[h0.length]?=some (.dct kv)/\SDk kv (fal (FD D) (Qo D) N (Ys (gD D.rows.length) D.rows i)))
  (λi hi Z hs y=>by
   obtain⟨⟨o6,o7,o8,o9,e⟩,kx,kv4,h4,s4⟩:=y
   subst e
   have hg:gD D.rows.length i<D.rows.length:=by unfold gD;lia
   obtain⟨row,hr⟩:∃row,D.rows[gD D.rows.length i]?=some row:=⟨_,Xf hg⟩
   have er:D.rows.getD (gD D.rows.length i) []=row:=by rw[Wj,hr];rfl
   obtain⟨v,hv,j,vs,rfl,hj,pv⟩:=Zo pa hr;have evl:=Qd pv
   have l1':=lnN (i+1) (by lia)
   rw[Zk,Xn,Zc,er,<-evl]at l1'
   have ei:((ra.length:Int) - 1)+(i:Int)*(-1)=((gD D.rows.length i:Nat):Int):=by unfold gD;lia
   obtain⟨h',kv',o6',o8',o9',t1,t2,t3,t4⟩:=QgP (T:=T) (cf:=cf) (d:=71) (r:=gD D.rows.length i) (pre:=Ys (gD D.rows.length) D.rows i) (u:=u) (l:=.ref ln) (o6:=o6) (o8:=o8) (o9:=o9) (λa m=>QgC (hN a m)) kB (Xi _) h4B (by lia) (by lia) (by lia) (kB _ _ hA) (df.kp kB) (kB _ _ hH) sH h5B sd5 (QfG bn) sa ha hv hj (λb mb=>eK b (by unfold dnN;rw[JV];exact⟨i,by lia,by rw[er,<-evl];exact mb⟩)) kx h4 s4 l1'
   refine⟨.one (.int ((gD D.rows.length i:Nat):Int) 0),[some u,sR ln,sR pA,sR pH,sR h0.length,sR A1.length,o6,some (.int ((gD D.rows.length i:Nat):Int) 0),o8,o9],_,h',by simp only[itm,hi,We,ei],rfl,t1,⟨_,_,_,_,rfl⟩,t2,kv',t3,?_⟩
   rw[Zk,er,<-evl]
   exact t4)
  (λZ hs z=>by simp[itm]) ra.length 0 (ra.length+1) [some u,sR ln,sR pA,sR pH,sR h0.length,sR A1.length,o6,none,none,none] B (by lia) (by lia) ⟨⟨_,_,_,_,rfl⟩,KpX.refl,[],h4B,by simpa[Ys,fal]using Qav⟩
 rw[el]at sd2;refine⟨h2,h0.length,kv2,?_,k2.kp kB (Xi _),Xi _,hp2,sd2⟩
 exact(congrArg fin ((Zg (show ev T cf 98 .dnewT _ h0=some (.ref h0.length,A1) by rw[QcG,hA1])).trans ((Zg QcG).trans ((QE (QY (Yr (Qc rfl) (k02 _ _ hl)) g3)).trans (QE (QY (Qlf (n:=ra.length) (YK (JL rfl (sa T B kB)) (kB _ _ ha)) (by lia)) g1)))))).trans (ZH (Qc rfl))
def Qm9:b17=[(.set 2 (.op .Mod (.call 6 [(.var 0),(.c (.int 1 0))]) (.c (.int 4 0)))),(.set 3 (.ix (.var 1) (.c (.int 1 0)))),Qqp,QgL,(.ret Qqx)]:=rfl
def QrO{b:U}:Qa (tbG xx s) (m+1) 17 [a,b] hs=fin (exs (tbG xx s) (Qa (tbG xx s) m) dd b17 [some a,some b,none,none,none] hs):=rfl
theorem Qag{T:Tbl}{cf:Cf}{d b:Nat}{hs:Hs}{u:U}{y:Int}{ns:List Int}{rb:List U}{L:List Nm}(cell:∀(k:Nat),cf 6 [.scr,.int (k:Int) 0] hs=some (.int (QD ns k) 0,hs))(hb:hs[b]?=some (.lst rb))(pb:Paired (DN hs) rb L)(lb:rb.length<=400000):
  ∀(n i k:Nat) (acc:List U) (out:List Nm),i+n=rb.length->n<k->acc.length<=i->Paired (DN hs) acc out->(∀a∈out,a∈L) ->
  ∃us' out',QS T (ev T cf (d+10)) (Z9 (evT T cf (d+10)) (some Qnq)) (.rng 0 rb.length) false (.ix (.var 3) (.var 5)) [some .scr,some u,sI y,sR b,none] k i acc hs=some (us',hs)/\Paired (DN hs) us' out'/\(∀a∈out',a∈L)/\us'.length<=rb.length
 |n,i,0,acc,out,_,lk,_,_,_=>by lia
 |0,i,k+1,acc,out,e,lk,la,pa,ha=>by
  refine⟨acc,out,?_,pa,ha,by lia⟩
  have:¬i<rb.length:=by lia
  simp[QS,itm,this]
 |n+1,i,k+1,acc,out,e,lk,la,pa,ha=>by
  have hi:i<rb.length:=by lia
  obtain⟨v,hv⟩:∃v,rb[i]?=some v:=⟨_,Xf hi⟩;have el:=Qd pb
  obtain⟨a,hA⟩:∃a,L[i]?=some a:=⟨_,Xf (by lia)⟩
  obtain⟨v',hv',dv⟩:=Zo pb hA;rw[hv]at hv';cases hv'
  have la':acc.length<1000000:=by lia
  have ek:(2+(i:Int) % 60)=((2+i % 60:Nat):Int):=by lia
  have sv:QF T (.ref b) (.int (i:Int) 0) hs=some v:=by simp only[QF,hb];exact Yw hv
  have tt:evT T cf (d+10) Qnq [some .scr,some u,sI y,sR b,none,sI (i:Int)] hs=some (decide (QD ns (2+i % 60) / 3 % 2=y % 2),hs):=by
   unfold Qnq
   simp only[Ji,Yq,Qdp,y_call,evs,Qm,y_c,Qh,Xh,Xe,opU,Qie,gz,md (show(0:Int) < 60 by decide),ek,cell,dvj (show(decide ((0:Int) < 3)&&decide ((3:Int) < 1606938044258990275541962092341162602522202993782792835301376))=true by decide),md (show(0:Int) < 2 by decide),ZF,eq_int,Option.map,Yg]
  have vv:ev T cf (d+10) (.ix (.var 3) (.var 5)) [some .scr,some u,sI y,sR b,none,sI (i:Int)] hs=some (v,hs):=by
   simp only[y_ix,Qm,Qh,Xh,Xe,sv,Option.map]
  by_cases c:QD ns (2+i % 60) / 3 % 2=y % 2
  ·obtain⟨us',out',g1,g2⟩:=Qag (T:=T) (cf:=cf) (d:=d) (u:=u) (y:=y) cell hb pb lb n (i+1) k (acc++[v]) (out++[a]) (by lia) (by lia) (by simp;lia) (Qx dv pa) (λx mx=>by
    rcases Wo.mp mx with mx|mx
    ·exact ha x mx
    ·rw[Wh.mp mx];exact Xv hA)
   refine⟨us',out',?_,g2⟩;rw[QS];simp only[itm,hi,We,Option.map,tgt,tgN,Qdl,X4,Wv,la',Z9,X8,W6,Vk,Nat.reduceAdd,T2,Vf,X9,Wi,Int.zero_add,tt,Qh,c,decide_true,vv];exact g1
  ·obtain⟨us',out',g1,g2⟩:=Qag (T:=T) (cf:=cf) (d:=d) (u:=u) (y:=y) cell hb pb lb n (i+1) k acc out (by lia) (by lia) (by lia) pa ha
   refine⟨us',out',?_,g2⟩;rw[QS];simp only[itm,hi,We,Option.map,tgt,tgN,Qdl,X4,Wv,la',Z9,X8,W6,Vk,Nat.reduceAdd,T2,Vf,X9,Wi,Int.zero_add,tt,Qh,c,Tf];exact g1
def Qj9{D:Wb}(dw:DW h0 u D)(ll:D.lie.length<=400000):
  ∃h2 p us N,Qa (tbG xx (ns.map λn=>U.int n 0)) (m+2) 17 [.scr,u] h0=some (.ref p,h2)/\Kp h0 h2/\h2[p]?=some (.lst us)/\Paired (DN h2) us N/\(∀a∈N,a∈D.lie)/\N.length<=800000:=by
 obtain⟨b,k,o,rb,rk,ro,sb,hb,hk,ho,pb,pk,po⟩:=QmJ dw;have el:=Qd pb;have cell:=λ(k:Nat) (h:Hs)=>Qfu (xx:=xx) (ns:=ns) (m:=m) (k:=k) (hs:=h);rw[QrO,Qm9];show ∃h2 p us N,fin (exs (tbG xx (ns.map λn=>U.int n 0)) (Qa (tbG xx (ns.map λn=>U.int n 0)) (m+1)) 100 _ _ _)=_/\_;generalize Qa (tbG xx (ns.map λn=>U.int n 0)) (m+1)=cf at cell ⊢;generalize tbG xx (ns.map λn=>U.int n 0)=T;have cell1:∀h,cf 6 [.scr,.int 1 0] h=some (.int (QD ns 1) 0,h):=λh=>cell 1 h
 have ch:∀r,exs T cf 100 (.set 2 (.op .Mod (.call 6 [(.var 0),(.c (.int 1 0))]) (.c (.int 4 0)))::.set 3 (.ix (.var 1) (.c (.int 1 0)))::r) [some .scr,some u,none,none,none] h0=exs T cf 98 r [some .scr,some u,sI (QD ns 1 % 4),sR b,none] h0:=λr=>(Zg (Zv (Zw rfl (cell1 _)) (by decide))).trans (Zg (JL rfl (sb T h0 (Kp.refl _)).1))
 rw[ch];have t:=λ(j:Int) d=>Ze (T:=T) (cf:=cf) (d:=d) (hs:=h0) (i:=2) (j:=j) (y:=QD ns 1 % 4) (Z:=[some .scr,some u,sI (QD ns 1 % 4),sR b,none]) rfl
 have lb:QA T (.ref b) h0=some rb:=by simp only[QA,hb]
 by_cases c0:QD ns 1 % 4=0
 ·refine⟨h0++[O.lst rb.reverse],h0.length,rb.reverse,D.lie.reverse,?_,Kp.app _ _,at0,Qb (λz z=>Zn) (Qd6 pb),λa ma=>List.mem_reverse.mp ma,by rw[Sj];lia⟩
  exact Qil (t 0 93) (by simp[c0]) (by simp only[QkD,Qm,Qh,Xh,Xe,lb])
 ·rw[show ∀r,exs T cf 98 (Qqp::r) _ h0=exs T cf 97 r _ h0 from λr=>Qmf (t 0 93) (by simp[c0])]
  by_cases c1:QD ns 1 % 4=1
  ·have em:(0:Int) < (if(rb.length:Int) > 1 then(rb.length:Int)else 1):=by split<;>lia
   generalize hM:(if(rb.length:Int) > 1 then(rb.length:Int)else 1)=M at em
   have mx:biU T .max [.int 1 0,.int (rb.length:Int) 0] h0=some (.int M 0,h0):=by rw[<-hM];rfl
   have xs:ex T cf 94 Qk8 [some .scr,some u,sI (QD ns 1 % 4),sR b,none] h0=some (.next,[some .scr,some u,sI (QD ns 1 % 4),sR b,sI (QD ns 1 / 4 % M)],h0):=by
    refine ZG ?_
    simp only[Qdp,y_call,y_bi,evs,Qm,y_c,Qh,Xh,Xe,cell1,opU,dvj (show(decide ((0:Int) < 4)&&decide ((4:Int) < 1606938044258990275541962092341162602522202993782792835301376))=true by decide),Yu hb,mx,md em,Option.map]
   generalize QD ns 1 / 4 % M=y at xs
   have es:=λd (hs:Hs) (hb':hs[b]?=some (.lst rb))=>(by
    unfold Qns
    simp only[Qnn,evO,Qm,Qdp,y_c,Qh,Xh,Xe,opU,Qie,gz,Qp8 hb',Option.map]:ev T cf (d+5) Qns [some .scr,some u,sI (QD ns 1 % 4),sR b,sI y] hs=some (.ref hs.length,hs++[O.lst (Q1 rb (some y) (some (y+1)))]))
   have pc:=Zy (a:=some y) (b:=some (y+1)) pb
   have lc:(Q1 rb (some y) (some (y+1))).length<=400000:=by
    unfold Q1;rw[W7,Uz];lia
   have ec:=Qd pc;have mc:∀a∈Q1 D.lie (some y) (some (y+1)),a∈D.lie:=λa m=>ZB m;generalize Q1 D.lie (some y) (some (y+1))=N at pc ec mc;generalize Q1 rb (some y) (some (y+1))=X at es pc lc ec;have kq:Kp h0 (h0++[O.lst X]):=Kp.app _ _
   have ad:=Qa5 (hs:=h0++[O.lst X]++[O.lst X]) (Qn at0) at0 (by lia:X.length+X.length<=1000000)
   refine⟨h0++[O.lst X]++[O.lst X]++[O.lst (X++X)],(h0++[O.lst X]++[O.lst X]).length,X++X,N++N,?_,(kq.trans (Kp.app _ _)).trans (Kp.app _ _),at0,?_,λa ma=>?_,by rw[Xn];lia⟩
   ·have xj:ex T cf 96 QgL [some .scr,some u,sI (QD ns 1 % 4),sR b,none] h0=some (.ret (.ref (h0++[O.lst X]++[O.lst X]).length),[some .scr,some u,sI (QD ns 1 % 4),sR b,sI y],h0++[O.lst X]++[O.lst X]++[O.lst (X++X)]):=by
     unfold QgL
     rw[ZR,t 1 92,Qh,if_pos (by simp[c1]),QE xs,QT,QcF,Qdp,es 86 h0 hb,Qh,es 86 _ (Qn hb),Qh]
     simp only[opU,ad,Qh]
    rw[QT,xj];rfl
   ·have p1:=Qb (λz z=>Zn (r:=[O.lst X])) pc;have p2:=Qb (λz z=>Zn (r:=[O.lst X])) p1;exact Qb (λz z=>Zn) (ZI p2 p2)
   ·rcases Wo.mp ma with m|m
    ·exact mc a m
    ·exact mc a m
  ·rw[show ∀r,exs T cf 97 (QgL::r) _ h0=exs T cf 96 r _ h0 from λr=>Qmf (t 1 92) (by simp[c1])]
   obtain⟨us',out,g1,g2,g3,g4⟩:=Qag (T:=T) (cf:=cf) (d:=83) (u:=u) (y:=QD ns 1 % 4) (λk=>cell k h0) hb pb (by lia) rb.length 0 (rb.length+1) [] [] (by lia) (by lia) (by simp) .nil (by simp)
   have e2:=Qd g2
   refine⟨h0++[O.lst us'],h0.length,us',out,?_,Kp.app _ _,at0,Qb (λz z=>Zn) g2,g3,by lia⟩
   refine ZH (d:=94) ?_;unfold Qqx
   refine ZU (Yk (n:=rb.length) ?_ (by lia)) g1
   simp only[y_bi,evs,Qm,Qh,Xh,Xe,Yu hb]
def QkH{rows:List (List Lp)}(h:∀row∈rows,∀lp∈row,lp.ps.length<=8):wtR rows<=8*szR rows:=by
 have one:∀row:List Lp,(∀lp∈row,lp.ps.length<=8)->wtL row<=8*row.length:=by
  intro row
  induction row with
  |nil=>intro _;simp[wtL]
  |cons a r ih=>
   intro h;have h1:=h a Xq;have h2:=ih λb m=>h b (Xm _ m);simp only[wtL,Xu,Vl,X8]at h2 ⊢;lia
 induction rows with
 |nil=>simp[wtR,szR]
 |cons a r ih=>
  have h1:=one a (h a Xq);have h2:=ih λb m=>h b (Xm _ m);simp only[wtR,szR,Xu,Vl]at h2 ⊢;lia
def QkO{rows:List (List Lp)}{a:Nm}(h:Vr rows a):a∈upN rows:=by
 obtain⟨r,i,row,rfl,e,l⟩:=h;rw[YV]
 exact⟨r,(Xc.mp e).1,mem_rowN.mpr ⟨rfl,i,by rw[Wj,e];exact l,rfl⟩⟩
def Qkb{D:Wb}(w:WOk D):Bnd D:=by
 have rv:∀row∈D.rows,∀lp∈row,lp.ps.length<=8/\∀a∈lp.ps,Vr D.rows a:=λrow mr lp ml=>by
  obtain⟨r,e⟩:=Vi mr;have h:=w.rv r row e lp ml
  exact⟨h.1,λa m=>by have:=(h.2 a m).app (S:=D.rows.drop r);rwa [List.take_append_drop]at this⟩
 have lw:=QkH (rows:=D.rows) λrow mr lp ml=>(rv row mr lp ml).1;have h1:=w.rl;have h2:=w.rs;have h3:=w.ll;have h4:=w.ol;have h5:=w.kl
 refine⟨by lia,by lia,by lia,?_,λrow mr lp ml a ma=>QkO ((rv row mr lp ml).2 a ma),λr row e lp ml a ma=>?_⟩
 ·unfold Qo Q8;rw[Vm,Xn,Xn];lia
 ·obtain⟨r',i,row',rfl,e',_⟩:=(w.rv r row e lp ml).2 a ma;have:=(Xc.mp e').1;rw[W7]at this;simp only;lia
theorem QdY{B:Hs}:∀(L:List Nm) (n:Nat),(∀i a,L[i]?=some a->B[n+i]?=some (.tup (nmK a)))->Paired (DN B) (Qaw n L.length) L
 |[],n,_=>.nil
 |a::L,n,h=>by
  refine .cons ⟨n,rfl,?_⟩ (QdY L (n+1) λi b hb=>?_)
  ·exact h 0 a rfl
  ·have:=h (i+1) b (by simpa using hb)
   rw[show n+1+i=n+(i+1) by lia]
   exact this
def QmY{K:Ky}(hp:hs[p]?=some (.dct (kv K))):
  ∃h2 q us,biU T .list [.ref p] hs=some (.ref q,h2)/\Kp hs h2/\h2[q]?=some (.lst us)/\q<h2.length/\Paired (DN h2) us (K.map (·.1)):=by
 refine⟨(hs++(kv K).map λp=>O.tup p.1)++[.lst (Qaw hs.length (kv K).length)],_,_,?_,(Kp.app _ _).trans (Kp.app _ _),at0,by simp,?_⟩
 ·unfold biU;simp only[ZW,Qj0,hp,Option.map]
 ·have e:(kv K).length=(K.map (·.1)).length:=by simp[kv]
  rw[e];refine QdY _ _ λi a ha=>?_
  rw[Uw,X7 (by lia),Nat.add_sub_cancel_left]
  have h1:((kv K).map λp=>O.tup p.1)[i]?=some (.tup (nmK a)):=by
   have e3:((kv K).map λp=>O.tup p.1)=(K.map (·.1)).map λa=>O.tup (nmK a):=by simp[kv]
   rw[e3,Wt,ha];rfl
  exact Qn h1
def Qjz{a b:Hs}(k:Kp a b):b.take a.length=a:=by
 refine Tt λi=>?_;by_cases h:i<a.length
 ·rw[U9 h,Xf h];exact k i _ (Xf h)
 ·have:=k.len
  rw[Wr (by rw[W7];lia),Wr (by lia)]
theorem QmD{hs:Hs}{i:Nat}{body:Ex}(I:Rho->Prop)(st:∀x Z,I Z->∃ρ2 h2,body (Z.set i (sI x)) hs=some (.next,ρ2,h2)/\Kp hs h2/\I (frgN hs.length ρ2)):
  ∀(xs:List Int) (Z:Rho),I Z->∃ρ2,QfL hs i body (xs.map λn=>U.int n 0) Z=some (.next,ρ2)/\I ρ2
 |[],Z,h=>⟨Z,rfl,h⟩
 |x::xs,Z,h=>by
  obtain⟨ρ2,h2,e,k,h'⟩:=st x Z h;obtain⟨ρ3,e3,h3⟩:=QmD I st xs _ h';refine⟨ρ3,?_,h3⟩;rw[Xu,QfL,e];simp only[Qjz k,We];exact e3
noncomputable def QoS:S:=(.ite (.and (.cmp .Is (.var 11) (.c .non)) (.cmp .IsNot (.var 10) (.c .non))) [(.ret (.c (.bl false)))] [])
noncomputable def QoR:S:=(.ite (.and (.cmp .IsNot (.var 11) (.c .non)) (.or (.not (.call 9 [(.var 10)])) (.cmp .NotEq (.var 10) (.var 11)))) [(.ret (.c (.bl false)))] [])
noncomputable def Qri:List S:=[(.set 9 (.ix (.var 6) (.op .Mod (.op .FloorDiv (.var 8) (.c (.int 8 0))) (.bi .len [(.var 6)])))),(.set 10 (.call 1 [(.var 1),(.var 7),(.var 9)])),(.set 11 (.call 21 [(.var 9),(.var 3),(.var 4),(.var 5)])),QoS,QoR]
noncomputable def QpA:List S:=[(.ite (.cmp .NotEq (.var 6) (.lst [])) Qri [])]
section
variable {a b:E}
def Qht(ea:evT T cf d a Z h=some (true,h1))(eb:evT T cf d b Z h1=some (c,h2)):evT T cf (d+1) (.and a b) Z h=some (c,h2):=by rw[YH,ea,Qh,if_pos rfl,eb]
def Qdz(ea:evT T cf d a Z h=some (false,h1)):evT T cf (d+1) (.and a b) Z h=some (false,h1):=by rw[YH,ea,Qh,if_neg Xz]
def QkV(ea:evT T cf d a Z h=some (false,h1))(eb:evT T cf d b Z h1=some (c,h2)):evT T cf (d+1) (.or a b) Z h=some (c,h2):=by rw[QfO,ea,Qh,if_neg Xz,eb]
def Qdy(ea:ev T cf d (.call f es) Z h=some (.bl c,h1)):evT T cf (d+2) (.not (.call f es)) Z h=some (!c,h1):=by rw[Qho,Qdq,ea];rfl
end
def QgE{pF:Nat}{D:Wb}{K:Ky}{u6:List U}{N:List Nm}{kvF:List (List U×U)}{o10 o11:Option U}(dw:DW hs u D)(bn:Bnd D)(h7:hs[p7]?=some (.lst us))(pu:Paired (DN hs) us N)(lN:N.length<=900000)(hN:∀a∈N,a∈D.lie)
  (hA:hs[pA]?=some (.dct (kv K))) (df:DF hs K (FD D)) (eK:K.map (·.1)=upN D.rows) (hH:hs[pH]?=some (.dct kvH)) (sH:SDk kvH (Qo D)) (hF:hs[pF]?=some (.dct kvF)) (sF:SDk kvF (fal (FD D) (Qo D) N (dnN D.rows))) (h6:hs[p6]?=some (.lst u6)) (p6d:Paired (DN hs) u6 (K.map (·.1))):
  Xx (tbG xx s) (Qa (tbG xx s) (m+4)) 91 QpA [some .scr,some u,sR ln,sR pA,sR pH,sR pF,sR p6,sR p7,sI x,o9,o10,o11,none,none,none] hs λf ρ2 h2=>f=.next/\Kp hs h2/\∃o9 o10 o11,ρ2=[some .scr,some u,sR ln,sR pA,sR pH,sR pF,sR p6,sR p7,sI x,o9,o10,o11,none,none,none]:=by
 have kB:Kp hs (hs++[O.lst []]):=Kp.app _ _;have en:=Zz (T:=tbG xx s) (e:=hs.length) (kB _ _ h6) at0;refine Qb3 (c:=!decide (u6=[])) (h1:=hs++[O.lst []]) ?_ ?_
 ·generalize Qa (tbG xx s) (m+4)=cf;generalize tbG xx s=T at en ⊢;simp only[Ji,Yq,Qm,y_lst,evs,Qh,Xh,Xe,ZF,en,Option.map,Yg]
 by_cases c6:u6=[]
 ·rw[if_neg (by simp[c6])]
  exact QK (QK ⟨rfl,kB,_,_,_,rfl⟩)
 ·rw[if_pos (by simp[c6])]
  have l6:0<(u6.length:Int):=by
   have:u6.length≠0:=λz=>c6 (Ul.mp z);lia
  have m0:=W9 (x / 8) (Int.ne_of_gt l6);have m1:=Vb (x / 8) l6;obtain⟨i,ei⟩:=Tn m0
  have li:i<u6.length:=by lia
  have e6:=Qd p6d
  obtain⟨a,ha⟩:∃a,(K.map (·.1))[i]?=some a:=⟨_,Xf (by lia)⟩
  obtain⟨v,hv,dv⟩:=Zo p6d ha
  have ma:a∈dnN D.rows:=by rw[mem_dn,<-eK];exact Xv ha
  have sv:QF (tbG xx s) (.ref p6) (.int (i:Int) 0) (hs++[O.lst []])=some v:=by simp only[QF,kB _ _ h6];exact Yw hv
  obtain⟨h3,k3,w⟩:=Qpp (xx:=xx) (s:=s) (m:=m) (dw.kp kB) bn (kB _ _ h7) (Qb (λy y=>DN.kp kB) pu) lN hN (dv.kp kB) ma;have k03:=kB.trans k3
  obtain⟨h4,k4,w'⟩:=Qpr (xx:=xx) (s:=s) (m:=m+3) (N:=N) bn (k03 _ _ hA) (df.kp k03) (λb mb=>by rw[eK,<-mem_dn];exact mb) (k03 _ _ hH) sH (k03 _ _ hF) sF (dv.kp k03) ma
  refine QR (Zi (u:=v) (h1:=hs++[O.lst []]) ?_ ?_)
  ·generalize Qa (tbG xx s) (m+4)=cf;generalize tbG xx s=T at sv ⊢;have ei':x / 8 % (u6.length:Int)=(i:Int):=ei
   simp only[y_ix,Qdp,y_bi,evs,Qm,y_c,Qh,Xh,Xe,opU,dvj (show(decide ((0:Int) < 8)&&decide ((8:Int) < 1606938044258990275541962092341162602522202993782792835301376))=true by decide),Yu (kB _ _ h6),md l6,ei',sv,Option.map]
  rcases w with⟨cf,g1⟩|⟨cf,p,vs,g1,hp,pv⟩<;>rcases w' with⟨cn,g2⟩|⟨cn,p',vs',g2,hp',pv'⟩
  ·refine QR (Zi (Zw rfl g1) (QR (Zi (Zw rfl g2) ?_)));generalize Qa (tbG xx s) (m+4)=cf;generalize tbG xx s=T;refine Qb3 (c:=false) (h1:=h4) (Qht (Qs (Qc rfl) y_c rfl) (Qs (Qc rfl) y_c rfl)) (QK (Qb3 (c:=false) (h1:=h4) (Qdz (Qs (Qc rfl) y_c rfl)) (QK (QK (QK ⟨rfl,k03.trans k4,_,_,_,rfl⟩)))))
  ·exact absurd cf cn
  ·exact absurd cn cf
  ·have g9:=Qha (xx:=xx) (s:=s) (m:=m+1) (k4 _ _ hp) (Qb (λy y=>DN.kp k4) pv);have k9:Kp h4 (h4++[O.lst [],O.lst []]):=Kp.app _ _;have q:=Qmd (T:=tbG xx s) (k9 _ _ (k4 _ _ hp)) (k9 _ _ hp') (Qb (λy y z=>(DN.kp k4 z).kp k9) pv) (Qb (λy y=>DN.kp k9) pv');refine QR (Zi (Zw rfl g1) (QR (Zi (Zw rfl g2) ?_)));generalize Qa (tbG xx s) (m+4)=cf at g9 ⊢;generalize tbG xx s=T at q ⊢
   refine Qb3 (c:=false) (h1:=h4) (Qdz (Qs (Qc rfl) y_c rfl)) (QK (Qb3 (c:=false) (h1:=h4++[O.lst [],O.lst []]) (Qht (Qs (Qc rfl) y_c rfl) (QkV (Qdy (Zw rfl g9)) (Qs (Qc rfl) (Qc rfl) (by simp only[ZF,q,Option.map,U4])))) (QK (QK (QK ⟨rfl,(k03.trans k4).trans k9,_,_,_,rfl⟩)))))
noncomputable def e12:E:=((.op .Mod (.op .FloorDiv (.call 6 [(.var 0),(.c (.int 1 0))]) (.c (.int 4 0))) (.op .Add (.bi .len [(.ix (.var 1) (.c (.int 0 0)))]) (.c (.int 1 0)))))
noncomputable def e13:E:=((.bi .len [(.ix (.op .Add (.ix (.var 1) (.c (.int 0 0))) (.lst [(.lst [])])) (.var 12))]))
noncomputable def e14:E:=((.ix (.lst [(.tup [(.var 12),(.var 13)]),(.tup [(.var 12),(.neg (.c (.int 1 0)))]),(.tup [(.neg (.c (.int 1 0))),(.c (.int 0 0))])]) (.op .Mod (.call 6 [(.var 0),(.c (.int 2 0))]) (.c (.int 3 0)))))
noncomputable def s12:S:=.set 12 e12
noncomputable def s13:S:=.set 13 e13
noncomputable def s14:S:=.set 14 e14
def Qjy{D:Wb}(cell:∀(k:Nat) (h:Hs),cf 6 [.scr,.int (k:Int) 0] h=some (.int (QD ns k) 0,h))(dw:DW hs u D)(lr:D.rows.length<=100000){a2 a3 a4 a5 a6 a7 a8 a9 a10 a11:Option U}:
  ∃h2 o12 o13 w b,Kp hs h2/\DN h2 w b/\b∉dnN D.rows/\∀rest,exs T cf 91 (s12::s13::s14::rest) [some .scr,some u,a2,a3,a4,a5,a6,a7,a8,a9,a10,a11,none,none,none] hs=exs T cf 88 rest [some .scr,some u,a2,a3,a4,a5,a6,a7,a8,a9,a10,a11,o12,o13,some w] h2:=by
 obtain⟨a,ra,sa,ha,pa⟩:=Qe3 dw;have el:=Qd pa;have cell1:∀h,cf 6 [.scr,.int 1 0] h=some (.int (QD ns 1) 0,h):=λh=>cell 1 h;have cell2:∀h,cf 6 [.scr,.int 2 0] h=some (.int (QD ns 2) 0,h):=λh=>cell 2 h
 have l1:(0:Int) < (ra.length:Int)+1:=by lia
 have m0:=W9 (QD ns 1 / 4) (Int.ne_of_gt l1);have m1:=Vb (QD ns 1 / 4) l1;obtain⟨y,ey⟩:=Tn m0;have ey':QD ns 1 / 4 % ((ra.length:Int)+1)=(y:Int):=ey;let Z:Rho:=[some .scr,some u,a2,a3,a4,a5,a6,a7,a8,a9,a10,a11,none,none,none]
 have x12:ev T cf 89 e12 Z hs=some (.int (y:Int) 0,hs):=by
  simp only[Z,e12,Qdp,y_call,y_bi,evs,y_ix,Qm,y_c,Qh,Xh,Xe,cell1,sa T hs (Kp.refl _),Yu ha,opU,Qie,gz,dvj (show(decide ((0:Int) < 4)&&decide ((4:Int) < 1606938044258990275541962092341162602522202993782792835301376))=true by decide),md l1,ey',Option.map]
 have kB:Kp hs (hs++[O.lst []]++[O.lst [.ref hs.length]]):=(Kp.app _ _).trans (Kp.app _ _)
 have ad:=Qa5 (kB _ _ ha) (at0 (hs:=hs++[O.lst []]) (a:=O.lst [.ref hs.length]) (r:=[])) (by simp only[Vn];lia)
 generalize hB:hs++[O.lst []]++[O.lst [.ref hs.length]]=B at kB ad;have kC:Kp B (B++[O.lst (ra++[.ref hs.length])]):=Kp.app _ _
 obtain⟨v,vs,hv,hj,evl⟩:∃v vs,(ra++[U.ref hs.length])[y]?=sR v/\(B++[O.lst (ra++[.ref hs.length])])[v]?=some (.lst vs)/\vs.length=(D.rows.getD y []).length:=by
  by_cases c:y<ra.length
  ·obtain⟨row,hr⟩:∃row,D.rows[y]?=some row:=⟨_,Xf (by lia)⟩
   obtain⟨v,hv,j,vs,rfl,hj,pv⟩:=Zo pa hr
   refine⟨j,vs,by rw[Xp c];exact hv,(kB.trans kC) _ _ hj,?_⟩
   rw[Wj,hr];exact Qd pv
  ·have ey:y=ra.length:=by lia
   refine⟨hs.length,[],by rw[ey,X7 (Xi _),Td];rfl,?_,?_⟩
   ·refine kC _ _ ?_;rw[<-hB];exact Qn at0
   ·rw[Wj,Wr (by lia)]
    rfl
 have sv:QF T (.ref B.length) (.int (y:Int) 0) (B++[O.lst (ra++[.ref hs.length])])=sR v:=by simp only[QF,at0];exact Yw hv
 have x13:ev T cf 88 e13 (Z.set 12 (sI (y:Int))) hs=some (.int (vs.length:Int) 0,B++[O.lst (ra++[.ref hs.length])]):=by
  simp only[Z,e13,X9,Wi,y_bi,evs,y_ix,Qdp,y_lst,Qm,y_c,Qh,Xh,Xe,sa T hs (Kp.refl _),hB,opU,ad,sv,Yu hj,Option.map]
 generalize hC:B++[O.lst (ra++[.ref hs.length])]=C at x13 kC;have kC:=kB.trans kC;have kD:Kp C (C++[O.tup [.int (y:Int) 0,.int (vs.length:Int) 0]]++[O.tup [.int (y:Int) 0,.int (-1) 0]]++[O.tup [.int (-1) 0,.int 0 0]]):=((Kp.app _ _).trans (Kp.app _ _)).trans (Kp.app _ _);have d1:DN (C++[O.tup [.int (y:Int) 0,.int (vs.length:Int) 0]]++[O.tup [.int (y:Int) 0,.int (-1) 0]]++[O.tup [.int (-1) 0,.int 0 0]]) (.ref C.length) ((y:Int),(vs.length:Int)):=⟨_,rfl,Qn (Qn at0)⟩;have d2:DN (C++[O.tup [.int (y:Int) 0,.int (vs.length:Int) 0]]++[O.tup [.int (y:Int) 0,.int (-1) 0]]++[O.tup [.int (-1) 0,.int 0 0]]) (.ref (C++[O.tup [.int (y:Int) 0,.int (vs.length:Int) 0]]).length) ((y:Int),-1):=⟨_,rfl,Qn at0⟩;have d3:DN (C++[O.tup [.int (y:Int) 0,.int (vs.length:Int) 0]]++[O.tup [.int (y:Int) 0,.int (-1) 0]]++[O.tup [.int (-1) 0,.int 0 0]]) (.ref (C++[O.tup [.int (y:Int) 0,.int (vs.length:Int) 0]]++[O.tup [.int (y:Int) 0,.int (-1) 0]]).length) (-1,0):=⟨_,rfl,at0⟩
 have w0:∃w b,([U.ref C.length,.ref (C++[O.tup [.int (y:Int) 0,.int (vs.length:Int) 0]]).length,.ref (C++[O.tup [.int (y:Int) 0,.int (vs.length:Int) 0]]++[O.tup [.int (y:Int) 0,.int (-1) 0]]).length])[(QD ns 2 % 3).toNat]?=some w/\DN (C++[O.tup [.int (y:Int) 0,.int (vs.length:Int) 0]]++[O.tup [.int (y:Int) 0,.int (-1) 0]]++[O.tup [.int (-1) 0,.int 0 0]]) w b/\b∉dnN D.rows:=by
  have no:∀b:Nm,(b.2<0\/b.1<0\/b=((y:Int),(vs.length:Int)))->b∉dnN D.rows:=by
   intro b h mb;rw[mem_dn,YV]at mb;obtain⟨j,hj,mm⟩:=mb;obtain⟨e1,q,hq,e2⟩:=mem_rowN.mp mm
   rcases h with h|h|h
   ·lia
   ·lia
   ·rw[h]at e1 e2;simp only at e1 e2
    have:j=y:=by lia
    subst this;lia
  have r0:=W9 (QD ns 2) (show(3:Int)≠0 by decide)
  have r1:=Vb (QD ns 2) (show(0:Int) < 3 by decide)
  obtain⟨r,er⟩:=Tn r0;rw[er]at r1 ⊢
  match r,r1 with
  |0,_=>exact⟨_,_,rfl,d1,no _ (.inr (.inr rfl))⟩
  |1,_=>exact⟨_,_,rfl,d2,no _ (.inl (show(-1:Int) < 0 by decide))⟩
  |2,_=>exact⟨_,_,rfl,d3,no _ (.inr (.inl (show(-1:Int) < 0 by decide)))⟩
  |r+3,h=>exact absurd h (by lia)
 obtain⟨w,b,hw,db,nb⟩:=w0;generalize hD:C++[O.tup [.int (y:Int) 0,.int (vs.length:Int) 0]]++[O.tup [.int (y:Int) 0,.int (-1) 0]]++[O.tup [.int (-1) 0,.int 0 0]]=E at kD db;generalize hR:([U.ref C.length,.ref (C++[O.tup [.int (y:Int) 0,.int (vs.length:Int) 0]]).length,.ref (C++[O.tup [.int (y:Int) 0,.int (vs.length:Int) 0]]++[O.tup [.int (y:Int) 0,.int (-1) 0]]).length])=R at hw;have kE:Kp E (E++[O.lst R]):=Kp.app _ _
 have r0:=W9 (QD ns 2) (show(3:Int)≠0 by decide)
 have sw:QF T (.ref E.length) (.int (QD ns 2 % 3) 0) (E++[O.lst R])=some w:=by
  simp only[QF,at0];have:=Yw hw;rw[Int.toNat_of_nonneg r0]at this;exact this
 have x14:ev T cf 87 e14 ((Z.set 12 (sI (y:Int))).set 13 (sI (vs.length:Int))) C=some (w,E++[O.lst R]):=by
  simp only[Z,e14,X9,Wi]
  have vl:ev T cf 86 (.lst [(.tup [(.var 12),(.var 13)]),(.tup [(.var 12),(.neg (.c (.int 1 0)))]),(.tup [(.neg (.c (.int 1 0))),(.c (.int 0 0))])]) [some .scr,some u,a2,a3,a4,a5,a6,a7,a8,a9,a10,a11,sI (y:Int),sI (vs.length:Int),none] C=some (.ref E.length,E++[O.lst R]):=by
   rw[<-hD,<-hR];simp only[y_lst,y_tup,evs,Qm,y_c,Qif,Qh,Xh,Xe]
  rw[y_ix,vl]
  simp only[Qh,Qdp,y_call,evs,Qm,y_c,Xe,cell2,opU,md (show(0:Int) < 3 by decide),sw,Option.map]
 refine⟨E++[O.lst R],sI (y:Int),sI (vs.length:Int),w,b,(kC.trans kD).trans kE,db.kp kE,nb,λrest=>(Zg x12).trans ((Zg x13).trans (Zg x14))⟩
noncomputable def Qmk:S:=(.loopD 8 (.sl (.var 0) (some (.c (.int 2 0))) (some (.c (.int 14 0)))) QpA)
noncomputable def QoQ:S:=(.ite (.or (.cmp .NotEq (.var 7) (.var 2)) (.cmp .NotEq (.var 1) (.call 16 [(.var 0)]))) [(.ret (.c (.bl false)))] [])
noncomputable def QoP:S:=(.ite (.not (.call 22 [(.var 1),(.var 2),(.var 14)])) [(.ret (.c (.bl false)))] [])
noncomputable def Qog:E:=(.or (.cmp .Eq (.var 6) (.lst [])) (.call 22 [(.var 1),(.op .Add (.var 2) (.lst [(.var 14)])),(.ix (.var 6) (.c (.int 0 0)))]))
def Qm3:b23=[(.set 1 (.call 16 [(.var 0)])),(.set 2 (.call 17 [(.var 0),(.var 1)])),(.set 3 (.call 18 [(.var 1)])),(.set 4 (.call 19 [(.var 1)])),(.set 5 (.call 20 [(.var 1),(.var 2),(.var 3),(.var 4)])),(.set 6 (.bi .list [(.var 3)])),(.set 7 (.bi .list [(.var 2)])),Qmk,QoQ,s12,s13,s14,QoP,(.ret Qog)]:=rfl
def QrI:Qa (tbG xx s) (m+1) 23 [a] hs=fin (exs (tbG xx s) (Qa (tbG xx s) m) dd b23 [some a,none,none,none,none,none,none,none,none,none,none,none,none,none,none] hs):=rfl
def Qig{ρ2:Rho}{h1:Hs}{xs:List Int}(he:ev T cf d e Z hs=some (.ref hs.length,hs++[O.lst (xs.map λn=>U.int n 0)]))(hf:QfL hs i (exs T cf d body) (xs.map λn=>U.int n 0) Z=some (.next,ρ2)):ex T cf (d+1) (.loopD i e body) Z hs=some (.next,ρ2,hs):=by
 have e1:(hs++[O.lst (xs.map λn=>U.int n 0)]).take hs.length=hs:=List.take_left
 have e2:(xs.map λn=>U.int n 0).all QcO=true:=by simp[QcO]
 rw[ex,he];simp only[Qh,at0];rw[if_pos ⟨trivial,e1,e2⟩,hf]
def Qpq{x1 x2:Nat->List U->Hs->Option (Nat×Hs)}(es:s=ns.map λn=>U.int n 0)(hX:∀f us hs,xx f us hs=ZO (tbG x1 s) 4 f us hs)(hY:∀f us hs,x1 f us hs=ZO (tbG x2 s) 4 f us hs):∃hs',Qa (tbG xx s) 9 23 [.scr] hs=some (.bl true,hs'):=by
 obtain⟨D,wo,WEB⟩:∃D:Wb,WOk D/\∀hs:Hs,∃hs' u,Qa (tbG xx s) 8 16 [.scr] hs=some (u,hs')/\Kp hs hs'/\DW hs' u D:=by subst es;exact QnK (xx:=xx) (ns:=ns) (m:=4)
 have CEL:∀(k:Nat) (h:Hs),Qa (tbG xx s) 8 6 [.scr,.int (k:Int) 0] h=some (.int (QD ns k) 0,h):=λk h=>by subst es;exact Qfu (xx:=xx) (ns:=ns) (m:=7)
 have NAM:∀{h0:Hs} {u:U},DW h0 u D->∃h2 p us N,Qa (tbG xx s) 8 17 [.scr,u] h0=some (.ref p,h2)/\Kp h0 h2/\h2[p]?=some (.lst us)/\Paired (DN h2) us N/\(∀a∈N,a∈D.lie)/\N.length<=800000:=λdw=>by subst es;exact Qj9 (xx:=xx) (ns:=ns) (m:=6) dw (by have:=wo.ll;lia)
 obtain⟨xs,SL⟩:∃xs:List Int,Q1 s (some 2) (some 14)=xs.map λn=>U.int n 0:=⟨Q1 ns (some 2) (some 14),by rw[es,Qfc]⟩
 have bn:=Qkb wo;have LU:∀a,a∈D.lie->a∈dnN D.rows:=λa h=>mem_dn.mpr (QkO (wo.lv a h));clear es;obtain⟨h1,u,g1,k1,d1⟩:=WEB hs;obtain⟨h2,ln,us,N,g2,k2,hl,pu,hN,lN⟩:=NAM d1
 obtain⟨h3,pA,K,g3,f3,e3⟩:=Qka (xx:=xx) (s:=s) (m:=7) (d1.kp k2) bn.lr (by have:=bn.ls;lia) bn.lw bn.mp
 have dfA:DF h3 K (FD D):=f3.df;have k3:=f3.kp;obtain⟨h4,pH,kvH,g4,k4,lpH,hH,sH⟩:=Qft (xx:=xx) (s:=s) (m:=7) (d1.kp (k2.trans k3)) bn.lh;have k24:=k3.trans k4
 obtain⟨h5,pF,kvF,g5,k5,lpF,hF,sF⟩:=QmZ (xx:=xx) (s:=s) (m:=7) (d1.kp (k2.trans k24)) bn (k24 _ _ hl) (Qb (λz z=>DN.kp k24) pu) (by lia) hN (k4 _ _ f3.di) (dfA.kp k4) (λa ma=>by rw[e3,<-mem_dn];exact ma) hH sH
 obtain⟨h6,p6,u6,g6,k6,h6l,l6,p6d⟩:=QmY (T:=tbG xx s) ((k4.trans k5) _ _ f3.di);have k26:=(k24.trans k5).trans k6
 have g7:biU (tbG xx s) .list [.ref ln] h6=some (.ref h6.length,h6++[O.lst us]):=by
  unfold biU;simp only[ZW,k26 _ _ hl]
 have k7:Kp h6 (h6++[O.lst us]):=Kp.app _ _;have h7l:(h6++[O.lst us])[h6.length]?=some (.lst us):=at0;generalize h6++[O.lst us]=h7 at g7 k7 h7l;have k27:=k26.trans k7;have k17:=k2.trans k27;have d7:=d1.kp k17;have pu7:=Qb (λz z=>DN.kp k27) pu;have p67:=Qb (λz z=>DN.kp k7) p6d;have hA7:=(((k4.trans k5).trans k6).trans k7) _ _ f3.di;have df7:=dfA.kp (((k4.trans k5).trans k6).trans k7);have hH7:=((k5.trans k6).trans k7) _ _ hH;have hF7:=(k6.trans k7) _ _ hF;have h67:=k7 _ _ h6l;have hl7:=k27 _ _ hl
 obtain⟨iu,rfl,ou,hiu⟩:∃i,u=.ref i/\∃o,h7[i]?=some o:=by
  obtain⟨i,a,b,k,o,ra,rb,rk,ro,e,hh,_⟩:=d7;exact⟨i,e,_,hh⟩
 have L:∀{i:Nat} {o:O},h7[i]?=some o->i<h7.length:=λe=>(Xc.mp e).1
 obtain⟨ρ8,g8,o8,o9,o10,o11,rfl⟩:=QmD (hs:=h7) (i:=8) (body:=exs (tbG xx s) (Qa (tbG xx s) 8) 91 QpA) (λZ=>∃o8 o9 o10 o11,Z=[some .scr,sR iu,sR ln,sR pA,sR pH,sR pF,sR p6,sR h6.length,o8,o9,o10,o11,none,none,none])
  (λx Z y=>by
   obtain⟨o8,o9,o10,o11,e⟩:=y
   subst e
   obtain⟨_,_,h2,t1,rfl,t2,o9',o10',o11',rfl⟩:=QgE (xx:=xx) (s:=s) (m:=4) (ln:=ln) (x:=x) (o9:=o9) (o10:=o10) (o11:=o11) d7 bn h7l pu7 (by lia) hN hA7 df7 e3 hH7 sH hF7 sF h67 p67
   refine⟨_,h2,t1,t2,sI x,Qc2 h7.length o9',Qc2 h7.length o10',Qc2 h7.length o11',?_⟩
   simp only[frgN,Xu,V7,Qc2,L hiu,L hl7,L hA7,L hH7,L hF7,L h67,L h7l,We])
  xs [some .scr,sR iu,sR ln,sR pA,sR pH,sR pF,sR p6,sR h6.length,none,none,none,none,none,none,none] ⟨_,_,_,_,rfl⟩
 obtain⟨h9,u9,g9,k9,d9⟩:=WEB h7;have q9:=Qo7 (T:=tbG xx s) (d7.kp k9) d9;have q7:=Qmd (T:=tbG xx s) h7l hl7 pu7 pu7;obtain⟨h14,o12,o13,w,b,k14,db,nb,ST⟩:=Qjy (T:=tbG xx s) (cf:=Qa (tbG xx s) 8) CEL (d7.kp k9) bn.lr (a2:=sR ln) (a3:=sR pA) (a4:=sR pH) (a5:=sR pF) (a6:=sR p6) (a7:=sR h6.length) (a8:=o8) (a9:=o9) (a10:=o10) (a11:=o11);have k714:=k9.trans k14;have d14:=d7.kp k714;have pu14:=Qb (λz z=>DN.kp k714) pu7
 have f1:=(Qhp (xx:=xx) (s:=s) (m:=3) d14 bn (k714 _ _ hl7) pu14 (by lia) hN db nb).1
 obtain⟨h15,y1,k15⟩:=(Qhp (xx:=x1) (s:=s) (m:=0) d14 bn (k714 _ _ hl7) pu14 (by lia) hN db nb).2
 have r1:=QaY (xx:=xx) (s:=s) (m:=7) f1 ((hX 1 _ _).trans y1);have k15e:Kp h14 (h15++[O.err 1]):=k15.trans (Kp.app _ _);generalize h15++[O.err 1]=h16 at r1 k15e;have k716:=k714.trans k15e;have kE:Kp h16 (h16++[O.lst []]):=Kp.app _ _;have en:=Zz (T:=tbG xx s) (e:=h16.length) (kE _ _ (k716 _ _ h67)) at0
 suffices Cc (tbG xx s) 9 23 [.scr] hs λu z=>u=.bl true from by
  obtain⟨u,h1,a,rfl⟩:=this;exact⟨h1,a⟩
 refine Qic QrI ?_;rw[Qm3];refine QR (Zi (Zw rfl g1) (QR (Zi (Zw rfl g2) (QR (Zi (Zw rfl g3) (QR (Zi (Zw rfl g4) (QR (Zi (Zw rfl g5) (QR (Zi (Qkv (Qc rfl) g6) (QR (Zi (Qkv (Qc rfl) g7) (QiU (Qig (h1:=h7) (xs:=xs) ?_ g8) ?_))))))))))))))
 ·have sl1:slU (tbG xx s) .scr (some 2) (some 14) h7=some (.ref h7.length,h7++[O.lst (xs.map λn=>U.int n 0)]):=by
   rw[show slU (tbG xx s) .scr (some 2) (some 14) h7=some (.ref h7.length,h7++[O.lst (Q1 s (some 2) (some 14))])from rfl,SL]
  simp only[Qnn,evO,Qm,X9,Xe,y_c,Qh,sl1]
 refine Qb3 (c:=false) (h1:=h9) (QkV (Qs (Qc rfl) (Qc rfl) (by simp only[ZF,q7,Option.map,U4])) (Qs (Qc rfl) (Zw rfl g9) (by simp only[ZF,q9,Option.map,U4]))) (QK (Qq5 (ST _) (Qb3 (c:=false) (h1:=h16) (Qdy (Zw rfl r1)) (QK ?_))))
 by_cases c6:u6=[]
 ·refine QiV (Zi (u:=.bl true) (h1:=h16++[O.lst []]) ?_ rfl);generalize Qa (tbG xx s) 8=cf;generalize tbG xx s=T at en ⊢;simp only[Qog,QpM,Yq,y_lst,evs,Qm,Qh,Xh,Xe,ZF,en,Option.map,c6,decide_true]
 ·obtain⟨v0,u6',e6⟩:∃v r,u6=v::r:=by
   cases u6 with
   |nil=>exact absurd rfl c6
   |cons v r=>exact⟨v,r,rfl⟩
  have kF:Kp (h16++[O.lst []]) (h16++[O.lst []]++[O.lst [w]]++[O.lst (us++[w])]):=(Kp.app _ _).trans (Kp.app _ _);have el:=Qd pu
  have ad:=Qa5 (hs:=h16++[O.lst []]++[O.lst [w]]) (a:=ln) (b:=(h16++[O.lst []]).length) (Qn (kE _ _ (k716 _ _ hl7))) at0 (by simp only[Vn];lia)
  have hq:(h16++[O.lst []]++[O.lst [w]]++[O.lst (us++[w])])[(h16++[O.lst []]++[O.lst [w]]).length]?=some (.lst (us++[w])):=at0;generalize hG:h16++[O.lst []]++[O.lst [w]]++[O.lst (us++[w])]=G at kF ad hq;have kG:=(k716.trans kE).trans kF;have dG:=d7.kp kG;have pG:Paired (DN G) (us++[w]) (N++[b]):=Qx (((db.kp k15e).kp kE).kp kF) (Qb (λz z=>DN.kp kG) pu7)
  have bad:∃a∈N++[b],a∉D.lie:=⟨b,by simp,λm=>nb (LU b m)⟩
  obtain⟨_,hy1,yy1,_⟩:=JJ (xx:=x1) (s:=s) (m:=1) dG bn hq pG bad;obtain⟨_,hy2,yy2,_⟩:=JJ (xx:=x2) (s:=s) (m:=1) dG bn hq pG bad;have f2:=(Qhq (xx:=xx) (s:=s) (m:=3) (w:=v0) dG bn hq pG bad ((hX 5 _ _).trans yy1)).1;have y2:=(Qhq (xx:=x1) (s:=s) (m:=0) (w:=v0) dG bn hq pG bad ((hY 5 _ _).trans yy2)).2;have r2:=QaY (xx:=xx) (s:=s) (m:=7) f2 ((hX 1 _ _).trans y2)
  have s0:QF (tbG xx s) (.ref p6) (.int 0 0) G=some v0:=by
   simp only[QF,kG _ _ h67,e6];exact Yw (i:=0) rfl
  refine QiV (Zi (u:=.bl true) (h1:=hy2++[O.err 1]) ?_ rfl);generalize Qa (tbG xx s) 8=cf at r2 ⊢;generalize tbG xx s=T at en s0 ⊢
  have vl:ev T cf 83 (.op .Add (.var 2) (.lst [(.var 14)])) [some .scr,sR iu,sR ln,sR pA,sR pH,sR pF,sR p6,sR h6.length,o8,o9,o10,o11,o12,o13,some w] (h16++[O.lst []])=some (.ref (h16++[O.lst []]++[O.lst [w]]).length,G):=by
   simp only[Qdp,y_lst,evs,Qm,Qh,Xh,Xe,opU,ad]
  simp only[Qog,QpM,Yq,y_lst,evs,Qm,Qh,Xh,Xe,ZF,en,Option.map,c6,Tf,y_call,vl,y_ix,y_c,s0,r2]
def comp(ns:List Int)(hl:ns.length<=63):∃s hs',Paired (λ(u:U) (i:Int)=>∃r m,u=.int r m/\∃q:Int,i=r+m*q) s ns/\Qa (tb (s)) 9 23 [.scr] []=some (.bl true,hs'):=by
 obtain⟨hs',e⟩:=Qpq (xx:=ZO (Qk1 (ns.map λn=>U.int n 0)) 4) (s:=ns.map λn=>U.int n 0) (ns:=ns) (x1:=ZO (tbX (ns.map λn=>U.int n 0)) 4) (x2:=λz z z=>none) rfl (λz z z=>rfl) (λz z z=>rfl) (hs:=[]);exact⟨_,hs',QhP ns,e⟩
noncomputable def hfL:List Addr:=[44,49,54,61,66,71,78,85,92,97,104,111,118,123,130,137,142,147,154,161,166,171,178,185]
noncomputable def hcL:List Addr:=[24,37]
noncomputable def hkL:List Addr:=[]
noncomputable def adr(a:Addr):Adr:=⟨λi=>hfL.getD i 0,λi=>hcL.getD i 0,λi=>hkL.getD i 0,a⟩
def QbM(s:List U)(x:Nat->List U->Hs->Option (Nat×Hs)):Jb {tbX s with xf:=x} glo QnC:=Qfv (by repeat (first|exact .nil|refine .cons (by kernel_rfl) ?_))
def Qm0(s:List U):Jb (tb s) glo QnC:=QbM s _
section
variable (w:World)(s:List U)(a:Addr)
def Qrq:AllI (FnA (K w.params) (adr a)) 0 (tbX s).fns:=by(repeat (first|exact .nil|refine .cons ⟨by kernel_rfl,by kernel_rfl,.inl λv=>by kernel_rfl⟩ ?_))
def Qrz:AllI (λz (p:Nat×Df)=>∃fd x q st,FunD (K w.params) x q st ((adr a).f p.1) fd/\QkC (adr a) (K w.params) fd p.2/\∀F,(tbX s).fns[p.1]?=some F->F.ps=p.2.ps/\F.np=p.2.np) 0 (tbX s).dfl:=.nil
def Qqy:QkA (λk c=>coB (K w.params) (adr a) ((adr a).k k) c) 0 (tbX s).cons=true:=by kernel_rfl
def Qrm:AllI (λk z=>QqF (K w.params) w ((adr a).k k)) 0 (tbX s).cons:=by repeat (first|exact .nil|refine .cons (by kernel_rfl) ?_)
def QqK:QnS (K w.params) (tbX s) (adr a) glo QnC=true:=by kernel_rfl
end
def all_at{l:W.OpenLaw}(w:World){mg:Str->Option Value}{fa:Addr}{h:Heap}(X:(K w.params).In h)(G:h.Ns mainGlobals mg)(hfa:mg "law"=some (.ref fa)):
  ∃fd:FuncData,(∀(s:Shared) (v:Value),BindsTo s fd ⟨[v],[]⟩ [("_law_script",v)])/\∀base:Heap,(K w.params).In base->base.Ns mainGlobals mg->FnOk l.prog w (K w.params) mg base CX0 (0+2+2*4+2+2*4+2*9) fa fd ["_law_script"] (Qf3 (K w.params)):= by
 have tp:∀(s:List U) (a:Addr),Top (tbX s) (adr a) (K w.params) mg glo QnC:=λs a=>QkZ X G (Qrq w s a) (Qqy w s a) (QqK w s a) (Qrz w s a) (.cons (Qo6 (by kernel_rfl) (by kernel_rfl) λz=>rfl) .nil)
 have tab:∀(s:List U) (a:Addr),Qao l.prog w (tbX s) (adr a) (K w.params):=λs a=>Qk2 (Qqy w s a) (Qrm w s a)
 cases hfa.symm.trans ((tp [] 0).gfn "law" 23 (by kernel_rfl))
 have hX0:∀(base:Heap) (s:List U) (a:Addr),XOk l.prog w (K w.params) mg base (tbX s) (adr a) 0:=λbase s a=>Qq8 (tp s a) rfl;have hX1:∀(base:Heap) (s:List U) (a:Addr),XOk l.prog w (K w.params) mg base (Qk1 s) (adr a) (0+2+2*4):=λbase s a=>QpN (T:=tbX s) (T':=Qk1 s) (m:=4) rfl rfl rfl rfl rfl rfl rfl (tp s a) (tab s a) (QbM s _) (hX0 base s a);have hX:∀(base:Heap) (s:List U) (a:Addr),XOk l.prog w (K w.params) mg base (tb s) (adr a) (0+2+2*4+2+2*4):=λbase s a=>QpN (T:=Qk1 s) (T':=tb s) (m:=4) rfl rfl rfl rfl rfl rfl rfl (QkX (tp s a)) (tab s a) (QbM s _) (hX1 base s a)
 exact⟨Qc3 (K w.params) ((adr 0).f 23),λs v=>.of_eq (by kernel_rfl),λbase z z=>Qmm (tb:=tb) (adr:=adr) (L:=23) (F:=⟨"law","law",(top 28),["_law_script"],N23,1,15,true,b23⟩) (λz=>rfl) (λz=>rfl) rfl rfl (λz=>rfl) (λz=>rfl) (λs a=>QkX (tp s a)) (λs a=>tab s a) Qm0 (hX base) (QeP (F:=⟨"law","law",(top 28),["_law_script"],N23,1,15,true,b23⟩) (by kernel_rfl) (by kernel_rfl)).1 comp⟩
def walk{l:W.OpenLaw}{q:Program}{loose:List Str}{XP:(Str->Option Value)->Heap->Prop}{YP:World->Heap->Prop}{d:DefRec}{K:Params->W.Frag}(hn:l.most=some 63)(hdf:d.params.defaults=[])
  (hY:∀(w:World) (h:Heap),YP w h->(K w.params).In h)
  (F:∀(w:World) (mg:Str->Option Value) (fa:Addr) (h:Heap),(K w.params).In h->h.Ns mainGlobals mg->mg d.name=some (.ref fa) ->
   ∃fd:FuncData,(∀(s:Shared) (u:Value),BindsTo s fd ⟨[u],[]⟩ [("_law_script",u)])/\∀base:Heap,(K w.params).In base->base.Ns mainGlobals mg->FnOk l.prog w (K w.params) mg base CX0 (0+2+2*4+2+2*4+2*9) fa fd ["_law_script"] (Qf3 (K w.params))):
  W.WalkO q loose XP YP l.row.toRowW d [] (λf vs=>PySem.call f vs):=
 L2.walk_of (n:=63) (k:=(0+2+2*4+2+2*4+2*9)) (x:="_law_script") (CX:=λy=>CX0) (sp:=λw=>Qf3 (K w.params)) hn (by decide) hdf ⟨rfl,by decide,by decide⟩ hY F (λy y a ns hl hO hS=>⟨a,ns,rfl,hS,hO,hl,λy=>rfl⟩) λy y y y y z=>z
end K33
open PySem PySem.W PyProof.Rows
set_option maxRecDepth 100000 in
set_option maxHeartbeats 0 in
theorem PySem.Challenge.cw_stitchroom_k33_ways_up_holds : PySem.Challenge.rw_stitchroom_k33_ways_up.Holds := by
 w_on;refine W.holds_law (by kernel_rfl) λsaid=>?_
 refine holds_open (q:=K33.hq) (loose:=K33.hlo) (Xt:=K33.hXt) (XP:=XL K33.hq []) (Yf:=K33.hYf) (Ya:=K33.hYa) (YP:=Hook.says (kHook K33.K K33.KA K33.hKA)) (N:=2400) K33.hleft (Hook.of (kHook K33.K K33.KA K33.hKA)) (Hook.keeps (kHook K33.K K33.KA K33.hKA)) (λs e=>xl_of s (Bool.and_eq_true_iff.mp e).1) XL.keeps (by rfl) (by rfl) (by rfl) (λs e=>recFacts_of (Bool.and_eq_true_iff.mp e).2) (by rfl) (by first|assumption|decide +kernel) (by decide +kernel) ⟨rfl,rfl,rfl,rfl,rfl,by decide +kernel⟩ ?hw ?hc
 (case hw=>w_witness2)
 refine K33.walk (l:=PySem.Challenge.rw_stitchroom_k33_ways_up) rfl rfl (λw h Yyy=>W.kIn_of Yyy) ?F
 case F=>
  intro w mg fa h KX G hmg;exact K33.all_at w KX G hmg
