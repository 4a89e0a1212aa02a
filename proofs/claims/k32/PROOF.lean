import PyProof.Rows.All
import Wide.All
import OpenK.AllK
import Wide.FinOn
import PyProof.EqAt
import PyProof.EqKinds
import PyProof.TupleCall
import KE.KTryMore
import PyProof.ExcArgsOwn
import PyProof.ExcBaseAll.ValueError
import PyProof.ExcAttrAll.ValueError
import PyProof.InstStoreFacts
import PySem.Challenge.RW_stitchroom_k32_undone
set_option Elab.async false
set_option linter.all false
set_option maxRecDepth 100000
set_option maxHeartbeats 4000000
set_option bootstrap.genMatcherCode false
set_option compiler.extract_closed false
set_option genSizeOf false
def Xa:=@PySem.wpAny_bind
def Xb:=@Option.bind_eq_some_iff
def Xc:=@List.getElem?_eq_some_iff
def Xd:=@Option.map_eq_some_iff
def Xe:=@List.getElem?_eq_getElem
def Xf:=@PySem.Heap.get?_push_of_some
def Xg:=@Nat.le_refl
def Xh:=@List.getElem?_cons_zero
def Xi:=@PySem.wpAny_pure
def Xj:=@Bool.and_eq_true
def Xk:=@PySem.Heap.lt_size
def Xl:=@List.mem_cons_of_mem
def Xm:=@List.getElem?_cons_succ
def Xn:=@List.mem_cons_self
def Xo:=@List.map_cons
def Xp:=@Nat.ne_of_lt
def Xq:=@decide_eq_true_eq
def Xr:=@Nat.lt_of_lt_of_le
def Xs:=@List.length_append
def Xu:=@List.getElem?_set_ne
def Xv:=@List.getElem?_append_left
def Xw:=@List.size_toArray
def Xy:=@PySem.Heap.get?_push_size
def Xz:=@List.getElem?_set_self
def X0:=@List.mem_of_getElem?
def X3:=@Bool.false_ne_true
def X4:=@PySem.wpAny_mono
def X5:=@List.length_map
def X6:=@List.getElem?_eq_none_iff
def X7:=@List.mem_cons
def X8:=@Option.some.inj
def X9:=@Bool.false_eq_true
def Wa:=@List.length_cons
def Wd:=@Nat.le_trans
def We:=@List.set_cons_succ
def Wf:=@decide_eq_false
def Wg:=@List.getElem?_append_right
def Wh:=@List.mem_singleton
def Wi:=@List.set_cons_zero
def Wj:=@List.all_eq_true
def Wl:=@List.mem_map
def Wm:=@if_true
def Wn:=@List.getElem?_map
def Wo:=@List.mem_append
def Wp:=@List.mem_append_right
def Wq:=@PySem.Paired.length
def Wr:=@Ne.symm
def Wt:=@List.getD_eq_getElem?_getD
def Wu:=@Option.ite_none_right_eq_some
def Wv:=@PyProof.Rows.callWith_type1
def Ww:=@if_false
def Wx:=@List.getElem?_eq_none
def Wy:=@Option.map_some
def Wz:=@decide_eq_true
def W4:=@Nat.lt_irrefl
def W5:=@List.length_nil
def W6:=@Nat.zero_le
def W7:=@Option.some.injEq
def W8:=@PySem.wpAny_holding
def W9:=@List.append_nil
def Va:=@List.map_append
def Vb:=@List.all_cons
def Vc:=@List.nil_append
def Vd:=@PySem.wpAny_Call_Name_kw
def Ve:=@List.length_take
def Vf:=@List.getElem?_of_mem
def Vg:=@PySem.Heap.get?_update_other
def Vh:=@List.nodup_cons
def Vi:=@List.find?_cons
def Vj:=@Nat.zero_add
def Vk:=@Bool.and_self
def Vl:=@List.take_add_one
def Vm:=@List.nodup_append
def Vn:=@Bool.eq_iff_iff
def Vo:=@List.foldl_cons
def Vq:=@List.sum_cons
def Vs:=@List.take_length
def Vt:=@List.mem_range
def Vu:=@List.zip_cons_cons
def Vv:=@List.contains_iff_mem
def Vw:=@PySem.Heap.get?_update_self
def Vx:=@List.set_append_right
def Vy:=@PySem.sizeLine_eq
def Vz:=@PySem.wpAny_of_eq
def V0:=@of_decide_eq_true
def V1:=@PySem.wpAny_typeNameOfWhole_keyiter
def V2:=@beq_eq_false_iff_ne
def V3:=@List.lookup_cons
def V4:=@beq_iff_eq
def V5:=@List.find?_cons_of_neg
def V6:=@PySem.W.kia_one
def V7:=@PySem.Calls.spliced_cons
def V8:=@Int.emod_lt_of_pos
def V9:=@Int.emod_nonneg
def Ua:=@PySem.F.excBase_ValueError
def Ub:=@PySem.Calls.spliced_nil
def Uc:=@Bool.not_eq_true'
def Ud:=@PySem.F.slot_dict_keyiterator_next
def Ue:=@List.append_assoc
def Uf:=@List.mem_append_left
def Ug:=@List.drop_eq_getElem_cons
def Uh:=@Option.isSome_iff_exists
def Ui:=@List.map_nil
def Uj:=@Option.getD_some
def Uk:=@PySem.wpAny_typeNameOf_keyiter
def Ul:=@Nat.lt_succ_self
def Um:=@Array.length_toList
def Uo:=@PySem.mem_of_lookup
def Up:=@PySem.tupleKind_room_in1
def Uq:=@Bool.or_eq_true
def Ur:=@List.getElem?_drop
def Us:=@List.range_succ
def Ut:=@Nat.le_succ
def Uu:=@Option.map_eq_none_iff
def Uv:=@PySem.wpAny_truthy_bool
def Uw:=@List.ext_getElem?
def Ux:=@PySem.wpAny_newObj_type
def Uy:=@List.foldl_append
def Uz:=@List.all_nil
def U0:=@List.length_drop
def U1:=@PySem.wpAny_call_entry
def U2:=@Bool.and_eq_true_iff
def U3:=@List.filter_cons
def U4:=@PySem.Calls.Name_function_global
def U5:=@List.any_cons
def U6:=@Bool.not_true
def U7:=@Iff.rfl
def U8:=@PySem.wpAny_passesOwn
def U9:=@PySem.wpAny_specialOf
def Ta:=@PySem.wpAny_ite_split
def Tb:=@List.zip_nil_right
def Tc:=@PySem.F.slot_list_getattribute
def Td:=@PySem.F.args_dict_keyiterator_next_1
def Te:=@PySem.F.entry_dict_keyiterator_next
def Tf:=@List.getElem?_replicate
def Th:=@PySem.wpAny_callSpecial?_slot
def Ti:=@PySem.F.plainAttrs_dict
def Tj:=@List.length_eq_zero_iff
def Tk:=@List.reverse_cons
def Tl:=@Option.isSome_map
def Tn:=@List.length_range
def Tp:=@PySem.wpAny_dictEntries
def Tq:=@Int.toNat_natCast
def Ts:=@PySem.wpAny_pyIter_rangeiter
def Tt:=@List.find?_cons_of_pos
def Tu:=@List.pairwise_lt_range
def Tv:=@PySem.plainId_quiet
def Tw:=@Nat.le_of_not_lt
def Tx:=@List.cons_append
def Tz:=@PySem.F.slot_dict_get
def T0:=@List.lookup_cons_self
def T1:=@PySem.builtinLookup_eq_fast
def T2:=@PySem.F.slot_range_reversed
def T3:=@List.mem_filter
def T4:=@PySem.wpAny_execs_nil
def T5:=@PySem.codeAny_mono
def T6:=@PySem.call_meetsIn
def T7:=@List.cons.injEq
def T8:=@PySem.codeAny_builtin
def T9:=@PySem.wpAny_updateSeq
def Sa:=@Int.natCast_mul
def Sb:=@Nat.sub_self
def Sc:=@List.drop_eq_nil_iff
def Sd:=@List.length_set
def Se:=@List.filterMap_cons
def Sg:=@List.length_reverse
def Si:=@List.drop_drop
def Sj:=@List.mem_filterMap
def Sk:=@Int.mul_assoc
def Znn{α:Type}{P:Prop}{x:α}(h:(none:Option α)=some x):P:=nomatch h
namespace L2
open PySem PySem.Spec PyProof.Rows
section
abbrev Key:=Sum Int Str
noncomputable def Qbx:Key->Value->Bool
 |.inl k,v=>Value.isInt k v
 |.inr x,v=>Value.isStrOf x v
noncomputable def Qq1(w:World):Key->Int
 |.inl k=>hashInt k
 |.inr x=>hashStr w x
def Qx:∀{k:Key} {v:Value},Qbx k v=true->(∃i t,k=Sum.inl i/\v=Value.int i t)\/(∃x t,k=Sum.inr x/\v=Value.str x t)
 |.inl i,v,h=>by
  obtain⟨t,e⟩:=Value.isInt_shape (k:=i) (v:=v) h;exact .inl ⟨i,t,rfl,e⟩
 |.inr x,v,h=>by
  obtain⟨t,e⟩:=Value.isStrOf_shape (x:=x) (v:=v) h;exact .inr ⟨x,t,rfl,e⟩
def QeA(i:Int)(t:Tok):Qbx (.inl i) (.int i t)=true:=by simp[Qbx,Value.isInt]
def Qez(x:Str)(t:Tok):Qbx (.inr x) (.str x t)=true:=by simp[Qbx,Value.isStrOf]
def Qmo(a b:Int):decide ((Sum.inl a:Key)=Sum.inl b)=(a==b):=by
 by_cases e:a=b
 ·subst e;simp
 ·have h:¬(Sum.inl a:Key)=Sum.inl b:=λq=>e (Sum.inl.inj q);rw[Wf h];exact(V2.mpr e).symm
def Qml(a b:Str):decide ((Sum.inr a:Key)=Sum.inr b)=decide (a=b):=by
 by_cases e:a=b
 ·subst e;simp
 ·have h:¬(Sum.inr a:Key)=Sum.inr b:=λq=>e (Sum.inr.inj q);rw[Wf h,Wf e]
def Qmn(a:Int)(b:Str):decide ((Sum.inl a:Key)=Sum.inr b)=false:=Wf (λq=>nomatch q)
def Qmm(a:Str)(b:Int):decide ((Sum.inr a:Key)=Sum.inl b)=false:=Wf (λq=>nomatch q)
noncomputable def Ql(prog:Program)(w:World):PySem.KeyKind prog w Key where
 is:=Qbx
 hash:=Qq1 w
 inj:=λv a b ha hb=>by
  rcases Qx ha with⟨i,t,rfl,rfl⟩|⟨x,t,rfl,rfl⟩
  ·rcases Qx hb with⟨j,u,rfl,e⟩|⟨y,u,rfl,e⟩
   ·injection e with e1 _;rw[e1]
   ·exact nomatch e
  ·rcases Qx hb with⟨j,u,rfl,e⟩|⟨y,u,rfl,e⟩
   ·exact nomatch e
   ·injection e with e1 _;rw[e1]
 byValue:=λk v h=>by
  rcases Qx h with⟨i,t,rfl,rfl⟩|⟨x,t,rfl,rfl⟩<;>rfl
 pyHash:=λhv h=>by
  rcases Qx hv with⟨i,t,rfl,rfl⟩|⟨x,t,rfl,rfl⟩
  ·exact wpAny_pyHash_int h
  ·exact wpAny_pyHash_str h
 eqBool:=λhu hv h=>by
  rcases Qx hu with⟨i,t,rfl,rfl⟩|⟨x,t,rfl,rfl⟩
  ·rcases Qx hv with⟨j,u,rfl,rfl⟩|⟨y,u,rfl,rfl⟩
   ·rw[Qmo]at h;exact wpAny_eqBool_int h
   ·rw[Qmn]at h;exact SeqAt.EqAt.int_str i t y u _ _ _ _ h
  ·rcases Qx hv with⟨j,u,rfl,rfl⟩|⟨y,u,rfl,rfl⟩
   ·rw[Qmm]at h;exact SeqAt.EqAt.str_int x t j u _ _ _ _ h
   ·rw[Qml]at h;exact wpAny_eqBool_str h
 «strs»:=λk x t v h=>by
  rcases Qx h with⟨i,u,rfl,e⟩|⟨y,u,rfl,e⟩
  ·exact nomatch e
  ·injection e with e1 _;subst e1;cases v<;>rfl
def Qbv(prog:Program)(w:World)(i:Int)(t:Tok):(Ql prog w).is (.inl i) (.int i t)=true:=QeA i t
def Qbu(prog:Program)(w:World)(x:Str)(t:Tok):(Ql prog w).is (.inr x) (.str x t)=true:=Qez x t
end
section
variable {a:Addr}{h h':Heap}{us:List Value}{P:Program}{α β:Type}{w:World}
inductive V where
 |non|bl (b:Bool)|int (i:Int)|str (x:Str)|byt (b:Array UInt8)|flt (b:UInt64)|ref (a:Addr)|ty (n:String)
 deriving DecidableEq
def RelV:V->Value->Prop
 |.non,u=>u=Value.none
 |.bl b,u=>u=Value.bool b
 |.int i,u=>∃t,u=Value.int i t
 |.str x,u=>∃t,u=Value.str x t
 |.byt b,u=>∃t,u=Value.bytes b t
 |.flt b,u=>∃t,u=Value.float b t
 |.ref a,u=>u=Value.ref a
 |.ty n,u=>u=Value.type n
abbrev Vals:List V->List Value->Prop:=Paired RelV
theorem Vals.length{xs:List V}(r:Vals xs us):xs.length=us.length:=Wq r
def Qb7{P:α->β->Prop}{l l':List α}{r r':List β}(h:Paired P l r)(h':Paired P l' r'):Paired P (l++l') (r++r'):=by
 induction h with
 |nil=>exact h'
 |cons a _ ih=>exact .cons a ih
def Qbo{P:α->β->Prop}{l:List α}{r:List β}(h:Paired P l r)(n:Nat):Paired P (l.take n) (r.take n):=by
 induction h generalizing n with
 |nil=>rw[List.take_nil,List.take_nil];exact .nil
 |cons a _ ih=>
  cases n with
  |zero=>exact .nil
  |succ n=>exact .cons a (ih n)
def Qbp{P:α->β->Prop}{l:List α}{r:List β}(h:Paired P l r)(n:Nat):Paired P (l.drop n) (r.drop n):=by
 induction h generalizing n with
 |nil=>rw[List.drop_nil,List.drop_nil];exact .nil
 |cons a t ih=>
  cases n with
  |zero=>exact .cons a t
  |succ n=>exact ih n
def Jh{P:α->β->Prop}{l:List α}{r:List β}{i:Nat}{a:α}(h:Paired P l r)(e:l[i]?=some a):∃b,r[i]?=some b/\P a b:=by
 induction h generalizing i with
 |nil=>cases e
 |cons x _ ih=>
  cases i with
  |zero=>cases(show some _=some _ from e);exact⟨_,rfl,x⟩
  |succ i=>exact ih e
def QhF{P:α->β->Prop}{l:List α}{r:List β}(h:Paired P l r):Paired P l.reverse r.reverse:=by
 induction h with
 |nil=>exact .nil
 |cons a _ ih=>rw[Tk,Tk];exact Qb7 ih (.cons a .nil)
def Vals.get{xs:List V}{i:Nat}{x:V}(h:Vals xs us)(e:xs[i]?=some x):∃u,us[i]?=some u/\RelV x u:=Jh h e
def Vals.append{xs ys:List V}{ws:List Value}(h:Vals xs us)(h':Vals ys ws):Vals (xs++ys) (us++ws):=Qb7 h h'
theorem Vals.take{xs:List V}(n:Nat)(h:Vals xs us):Vals (xs.take n) (us.take n):=Qbo h n
theorem Vals.drop{xs:List V}(n:Nat)(h:Vals xs us):Vals (xs.drop n) (us.drop n):=Qbp h n
def RelO:Option V->Option Value->Prop
 |some v,some u=>RelV v u
 |none,none=>True
 |_,_=>False
def KV{κ:Type}:List (κ×V)->List (κ×Value)->Prop:=Paired λ(p:κ×V) (q:κ×Value)=>p.1=q.1/\RelV p.2 q.2
noncomputable def kV:Key->V
 |.inl i=>.int i
 |.inr x=>.str x
inductive HO where
 /-- a list -/
 |lst (xs:List V)
 /-- a tuple (never changes) -/
 |tup (xs:List V)
 /-- a dict whose keys are ints and texts;one whose keys are tuples of ints and texts (the empty one is both) -/
 |dK (kvs:List (Key×V))|dT (kvs:List (List Key×V))
 /-- a set of ints: its members,its size -/
 |set (S:Int->Bool) (n:Nat)
 /-- an instance of the class at C,its dict at dx,its attributes -/
 |ins (C dx:Addr) (fs:List (Str×V))
 /-- the dict of the instance at x -/
 |own (x:Addr)
 /-- the dict of an exception -/
 |xd (fs:List (Str×V))
 /-- a bound method,f of x -/
 |met (f x:Addr)
 /-- a range object lo,lo+1,.. below hi -/
 |rng (lo hi:Int)
 /-- a thing that is known to the object (the script;a dict while a loop walks it): read,never written while it is so -/
 |frz (o:Obj) (u:HO)
 /-- a code object's table -/
 |tbl (ps:Array Value)
 /-- any other thing,by what is true of its one object (a def of one's own: SetO a S n:=HO.ext λh=>..) -/
 |ext (φ:Heap->Prop)
abbrev Hp:=Addr->Option HO
noncomputable def upd(H:Hp)(a:Addr)(o:HO):Hp:=λb=>if b=a then some o else H b
def Qh{H:Hp}{o:HO}:upd H a o a=some o:=by unfold upd;rw[if_pos rfl]
def Qf{H:Hp}{b:Addr}{o:HO}(h:b≠a):upd H a o b=H b:=by unfold upd;rw[if_neg h]
def Qov{H:Hp}{b:Addr}{o u:HO}(h:H a=some o)(h':H b=some u)(d:o≠u):a≠b:=by
 intro e;subst e;rw[h]at h';exact d (X8 h')
def QY{H:Hp}{b:Addr}{o:HO}(h:H a=some o)(h':H b=none):a≠b:=by
 intro e;subst e;rw[h]at h';cases h'
section
variable (P:Program)(w:World)
def ObjOk(H:Hp)(h:Heap)(a:Addr):HO->Prop
 |.lst xs=>xs.length<=sizeLine/\∃(its:List Value) (n:Nat),Vals xs its/\h.get? a=some {cls:=.type "list",data:=.seq its.toArray n}
 |.tup xs=>xs.length<=sizeLine/\∃its:List Value,Vals xs its/\IsTup h a its.toArray
 |.dK kvs=>kvs.length<=sizeLine/\(a==sysModules)=false/\∃vs,KV kvs vs/\h.DictOf (Ql P w) a vs
 |.dT kvs=>kvs.length<=sizeLine/\(a==sysModules)=false/\∃xs:List (List Key×Addr×Value),
   Paired (λ(p:List Key×V) (q:List Key×Addr×Value)=>p.1=q.1/\H q.2.1=some (.tup (p.1.map kV))/\RelV p.2 q.2.2) kvs xs /\
   ∃o es ep,h.get? a=some o/\o.ExactDict/\o.data=.dict es ep/\es.toList=xs.map (entryOfKey (tupleKind (Ql P w)))/\(xs.map (·.1)).Nodup
 |.set S n=>h.SetOf (intKind P w) a S n
 |.ins C dx fs=>H dx=some (.own a)/\fs.length<=1000/\dx≠a/\h.get? a=some (W.instObj C dx) /\
   ∃mA,h.Ns1 dx mA/\(∀f,RelO (fs.lookup f) (mA f))/\PySem.Within mA (fs.map (·.1))
 |.own _=>∃o,h.get? a=some o
 |.xd fs=>∃mA,h.Ns1 a mA/\∀f,RelO (fs.lookup f) (mA f)
 |.rng lo hi=>∃t u v,h.get? a=some {cls:=.type "range",data:=.fields #[.int lo t,.int hi u,.int 1 v]}
 |.frz o u=>h.get? a=some o/\ObjOk H h a u
 |.tbl ps=>h.get? a=some {cls:=.none,data:=.fields ps}
 |.met f x=>h.get? a=some (W.methodObj (.ref f) (.ref x))
 |.ext φ=>φ h/\(∃o,h.get? a=some o)/\∀h1 h2:Heap,φ h1->(∀o,h1.get? a=some o->h2.get? a=some o)->φ h2
def HOk(H:Hp)(h:Heap):Prop:=∀a o,H a=some o->ObjOk P w H h a o
end
section
variable {H H':Hp}{o:HO}
theorem ObjOk.lt(x:ObjOk P w H h a o):a<h.objs.size:=by
 cases o with
 |lst xs=>obtain⟨_,_,_,_,e⟩:=x;exact Xk e
 |tup xs=>obtain⟨_,_,_,p⟩:=x;exact p.lt
 |dK kvs=>obtain⟨_,_,_,_,o,_,_,e,_⟩:=x;exact Xk e
 |dT kvs=>obtain⟨_,_,_,_,o,_,_,e,_⟩:=x;exact Xk e
 |set S n=>obtain⟨o,_,_,_,e,_⟩:=x;exact Xk e
 |ins C dx fs=>obtain⟨_,_,_,e,_⟩:=x;exact Xk e
 |own y=>obtain⟨_,e⟩:=x;exact Xk e
 |xd fs=>obtain⟨_,⟨_,_,_,e,_⟩,_⟩:=x;exact Xk e
 |rng lo hi=>obtain⟨_,_,_,e⟩:=x;exact Xk e
 |frz ob u=>obtain⟨e,_⟩:=x;exact Xk e
 |tbl ps=>exact Xk (show h.get? a=some _ from x)
 |met f y=>exact Xk (show h.get? a=some _ from x)
 |ext φ=>obtain⟨_,⟨_,e⟩,_⟩:=x;exact Xk e
def Paired.mapP{F G:α->β->Prop}{l₁:List α}{l₂:List β}(h:Paired F l₁ l₂)(f:∀a b,F a b->G a b):Paired G l₁ l₂:=PySem.Paired.mono f h
def ObjOk.stay(x:ObjOk P w H h a o)(k:∀b u,(b=a\/H b=some (.own a))->h.get? b=some u->h'.get? b=some u)
  (ho:∀b,H b=some (.own a)->H' b=some (.own a)) (ht:∀b xs,H b=some (.tup xs)->H' b=some (.tup xs)):ObjOk P w H' h' a o:=by
 induction o with
 |lst xs=>obtain⟨z,its,n,r,e⟩:=x;exact⟨z,its,n,r,k _ _ (.inl rfl) e⟩
 |tup xs=>obtain⟨z,its,r,ob,e,c⟩:=x;exact⟨z,its,r,ob,k _ _ (.inl rfl) e,c⟩
 |dK kvs=>obtain⟨z,y,vs,r,ob,es,ep,e,c⟩:=x;exact⟨z,y,vs,r,ob,es,ep,k _ _ (.inl rfl) e,c⟩
 |dT kvs=>
  obtain⟨z,y,xs,r,ob,es,ep,e,c⟩:=x;exact⟨z,y,xs,Paired.mapP r λp q z=>⟨z.1,ht _ _ z.2.1,z.2.2⟩,ob,es,ep,k _ _ (.inl rfl) e,c⟩
 |set S n=>obtain⟨ob,es,ep,t,e,c⟩:=x;exact⟨ob,es,ep,t,k _ _ (.inl rfl) e,c⟩
 |ins C dx fs=>
  obtain⟨d,z,ne,e,mA,⟨od,es,ep,e2,c⟩,r⟩:=x;exact⟨ho _ d,z,ne,k _ _ (.inl rfl) e,mA,⟨od,es,ep,k _ _ (.inr d) e2,c⟩,r⟩
 |own y=>obtain⟨ob,e⟩:=x;exact⟨ob,k _ _ (.inl rfl) e⟩
 |xd fs=>obtain⟨mA,⟨od,es,ep,e,c⟩,r⟩:=x;exact⟨mA,⟨od,es,ep,k _ _ (.inl rfl) e,c⟩,r⟩
 |rng lo hi=>obtain⟨t,u,v,e⟩:=x;exact⟨t,u,v,k _ _ (.inl rfl) e⟩
 |frz ob u ih=>obtain⟨e,q⟩:=x;exact⟨k _ _ (.inl rfl) e,ih q⟩
 |tbl ps=>
  have e:h.get? a=some {cls:=.none,data:=.fields ps}:=x;show h'.get? a=some {cls:=.none,data:=.fields ps};exact k a _ (.inl rfl) e
 |met f y=>
  have e:h.get? a=some (W.methodObj (.ref f) (.ref y)):=x;show h'.get? a=some (W.methodObj (.ref f) (.ref y));exact k a _ (.inl rfl) e
 |ext φ=>obtain⟨p,⟨o,e⟩,st⟩:=x;exact⟨st _ _ p λo q=>k _ _ (.inl rfl) q,⟨o,k _ _ (.inl rfl) e⟩,st⟩
theorem HOk.lt(x:HOk P w H h)(e:H a=some o):a<h.objs.size:=(x a o e).lt
def HOk.fresh(x:HOk P w H h)(e:h.objs.size<=a):H a=none:=by
 cases q:H a with
 |none=>rfl
 |some u=>exact absurd (Xr (x.lt q) e) (W4 _)
def HOk.kept(x:HOk P w H h)(k:∀b u,h.get? b=some u->h'.get? b=some u):HOk P w H h':=λa o e=>
 (x a o e).stay (λb u z q=>k b u q) (λz q=>q) λz z q=>q
def HOk.laid(x:HOk P w H h)(k:∀b u,h.get? b=some u->h'.get? b=some u)(hp:h.objs.size<=a)(new:ObjOk P w (upd H a o) h' a o):HOk P w (upd H a o) h':=λb u e=>by
 have hn:=x.fresh hp;by_cases hb:b=a
 ·subst hb;rw[Qh]at e;cases e;exact new
 ·rw[Qf hb]at e
  exact(x b u e).stay (λc v z q=>k c v q) (λc q=>by rw[Qf (QY q hn)];exact q) λc xs q=>by rw[Qf (QY q hn)];exact q
end
def Rd(H:Hp)(a:Addr)(u:HO):Prop:=H a=some u\/∃o,H a=some (.frz o u)
def Rd.ok{H:Hp}{u:HO}(r:Rd H a u)(x:HOk P w H h):ObjOk P w H h a u:=by
 rcases r with r|⟨o,r⟩
 ·exact x a u r
 ·obtain⟨_,q⟩:=x a _ r;exact q
def Mut:Option HO->Prop
 |some (.lst _)=>True
 |some (.dK _)=>True
 |some (.dT _)=>True
 |some (.set _ _)=>True
 |some (.ins _ _ _)=>True
 |some (.ext _)=>True
 |_=>False
section
variable {H:Hp}{x e:Addr}{o':HO}
def HOk.write(ok:HOk P w H h)(mu:Mut (H x))(he:e=x\/H e=some (.own x))(k:∀b u,b≠e->h.get? b=some u->h'.get? b=some u)(heo:∃u,h'.get? e=some u)
  (new:ObjOk P w (upd H x o') h' x o'):HOk P w (upd H x o') h':=λb u q=>by
 have nown:∀c y,H c=some (.own y)->c≠x:=λc y r z=>by subst z;rw[r]at mu;exact mu
 have ntup:∀c xs,H c=some (.tup xs)->c≠x:=λc xs r z=>by subst z;rw[r]at mu;exact mu
 by_cases hb:b=x
 ·subst hb;rw[Qh]at q;cases q;exact new
 ·rw[Qf hb]at q;by_cases hbe:b=e
  ·have q':H b=some (.own x):=by
    rcases he with z|z
    ·exact absurd (hbe.trans z) hb
    ·rw[hbe];exact z
   rw[q]at q';cases q';obtain⟨v,hv⟩:=heo
   exact⟨v,by rw[hbe];exact hv⟩
  ·refine(ok b u q).stay (λc v hc r=>k c v ?_ r) (λc r=>by rw[Qf (nown c b r)];exact r) λc xs r=>by rw[Qf (ntup c xs r)];exact r
   rcases hc with rfl|hc
   ·exact hbe
   ·rintro rfl
    rcases he with z|z
    ·exact nown c b hc z
    ·rw[hc]at z;cases z;exact hb rfl
end
structure Un(fs ex:List Addr)(H H':Hp)(h h':Heap):Prop where
 keep:∀b o,h.get? b=some o->H b=none->b∉fs->b∉ex->h'.get? b=some o
 slot:∀b o,h.get? b=some o->H b=none->b∈fs->b∉ex->∃sl,h'.get? b=some {o with slots:=sl}
 free:∀b o,h.get? b=some o->H b=none->b∉ex->H' b=none
 there:∀b o,h.get? b=some o->b∉ex->∃o',h'.get? b=some o'
 tups:∀b xs,H b=some (.tup xs)->H' b=some (.tup xs)
 frzs:∀b o u,H b=some (.frz o u)->H' b=some (.frz o u)
 tbls:∀b ps,H b=some (.tbl ps)->∃more,H' b=some (.tbl (ps++more))
section
variable {fs ex:List Addr}{H H1:Hp}{h1:Heap}{x e:Addr}{o:HO}
def Un.any(u:Un fs ex H H1 h h1){b:Addr}{ob:Obj}(q:h.get? b=some ob)(n:H b=none)(hx:b∉ex):∃sl,h1.get? b=some {ob with slots:=sl}:=by
 by_cases hb:b∈fs
 ·exact u.slot b ob q n hb hx
 ·exact⟨ob.slots,u.keep b ob q n hb hx⟩
def Un.kept(k:∀b u,h.get? b=some u->h'.get? b=some u):Un fs ex H H h h' :=
 ⟨λb ob q z z z=>k b ob q,λb ob q z z z=>⟨ob.slots,k b ob q⟩,λz z z n z=>n,λb ob q z=>⟨ob,k b ob q⟩,λz z q=>q,λz z z q=>q,λz ps q=>⟨#[],by rw[q];simp⟩⟩
def Un.refl:Un fs ex H H h h:=Un.kept λz z q=>q
def Un.laid(k:∀b u,h.get? b=some u->h'.get? b=some u)(hp:h.objs.size<=a)(hn:H a=none):Un fs ex H (upd H a o) h h' where
 keep:=λb u q z z z=>k b u q
 slot:=λb u q z z z=>⟨u.slots,k b u q⟩
 free:=λb u q n z=>by rw[Qf (Xp (Xr (Xk q) hp))];exact n
 there:=λb u q z=>⟨u,k b u q⟩
 tups:=λb xs q=>by rw[Qf (QY q hn)];exact q
 frzs:=λb u xs q=>by rw[Qf (QY q hn)];exact q
 tbls:=λb ps q=>⟨#[],by rw[Qf (QY q hn),q];simp⟩
def Un.write(mu:Mut (H x))(he:e=x\/H e=some (.own x))(k:∀b u,b≠e->h.get? b=some u->h'.get? b=some u)(heo:∃u,h'.get? e=some u):Un fs ex H (upd H x o) h h':=by
 have hx:∀b,H b=none->b≠x:=λb n z=>by subst z;rw[n]at mu;exact mu
 have hb:∀b,H b=none->b≠e:=λb n z=>by
  subst z
  rcases he with r|r
  ·exact hx b n r
  ·rw[n]at r;cases r
 have hm:∀b u,H b=some u->¬Mut (some u)->b≠x:=λb u q nm z=>by subst z;rw[q]at mu;exact nm mu
 refine⟨λb u q n y y=>k b u (hb b n) q,λb u q n y y=>⟨u.slots,k b u (hb b n) q⟩,λb u q n y=>by rw[Qf (hx b n)];exact n,λb u q y=>?_,
  λb xs q=>by rw[Qf (hm b _ q λz=>z)];exact q,λb u xs q=>by rw[Qf (hm b _ q λz=>z)];exact q,λb ps q=>⟨#[],by rw[Qf (hm b _ q λz=>z),q];simp⟩⟩
 by_cases hbe:b=e
 ·subst hbe;exact heo
 ·exact⟨u,k b u hbe q⟩
end
noncomputable def trk(h:Heap)(H:Hp):List Addr:=(List.range h.objs.size).filter λa=>(H a).isSome
noncomputable def QgH(h:Heap)(H:Hp):Heap:=W.hideAll h (trk h H)
def QeG(h:Heap)(H:Hp):(QgH h H).objs.size=h.objs.size:=W.hideAll_size _ _
def QgG{H:Hp}{b:Addr}{o:Obj}(e:h.get? b=some o)(n:H b=none):(QgH h H).get? b=some o :=
 W.hideAll_get _ e λhm=>by
  have q:(H b).isSome=true:=(T3.mp hm).2;rw[n]at q;simp at q
def Qjj{H:Hp}{b:Addr}{o:Obj}(e:(QgH h H).get? b=some o):h.get? b=some o/\H b=none:=by
 have e':h.get? b=some o:=W.of_hideAll (trk h H) e;refine⟨e',?_⟩
 cases q:H b with
 |none=>rfl
 |some x=>
  have hm:b∈trk h H:=T3.mpr ⟨Vt.mpr (Xk e'),by simp[q]⟩
  have z:(QgH h H).get? b=none:=W.hideAll_none (trk h H) hm;rw[z]at e;cases e
end
section
variable {A:Around}{ch:List Addr}{M:Model}{i t':Nat}{x:Str}
structure Mod(K:W.Frag)(mg:Str->Option Value)(base:Heap):Prop where
 kin:K.In base
 glob:base.Ns mainGlobals mg
 blt:∃mb,base.Ns builtinsNs mb/\∀x:Str,x≠"__name__"->mb x=bootBuiltins x
 nolimit:base.NoLimit
structure Cx where
 prog:Program
 w:World
 K:W.Frag
 mg:Str->Option Value
 base:Heap
 A:Around
 N:List Str
 s₀:Shared
 H₀:Hp
 env:Env
 outer:List Env
 stack:List Env
 ex:List Addr
 fn:Str->Bool
 calm:Bool
 pn:List (Addr×Obj)
 xe:Value->Shared->Prop
noncomputable def frs(l:List Env):List Addr:=l.filterMap (·.frame)
noncomputable abbrev Cx.fs(X:Cx):List Addr:=frs X.outer
def Vis(sc:Scope)(x:Str):Prop:=sc.names.lookup x=some .local\/sc.names.lookup x=some .cell\/sc.names.lookup x=some .free
def Loc(sc:Scope)(x:Str):Prop:=sc.names.lookup x=some .local\/sc.names.lookup x=some .cell
noncomputable def QrW(env:Env)(h:Heap)(m:Str->Option Value)(x:Str)(u:Value):Prop :=
 (env.kindOf x=some .local/\m x=some u)\/((env.kindOf x=some .cell\/env.kindOf x=some .free)/\∃c,env.cells.lookup x=some c/\h.IsCell c (some u))
structure Cx.Ok(X:Cx):Prop where
 mod:Mod X.K X.mg X.base
 kind:X.env.scope.kind=.function
 glob:X.env.globals=mainGlobals
 blt:X.env.builtins=builtinsNs
 above:X.s₀.heap.objs.size<=X.env.locals
 inj:∀x y c,X.env.cells.lookup x=some c->X.env.cells.lookup y=some c->x=y
 has:∀x,(X.env.kindOf x=some .cell\/X.env.kindOf x=some .free)->∃c,X.env.cells.lookup x=some c
 cab:∀x c,X.fn x=true->X.env.cells.lookup x=some c->X.s₀.heap.objs.size<=c
 hd:X.calm=true->X.A.handled=none
 frames:X.A.frames=some X.stack
 stk:X.stack=X.outer\/(X.stack=X.env::X.outer/\X.env.frame=some X.env.locals)
 exf:∀b∈X.ex,b≠X.env.locals/\∀x c,X.env.cells.lookup x=some c->c≠b
 bs:∀b o,X.base.get? b=some o->X.s₀.heap.get? b=some o/\X.H₀ b=none
 bsz:X.base.objs.size<=X.s₀.heap.objs.size
 noex:∀b o,X.base.get? b=some o->b∉X.ex
 exfs:∀b∈X.ex,b∉X.fs
 funs:X.s₀.heap.FunFrames X.base X.outer
 frf:∀b∈X.fs,X.H₀ b=none
structure Inv(X:Cx)(pins:List (Addr×Obj))(Y:List (Option V))(H:Hp)(s:Shared):Prop where
 ok:X.Ok
 os:s.os=X.s₀.os
 bare:AllBare s.gens
 base:Un X.fs X.ex X.H₀ H X.s₀.heap s.heap
 loc:∃m,s.heap.Ns X.env.locals m/\∀(i:Nat) (x:Str) (v:V),X.N[i]?=some x->Y[i]?=some (some v)->Vis X.env.scope x->∃u,RelV v u/\QrW X.env s.heap m x u
 cell:∀x c,X.env.cells.lookup x=some c->∃v,s.heap.IsCell c v
 free:H X.env.locals=none
 freeC:∀x c,X.env.cells.lookup x=some c->H c=none
 pin:∀p∈X.pn++pins,s.heap.get? p.1=some p.2/\H p.1=none/\p.1≠X.env.locals/\p.1∉X.fs/\∀v,p.2.data≠.cell v
 hok:HOk X.prog X.w H s.heap
 len:Y.length=X.N.length
section
variable {X:Cx}{pins:List (Addr×Obj)}{Y:List (Option V)}{H H':Hp}{s:Shared}{h':Heap}
def Cx.Ok.nofr(ok:X.Ok){b:Addr}{o:Obj}(e:X.base.get? b=some o):b∉X.fs:=λhb=>by
 have:=(ok.funs.mem hb).1;rw[e]at this;cases this
theorem Inv.bs(I:Inv X pins Y H s):∀b o,X.base.get? b=some o->s.heap.get? b=some o/\H b=none:=λb o e=>
 ⟨I.base.keep b o (I.ok.bs b o e).1 (I.ok.bs b o e).2 (I.ok.nofr e) (I.ok.noex b o e),I.base.free b o (I.ok.bs b o e).1 (I.ok.bs b o e).2 (I.ok.noex b o e)⟩
def Inv.bk(I:Inv X pins Y H s):∀b o,X.base.get? b=some o->s.heap.get? b=some o:=λb o e=>(I.bs b o e).1
theorem Inv.mod(I:Inv X pins Y H s):Mod X.K X.mg X.base:=I.ok.mod
def Inv.kIn(I:Inv X pins Y H s):X.K.In s.heap:=I.ok.mod.kin.keeps I.bk
theorem Inv.lt(I:Inv X pins Y H s):X.env.locals<s.heap.objs.size:=by obtain⟨_,hn,_⟩:=I.loc;exact hn.lt
def Inv.sz(I:Inv X pins Y H s):X.s₀.heap.objs.size<=s.heap.objs.size:=Wd I.ok.above (Nat.le_of_lt I.lt)
def Inv.nofs(I:Inv X pins Y H s){a:Addr}(h:s.heap.objs.size<=a):a∉X.fs:=λhb=>by
 obtain⟨_,o,ho,_⟩:=I.ok.funs.mem hb;exact absurd (Xr (Xk ho) (Wd I.sz h)) (W4 _)
def Inv.cne(I:Inv X pins Y H s):∀x c,X.env.cells.lookup x=some c->c≠X.env.locals:=λx c e z=>by
 obtain⟨v,o,ho,hd⟩:=I.cell x c e;obtain⟨m,⟨o',es,ep,ho',hd',_⟩,_⟩:=I.loc;rw[z,ho']at ho;cases ho;rw[hd']at hd;cases hd
theorem Inv.funs(I:Inv X pins Y H s):s.heap.FunFrames X.base X.outer:=by
 have all:∀(l:List Env),(∀b∈frs l,b∈X.fs)->X.s₀.heap.FunFrames X.base l->s.heap.FunFrames X.base l:=by
  intro l
  induction l with
  |nil=>intro _ _;trivial
  |cons env r ih=>
   intro hs hl;obtain⟨hk,⟨L,o,hf,hn,ho,hd⟩,hr⟩:=hl
   have hL:L∈X.fs:=hs L (by unfold frs;rw[Se,hf];exact Xn)
   obtain⟨sl,e⟩:=I.base.slot L o ho (I.ok.frf L hL) hL λz=>I.ok.exfs L z hL
   exact⟨hk,⟨L,_,hf,hn,e,hd⟩,ih (λb hb=>hs b (by unfold frs;rw[Se,hf];exact Xl _ hb)) hr⟩
 exact all X.outer (λy hb=>hb) I.ok.funs
theorem Inv.stack(I:Inv X pins Y H s):s.heap.FunFrames X.base X.stack:=by
 rcases I.ok.stk with e|⟨e,hf⟩
 ·rw[e];exact I.funs
 ·rw[e];obtain⟨m,hn,_⟩:=I.loc
  refine .cons (by rw[I.ok.kind];decide) hf hn ?_ I.funs
  exact Heap.get?_none_of_le (Wd I.ok.bsz I.ok.above)
def Inv.stkSub(I:Inv X pins Y H s):∀b∈frs X.stack,b∈X.env.locals::X.fs:=λb hb=>by
 rcases I.ok.stk with e|⟨e,hf⟩
 ·rw[e]at hb;exact Xl _ hb
 ·rw[e]at hb;unfold frs at hb;rw[Se,hf]at hb;exact hb
def Inv.stkFree(I:Inv X pins Y H s):∀b∈frs X.stack,H b=none:=λb hb=>by
 rcases X7.mp (I.stkSub b hb)with e|hb
 ·rw[e];exact I.free
 ·obtain⟨_,o,ho,_⟩:=I.ok.funs.mem hb;exact I.base.free b o ho (I.ok.frf b hb) λz=>I.ok.exfs b z hb
def Inv.step{g':Array GenState}{d':Drawn}(I:Inv X pins Y H s)
  (hch:∀b∈ch,(b∈X.ex\/X.s₀.heap.objs.size<=b)/\b≠X.env.locals/\(∀x c,X.env.cells.lookup x=some c->c≠b)/\∀p∈X.pn++pins,p.1≠b)
  (keep:∀b o,b≠X.env.locals->b∉X.fs->b∉ch->s.heap.get? b=some o->H b=none->h'.get? b=some o)
  (slot:∀b o,b≠X.env.locals->b∈X.fs->b∉ch->s.heap.get? b=some o->H b=none->∃sl,h'.get? b=some {o with slots:=sl}) (free:∀b o,b∉ch->s.heap.get? b=some o->H b=none->H' b=none)
  (there:∀b o,b∉ch->s.heap.get? b=some o->∃o',h'.get? b=some o')
  (tups:∀b xs,H b=some (.tup xs)->H' b=some (.tup xs)) (frzs:∀b o u,H b=some (.frz o u)->H' b=some (.frz o u)) (tbls:∀b ps,H b=some (.tbl ps)->∃more,H' b=some (.tbl (ps++more)))
  (ns:∀m,s.heap.Ns X.env.locals m->h'.Ns X.env.locals m) (hok:HOk X.prog X.w H' h') (hg:AllBare g'):
  Inv X pins Y H' {s with heap:=h',gens:=g',drawn:=d',toks:=t'}:=by
 have neL:∀b o,X.s₀.heap.get? b=some o->b≠X.env.locals:=λb o e=>Xp (Xr (Xk e) I.ok.above)
 have neC:∀b o,X.s₀.heap.get? b=some o->b∉X.ex->b∉ch:=λb o e hx hb=>by
  rcases (hch b hb).1 with z|z
  ·exact hx z
  ·exact absurd (Xr (Xk e) z) (W4 _)
 have cellK:∀x c,X.env.cells.lookup x=some c->∀v,s.heap.IsCell c v->h'.IsCell c v:=λx c e v y=>by
  obtain⟨o,ho,hd⟩:=y
  have nch:c∉ch:=λz=>(hch c z).2.2.1 x c e rfl;by_cases hc:c∈X.fs
  ·obtain⟨sl,q⟩:=slot c o (I.cne x c e) hc nch ho (I.freeC x c e);exact⟨_,q,hd⟩
  ·exact⟨o,keep c o (I.cne x c e) hc nch ho (I.freeC x c e),hd⟩
 refine⟨I.ok,I.os,hg,⟨λb o e n hb hx=>?_,λb o e n hb hx=>?_,λb o e n hx=>?_,λb o e hx=>?_,λb xs e=>tups b xs (I.base.tups b xs e),λb o xs e=>frzs b o xs (I.base.frzs b o xs e),λb ps e=>?_⟩,?_,λx c e=>?_,?_,λx c e=>?_,λp hp=>?_,hok,I.len⟩
 ·exact keep b o (neL b o e) hb (neC b o e hx) (I.base.keep b o e n hb hx) (I.base.free b o e n hx)
 ·obtain⟨sl,e1⟩:=I.base.slot b o e n hb hx;obtain⟨sl',e2⟩:=slot b _ (neL b o e) hb (neC b o e hx) e1 (I.base.free b o e n hx);exact⟨sl',e2⟩
 ·obtain⟨o',e1⟩:=I.base.there b o e hx;exact free b o' (neC b o e hx) e1 (I.base.free b o e n hx)
 ·obtain⟨o',e1⟩:=I.base.there b o e hx;exact there b o' (neC b o e hx) e1
 ·obtain⟨m1,e1⟩:=I.base.tbls b ps e;obtain⟨m2,e2⟩:=tbls b _ e1
  exact⟨m1++m2,by rw[e2,Array.append_assoc]⟩
 ·obtain⟨m,hn,hl⟩:=I.loc;refine⟨m,ns m hn,λi x v e1 e2 e3=>?_⟩;obtain⟨u,r,l⟩:=hl i x v e1 e2 e3;refine⟨u,r,?_⟩
  rcases l with l|⟨k,c,e,z⟩
  ·exact .inl l
  ·exact .inr ⟨k,c,e,cellK x c e _ z⟩
 ·obtain⟨v,z⟩:=I.cell x c e;exact⟨v,cellK x c e v z⟩
 ·obtain⟨m,⟨o,_,_,ho,_⟩,_⟩:=I.loc;exact free _ o (λz=>(hch _ z).2.1 rfl) ho I.free
 ·obtain⟨v,o,ho,hd⟩:=I.cell x c e;exact free c o (λz=>(hch c z).2.2.1 x c e rfl) ho (I.freeC x c e)
 ·obtain⟨e,n,ne,nf,d⟩:=I.pin p hp;have nch:p.1∉ch:=λz=>(hch p.1 z).2.2.2 p hp rfl;exact⟨keep p.1 p.2 ne nf nch e n,free p.1 p.2 nch e n,ne,nf,d⟩
def Inv.un(I:Inv X pins Y H s)(u:Un X.fs [] H H' s.heap h')(hok:HOk X.prog X.w H' h'):Inv X pins Y H' {s with heap:=h',toks:=t'}:=by
 obtain⟨m,⟨o,es,ep,ho,r⟩,_⟩:=id I.loc
 obtain⟨sl,hL⟩:=u.any ho I.free (by simp)
 exact I.step (g':=s.gens) (d':=s.drawn) (ch:=[]) (λy z=>nomatch z) (λb o y hb y e n=>u.keep b o e n hb (by simp)) (λb o y hb y e n=>u.slot b o e n hb (by simp)) (λb o y e n=>u.free b o e n (by simp)) (λb o y e=>u.there b o e (by simp)) u.tups u.frzs u.tbls (λm' hm=>by
  obtain⟨o',es',ep',ho',r'⟩:=hm;rw[ho]at ho';cases ho'
  exact⟨_,es',ep',hL,r'⟩) hok I.bare
def Inv.call{g':Array GenState}{d':Drawn}(I:Inv X pins Y H s)(u:Un (frs X.stack) ch H H' s.heap h')(hok:HOk X.prog X.w H' h')(hg:AllBare g')
  (hch:∀b∈ch,(b∈X.ex\/X.s₀.heap.objs.size<=b)/\b≠X.env.locals/\(∀x c,X.env.cells.lookup x=some c->c≠b)/\∀p∈X.pn++pins,p.1≠b):
  Inv X pins Y H' {s with heap:=h',gens:=g',drawn:=d',toks:=t'}:=by
 obtain⟨m,⟨o,es,ep,ho,r⟩,_⟩:=id I.loc;obtain⟨sl,hL⟩:=u.any ho I.free λz=>(hch _ z).2.1 rfl
 exact I.step (ch:=ch) hch (λb o hL hb hc e n=>u.keep b o e n (λz=>(X7.mp (I.stkSub b z)).elim hL hb) hc) (λb o y y hc e n=>u.any e n hc) (λb o hc e n=>u.free b o e n hc) (λb o hc e=>u.there b o e hc) u.tups u.frzs u.tbls (λm' hm=>by
  obtain⟨o',es',ep',ho',r'⟩:=hm;rw[ho]at ho';cases ho'
  exact⟨_,es',ep',hL,r'⟩) hok hg
def Inv.turned{it:Addr}(I:Inv X pins Y H s)(k:∀b o,b≠it->s.heap.get? b=some o->h'.get? b=some o)(hn:H it=none)(hL:it≠X.env.locals)
  (h1:it∈X.ex\/X.s₀.heap.objs.size<=it) (h2:∀x c,X.env.cells.lookup x=some c->c≠it) (h3:∀p∈X.pn++pins,p.1≠it):Inv X pins Y H {s with heap:=h',toks:=t'}:=by
 have nit:∀b u,H b=some u->b≠it:=λb u e z=>by rw[z,hn]at e;cases e
 refine I.step (g':=s.gens) (d':=s.drawn) (ch:=[it]) (λb hb=>?_) (λb o y y hc e y=>k b o (λz=>hc (by simp[z])) e) (λb o y y hc e y=>⟨o.slots,k b o (λz=>hc (by simp[z])) e⟩) (λy y y y n=>n)
  (λb o hc e=>⟨o,k b o (λz=>hc (by simp[z])) e⟩) (λy y e=>e) (λy y y e=>e) (λb ps e=>⟨#[],by rw[e];simp⟩) (λm hm=>?_) (λb u e=>?_) I.bare
 ·have e:b=it:=by simpa using hb
  subst e;exact⟨h1,hL,h2,h3⟩
 ·obtain⟨o,es,ep,ho,r⟩:=hm;exact⟨o,es,ep,k _ o (Wr hL) ho,r⟩
 ·refine(I.hok b u e).stay (λc v hc q=>k c v ?_ q) (λy q=>q) λy y q=>q
  rcases hc with z|z
  ·rw[z];exact nit b u e
  ·exact nit c _ z
def Inv.tok(I:Inv X pins Y H s)(t:Nat):Inv X pins Y H {s with toks:=t}:=I.un (h':=s.heap) (t':=t) Un.refl I.hok
theorem Inv.kept(I:Inv X pins Y H s)(k:∀b u,s.heap.get? b=some u->h'.get? b=some u):Inv X pins Y H {s with heap:=h',toks:=t'}:=I.un (Un.kept k) (I.hok.kept k)
theorem Inv.laid{a:Addr}{o:HO}(I:Inv X pins Y H s)(k:∀b u,s.heap.get? b=some u->h'.get? b=some u)(hp:s.heap.objs.size<=a)(new:ObjOk X.prog X.w (upd H a o) h' a o):
  Inv X pins Y (upd H a o) {s with heap:=h',toks:=t'}:=I.un (Un.laid k hp (I.hok.fresh hp)) (I.hok.laid k hp new)
theorem Inv.write{x e:Addr}{o:HO}(I:Inv X pins Y H s)(mu:Mut (H x))(he:e=x\/H e=some (.own x))(k:∀b u,b≠e->s.heap.get? b=some u->h'.get? b=some u)(heo:∃u,h'.get? e=some u)
  (new:ObjOk X.prog X.w (upd H x o) h' x o):Inv X pins Y (upd H x o) {s with heap:=h',toks:=t'}:=I.un (Un.write mu he k heo) (I.hok.write mu he k heo new)
def Inv.pins_of{pins':List (Addr×Obj)}(I:Inv X pins Y H s)(h:∀p∈pins',s.heap.get? p.1=some p.2/\H p.1=none/\p.1≠X.env.locals/\p.1∉X.fs/\∀v,p.2.data≠.cell v):Inv X pins' Y H s :=
 ⟨I.ok,I.os,I.bare,I.base,I.loc,I.cell,I.free,I.freeC,λp hp=>(Wo.mp hp).elim (λz=>I.pin p (Uf _ z)) (h p),I.hok,I.len⟩
def JL{N:List Str}(hN:N.Nodup){j:Nat}(a:N[i]?=some x)(b:N[j]?=some x):i=j:=by
 obtain⟨h1,e1⟩:=Xc.mp a;obtain⟨h2,e2⟩:=Xc.mp b;exact(List.getElem_inj hN).mp (e1.trans e2.symm)
def QdG{E:Value->Shared->Prop}{v:V}{u:Value}{Q:Unit->Shared->Prop}(I:Inv X pins Y H s)(hN:X.N.Nodup)(hi:X.N[i]?=some x)(hx:Loc X.env.scope x)(r:RelV v u)
  (h:∀s',Inv X pins (Y.set i (some v)) H s'->(∃a,Heap.SameBut a s.heap s'.heap/\(a=X.env.locals\/X.env.cells.lookup x=some a))->Q () s') (hf:X.fn x=true\/X.env.scope.names.lookup x=some .local:=by first|exact .inl rfl|exact .inr rfl|assumption):wpAny M A (storeName X.env x u) Q E s:=by
 obtain⟨m,hn,hl⟩:=id I.loc
 have hcls:(X.env.scope.kind==.class||(X.env.scope.kind==.module&&X.env.locals != X.env.globals))=false:=by rw[I.ok.kind];rfl
 have hiY:i < Y.length:=by rw[I.len];exact(Xc.mp hi).1
 have cne:=I.cne
 have tracked:∀{a:Addr} {h':Heap},(∃o,s.heap.get? a=some o/\H a=none)->Heap.SameBut a s.heap h'->HOk X.prog X.w H h':=λ{a h'} ha hs b ob e=>by
  obtain⟨_,_,hfree⟩:=ha;refine(I.hok b ob e).stay (λc w' hc q=>(hs.2 c ?_).trans q) (λt q=>q) λt t q=>q;rintro rfl
  rcases hc with rfl|hc
  ·rw[hfree]at e;cases e
  ·rw[hfree]at hc;cases hc
 rcases hx with hk|hk
 ·refine wpAny_storeName_local hk hn (λh' hn' hs=>?_) hcls;obtain⟨oL,_,_,hoL,_⟩:=id hn
  refine h _ ⟨I.ok,I.os,I.bare,⟨λb o e n hb hx=>?_,λb o e n hb hx=>?_,I.base.free,λb o e hx=>?_,I.base.tups,I.base.frzs,I.base.tbls⟩,⟨_,hn',λj y v' e1 e2 e3=>?_⟩,λy c e=>?_,I.free,I.freeC,λp hp=>?_,tracked ⟨oL,hoL,I.free⟩ hs,by simpa using I.len⟩ ⟨_,hs,.inl rfl⟩
  ·exact(hs.2 b (Xp (Xr (Xk e) I.ok.above))).trans (I.base.keep b o e n hb hx)
  ·obtain⟨sl,e1⟩:=I.base.slot b o e n hb hx;exact⟨sl,(hs.2 b (Xp (Xr (Xk e) I.ok.above))).trans e1⟩
  ·obtain⟨o',e1⟩:=I.base.there b o e hx;exact⟨o',(hs.2 b (Xp (Xr (Xk e) I.ok.above))).trans e1⟩
  ·by_cases hj:j=i
   ·subst hj;rw[hi]at e1;cases e1;rw[Xz hiY]at e2;cases e2
    exact⟨u,r,.inl ⟨hk,by simp⟩⟩
   ·rw[Xu (Wr hj)]at e2;obtain⟨u',r',q⟩:=hl j y v' e1 e2 e3;refine⟨u',r',?_⟩
    rcases q with⟨k,e⟩|⟨k,c,e,z⟩
    ·refine .inl ⟨k,?_⟩;have:y≠x:=λe=>hj (JL hN e1 (e▸hi));simp[this,e]
    ·exact .inr ⟨k,c,e,z.sameBut hs (cne y c e)⟩
  ·obtain⟨w',z⟩:=I.cell y c e;exact⟨w',z.sameBut hs (cne y c e)⟩
  ·obtain⟨e,n,ne,nf,d⟩:=I.pin p hp;exact⟨(hs.2 p.1 ne).trans e,n,ne,nf,d⟩
 ·have hfn:X.fn x=true:=by
   rcases hf with z|z
   ·exact z
   ·rw[z]at hk;cases hk
  obtain⟨c,hc⟩:=I.ok.has x (.inl hk);obtain⟨w',z⟩:=I.cell x c hc;refine wpAny_storeName_cell I.ok.kind hk hc z (λh' hc' hs=>?_);obtain⟨oc,hoc,hocd⟩:=id z
  refine h {s with heap:=h'} ⟨I.ok,I.os,I.bare,⟨λb o e n hb hx=>?_,λb o e n hb hx=>?_,I.base.free,λb o e hx=>?_,I.base.tups,I.base.frzs,I.base.tbls⟩,⟨m,hn.sameBut hs (Wr (cne x c hc)),λj y v' e1 e2 e3=>?_⟩,λy c' e=>?_,I.free,I.freeC,λp hp=>?_,tracked ⟨oc,hoc,I.freeC x c hc⟩ hs,by simpa using I.len⟩ ⟨c,hs,.inr hc⟩
  ·exact(hs.2 b (Xp (Xr (Xk e) (I.ok.cab x c hfn hc)))).trans (I.base.keep b o e n hb hx)
  ·obtain⟨sl,e1⟩:=I.base.slot b o e n hb hx;exact⟨sl,(hs.2 b (Xp (Xr (Xk e) (I.ok.cab x c hfn hc)))).trans e1⟩
  ·obtain⟨o',e1⟩:=I.base.there b o e hx;exact⟨o',(hs.2 b (Xp (Xr (Xk e) (I.ok.cab x c hfn hc)))).trans e1⟩
  ·by_cases hj:j=i
   ·subst hj;rw[hi]at e1;cases e1;rw[Xz hiY]at e2;cases e2;exact⟨u,r,.inr ⟨.inl hk,c,hc,hc'⟩⟩
   ·rw[Xu (Wr hj)]at e2;obtain⟨u',r',q⟩:=hl j y v' e1 e2 e3;refine⟨u',r',?_⟩
    rcases q with q|⟨k,c',e,z'⟩
    ·exact .inl q
    ·refine .inr ⟨k,c',e,z'.sameBut hs ?_⟩;rintro rfl;exact hj (JL hN e1 (I.ok.inj _ _ _ e hc▸hi))
  ·by_cases hcc:c'=c
   ·subst hcc;exact⟨_,hc'⟩
   ·obtain⟨w2,z2⟩:=I.cell y c' e;exact⟨w2,z2.sameBut hs hcc⟩
  ·obtain⟨e,n,ne,nf,d⟩:=I.pin p hp;refine⟨(hs.2 p.1 ?_).trans e,n,ne,nf,d⟩;intro q;rw[q,hoc]at e;have q':oc=p.2:=X8 e
   exact d w' (by rw[<-q'];exact hocd)
def JF{E:Value->Shared->Prop}{v:V}{u:Value}{Q:Unit->Shared->Prop}(I:Inv X pins Y H s)(hN:X.N.Nodup)(hi:X.N[i]?=some x)(hx:Loc X.env.scope x)(r:RelV v u)
  (h:∀s',Inv X pins (Y.set i (some v)) H s'->Q () s') (hf:X.fn x=true\/X.env.scope.names.lookup x=some .local:=by first|exact .inl rfl|exact .inr rfl|assumption):wpAny M A (storeName X.env x u) Q E s :=
 QdG I hN hi hx r (λs' I' z=>h s' I') hf
def Inv.call'{s':Shared}(I:Inv X pins Y H s)(ho:s'.os=s.os)(u:Un (frs X.stack) ch H H' s.heap s'.heap)(hok:HOk X.prog X.w H' s'.heap)(hg:AllBare s'.gens)
  (hch:∀b∈ch,(b∈X.ex\/X.s₀.heap.objs.size<=b)/\b≠X.env.locals/\(∀x c,X.env.cells.lookup x=some c->c≠b)/\∀p∈X.pn++pins,p.1≠b):Inv X pins Y H' s':=by
 obtain⟨h',g',d',t',o'⟩:=s';have e:o'=s.os:=ho;subst e;exact I.call (g':=g') (t':=t') (d':=d') u hok hg hch
end
abbrev XK:=Value->Option Addr->Hp->Prop
abbrev St:=List (Option V)
abbrev VK:=V->Hp->Prop
abbrev TE:=St->Hp->VK->Prop
abbrev TT:=St->Hp->(Bool->Hp->Prop)->Prop
abbrev TA:=St->Hp->(List V->Hp->Prop)->Prop
structure Ends where
 nx:St->Hp->Prop
 rt:VK
 bk:St->Hp->Prop:=λ_ _=>False
 ct:St->Hp->Prop:=λ_ _=>False
abbrev TS:=Ends->St->Hp->Prop
def EP(X:Cx)(pins:List (Addr×Obj))(Y:St)(Q:VK)(u:Value)(s':Shared):Prop:=∃v H',Inv X pins Y H' s'/\RelV v u/\Q v H'
def TP(X:Cx)(pins:List (Addr×Obj))(Y:St)(Q:Bool->Hp->Prop)(b:Bool)(s':Shared):Prop:=∃H',Inv X pins Y H' s'/\Q b H'
def AP(X:Cx)(pins:List (Addr×Obj))(Y:St)(Q:List V->Hp->Prop)(us:List Value)(s':Shared):Prop:=∃vs H',Inv X pins Y H' s'/\Vals vs us/\Q vs H'
noncomputable def SP(X:Cx)(pins:List (Addr×Obj))(D:Ends)(f:Flow)(s':Shared):Prop :=
 match f with
 |.next=>∃Y' H',Inv X pins Y' H' s'/\D.nx Y' H'
 |.brk=>∃Y' H',Inv X pins Y' H' s'/\D.bk Y' H'
 |.cont=>∃Y' H',Inv X pins Y' H' s'/\D.ct Y' H'
 |.ret u=>∃v Y' H',Inv X pins Y' H' s'/\RelV v u/\D.rt v H'
noncomputable def PE(X:Cx)(e:Expr)(t:TE):Prop :=
 ∀(pins:List (Addr×Obj)) (s:Shared) (Y:St) (H:Hp) (Q:VK),Inv X pins Y H s->t Y H Q->wpAny (model X.prog X.w) X.A (eval e X.env) (EP X pins Y Q) X.xe s
noncomputable def PT(X:Cx)(e:Expr)(t:TT):Prop :=
 ∀(pins:List (Addr×Obj)) (s:Shared) (Y:St) (H:Hp) (Q:Bool->Hp->Prop),Inv X pins Y H s->t Y H Q->wpAny (model X.prog X.w) X.A (isTrue e X.env (eval e X.env)) (TP X pins Y Q) X.xe s
noncomputable def PW(X:Cx)(e:Expr)(t:TT):Prop :=
 ∀(whole:Sem Value) (pins:List (Addr×Obj)) (s:Shared) (Y:St) (H:Hp) (Q:Bool->Hp->Prop),Inv X pins Y H s->t Y H Q->wpAny (model X.prog X.w) X.A (isTrue e X.env whole) (TP X pins Y Q) X.xe s
def PW.pt{X:Cx}{e:Expr}{t:TT}(h:PW X e t):PT X e t:=h _
noncomputable def PA(X:Cx)(es:List Expr)(t:TA):Prop :=
 ∀(pos:Pos) (pins:List (Addr×Obj)) (s:Shared) (Y:St) (H:Hp) (Q:List V->Hp->Prop),Inv X pins Y H s->t Y H Q->wpAny (model X.prog X.w) X.A (spliced (backTo pos (starEach es X.env))) (AP X pins Y Q) X.xe s
noncomputable def PS(X:Cx)(st:Stmt)(t:TS):Prop :=
 ∀(pins:List (Addr×Obj)) (s:Shared) (Y:St) (H:Hp) (D:Ends),Inv X pins Y H s->t D Y H->wpAny (model X.prog X.w) X.A (exec st X.env) (SP X pins D) X.xe s
noncomputable def PSs(X:Cx)(st:List Stmt)(t:TS):Prop :=
 ∀(pins:List (Addr×Obj)) (s:Shared) (Y:St) (H:Hp) (D:Ends),Inv X pins Y H s->t D Y H->wpAny (model X.prog X.w) X.A (execs st X.env) (SP X pins D) X.xe s
def thn{α:Type}{t:Sem α}{Q Q':α->Shared->Prop}{E:Value->Shared->Prop}{s:Shared}(h:wpAny M A t Q E s)(hQ:∀a s,Q a s->Q' a s):wpAny M A t Q' E s:=X4 h hQ λz z x=>x
end
section
variable {pos:Pos}{x:Str}{u:Value}
section
variable {X:Cx}
def Qqx(i:Nat):TE:=λY H Q=>∃v,Y[i]?=some (some v)/\Q v H
def tC(v:V):TE:=λz H Q=>Q v H
def QlM{i:Nat}(hN:X.N[i]?=some x)(hv:Vis X.env.scope x)(hd:(x==("__debug__":Str))=false:=by decide)(hcd:(x==("__classdict__":Str))=false:=by decide):PE X (.Name x pos) (Qqx i):=by
 intro pins s Y H Q I h;obtain⟨v,e,h⟩:=h;obtain⟨m,hn,hl⟩:=I.loc;obtain⟨u,r,l⟩:=hl i x v hN e hv;have fin:EP X pins Y Q u s:=⟨v,H,I,r,h⟩
 rcases l with⟨hk,hm⟩|⟨hk,c,hc,hcell⟩
 ·exact wpAny_Name (wpAny_loadName_local I.ok.kind hk hn hm fin) hd
 ·rcases hk with hk|hk
  ·exact wpAny_Name (wpAny_loadName_cell I.ok.kind hk hc hcell fin) hd
  ·exact wpAny_Name (wpAny_loadName_free I.ok.kind hk hc hcell fin hcd) hd
def Qd7{i j pos}:PE X (.Constant (.int i) j pos) (tC (.int i)):=λz z z H z I h=>wpAny_Constant_int ⟨.int i,H,I.tok _,⟨_,rfl⟩,h⟩
def Qok{b j pos}:PE X (.Constant (.bool b) j pos) (tC (.bl b)):=λz z z H z I h=>Constant_bool ⟨.bl b,H,I,rfl,h⟩
def QlP{j pos}:PE X (.Constant .none j pos) (tC .non):=λz z z H z I h=>Constant_none ⟨.non,H,I,rfl,h⟩
def QhK{x j pos}:PE X (.Constant (.str x) j pos) (tC (.str x)):=λz z z H z I h=>Calls.Constant_str ⟨.str x,H,I.tok _,⟨_,rfl⟩,h⟩
def Gl(X:Cx)(x:Str):Prop:=X.env.kindOf x=some .globalImplicit
def ZG{E:Value->Shared->Prop}{pins:List (Addr×Obj)}{s:Shared}{Y:St}{H:Hp}{Q:Value->Shared->Prop}(I:Inv X pins Y H s)(hg:Gl X x)(hm:X.mg x=some u)(h:Q u s)
  (hd:(x==("__debug__":Str))=false:=by decide):wpAny (model X.prog X.w) X.A (eval (.Name x pos) X.env) Q E s :=
 U4 I.ok.kind hg (Calls.loadGlobal_global (by rw[I.ok.glob];exact I.mod.glob.keeps I.bk) hm h) hd
def ZD{E:Value->Shared->Prop}{pins:List (Addr×Obj)}{s:Shared}{Y:St}{H:Hp}{Q:Value->Shared->Prop}(I:Inv X pins Y H s)(hg:Gl X x)(hm:X.mg x=none)(hv:bootBuiltins x=some u)(h:Q u s)
  (hn:x≠"__name__":=by decide) (hd:(x==("__debug__":Str))=false:=by decide):wpAny (model X.prog X.w) X.A (eval (.Name x pos) X.env) Q E s:=by
 obtain⟨mb,h1,h2⟩:=I.mod.blt
 exact U4 I.ok.kind hg (Calls.loadGlobal_builtin (by rw[I.ok.glob];exact I.mod.glob.keeps I.bk) hm (by rw[I.ok.blt];exact h1.keeps I.bk) ((h2 x hn).trans hv) h) hd
def JJ{v:V}(hg:Gl X x)(hm:X.mg x=some u)(r:RelV v u)(hd:(x==("__debug__":Str))=false:=by decide):PE X (.Name x pos) (tC v):=
 λz z z H z I h=>ZG I hg hm ⟨v,H,I,r,h⟩ hd
def Qja{v:V}(hg:Gl X x)(hm:X.mg x=none)(hv:bootBuiltins x=some u)(r:RelV v u)(hn:x≠"__name__":=by decide)(hd:(x==("__debug__":Str))=false:=by decide):PE X (.Name x pos) (tC v):=
 λz z z H z I h=>ZD I hg hm hv ⟨v,H,I,r,h⟩ hn hd
variable {a b:Expr}{ta tb:TE}
variable {tA tB':TT}{rest:List Expr}
def QqH(t u:TT):TT:=λY H Q=>t Y H λc H1=>if c=true then u Y H1 Q else Q false H1
def tOr(t u:TT):TT:=λY H Q=>t Y H λc H1=>if c=true then Q true H1 else u Y H1 Q
def QqC(t:TT):TT:=λY H Q=>t Y H λc H1=>Q (!c) H1
def QiQ(ha:PT X a tA):PW X (.BoolOp .And [a] pos) tA:=by
 intro wh pins s Y H Q I h;refine isTrue_and (thn (ha pins s Y H Q I h) λc s1 e=>?_)
 cases c with
 |true=>exact isTrue_and_nil e
 |false=>exact e
def Qly(ha:PT X a tA):PW X (.BoolOp .Or [a] pos) tA:=by
 intro wh pins s Y H Q I h;refine isTrue_or (thn (ha pins s Y H Q I h) λc s1 e=>?_)
 cases c with
 |false=>exact isTrue_or_nil e
 |true=>exact e
def Qlz(ha:PT X a tA)(hb:PW X (.BoolOp .And (b::rest) pos) tB'):PW X (.BoolOp .And (a::b::rest) pos) (QqH tA tB'):=by
 intro wh pins s Y H Q I h;refine isTrue_and (thn (ha pins s Y H _ I h) λc s1 z=>?_);obtain⟨H1,I1,q1⟩:=z
 cases c with
 |true=>exact hb wh pins s1 Y H1 Q I1 q1
 |false=>exact⟨H1,I1,q1⟩
def Qof(ha:PT X a tA)(hb:PW X (.BoolOp .Or (b::rest) pos) tB'):PW X (.BoolOp .Or (a::b::rest) pos) (tOr tA tB'):=by
 intro wh pins s Y H Q I h;refine isTrue_or (thn (ha pins s Y H _ I h) λc s1 z=>?_);obtain⟨H1,I1,q1⟩:=z
 cases c with
 |true=>exact⟨H1,I1,q1⟩
 |false=>exact hb wh pins s1 Y H1 Q I1 q1
def QlB(ha:PT X a tA):PT X (.UnaryOp .Not a pos) (QqC tA):=by
 intro pins s Y H Q I h;exact isTrue_not (ha pins s Y H (λc H1=>Q (!c) H1) I h)
def QnR(ta tb:TE):TE:=λY H Q=>ta Y H λx H1=>∃c,x=.bl c/\if c=true then tb Y H1 Q else Q (.bl false) H1
def QqB(ta tb:TE):TE:=λY H Q=>ta Y H λx H1=>∃c,x=.bl c/\if c=true then Q (.bl true) H1 else tb Y H1 Q
def QhL{op}{t:TE}(h:PE X a t):PE X (.BoolOp op [a] pos) t:=λpins s Y H Q I hw=>BoolOp_one (h pins s Y H Q I hw)
def QlS(ha:PE X a ta)(hb:PE X (.BoolOp .And (b::rest) pos) tb):PE X (.BoolOp .And (a::b::rest) pos) (QnR ta tb):=by
 intro pins s Y H Q I h;refine BoolOp_and (thn (ha pins s Y H _ I h) λv s1 z=>?_);obtain⟨x,H1,I1,r1,q1⟩:=z;obtain⟨c,rfl,q1⟩:=q1;cases r1;refine Uv ?_
 cases c with
 |true=>exact hb pins s1 Y H1 Q I1 q1
 |false=>exact⟨.bl false,H1,I1,rfl,q1⟩
def Qog(ha:PE X a ta)(hb:PE X (.BoolOp .Or (b::rest) pos) tb):PE X (.BoolOp .Or (a::b::rest) pos) (QqB ta tb):=by
 intro pins s Y H Q I h;refine BoolOp_or (thn (ha pins s Y H _ I h) λv s1 z=>?_);obtain⟨x,H1,I1,r1,q1⟩:=z;obtain⟨c,rfl,q1⟩:=q1;cases r1;refine Uv ?_
 cases c with
 |false=>exact hb pins s1 Y H1 Q I1 q1
 |true=>exact⟨.bl true,H1,I1,rfl,q1⟩
end
end
section
variable {X:Cx}{e tg:Expr}{H:Hp}{pins:List (Addr×Obj)}{pos:Pos}{P:Program}{s:Shared}{Y:St}{te:TE}{u:Value}{w:World}
noncomputable def SqL(K:W.Frag)(H:Hp)(a:Addr)(xs:List V):Prop :=
 Rd H a (.lst xs) \/
  ∃(o:Obj) (its:Array Value) (n:Nat),K.lookup a=some o/\o.cls=.type "list"/\o.dict=none/\o.data=.seq its n/\its.size<=sizeLine/\Vals xs its.toList
noncomputable def SqT(K:W.Frag)(H:Hp)(a:Addr)(xs:List V):Prop :=
 Rd H a (.tup xs) \/
  ∃(o:Obj) (its:Array Value) (n:Nat),K.lookup a=some o/\o.cls=.type "tuple"/\o.data=.seq its n/\its.size<=sizeLine/\Vals xs its.toList
noncomputable def QrU:Value->Option V
 |.none=>some .non
 |.bool b=>some (.bl b)
 |.int i _=>some (.int i)
 |.str x _=>some (.str x)
 |.bytes b _=>some (.byt b)
 |.float b _=>some (.flt b)
 |.ref a=>some (.ref a)
 |.type n=>some (.ty n)
 |_=>none
def RelV.abs{x:V}(r:RelV x u):QrU u=some x:=by
 cases x with
 |non=>cases r;rfl
 |bl _=>cases r;rfl
 |int _=>obtain⟨t,rfl⟩:=r;rfl
 |str _=>obtain⟨t,rfl⟩:=r;rfl
 |byt _=>obtain⟨t,rfl⟩:=r;rfl
 |flt _=>obtain⟨t,rfl⟩:=r;rfl
 |ref _=>cases r;rfl
 |ty _=>cases r;rfl
def RelV.inj{x y:V}(r:RelV x u)(q:RelV y u):x=y:=X8 (r.abs.symm.trans q.abs)
theorem Vals.inj{xs ys:List V}{us:List Value}(h:Vals xs us)(h':Vals ys us):xs=ys:=by
 induction h generalizing ys with
 |nil=>cases h';rfl
 |cons r _ ih=>
  cases h' with
  |cons r' t'=>rw[r.inj r',ih t']
section
variable {a:Addr}{xs ys:List V}
def SqL.of{K:W.Frag}(h:H a=some (.lst xs)):SqL K H a xs:=.inl (.inl h)
def SqT.of{K:W.Frag}(h:H a=some (.tup xs)):SqT K H a xs:=.inl (.inl h)
def Inv.list(I:Inv X pins Y H s)(h:SqL X.K H a xs):∃its:List Value,Vals xs its/\PlainL s.heap a its.toArray/\xs.length<=sizeLine:=by
 rcases h with h|⟨o,its,n,hk,hc,hd,hs,hz,r⟩
 ·obtain⟨z,its,n,r,e⟩:=h.ok I.hok;exact⟨its,r,⟨_,n,e,rfl,rfl,rfl⟩,z⟩
 ·refine⟨its.toList,r,⟨o,n,I.kIn a o hk,hc,hd,by simpa using hs⟩,?_⟩
  have e:=r.length;simp only[Um]at e;omega
def Inv.tuple(I:Inv X pins Y H s)(h:SqT X.K H a xs):∃its:List Value,Vals xs its/\IsTup s.heap a its.toArray/\xs.length<=sizeLine:=by
 rcases h with h|⟨o,its,n,hk,hc,hs,hz,r⟩
 ·obtain⟨z,its,r,p⟩:=h.ok I.hok;exact⟨its,r,p,z⟩
 ·refine⟨its.toList,r,⟨o,I.kIn a o hk,hc,n,by simpa using hs⟩,?_⟩
  have e:=r.length;simp only[Um]at e;omega
def Inv.list_inj(I:Inv X pins Y H s)(h:SqL X.K H a xs)(h':SqL X.K H a ys):xs=ys:=by
 obtain⟨its,r,⟨o,n,e,_,_,d⟩,_⟩:=I.list h;obtain⟨its',r',⟨o',n',e',_,_,d'⟩,_⟩:=I.list h';rw[e]at e';cases e';rw[d]at d';injection d' with d1 _
 have:its=its':=by simpa using congrArg Array.toList d1
 subst this;exact r.inj r'
def Inv.tuple_inj(I:Inv X pins Y H s)(h:SqT X.K H a xs)(h':SqT X.K H a ys):xs=ys:=by
 obtain⟨its,r,⟨o,e,_,n,d⟩,_⟩:=I.tuple h;obtain⟨its',r',⟨o',e',_,n',d'⟩,_⟩:=I.tuple h';rw[e]at e';cases e';rw[d]at d';injection d' with d1 _
 have:its=its':=by simpa using congrArg Array.toList d1
 subst this;exact r.inj r'
end
noncomputable abbrev Cx.wish(X:Cx)(E:Value->Shared->Prop):Cx:={X with xe:=E}
noncomputable abbrev Cx.nox(X:Cx):Cx:=X.wish λz z=>False
theorem Cx.Ok.wish(ok:X.Ok)(E:Value->Shared->Prop):(X.wish E).Ok :=
 ⟨ok.mod,ok.kind,ok.glob,ok.blt,ok.above,ok.inj,ok.has,ok.cab,ok.hd,ok.frames,ok.stk,ok.exf,ok.bs,ok.bsz,ok.noex,ok.exfs,ok.funs,ok.frf⟩
def Cx.Ok.unwish{E:Value->Shared->Prop}(ok:(X.wish E).Ok):X.Ok :=
 ⟨ok.mod,ok.kind,ok.glob,ok.blt,ok.above,ok.inj,ok.has,ok.cab,ok.hd,ok.frames,ok.stk,ok.exf,ok.bs,ok.bsz,ok.noex,ok.exfs,ok.funs,ok.frf⟩
section
variable {E:Value->Shared->Prop}
theorem Inv.wish(I:Inv X pins Y H s)(E:Value->Shared->Prop):Inv (X.wish E) pins Y H s:=⟨I.ok.wish E,I.os,I.bare,I.base,I.loc,I.cell,I.free,I.freeC,I.pin,I.hok,I.len⟩
theorem Inv.unwish(I:Inv (X.wish E) pins Y H s):Inv X pins Y H s:=⟨I.ok.unwish,I.os,I.bare,I.base,I.loc,I.cell,I.free,I.freeC,I.pin,I.hok,I.len⟩
theorem SP.unwish{D:Ends}{f:Flow}{s':Shared}(h:SP (X.wish E) pins D f s'):SP X pins D f s':=by
 cases f with
 |next=>obtain⟨Y',H',I,q⟩:=h;exact⟨Y',H',I.unwish,q⟩
 |brk=>obtain⟨Y',H',I,q⟩:=h;exact⟨Y',H',I.unwish,q⟩
 |cont=>obtain⟨Y',H',I,q⟩:=h;exact⟨Y',H',I.unwish,q⟩
 |ret u=>obtain⟨v,Y',H',I,r,q⟩:=h;exact⟨v,Y',H',I.unwish,r,q⟩
theorem PT.nox{t:TT}(h:PT X.nox e t):PT X e t:=λpins s Y H Q I hw=>
 X4 (h pins s Y H Q (I.wish _) hw) (λy y x=>by obtain⟨H',I',q⟩:=x;exact⟨H',I'.unwish,q⟩) λy y z=>False.elim z
theorem PSs.nox{st:List Stmt}{t:TS}(h:PSs X.nox st t):PSs X st t:=λpins s Y H D I hw=>
 X4 (h pins s Y H D (I.wish _) hw) (λy y q=>q.unwish) λy y z=>False.elim z
end
section
variable {st:Stmt}{rest:List Stmt}{t u:TS}
def Qio:TS:=λD Y H=>D.nx Y H
def Qqz(t u:TS):TS:=λD Y H=>t {D with nx:=u D} Y H
def QdU:PSs X [] Qio:=λz z Y H z I h=>T4 ⟨Y,H,I,h⟩
def YC(h1:PS X st t)(h2:PSs X rest u):PSs X (st::rest) (Qqz t u):=by
 intro pins s Y H D I h;refine wpAny_execs_cons (thn (h1 pins s Y H {D with nx:=u D} I h) λf s1 q=>?_)
 cases f with
 |next=>
  obtain⟨Y',H',I',q⟩:=q;exact h2 pins s1 Y' H' D I' q
 |ret v=>exact q
 |brk=>exact q
 |cont=>exact q
def QiT(h1:PS X st t):PSs X [st] t:=by
 intro pins s Y H D I h;refine wpAny_execs_cons (thn (h1 pins s Y H D I h) λf s1 q=>?_)
 cases f with
 |next=>exact T4 q
 |ret v=>exact q
 |brk=>exact q
 |cont=>exact q
def Qk5:TS:=λD Y H=>D.bk Y H
def QnP:TS:=λD Y H=>D.ct Y H
def QiV:PS X (.Pass pos) Qio:=λz z Y H z I h=>wpAny_Pass ⟨Y,H,I,h⟩
def Qgd:PS X (.Break pos) Qk5:=λz z Y H z I h=>wpAny_Break ⟨Y,H,I,h⟩
def Qbn:PS X (.Continue pos) QnP:=λz z Y H z I h=>wpAny_Continue ⟨Y,H,I,h⟩
def Inv.quiet(I:Inv X pins Y H s):interactive X.env=false:=by simp[interactive,I.ok.kind]
def QlD{x j pos pos'}:PS X (.Expr (.Constant (.str x) j pos) pos') Qio:=λz s Y H z I h=>wpAny_Expr (Calls.Constant_str (show SP X _ _ .next {s with toks:=s.toks+1}from⟨Y,H,I.tok _,h⟩)) I.quiet
def QnN(te:TE):TS:=λD Y H=>te Y H λz H1=>D.nx Y H1
def Qbm(he:PE X e te)(hs:swapsWith e none pos.line X.env=pure false:=by rfl):PS X (.Expr e pos) (QnN te):=by
 intro pins s Y H D I h;exact wpAny_Expr_any (thn (he pins s Y H _ I h) λv s1 z=>by obtain⟨x,H1,I1,r1,q1⟩:=z;exact⟨Y,H1,I1,q1⟩) I.quiet hs
def QqA(te:TE):TS:=λD Y H=>te Y H D.rt
def QdW(he:PE X e te):PS X (.Return (some e) pos) (QqA te):=by
 intro pins s Y H D I h;exact wpAny_Return_some (thn (he pins s Y H _ I h) λv s1 z=>by obtain⟨x,H1,I1,r1,q1⟩:=z;exact⟨x,Y,H1,I1,r1,q1⟩)
def QnM:TS:=λD z H=>D.rt .non H
def QiU:PS X (.Return none pos) QnM:=λz z Y H z I h=>wpAny_Return_none ⟨.non,Y,H,I,rfl,h⟩
def QqE(c:TT)(t u:TS):TS:=λD Y H=>c Y H λb H1=>if b=true then t D Y H1 else u D Y H1
def QlC{c:Expr}{a b:List Stmt}{tc:TT}(hc:PT X c tc)(ha:PSs X a t)(hb:PSs X b u):PS X (.If c a b pos) (QqE tc t u):=by
 intro pins s Y H D I h;refine wpAny_If (thn (hc pins s Y H _ I h) λd s1 z=>?_);obtain⟨H1,I1,q1⟩:=z
 cases d with
 |true=>exact ha pins s1 Y H1 D I1 q1
 |false=>exact hb pins s1 Y H1 D I1 q1
end
abbrev TG:=V->St->Hp->(St->Hp->Prop)->Prop
abbrev TGs:=List V->St->Hp->(St->Hp->Prop)->Prop
noncomputable def PG(X:Cx)(target:Expr)(t:TG):Prop :=
 ∀(pins:List (Addr×Obj)) (s:Shared) (Y:St) (H:Hp) (v:V) (u:Value) (Q:St->Hp->Prop),Inv X pins Y H s->RelV v u->t v Y H Q ->
  wpAny (model X.prog X.w) X.A (assign target X.env u) (λz s'=>∃Y' H',Inv X pins Y' H' s'/\Q Y' H') X.xe s
noncomputable def PGs(X:Cx)(ts:List Expr)(t:TGs):Prop :=
 ∀(pins:List (Addr×Obj)) (s:Shared) (Y:St) (H:Hp) (vs:List V) (us:List Value) (Q:St->Hp->Prop),Inv X pins Y H s->Vals vs us->t vs Y H Q ->
  wpAny (model X.prog X.w) X.A (assignInOrder ((assignEach ts X.env).map (·.2)) us) (λz s'=>∃Y' H',Inv X pins Y' H' s'/\Q Y' H') X.xe s
abbrev Qpw:=V->V->V->Hp->(Hp->Prop)->Prop
noncomputable def Qqm(X:Cx)(t:Qpw):Prop :=
 ∀(pins:List (Addr×Obj)) (s:Shared) (Y:St) (H:Hp) (o i v:V) (ov iv u:Value) (Q:Hp->Prop),Inv X pins Y H s->RelV o ov->RelV i iv->RelV v u->t o i v H Q ->
  wpAny (model X.prog X.w) X.A (setItem ov iv u) (λz s'=>∃H',Inv X pins Y H' s'/\Q H') X.xe s
abbrev TIp:=V->V->Hp->VK->Prop
section

def QbB(i:Nat):TG:=λv Y H Q=>Q (Y.set i (some v)) H
def Qbq{i:Nat}{x:Str}(hN:X.N.Nodup)(hi:X.N[i]?=some x)(hx:Loc X.env.scope x)(hf:X.fn x=true\/X.env.scope.names.lookup x=some .local:=by first|exact .inl rfl|exact .inr rfl|assumption):PG X (.Name x pos) (QbB i):=by
 intro pins s Y H v u Q I r h;exact wpAny_assign_Name (JF I hN hi hx r (λs' I'=>⟨_,H,I',h⟩) hf)
def Qqe:TGs:=λvs Y H Q=>vs=[]/\Q Y H
def QjC(t:TG)(u:TGs):TGs:=λvs Y H Q=>∃v r,vs=v::r/\t v Y H λY' H'=>u r Y' H' Q
def Qd6:PGs X [] Qqe:=by
 intro pins s Y H vs us Q I r h;obtain⟨e,h⟩:=h;subst e;cases r;exact assignInOrder_nil ⟨Y,H,I,h⟩
def YD{es:List Expr}{t:TG}{u:TGs}(h1:PG X e t)(h2:PGs X es u)
  (hs:(assignEach (e::es) X.env).map (·.2)=assign e X.env::(assignEach es X.env).map (·.2):=by rfl):PGs X (e::es) (QjC t u):=by
 intro pins s Y H vs us Q I r h;obtain⟨v,vr,e1,h⟩:=h;subst e1
 cases r with
 |cons r rr=>
  rw[hs];refine assignInOrder_cons (thn (h1 pins s Y H _ _ _ I r h) λz s1 y=>?_);obtain⟨σ1,H1,I1,q1⟩:=y;exact h2 pins s1 σ1 H1 _ _ Q I1 rr q1
def Qqd(K:W.Frag)(n:Nat)(t:TGs):TG:=λv Y H Q=>∃a xs,v=.ref a/\SqT K H a xs/\xs.length=n/\t xs Y H Q
def QhI{es:List Expr}{k:Nat}{t:TGs}{n:Nat}(hc:X.calm=true)(h:PGs X es t)
  (hn:(assignEach es X.env).length=n:=by rfl) (hst:(assignEach es X.env).findIdx? (·.1)=none:=by rfl):PG X (.Tuple es k pos) (Qqd X.K n t):=by
 intro pins s Y H v u Q I r hw;obtain⟨a,xs,e1,hq,hl,hw⟩:=hw;subst e1;cases r;obtain⟨its,rv,ht,hz⟩:=I.tuple hq
 refine assign_Tuple_tuple (I.ok.hd hc) ht (by simp[hn,<-hl,rv.length]) hst λh' hx=>?_
 have I1:Inv X pins Y H {s with heap:=h'}:=I.kept (t':=s.toks) λb o e=>hx b o (Xp (Xk e)) e
 exact h pins _ Y H xs _ Q I1 (by simpa using rv) hw
def Qq7(to ti:TE)(t:Qpw):TG:=λv Y H Q=>to Y H λo H1=>ti Y H1 λi H2=>t o i v H2 λH3=>Q Y H3
def QlL{o i:Expr}{to ti:TE}{t:Qpw}(ho:PE X o to)(hi:PE X i ti)(hs:Qqm X t)
  (ha:∀v,assign (.Subscript o i pos) X.env v=(do
   let ov <-holding [v] (eval o X.env);let iv <-holding [v,ov] (eval i X.env)
   standAt pos
   holding [v,ov,iv] (setItem ov iv v)
   release [v,ov,iv] []):=by intro _;rfl):PG X (.Subscript o i pos) (Qq7 to ti t):=by
 intro pins s Y H v u Q I r h;rw[ha];refine Xa (W8 (thn (ho pins s Y H _ I h) λov s1 z=>?_));obtain⟨x,H1,I1,r1,q1⟩:=z;refine Xa (W8 (thn (hi pins s1 Y H1 _ I1 q1) λiv s2 w=>?_));obtain⟨y,H2,I2,r2,q2⟩:=w;refine Xa (wpAny_standAt (Xa (W8 (thn (hs pins s2 Y H2 x y v ov iv u _ I2 r1 r2 r q2) λq s3 p=>?_))));obtain⟨H3,I3,q3⟩:=p;exact wpAny_release ⟨Y,H3,I3,q3⟩
def QpJ(te:TE)(g:TG):TS:=λD Y H=>te Y H λx H1=>g x Y H1 D.nx
def QlE{g:TG}(he:PE X e te)(hg:PG X tg g)(hs:swapsWithSole [tg] e pos.line X.env=pure false:=by rfl)(hw:swappedStores [tg] e X.env=pure none:=by rfl)
  (h1:(assignEach [tg] X.env).map (·.2)=[assign tg X.env]:=by rfl):PS X (.Assign [tg] e pos) (QpJ te g):=by
 intro pins s Y H D I h;refine wpAny_Assign_stores (thn (he pins s Y H _ I h) λv s1 z=>?_) hs hw;obtain⟨x,H1,I1,r1,q1⟩:=z;rw[h1];exact thn (hg pins s1 Y H1 x v _ I1 r1 q1) λy s2 q=>q
def Qaz{i:Nat}{x:Str}{pos':Pos}(hN:X.N.Nodup)(hi:X.N[i]?=some x)(hx:Loc X.env.scope x)(he:PE X e te)(hs:swapsWith e (some (.Name x pos')) pos.line X.env=pure false:=by rfl)(hf:X.fn x=true\/X.env.scope.names.lookup x=some .local:=by first|exact .inl rfl|exact .inr rfl|assumption):
  PS X (.Assign [.Name x pos'] e pos) (QpJ te (QbB i)):=by
 intro pins s Y H D I h;refine wpAny_Assign_Name (thn (he pins s Y H _ I h) λv s1 z=>?_) hs;obtain⟨y,H1,I1,r1,q1⟩:=z;exact JF I1 hN hi hx r1 (λs2 I2=>⟨_,H1,I2,q1⟩) hf
end
section

end
structure It where
 go:Nat->Hp->Prop
 yld:Nat->Hp->V->Hp->Prop
 stop:Nat->Hp->Prop
noncomputable def QcE(X:Cx)(pins:List (Addr×Obj))(H:Hp)(b:Addr):Prop :=
 H b=none/\b≠X.env.locals/\b∉X.fs/\(b∈X.ex\/X.s₀.heap.objs.size<=b)/\(∀x c,X.env.cells.lookup x=some c->c≠b)/\∀p∈X.pn++pins,p.1≠b
def Inv.fpOk{H':Hp}{b:Addr}(I:Inv X pins Y H s)(hb:s.heap.objs.size<=b)(hn:H' b=none):QcE X pins H' b:=by
 refine⟨hn,Nat.ne_of_gt (Xr I.lt hb),I.nofs hb,.inr (Wd I.sz hb),λx c e z=>?_,λp hp z=>?_⟩
 ·obtain⟨v,q⟩:=I.cell x c e
  exact absurd (Xr q.lt (by rw[z];exact hb)) (W4 _)
 ·exact absurd (Xr (Xk (I.pin p hp).1) (by rw[z];exact hb)) (W4 _)
structure Turn(P:Program)(w:World)(K:W.Frag)(tg:Expr)(J:It)(fp:List Addr)(it:Addr)(tn:Nat->Heap->Prop):Prop where
 mem:it∈fp
 obj:∀i h,tn i h->∀b∈fp,∃o,h.get? b=some o/\∀v,o.data≠.cell v
 keep:∀i h h',tn i h->(∀b∈fp,∀o,h.get? b=some o->h'.get? b=some o)->tn i h'
 item:∀(X:Cx),X.prog=P->X.w=w->X.K=K->X.calm=true->∀(i:Nat) (pins:List (Addr×Obj)) (s:Shared) (Y:St) (H:Hp) (E:Value->Shared->Prop),Inv X pins Y H s->(∀b∈fp,QcE X pins H b)->tn i s.heap->J.go i H ->
  wpAny (model P w) X.A (pyNext (.ref it)) (λr s1=>∃u,r=some u /\
   wpAny (model P w) X.A (letOwnedTupleGo tg (.ref it) u) (λ_ s2=>∃x H',Inv X pins Y H' s2/\RelV x u/\J.yld i H x H'/\tn (i+1) s2.heap/\∀b∈fp,H' b=none) E s1) E s
 done:∀(X:Cx),X.prog=P->X.w=w->X.K=K->X.calm=true->∀(i:Nat) (pins:List (Addr×Obj)) (s:Shared) (Y:St) (H:Hp) (E:Value->Shared->Prop),Inv X pins Y H s->(∀b∈fp,QcE X pins H b)->tn i s.heap->J.stop i H ->
  wpAny (model P w) X.A (pyNext (.ref it)) (λr s1=>r=none/\Inv X pins Y H s1) E s
 self:∀(A:Around) (i:Nat) (s:Shared) (Q:Value->Shared->Prop) (E:Value->Shared->Prop),tn i s.heap->Q (.ref it) s->wpAny (model P w) A (pyIter (.ref it)) Q E s
abbrev TI:=St->Hp->(It->Hp->Prop)->Prop
noncomputable def PIE(X:Cx)(pins:List (Addr×Obj))(Y:St)(tg:Expr)(R:It->Hp->Prop)(itv:Value)(s2:Shared):Prop :=
 ∃(it:Addr) (fp:List Addr) (tn:Nat->Heap->Prop) (J:It) (H':Hp),itv=.ref it/\Inv X pins Y H' s2/\Turn X.prog X.w X.K tg J fp it tn/\tn 0 s2.heap/\(∀b∈fp,QcE X pins H' b)/\R J H'
noncomputable def PI(X:Cx)(tg iter:Expr)(wi:TI):Prop :=
 ∀(pins:List (Addr×Obj)) (s:Shared) (Y:St) (H:Hp) (R:It->Hp->Prop),Inv X pins Y H s->wi Y H R ->
  wpAny (model X.prog X.w) X.A (eval iter X.env) (λv s1=>wpAny (model X.prog X.w) X.A (pyIter v) (PIE X pins Y tg R) X.xe s1) X.xe s
def QcV{M:Model}{A:Around}{E:Value->Shared->Prop}{it:Addr}{o:Obj}{n:String}{vs:Array Value}{Q:Unit->Shared->Prop}(ho:s.heap.get? it=some o)(hc:o.cls=.type n)(hd:o.data=.fields vs)
  (hn:["enumerate","zip","dict_itemiterator","dict_reverseitemiterator","odict_iterator","itertools.zip_longest","itertools.pairwise"].contains n=false) (hQ:Q () s):wpAny M A (letOwnedTupleGo tg (.ref it) u) Q E s:=by
 unfold letOwnedTupleGo
 cases tg<;>first
  |exact Xi hQ
  | (cases u<;>first
    |exact Xi hQ
    | (refine Xa (wpAny_load ho ?_)
       rw[hc,hd];show wpAny M A (if(["enumerate","zip","dict_itemiterator","dict_reverseitemiterator","odict_iterator","itertools.zip_longest","itertools.pairwise"].contains n&&vs[0]?==some (rawInt _))=true then _ else _) Q E s
       rw[if_neg (by intro h;rw[hn,Bool.false_and]at h;cases h)]
       exact Xi hQ))
noncomputable def Itl(K:W.Frag)(a:Addr):It :=
 ⟨λi H=>∃xs x,SqL K H a xs/\xs[i]?=some x,λi H x H'=>H'=H/\∀xs,SqL K H a xs->xs[i]?=some x,λi H=>∃xs,SqL K H a xs/\xs.length<=i⟩
noncomputable def Itt(K:W.Frag)(a:Addr):It :=
 ⟨λi H=>∃xs x,SqT K H a xs/\xs[i]?=some x,λi H x H'=>H'=H/\∀xs,SqT K H a xs->xs[i]?=some x,λi H=>∃xs,SqT K H a xs/\xs.length<=i⟩
noncomputable def Itr(lo:Int)(n:Nat):It:=⟨λi z=>i<n,λi H x H'=>H'=H/\x=.int (lo+i),λi z=>n<=i⟩
def Qdu{K:W.Frag}(a it:Addr):Turn P w K tg (Itl K a) [it] it (λi h=>h.IsListIter it a i) where
 mem:=by simp
 obj:=λi h st b hb=>by
  have e:b=it:=by simpa using hb
  subst e;obtain⟨o,e,c,d⟩:=st
  exact⟨o,e,λv z=>by rw[d]at z;cases z⟩
 keep:=λi h h' st k=>st.at λo e=>k it (by simp) o e
 item:=by
  intro X hP hw hK hc i pins s Y H E I hf st hg;subst hP hw hK;obtain⟨xs,x,hq,hx⟩:=hg;obtain⟨its,rv,p,hz⟩:=I.list hq;obtain⟨u,hu,ru⟩:=rv.get hx
  obtain⟨f0,f1,f2,f3,f4,f5⟩:=hf it (by simp)
  refine wpAny_pyNext_list_item st p.isList (x:=u) (by simpa using hu) λh' st' sb=>?_
  have I1:Inv X pins Y H {s with heap:=h'}:=I.turned (t':=s.toks) (λb o hb e=>(sb.2 b hb).trans e) f0 f1 f3 f4 f5;obtain⟨o,e,c,d⟩:=id st'
  exact⟨u,rfl,QcV (s:={s with heap:=h'}) e c d (by decide) ⟨x,H,I1,ru,⟨rfl,λys hy=>by rw[I.list_inj hy hq];exact hx⟩,st',λb hb=>(hf b hb).1⟩⟩
 done:=by
  intro X hP hw hK hc i pins s Y H E I hf st hg;subst hP hw hK;obtain⟨xs,hq,hx⟩:=hg;obtain⟨its,rv,p,hz⟩:=I.list hq
  obtain⟨f0,f1,f2,f3,f4,f5⟩:=hf it (by simp)
  have hl:=rv.length
  exact wpAny_pyNext_list_end (I.ok.hd hc) st p.isList (by simp;omega) λh' eb=>⟨rfl,I.turned (t':=s.toks) (λb o hb e=>eb b o hb e) f0 f1 f3 f4 f5⟩
 self:=λy y y y y st h=>wpAny_pyIter_listiter st h
def QcG{K:W.Frag}(a it:Addr):Turn P w K tg (Itt K a) [it] it (λi h=>h.IsTupleIter it a i) where
 mem:=by simp
 obj:=λi h st b hb=>by
  have e:b=it:=by simpa using hb
  subst e;obtain⟨o,e,c,d⟩:=st
  exact⟨o,e,λv z=>by rw[d]at z;cases z⟩
 keep:=λi h h' st k=>st.at λo e=>k it (by simp) o e
 item:=by
  intro X hP hw hK hc i pins s Y H E I hf st hg;subst hP hw hK;obtain⟨xs,x,hq,hx⟩:=hg;obtain⟨its,rv,p,hz⟩:=I.tuple hq;obtain⟨u,hu,ru⟩:=rv.get hx
  obtain⟨f0,f1,f2,f3,f4,f5⟩:=hf it (by simp)
  refine wpAny_pyNext_tuple_item st (show s.heap.IsTuple a its.toArray from p) (x:=u) (by simpa using hu) λh' st' sb=>?_
  have I1:Inv X pins Y H {s with heap:=h'}:=I.turned (t':=s.toks) (λb o hb e=>(sb.2 b hb).trans e) f0 f1 f3 f4 f5;obtain⟨o,e,c,d⟩:=id st'
  exact⟨u,rfl,QcV (s:={s with heap:=h'}) e c d (by decide) ⟨x,H,I1,ru,⟨rfl,λys hy=>by rw[I.tuple_inj hy hq];exact hx⟩,st',λb hb=>(hf b hb).1⟩⟩
 done:=by
  intro X hP hw hK hc i pins s Y H E I hf st hg;subst hP hw hK;obtain⟨xs,hq,hx⟩:=hg;obtain⟨its,rv,p,hz⟩:=I.tuple hq
  obtain⟨f0,f1,f2,f3,f4,f5⟩:=hf it (by simp)
  have hl:=rv.length
  exact wpAny_pyNext_tuple_end (I.ok.hd hc) st (show s.heap.IsTuple a its.toArray from p) (by simp;omega) λh' eb=>⟨rfl,I.turned (t':=s.toks) (λb o hb e=>eb b o hb e) f0 f1 f3 f4 f5⟩
 self:=λy y y y y st h=>wpAny_pyIter_tupleiter st h
def QcH{K:PySem.W.Frag}(it:Addr)(lo:Int)(n:Nat):Turn P w K tg (Itr lo n) [it] it (λi h=>IsRangeIter h it (lo+(i:Nat)*1) ((n:Int) - (i:Nat)) 1) where
 mem:=by simp
 obj:=λi h st b hb=>by
  have e:b=it:=by simpa using hb
  subst e
  exact⟨_,st,λv z=>by
   have z':Data.fields _=Data.cell v:=z
   cases z'⟩
 keep:=λi h h' st k=>k it (by simp) _ st
 item:=by
  intro X hP hw hK hc i pins s Y H E I hf st hg;subst hP hw hK
  obtain⟨f0,f1,f2,f3,f4,f5⟩:=hf it (by simp)
  have W:=Walks.range (prog:=X.prog) (w:=X.w) (I.ok.hd hc) it lo 1 n;refine W.item i s _ _ hg st λv h' tk hv st' kk=>?_;obtain⟨t,rfl⟩:=hv
  have I1:Inv X pins Y H {s with heap:=h',toks:=tk}:=I.turned (λb o hb e=>kk b o (by simpa using hb) e) f0 f1 f3 f4 f5
  refine⟨_,rfl,QcV (s:={s with heap:=h',toks:=tk}) (n:="range_iterator") st' rfl rfl (by decide) ⟨.int (lo+i),H,I1,⟨t,?_⟩,⟨rfl,rfl⟩,st',λb hb=>(hf b hb).1⟩⟩
  rw[Int.mul_one]
 done:=by
  intro X hP hw hK hc i pins s Y H E I hf st hg;subst hP hw hK
  obtain⟨f0,f1,f2,f3,f4,f5⟩:=hf it (by simp)
  exact wpAny_pyNext_range_end (I.ok.hd hc) st (by have:n<=i:=hg;omega) λh' eb=>⟨rfl,I.turned (t':=s.toks) (λb o hb e=>eb b o hb e) f0 f1 f3 f4 f5⟩
 self:=λy y y y y st h=>Ts st h
end
section
variable {H:Hp}{pins:List (Addr×Obj)}{fp:List Addr}{s:Shared}{Y:St}
section
variable {X:Cx}{tg:Expr}
def QoL(K:W.Frag)(tl:TE):TI:=λY H R=>tl Y H λx H1=>∃a,x=.ref a/\(∃xs,SqL K H1 a xs)/\R (Itl K a) H1
def Qq3(K:W.Frag)(tl:TE):TI:=λY H R=>tl Y H λx H1=>∃a,x=.ref a/\(∃xs,SqT K H1 a xs)/\R (Itt K a) H1
def Qi2{l:Expr}{tl:TE}(hl:PE X l tl):PI X tg l (QoL X.K tl):=by
 intro pins s Y H R I h;refine thn (hl pins s Y H _ I h) λv s1 z=>?_;obtain⟨x,H1,I1,r1,q1⟩:=z;obtain⟨a,e,⟨xs,hq⟩,q⟩:=q1;subst e;cases r1;obtain⟨its,rv,p,hz⟩:=I1.list hq;refine wpAny_pyIter_list p.isList ?_;refine⟨s1.heap.objs.size,[s1.heap.objs.size],_,_,H1,rfl,I1.kept (t':=s1.toks) λb o e=>Xf _ e,Qdu a _,⟨_,Xy _ rfl,rfl,rfl⟩,λb hb=>?_,q⟩
 have e:b=s1.heap.objs.size:=by simpa using hb
 subst e;exact I1.fpOk (Xg _) (I1.hok.fresh (Xg _))
def QlH{l:Expr}{tl:TE}(hl:PE X l tl):PI X tg l (Qq3 X.K tl):=by
 intro pins s Y H R I h;refine thn (hl pins s Y H _ I h) λv s1 z=>?_;obtain⟨x,H1,I1,r1,q1⟩:=z;obtain⟨a,e,⟨xs,hq⟩,q⟩:=q1;subst e;cases r1;obtain⟨its,rv,p,hz⟩:=I1.tuple hq;refine wpAny_pyIter_tuple (show s1.heap.IsTuple a its.toArray from p) ?_;refine⟨s1.heap.objs.size,[s1.heap.objs.size],_,_,H1,rfl,I1.kept (t':=s1.toks) λb o e=>Xf _ e,QcG a _,⟨_,Xy _ rfl,rfl,rfl⟩,λb hb=>?_,q⟩
 have e:b=s1.heap.objs.size:=by simpa using hb
 subst e;exact I1.fpOk (Xg _) (I1.hok.fresh (Xg _))
def Qf7{R:It->Hp->Prop}{E:Value->Shared->Prop}{lo hi:Int}{t u v:Tok}{tk:Nat}(I:Inv X pins Y H s)(h1:-(2 ^ 62)<=lo)(h2:lo<2 ^ 62)(h3:-(2 ^ 62)<=hi)(h4:hi<2 ^ 62)
  (q:R (Itr lo (hi-lo).toNat) H):wpAny (model X.prog X.w) X.A (pyIter (.ref s.heap.objs.size)) (PIE X pins Y tg R) E {s with heap:=s.heap.push {cls:=.type "range",data:=.fields #[.int lo t,.int hi u,.int 1 v]},toks:=tk}:=by
 refine wpAny_pyIter_range (IsRange.new ..) (small_one h1 h2 h3 h4) ?_;have I1:Inv X pins Y H {s with heap:=s.heap.push {cls:=.type "range",data:=.fields #[.int lo t,.int hi u,.int 1 v]},toks:=tk}:=I.kept λb o e=>Xf _ e
 refine⟨(s.heap.push {cls:=.type "range",data:=.fields #[.int lo t,.int hi u,.int 1 v]}).objs.size,[(s.heap.push {cls:=.type "range",data:=.fields #[.int lo t,.int hi u,.int 1 v]}).objs.size],_,_,H,rfl,
  I1.kept (t':=tk) λb o e=>Xf _ e,QcH _ lo (hi-lo).toNat,?_,λb hb=>?_,q⟩
 ·have e1:lo+((0:Nat):Int)*1=lo:=by simp
  have e2:(((hi-lo).toNat:Nat):Int) - ((0:Nat):Int)=Builtin.Range.rangeSize lo hi 1:=by rw[rangeSize_one];split<;>omega
  show IsRangeIter _ _ (lo+((0:Nat):Int)*1) ((((hi-lo).toNat:Nat):Int) - ((0:Nat):Int)) 1;rw[e1,e2];exact Xy _ rfl
 ·have e:b=(s.heap.push {cls:=.type "range",data:=.fields #[.int lo t,.int hi u,.int 1 v]}).objs.size:=by simpa using hb
  subst e;exact I1.fpOk (Xg _) (I1.hok.fresh (Xg _))
def QoJ(ta:TA):TI:=λY H R=>ta Y H λvs H1=>∃j:Int,vs=[.int j]/\-(2 ^ 62)<=j/\j<2 ^ 62/\R (Itr 0 j.toNat) H1
def Qd5{a:Expr}{ta:TA}{p pos:Pos}(hg:Gl X "range")(hm:X.mg "range"=none)(ha:PA X [a] ta)(hs:starEach [a] X.env=[(false,eval a X.env)]:=by rfl):PI X tg (.Call (.Name "range" p) [a] [] pos) (QoJ ta):=by
 intro pins s Y H R I h;refine Call_ (ZD I hg hm boot_range (Wv (thn (ha pos pins s Y H _ I h) λus s1 z=>?_) hs rfl));obtain⟨vs,H1,I1,r1,q1⟩:=z;obtain⟨j,e,q1,q2,q⟩:=q1;subst e
 cases r1 with
 |cons r rr=>
  cases rr;obtain⟨t,rfl⟩:=r
  exact call_range_1 (Qf7 I1 (by omega) (by omega) q1 q2 (by simpa using q))
def QqF(wi:TI)(g:TG)(tb:TS):TS:=λD Y H=>wi Y H λJ H1=>∃W:Nat->Nat->St->Hp->Prop,(∃m,W 0 m Y H1)/\∀i m Y H,W i m Y H ->
 (J.stop i H/\D.nx Y H)\/(J.go i H/\∃N:St->Hp->Prop,(∀Y' H',N Y' H'->∃m',m'<m/\W (i+1) m' Y' H')/\∀x H',J.yld i H x H'->g x Y H' λσ2 H2=>tb {D with nx:=N,ct:=N,bk:=D.nx} σ2 H2)
noncomputable def YS(fp:List Addr)(h:Heap):List (Addr×Obj):=fp.filterMap λb=>(h.get? b).map λo=>(b,o)
def Zj{h:Heap}{b:Addr}{o:Obj}(hb:b∈fp)(e:h.get? b=some o):(b,o)∈YS fp h:=Sj.mpr ⟨b,hb,by rw[e];rfl⟩
def Qea{h:Heap}{p:Addr×Obj}(hp:p∈YS fp h):p.1∈fp/\h.get? p.1=some p.2:=by
 obtain⟨b,hb,e⟩:=Sj.mp hp
 cases q:h.get? b with
 |none=>rw[q]at e;cases e
 |some o=>
  rw[q]at e;have e':(b,o)=p:=X8 e;subst e';exact⟨hb,q⟩
def Inv.pinned(I:Inv X pins Y H s)(hf:∀b∈fp,QcE X pins H b)(ho:∀b∈fp,∃o,s.heap.get? b=some o/\∀v,o.data≠.cell v):Inv X (pins++YS fp s.heap) Y H s :=
 I.pins_of λp hp=>(Wo.mp hp).elim (λz=>I.pin p (Wp _ z)) λz=>by
  obtain⟨hb,e⟩:=Qea z;obtain⟨f0,f1,f2,_⟩:=hf p.1 hb;obtain⟨o,e',d⟩:=ho p.1 hb;rw[e]at e';cases e';exact⟨e,f0,f1,f2,d⟩
def Inv.unpinned{pl:List (Addr×Obj)}(I:Inv X (pins++pl) Y H s):Inv X pins Y H s:=I.pins_of λp hp=>I.pin p (Wp _ (Uf _ hp))
def QdY{iter:Expr}{body:List Stmt}{wi:TI}{g:TG}{tb:TS}{pos:Pos}(hp:PassesOwn (model X.prog X.w) X.A X.env X.xe)(hc:X.calm=true)(hi:PI X tg iter wi)(hg:PG X tg g)(hb:PSs X body tb)
  (hs:∀x,foldedSetIterable iter X.env x=pure x:=by intro _;rfl):PS X (.For tg iter body [] pos) (QqF wi g tb):=by
 intro pins s Y H D I h;refine wpAny_For (thn (hi pins s Y H _ I h) λv s1 h1=>thn h1 λitv s2 h2=>?_) hs;obtain⟨it,fp,tn,J,H2,e,I2,T,st2,f2,W,⟨m0,w0⟩,turn⟩:=h2;subst e
 have stat:∀{H':Hp},(∀b∈fp,H' b=none)->∀b∈fp,QcE X pins H' b:=λhn b hb=>⟨hn b hb,(f2 b hb).2⟩;refine codeAny_forLoop_any (λn s'=>∃i Y' H',Inv X pins Y' H' s'/\tn i s'.heap/\(∀b∈fp,H' b=none)/\W i n Y' H') ?_ m0 ⟨0,Y,H2,I2,st2,λb hb=>(f2 b hb).1,w0⟩;rintro n s3 ⟨i,σ3,H3,I3,st3,fr3,w3⟩
 rcases turn i n σ3 H3 w3 with⟨stop,qn⟩|⟨go,N,hN,step⟩
 ·refine U8 hp (thn (T.done X rfl rfl rfl hc i pins s3 σ3 H3 X.xe I3 (stat fr3) st3 stop) λr s4 z=>?_);obtain⟨hr,I4⟩:=z;subst hr;exact T4 ⟨σ3,H3,I4,qn⟩
 ·refine U8 hp (thn (T.item X rfl rfl rfl hc i pins s3 σ3 H3 X.xe I3 (stat fr3) st3 go) λr s4 y=>?_);obtain⟨u,hr,h4⟩:=y;subst hr;refine U8 hp (thn h4 λt s5 q=>?_);obtain⟨x,H5,I5,r5,y5,st5,fr5⟩:=q;have I5':=I5.pinned (stat fr5) (T.obj _ _ st5);refine U8 hp (thn (hg _ s5 σ3 H5 x u _ I5' r5 (step x H5 y5)) λt s6 p=>?_);obtain⟨σ6,H6,I6,q6⟩:=p;refine U8 hp (thn (hb _ s6 σ6 H6 _ I6 q6) λf s7 q7=>?_)
  have again:∀{σ7:St} {H7:Hp},Inv X (pins++YS fp s5.heap) σ7 H7 s7->N σ7 H7->∃m,m<n/\∃i Y' H',Inv X pins Y' H' s7/\tn i s7.heap/\(∀b∈fp,H' b=none)/\W i m Y' H':=λ{σ7 H7} I7 n7=>by
   obtain⟨m',hm,w7⟩:=hN σ7 H7 n7;refine⟨m',hm,i+1,σ7,H7,I7.unpinned,T.keep _ _ _ st5 λb hb o e=>(I7.pin (b,o) (Wp _ (Wp _ (Zj hb e)))).1,λb hb=>?_,w7⟩;obtain⟨o,e,d⟩:=T.obj _ _ st5 b hb;exact(I7.pin (b,o) (Wp _ (Wp _ (Zj hb e)))).2.1
  cases f with
  |next=>obtain⟨σ7,H7,I7,n7⟩:=q7;exact again I7 n7
  |cont=>obtain⟨σ7,H7,I7,n7⟩:=q7;exact again I7 n7
  |brk=>obtain⟨σ7,H7,I7,q7⟩:=q7;exact⟨σ7,H7,I7.unpinned,q7⟩
  |ret v=>obtain⟨x7,σ7,H7,I7,r7,q7⟩:=q7;exact⟨x7,σ7,H7,I7.unpinned,r7,q7⟩
end
end
section
variable {f:Value->Value->Sem Value}
abbrev R2:=V->V->Hp->VK->Prop
noncomputable def OpR(X:Cx)(f:Value->Value->Sem Value)(r:R2):Prop :=
 ∀(pins:List (Addr×Obj)) (s:Shared) (Y:St) (H:Hp) (x y:V) (v u:Value) (Q:VK),Inv X pins Y H s->RelV x v->RelV y u->r x y H Q ->
  wpAny (model X.prog X.w) X.A (f v u) (EP X pins Y Q) X.xe s
noncomputable def UnR(X:Cx)(f:Value->Sem Value)(r:V->Hp->VK->Prop):Prop :=
 ∀(pins:List (Addr×Obj)) (s:Shared) (Y:St) (H:Hp) (x:V) (v:Value) (Q:VK),Inv X pins Y H s->RelV x v->r x H Q ->
  wpAny (model X.prog X.w) X.A (f v) (EP X pins Y Q) X.xe s
noncomputable def CallR(X:Cx)(f:Value)(r:List V->Hp->VK->Prop):Prop :=
 ∀(pins:List (Addr×Obj)) (s:Shared) (Y:St) (H:Hp) (xs:List V) (us:List Value) (Q:VK),Inv X pins Y H s->Vals xs us->r xs H Q ->
  wpAny (model X.prog X.w) X.A (call f us) (EP X pins Y Q) X.xe s
noncomputable def QrV(X:Cx)(r:V->Hp->(Bool->Hp->Prop)->Prop):Prop :=
 ∀(pins:List (Addr×Obj)) (s:Shared) (Y:St) (H:Hp) (x:V) (v:Value) (Q:Bool->Hp->Prop),Inv X pins Y H s->RelV x v->r x H Q ->
  wpAny (model X.prog X.w) X.A (truthy v) (TP X pins Y Q) X.xe s
def tOp(r:R2)(ta tb:TE):TE:=λY H Q=>ta Y H λx H1=>tb Y H1 λy H2=>r x y H2 Q
def tUn(r:V->Hp->VK->Prop)(ta:TE):TE:=λY H Q=>ta Y H λx H1=>r x H1 Q
def rI(C:Int->Int->Prop)(g:Int->Int->V):R2:=λx y H Q=>∃i j,x=.int i/\y=.int j/\C i j/\Q (g i j) H
def rI0(g:Int->Int->V):R2:=λx y H Q=>∃i j,x=.int i/\y=.int j/\Q (g i j) H
def rU(g:Int->V):V->Hp->VK->Prop:=λx H Q=>∃i,x=.int i/\Q (g i) H
section
variable {X:Cx}{a b:Expr}{ta tb:TE}{pos:Pos}
def Qpj(ha:PE X a ta)(hb:PE X b tb){pins:List (Addr×Obj)}{s:Shared}{Y:St}{H:Hp}{R:V->V->Hp->Prop}(I:Inv X pins Y H s)
  (h:ta Y H λx H1=>tb Y H1 λy H2=>R x y H2) {Q:Value->Shared->Prop}
  (hf:∀v u s2 x y H2,Inv X pins Y H2 s2->RelV x v->RelV y u->R x y H2->wpAny (model X.prog X.w) X.A (f v u) Q X.xe s2):
  wpAny (model X.prog X.w) X.A (eval a X.env) (λv s₁=>wpAny (model X.prog X.w) X.A (eval b X.env) (λu s₂=>wpAny (model X.prog X.w) X.A (f v u) Q X.xe s₂) X.xe s₁) X.xe s:=by
 refine thn (ha pins s Y H _ I h) λv s1 z=>?_;obtain⟨x,H1,I1,r1,q1⟩:=z;refine thn (hb pins s1 Y H1 _ I1 q1) λu s2 t=>?_;obtain⟨y,H2,I2,r2,q2⟩:=t;exact hf v u s2 x y H2 I2 r1 r2 q2
def Qoh{op:Operator}{r:R2}(ho:OpR X (binaryOp op) r)(ha:PE X a ta)(hb:PE X b tb):PE X (.BinOp a op b pos) (tOp r ta tb):=by
 intro pins s Y H Q I h;exact wpAny_BinOp (Qpj ha hb I h λv u s2 x y H2 I2 rx ry q=>ho pins s2 Y H2 x y v u Q I2 rx ry q)
def QlN{op:UnaryOp}{r:V->Hp->VK->Prop}(ho:UnR X (unaryOp op) r)(ha:PE X a ta):PE X (.UnaryOp op a pos) (tUn r ta):=by
 intro pins s Y H Q I h;exact UnaryOp_ (thn (ha pins s Y H _ I h) λv s1 z=>by obtain⟨x,H1,I1,r1,q1⟩:=z;exact ho pins s1 Y H1 x v Q I1 r1 q1)
def opI{C:Int->Int->Prop}{g:Int->Int->Int}
  (rule:∀(i j:Int) (t u:Tok) (s:Shared) (Q:Value->Shared->Prop) (E:Value->Shared->Prop),C i j->Q (.int (g i j) s.toks) {s with toks:=s.toks+1}->wpAny (model X.prog X.w) X.A (f (.int i t) (.int j u)) Q E s):
  OpR X f (rI C λi j=>.int (g i j)):=by
 intro pins s Y H x y v u Q I rx ry h;obtain⟨i,j,rfl,rfl,hc,q⟩:=h;obtain⟨t,rfl⟩:=rx;obtain⟨t',rfl⟩:=ry;exact rule i j t t' s _ _ hc ⟨.int (g i j),H,I.tok _,⟨_,rfl⟩,q⟩
def Qp5{g:Int->Int->Int}
  (rule:∀(i j:Int) (t u:Tok) (s:Shared) (Q:Value->Shared->Prop) (E:Value->Shared->Prop),Q (.int (g i j) s.toks) {s with toks:=s.toks+1}->wpAny (model X.prog X.w) X.A (f (.int i t) (.int j u)) Q E s):
  OpR X f (rI0 λi j=>.int (g i j)):=by
 intro pins s Y H x y v u Q I rx ry h;obtain⟨i,j,rfl,rfl,q⟩:=h;obtain⟨t,rfl⟩:=rx;obtain⟨t',rfl⟩:=ry;exact rule i j t t' s _ _ ⟨.int (g i j),H,I.tok _,⟨_,rfl⟩,q⟩
def Qng{g:Int->Int->Bool}
  (rule:∀(i j:Int) (t u:Tok) (s:Shared) (Q:Value->Shared->Prop) (E:Value->Shared->Prop),Q (.bool (g i j)) s->wpAny (model X.prog X.w) X.A (f (.int i t) (.int j u)) Q E s):
  OpR X f (rI0 λi j=>.bl (g i j)):=by
 intro pins s Y H x y v u Q I rx ry h;obtain⟨i,j,rfl,rfl,q⟩:=h;obtain⟨t,rfl⟩:=rx;obtain⟨t',rfl⟩:=ry;exact rule i j t t' s _ _ ⟨.bl (g i j),H,I,rfl,q⟩
def CMul(i j:Int):Prop:=(-(2 ^ 64) < i/\i<2 ^ 64)\/(-(2 ^ 64) < j/\j<2 ^ 64)
def CMul.ok{i j:Int}(h:CMul i j):IntMulOk i j:=by
 rcases h with⟨h1,h2⟩|⟨h1,h2⟩
 ·exact .of_left (intBits_le_64 h1 h2)
 ·exact .of_right (intBits_le_64 h1 h2)
def Ql6:OpR X (binaryOp .Add) (rI0 λi j=>.int (i+j)):=Qp5 λz z z z z z z q=>add_int q
def QlU:OpR X (binaryOp .Sub) (rI0 λi j=>.int (i-j)):=Qp5 λz z z z z z z q=>sub_int q
def QlY:OpR X (binaryOp .Mod) (rI (λz j=>0<j) λi j=>.int (i % j)):=opI λi j z z z z z hc q=>by
 have h1:(0:Int) < j:=hc
 exact mod_int' (by omega) (by rw[Int.fmod_eq_emod_of_nonneg i (by omega)];exact q)
def unI{f:Value->Sem Value}{g:Int->Int}
  (rule:∀(i:Int) (t:Tok) (s:Shared) (Q:Value->Shared->Prop) (E:Value->Shared->Prop),Q (.int (g i) s.toks) {s with toks:=s.toks+1}->wpAny (model X.prog X.w) X.A (f (.int i t)) Q E s):
  UnR X f (rU λi=>.int (g i)):=by
 intro pins s Y H x v Q I rx h;obtain⟨i,rfl,q⟩:=h;obtain⟨t,rfl⟩:=rx;exact rule i t s _ _ ⟨.int (g i),H,I.tok _,⟨_,rfl⟩,q⟩
def Qhl:UnR X (unaryOp .USub) (rU λi=>.int (-i)):=unI λz z z z z q=>neg_int q
end
noncomputable def QnY:V->V->Bool
 |.non,.non=>true|.non,.int _=>true|.int _,.non=>true|.non,.bl _=>true|.bl _,.non=>true|.non,.str _=>true|.str _,.non=>true
 |.int _,.int _=>true|.bl _,.bl _=>true|.str _,.str _=>true|.byt _,.byt _=>true
 |.int _,.str _=>true|.str _,.int _=>true|.bl _,.str _=>true|.str _,.bl _=>true
 |_,_=>false
def rEq:R2:=λx y H Q=>QnY x y=true/\Q (.bl (decide (x=y))) H
def rNe:R2:=λx y H Q=>QnY x y=true/\Q (.bl (!decide (x=y))) H
def Qe5{i j:Int}:decide (V.int i=V.int j)=(i==j):=by
 rw[Vn];simp
def Qh4{i j:Bool}:decide (V.bl i=V.bl j)=(i==j):=by
 rw[Vn];simp
def Qe4{i j:Str}:decide (V.str i=V.str j)=(i==j):=by
 rw[Vn];simp
def Qe6{i j:Array UInt8}:decide (V.byt i=V.byt j)=(i.toList==j.toList):=by
 rw[Vn];cases i;cases j;simp
section
variable {X:Cx}{a b c:Expr}{ta tb:TE}{pos:Pos}
def Qs{pins:List (Addr×Obj)}{Y:St}{H:Hp}{s:Shared}{Q:VK}{k k':Bool}(I:Inv X pins Y H s)(q:Q (.bl k) H)(e:k=k'):EP X pins Y Q (.bool k') s:=by
 subst e;exact⟨.bl k,H,I,rfl,q⟩
def Qor:OpR X (compareOp .Eq) rEq:=by
 intro pins s Y H x y v u Q I rx ry h;obtain⟨hs,q⟩:=h
 cases x with
 |non=>
  cases rx
  cases y with
  |non=>cases ry;exact PySem.EqNone.eq_none_none (Qs I q (by simp))
  |bl j=>cases ry;exact PySem.EqNone.eq_none_bool (Qs I q (by simp))
  |int j=>obtain⟨t',rfl⟩:=ry;exact PySem.EqNone.eq_none_int (Qs I q (by simp))
  |str j=>obtain⟨t',rfl⟩:=ry;exact PySem.EqNone.eq_none_str (Qs I q (by simp))
  |_=>exact absurd (show false=true from hs) X3
 |bl i=>
  cases rx
  cases y with
  |non=>cases ry;exact PySem.EqNone.eq_bool_none (Qs I q (by simp))
  |bl j=>cases ry;exact eq_bool (Qs I q Qh4)
  |str j=>obtain⟨t',rfl⟩:=ry;exact PySem.EqMixed.eq_bool_str (Qs I q (by simp))
  |_=>exact absurd (show false=true from hs) X3
 |int i=>
  obtain⟨t,rfl⟩:=rx
  cases y with
  |non=>cases ry;exact PySem.EqNone.eq_int_none (Qs I q (by simp))
  |int j=>obtain⟨t',rfl⟩:=ry;exact eq_int (Qs I q Qe5)
  |str j=>obtain⟨t',rfl⟩:=ry;exact PySem.EqMixed.eq_int_str (Qs I q (by simp))
  |_=>exact absurd (show false=true from hs) X3
 |str i=>
  obtain⟨t,rfl⟩:=rx
  cases y with
  |non=>cases ry;exact PySem.EqNone.eq_str_none (Qs I q (by simp))
  |bl j=>cases ry;exact PySem.EqMixed.eq_str_bool (Qs I q (by simp))
  |int j=>obtain⟨t',rfl⟩:=ry;exact PySem.EqMixed.eq_str_int (Qs I q (by simp))
  |str j=>obtain⟨t',rfl⟩:=ry;exact eq_str (Qs I q Qe4)
  |_=>exact absurd (show false=true from hs) X3
 |byt i=>
  obtain⟨t,rfl⟩:=rx
  cases y with
  |byt j=>obtain⟨t',rfl⟩:=ry;exact W.eq_bytes (Qs I q Qe6)
  |_=>exact absurd (show false=true from hs) X3
 |_=>cases y<;>exact absurd (show false=true from hs) X3
def Qom:OpR X (compareOp .NotEq) rNe:=by
 intro pins s Y H x y v u Q I rx ry h;obtain⟨hs,q⟩:=h
 cases x with
 |non=>
  cases rx
  cases y with
  |non=>cases ry;exact PySem.EqNone.ne_none_none (Qs I q (by simp))
  |bl j=>cases ry;exact PySem.EqNone.ne_none_bool (Qs I q (by simp))
  |int j=>obtain⟨t',rfl⟩:=ry;exact PySem.EqNone.ne_none_int (Qs I q (by simp))
  |str j=>obtain⟨t',rfl⟩:=ry;exact PySem.EqNone.ne_none_str (Qs I q (by simp))
  |_=>exact absurd (show false=true from hs) X3
 |bl i=>
  cases rx
  cases y with
  |non=>cases ry;exact PySem.EqNone.ne_bool_none (Qs I q (by simp))
  |bl j=>cases ry;exact ne_bool (Qs I q (congrArg not Qh4))
  |str j=>obtain⟨t',rfl⟩:=ry;exact PySem.EqMixed.ne_bool_str (Qs I q (by simp))
  |_=>exact absurd (show false=true from hs) X3
 |int i=>
  obtain⟨t,rfl⟩:=rx
  cases y with
  |non=>cases ry;exact PySem.EqNone.ne_int_none (Qs I q (by simp))
  |int j=>obtain⟨t',rfl⟩:=ry;exact ne_int (Qs I q (congrArg not Qe5))
  |str j=>obtain⟨t',rfl⟩:=ry;exact PySem.EqMixed.ne_int_str (Qs I q (by simp))
  |_=>exact absurd (show false=true from hs) X3
 |str i=>
  obtain⟨t,rfl⟩:=rx
  cases y with
  |non=>cases ry;exact PySem.EqNone.ne_str_none (Qs I q (by simp))
  |bl j=>cases ry;exact PySem.EqMixed.ne_str_bool (Qs I q (by simp))
  |int j=>obtain⟨t',rfl⟩:=ry;exact PySem.EqMixed.ne_str_int (Qs I q (by simp))
  |str j=>obtain⟨t',rfl⟩:=ry;exact ne_str (Qs I q (congrArg not Qe4))
  |_=>exact absurd (show false=true from hs) X3
 |byt i=>
  obtain⟨t,rfl⟩:=rx
  cases y with
  |byt j=>obtain⟨t',rfl⟩:=ry;exact W.ne_bytes (Qs I q (congrArg not Qe6))
  |_=>exact absurd (show false=true from hs) X3
 |_=>cases y<;>exact absurd (show false=true from hs) X3
def Qon:OpR X (compareOp .Lt) (rI0 λi j=>.bl (decide (i<j))):=Qng λz z z z z z z q=>lt_int q
def Qoo:OpR X (compareOp .LtE) (rI0 λi j=>.bl (decide (i<=j))):=Qng λz z z z z z z q=>le_int q
def Qop:OpR X (compareOp .Gt) (rI0 λi j=>.bl (decide (j<i))):=Qng λz z z z z z z q=>gt_int q
def Qoq:OpR X (compareOp .GtE) (rI0 λi j=>.bl (decide (j<=i))):=Qng λz z z z z z z q=>ge_int q
def QlZ:OpR X (compareOp .Is) (λx y H Q=>y=.non/\Q (.bl (decide (x=.non))) H):=by
 intro pins s Y H x y v u Q I rx ry h;obtain⟨rfl,q⟩:=h;cases ry;refine is_none_gen (Qs I q ?_)
 cases x<;>first
  | (cases rx;rfl)
  | (obtain⟨t,rfl⟩:=rx;rfl)
def Qjc:OpR X (compareOp .IsNot) (λx y H Q=>y=.non/\Q (.bl (!decide (x=.non))) H):=by
 intro pins s Y H x y v u Q I rx ry h;obtain⟨rfl,q⟩:=h;cases ry;refine isnot_none_gen (Qs I q ?_)
 cases x<;>first
  | (cases rx;rfl)
  | (obtain⟨t,rfl⟩:=rx;rfl)
def OpR.or{r r':R2}(h:OpR X f r)(h':OpR X f r'):OpR X f (λx y H Q=>r x y H Q\/r' x y H Q):=by
 intro pins s Y H x y v u Q I rx ry q
 rcases q with q|q
 ·exact h pins s Y H x y v u Q I rx ry q
 ·exact h' pins s Y H x y v u Q I rx ry q
def Qi8{op:CmpOp}{r:R2}(ho:OpR X (compareOp op) r)(ha:PE X a ta)(hb:PE X b tb)(hm:behindInMarks op b=false):PE X (.Compare a [op] [b] pos) (tOp r ta tb):=by
 intro pins s Y H Q I h;exact wpAny_Compare1 (Qpj ha hb I h λv u s2 x y H2 I2 rx ry q=>ho pins s2 Y H2 x y v u Q I2 rx ry q) hm
def QnL(t:TE):TT:=λY H Q=>t Y H λx H'=>∃k,x=.bl k/\Q k H'
def QiS{op:CmpOp}{r:R2}(ho:OpR X (compareOp op) r)(ha:PE X a ta)(hb:PE X b tb)(hm:behindInMarks op b=false):PT X (.Compare a [op] [b] pos) (QnL (tOp r ta tb)):=by
 intro pins s Y H Q I h
 refine wpAny_isTrue_Compare1 (thn (ha pins s Y H _ I h) λv s1 ⟨x,H1,I1,r1,q1⟩=>thn (hb pins s1 Y H1 _ I1 q1) λu s2 ⟨y,H2,I2,r2,q2⟩=>
  thn (ho pins s2 Y H2 x y v u _ I2 r1 r2 q2) λc s3 ⟨z,H3,I3,r3,k,e,q3⟩=>?_) hm
 subst e;cases r3;exact Uv ⟨H3,I3,q3⟩
noncomputable def Qm2(K:W.Frag)(x:V)(H:Hp)(k:Bool):Prop :=
 match x with
 |.non=>k=false
 |.bl b=>k=b
 |.int i=>k=(i != 0)
 |.str y=>y.length<=sizeLine/\k=((y.length:Int) != 0)
 |.byt y=>y.size<=sizeLine/\k=((y.size:Int) != 0)
 |.ref p=>(∃xs,SqL K H p xs/\k=!xs.isEmpty)\/(∃xs,SqT K H p xs/\k=!xs.isEmpty)\/∃kvs,H p=some (.dK kvs)/\k=!kvs.isEmpty
 |_=>False
def QcT{κ:Type}{kvs:List (κ×V)}{vs:List (κ×Value)}(r:KV kvs vs):(!vs.isEmpty)=!kvs.isEmpty:=by
 cases r<;>rfl
def Js{xs:List V}{its:List Value}(r:Vals xs its):(!its.toArray.isEmpty)=!xs.isEmpty:=by
 cases r<;>simp
def Jn:(sizeLine:Nat) < 2 ^ 63:=by rw[Vy];decide
def Qhn:QrV X (λx H Q=>∃k,Qm2 X.K x H k/\Q k H):=by
 intro pins s Y H x v Q I rx h;obtain⟨k,e,q⟩:=h;have hl:=Jn;have hs:sizeLine=16777216:=Vy
 cases x with
 |non=>
  cases rx;have e':k=false:=e;subst e';exact truthy_none ⟨H,I,q⟩
 |bl b=>
  cases rx;have e':k=b:=e;subst e';exact Uv ⟨H,I,q⟩
 |int i=>
  obtain⟨t,rfl⟩:=rx;have e':k=(i != 0):=e;subst e';exact PySem.P.truthy_int ⟨H,I,q⟩
 |str y=>
  obtain⟨t,rfl⟩:=rx;obtain⟨hy,e'⟩:y.length<=sizeLine/\k=((y.length:Int) != 0):=e;subst e'
  exact PySem.P.truthy_str (by omega) ⟨H,I.tok _,q⟩
 |byt y=>
  obtain⟨t,rfl⟩:=rx;obtain⟨hy,e'⟩:y.size<=sizeLine/\k=((y.size:Int) != 0):=e;subst e'
  exact W.truthy_bytes (by omega) ⟨H,I.tok _,q⟩
 |ref p=>
  cases rx;have e':(∃xs,SqL X.K H p xs/\k=!xs.isEmpty)\/(∃xs,SqT X.K H p xs/\k=!xs.isEmpty)\/∃kvs,H p=some (.dK kvs)/\k=!kvs.isEmpty:=e
  rcases e' with⟨xs,hx,e'⟩|⟨xs,hx,e'⟩|⟨kvs,hx,e'⟩
  ·subst e';obtain⟨its,r,pl,hz⟩:=I.list hx;have hlen:=r.length
   exact wpAny_truthy_list pl.isList (by simp only[Xw];omega) ⟨H,I.tok _,by rw[Js r];exact q⟩
  ·subst e';obtain⟨its,r,pl,hz⟩:=I.tuple hx;have hlen:=r.length
   exact truthy_tuple pl (by simp only[Xw];omega) ⟨H,I.tok _,by rw[Js r];exact q⟩
  ·subst e';obtain⟨hz,hS,vs,r,m⟩:kvs.length<=sizeLine/\(p==sysModules)=false/\∃vs,KV kvs vs/\s.heap.DictOf (Ql X.prog X.w) p vs:=I.hok p _ hx;have hlen:kvs.length=vs.length:=Wq r
   exact wpAny_truthy_dict hS m (by omega) ⟨H,I.tok _,by rw[QcT r];exact q⟩
 |_=>exact(show False from e).elim
def Qgb(ha:PE X a ta)(he:∀whole,isTrue a X.env whole=(do let v <-whole;standAt a.pos;holding [v] (truthy v))):
  PT X a (λY H Q=>ta Y H λx H'=>∃k,Qm2 X.K x H' k/\Q k H'):=by
 intro pins s Y H Q I h;exact isTrue_plain (thn (ha pins s Y H _ I h) λv s1 z=>by obtain⟨x,H1,I1,r1,q1⟩:=z;exact Qhn pins s1 Y H1 x v Q I1 r1 q1) (he _)
def Ja{x:V}{us:List Value}(r:Vals [x] us):∃u,us=[u]/\RelV x u:=by
 cases r with
 |cons r1 r2=>cases r2;exact⟨_,rfl,r1⟩
def Qa9{x y:V}{us:List Value}(r:Vals [x,y] us):∃u w',us=[u,w']/\RelV x u/\RelV y w':=by
 cases r with
 |cons r1 r2=>
  cases r2 with
  |cons r3 r4=>cases r4;exact⟨_,_,rfl,r1,r3⟩
def Qfk(hc:X.calm=true): CallR X (.builtin "max") (λxs H Q=>∃i j,xs=[.int i,.int j]/\Q (.int (if j>i then j else i)) H):= by
 intro pins s Y H xs us Q I r h;obtain⟨i,j,rfl,q⟩:=h;obtain⟨u,w',rfl,⟨t,rfl⟩,⟨t',rfl⟩⟩:=Qa9 r;refine max_two_ints (I.ok.hd hc) λh' tk k=>⟨_,H,I.kept k,?_,q⟩;by_cases hj:j>i
 ·rw[if_pos hj,if_pos hj];exact⟨_,rfl⟩
 ·rw[if_neg hj,if_neg hj];exact⟨_,rfl⟩
end
end
section
variable {C dx:Addr}{A:Around}{X:Cx}{h:Heap}{H:Hp}{s:Shared}{mA:Str->Option Value}
structure ObjM(h:Heap)(x dx C:Addr)(mA:Str->Option Value):Prop where
 obj:h.get? x=some (W.instObj C dx)
 ns:h.Ns1 dx mA
 ne:dx≠x
def Qet(n:h.Ns1 dx mA):∃od,h.get? dx=some od/\∀name,W.lookIn name od=some (mA name):=by
 obtain⟨o,es,ep,ho,hd,hk,_,hm⟩:=n;refine⟨o,ho,λname=>?_⟩;have e:=hm name;unfold nsFind findBy at e;rw[<-Array.find?_toList]at e;unfold W.lookIn;rw[hd];dsimp only;split
 ·rename_i y q;rw[q]at e;exact congrArg some e
 ·rename_i q;rw[q]at e
  have a:es.toList.any (·.refKey)=false:=by
   rw[List.any_eq_false];intro y hy;obtain⟨z,t,hkey⟩:=hk y (Array.mem_toList_iff.mp hy);simp[DictEntry.refKey,hkey]
  have a':¬es.toList.any (·.refKey)=true:=by rw[a];exact X3
  rw[if_neg a'];exact congrArg some e
def ObjM.look{x:Addr}(I:ObjM h x dx C mA):∃od,W.InstAt h x (W.instObj C dx) C (some od)/\∀name,W.lookIn name od=some (mA name):=
 let ⟨od,ho,hl⟩:=Qet I.ns
 ⟨od,⟨I.obj,rfl,rfl,ho⟩,hl⟩
def RelO.some_of{v:V}{o:Option Value}(r:RelO (some v) o):∃u,o=some u/\RelV v u:=by
 cases o with
 |none=>exact(show False from r).elim
 |some u=>exact⟨u,rfl,r⟩
section
variable {P:Program}{w:World}{a:Addr}{fs:List (Str×V)}
def Qjy(hok:HOk P w H h)(e:H a=some (.ins C dx fs)):∃mA,ObjM h a dx C mA/\(∀f,RelO (fs.lookup f) (mA f))/\PySem.Within mA (fs.map (·.1))/\fs.length<=1000/\H dx=some (.own a):=by
 obtain⟨d,z,ne,ob,mA,n,r,q⟩:=(show ObjOk P w H h a (.ins C dx fs)from hok a _ e);exact⟨mA,⟨ob,n,ne⟩,r,q,z,d⟩
end
structure Cls(K:W.Frag)(C:Addr):Prop where
 pg:W.plainGet K C Str.empty=true
 hd:W.hasDictIn K C=true
 po:W.plainOver K C=true
 sa:W.findIn K (.ref C) "__setattr__"=some (some (.builtin "object.__setattr__"))
def Cls.get{K:W.Frag}(c:Cls K C)(f:Str):W.plainGet K C f=true:=c.pg
def Qm7(K:W.Frag)(C:Addr)(f:Str):Prop:=W.findIn K (.ref C) f=some none
structure Meth(K:W.Frag)(C:Addr)(m:Str)(f:Addr):Prop where
 at_:W.findIn K (.ref C) m=some (some (.ref f))
 fn:W.isFn K (.ref f)=true
 kp:W.keepIn K (.ref f)=true
section
variable {pins:List (Addr×Obj)}{Y:St}{E:Value->Shared->Prop}{Q:Value->Shared->Prop}{c:Value}{b:Bool}
inductive TyOf(K:W.Frag)(H:Hp):V->Value->Prop where
 |non:TyOf K H .non (.type "NoneType")
 |bl (x:Bool):TyOf K H (.bl x) (.type "bool")
 |int (i:Int):TyOf K H (.int i) (.type "int")
 |str (x:Str):TyOf K H (.str x) (.type "str")
 |flt (x:UInt64):TyOf K H (.flt x) (.type "float")
 |lst {a:Addr} {xs:List V} (e:H a=some (.lst xs)):TyOf K H (.ref a) (.type "list")
 |frz {a:Addr} {o:Obj} {xs:List V} (e:H a=some (.frz o (.lst xs))):TyOf K H (.ref a) (.type "list")
 |tup {a:Addr} {xs:List V} (e:H a=some (.tup xs)):TyOf K H (.ref a) (.type "tuple")
 |dK {a:Addr} {kvs:List (Key×V)} (e:H a=some (.dK kvs)):TyOf K H (.ref a) (.type "dict")
 |dT {a:Addr} {kvs:List (List Key×V)} (e:H a=some (.dT kvs)):TyOf K H (.ref a) (.type "dict")
 |ins {a C dx:Addr} {fs:List (Str×V)} (e:H a=some (.ins C dx fs)) (cl:Cls K C) (ha:W.findIn K (.ref C) "__class__"=some (some (.builtin "object.__class__")))
   (hn:W.specialIn K (.builtin "object.__class__") "__get__"=some (some (.builtin "getset_descriptor.__get__"))) (htk:W.takesIn K (.builtin "object.__class__")=some true)
   (hm:W.mroIn K C (.type "object")=some true):TyOf K H (.ref a) (.ref C)
def QeC{x:V}{u t:Value}(I:Inv X pins Y H s)(rx:RelV x u)(ty:TyOf X.K H x t)(e:W.kitOne X.K t c=some b)(h:∀tk,Q (.bool b) {s with toks:=tk}):
  wpAny (model X.prog X.w) A (call (.builtin "isinstance") [u,c]) Q E s:=by
 cases ty with
 |non=>cases(show u=Value.none from rx);exact V6 W.kitx_none I.kIn True.intro e (λz=>nomatch z) h
 |bl y=>cases(show u=Value.bool y from rx);exact V6 W.kitx_bool I.kIn True.intro e (λz=>nomatch z) h
 |int i=>obtain⟨t,q⟩:=(show ∃t,u=Value.int i t from rx);cases q;exact V6 W.kitx_int I.kIn True.intro e (λz=>nomatch z) h
 |str y=>obtain⟨t,q⟩:=(show ∃t,u=Value.str y t from rx);cases q;exact V6 W.kitx_str I.kIn True.intro e (λz=>nomatch z) h
 |flt y=>obtain⟨t,q⟩:=(show ∃t,u=Value.float y t from rx);cases q;exact V6 W.kitx_float I.kIn True.intro e (λz=>nomatch z) h
 | @lst a xs ea=>
  cases(show u=Value.ref a from rx);obtain⟨_,_,n,_,h1⟩:=(show ObjOk X.prog X.w H s.heap a (.lst xs)from I.hok a _ ea);exact V6 W.kitx_list I.kIn ⟨_,h1,rfl⟩ e (λz=>nomatch z) h
 | @frz a ob xs ea=>
  cases(show u=Value.ref a from rx);obtain⟨_,_,_,n,_,h1⟩:=(show ObjOk X.prog X.w H s.heap a (.frz ob (.lst xs))from I.hok a _ ea);exact V6 W.kitx_list I.kIn ⟨_,h1,rfl⟩ e (λz=>nomatch z) h
 | @tup a xs ea=>
  cases(show u=Value.ref a from rx);obtain⟨_,_,_,p⟩:=(show ObjOk X.prog X.w H s.heap a (.tup xs)from I.hok a _ ea);obtain⟨o,h1,h2,_⟩:=p;exact V6 W.kitx_tuple I.kIn ⟨o,h1,h2⟩ e (λz=>nomatch z) h
 | @dK a kvs ea=>
  cases(show u=Value.ref a from rx);obtain⟨_,_,vs,_,p⟩:=(show ObjOk X.prog X.w H s.heap a (.dK kvs)from I.hok a _ ea);obtain⟨o,es,ep,h1,h2,_⟩:=p;exact V6 W.kitx_dict I.kIn ⟨o,h1,h2.1⟩ e (λz=>nomatch z) h
 | @dT a kvs ea=>
  cases(show u=Value.ref a from rx);obtain⟨_,_,xs,_,o,es,ep,h1,h2,_⟩:=(show ObjOk X.prog X.w H s.heap a (.dT kvs)from I.hok a _ ea);exact V6 W.kitx_dict I.kIn ⟨o,h1,h2.1⟩ e (λz=>nomatch z) h
 | @ins a C dx fs ea cl ha hn htk hm=>
  cases(show u=Value.ref a from rx);obtain⟨mA,O,_⟩:=Qjy I.hok ea;obtain⟨od,J,_⟩:=O.look;exact V6 (W.kitx_own (cl.get _) cl.hd ha hn htk hm) I.kIn J e (λz=>nomatch z) h
end
end
section
variable {f:Addr}{A:Around}{X:Cx}{e:Expr}{fd:FuncData}{base:Heap}{H:Hp}{es:List Expr}{ps:List Str}{pos:Pos}{P:Program}{s:Shared}{x:Str}{mg:Str->Option Value}{w:World}
structure Room(k:Nat)(A:Around):Prop where
 hd:A.handled=none
 dp:A.depth+3*k+5<recursionLimit
 un:A.units+16*k+200<cLine
def Room.mono{j k:Nat}(r:Room k A)(h:j<=k):Room j A:=⟨r.hd,by have:=r.dp;omega,by have:=r.un;omega⟩
theorem Room.deeper{k:Nat}(r:Room (k+1) A)(env:Env):Room k (A.deeper env):=
 ⟨r.hd,by have:=r.dp;show A.depth+1+3*k+5<_;omega,by have:=r.un;show A.units+3+16*k+200<_;omega⟩
theorem Room.depth{k:Nat}(r:Room k A):A.depth<recursionLimit:=by have:=r.dp;omega
theorem Room.units{k:Nat}(r:Room k A):A.units+64<cLine:=by have:=r.un;omega
def QpI:TA:=λz H Q=>Q [] H
def QnQ(ta:TE)(tr:TA):TA:=λY H Q=>ta Y H λx H1=>tr Y H1 λxs H2=>Q (x::xs) H2
section
variable {te:TE}{t:TA}
def Ji:PA X [] QpI:=λz z z z H Q I h=>Ub ⟨[],H,I,.nil,h⟩
def Zv(ha:PE X e te)(hr:PA X es t)(hs:starEach (e::es) X.env=(false,eval e X.env)::starEach es X.env:=by rfl):PA X (e::es) (QnQ te t):=by
 intro pos pins s Y H Q I h;rw[hs];show wpAny _ _ (spliced ((false,eval e X.env)::backTo pos (starEach es X.env))) _ _ s;refine V7 (thn (ha pins s Y H _ I h) λu s1 z=>?_);obtain⟨x,H1,I1,r1,q1⟩:=z;exact thn (hr pos pins s1 Y H1 _ I1 q1) λus s2 y=>by obtain⟨xs,H2,I2,r2,q2⟩:=y;exact⟨x::xs,H2,I2,.cons r1 r2,q2⟩
def Qqy(t:TA):TE:=λY H Q=>t Y H λxs H1=>xs.length<=sizeLine/\∀p,H1 p=none->Q (.ref p) (upd H1 p (.tup xs))
def QqD(t:TA):TE:=λY H Q=>t Y H λxs H1=>xs.length<=sizeLine/\∀p,H1 p=none->Q (.ref p) (upd H1 p (.lst xs))
def QhJ{x1}(h:PA X es t):PE X (.Tuple es x1 pos) (Qqy t):=by
 intro pins s Y H Q I hq
 refine wpAny_Tuple_spliced (thn (h pos pins s Y H _ I hq) λus s1 ⟨xs,H1,I1,r,z,q⟩=>⟨by rw[<-r.length];exact z,?_⟩)
 have hf:H1 s1.heap.objs.size=none:=I1.hok.fresh (Xg _);refine⟨.ref s1.heap.objs.size,upd H1 s1.heap.objs.size (.tup xs),I1.laid (t':=s1.toks) (λb u e=>Xf _ e) (Xg _) ?_,rfl,q _ hf⟩;exact⟨z,us,r,⟨_,Xy _ rfl,rfl,_,rfl⟩⟩
def QlQ(h:PA X es t):PE X (.List es pos) (QqD t):=by
 intro pins s Y H Q I hq
 refine wpAny_List_spliced (thn (h pos pins s Y H _ I hq) λus s1 ⟨xs,H1,I1,r,z,q⟩=>⟨by rw[<-r.length];exact z,?_⟩)
 have hf:H1 s1.heap.objs.size=none:=I1.hok.fresh (Xg _);refine⟨.ref s1.heap.objs.size,upd H1 s1.heap.objs.size (.lst xs),I1.laid (t':=s1.toks) (λb u e=>Xf _ e) (Xg _) ?_,rfl,q _ hf⟩;exact⟨z,us,0,r,Xy _ rfl⟩
end
abbrev Sp:=List V->Hp->VK->XK->Prop
abbrev CXT:=List Env->Hp->Shared->XK->Value->Shared->Prop
structure Env0(P:Program)(w:World)(K:W.Frag)(mg:Str->Option Value)(base:Heap)(A:Around)(outer:List Env)(s:Shared)(H:Hp):Prop where
 frames:A.frames=some outer
 mod:Mod K mg base
 bs:∀b o,base.get? b=some o->s.heap.get? b=some o/\H b=none
 bsz:base.objs.size<=s.heap.objs.size
 funs:s.heap.FunFrames base outer
 frf:∀b∈frs outer,H b=none
 hok:HOk P w H s.heap
 bare:AllBare s.gens
noncomputable def CE(outer:List Env)(P:Program)(w:World)(H:Hp)(s:Shared)(Q:VK)(u:Value)(s':Shared):Prop :=
 ∃v H',s'.os=s.os/\AllBare s'.gens/\Un (frs outer) [] H H' s.heap s'.heap/\HOk P w H' s'.heap/\RelV v u/\Q v H'
noncomputable def CR(CX:CXT)(outer:List Env)(P:Program)(w:World)(H:Hp)(s:Shared)(Q:VK)(E:XK)(r:Result)(s':Shared):Prop :=
 match r with
 |.ok (.ret u)=>CE outer P w H s Q u s'
 |.ok _=>False
 |.error e=>CX outer H s E e s'
structure FnOk(P:Program)(w:World)(K:W.Frag)(mg:Str->Option Value)(base:Heap)(CX:CXT)(k:Nat)(f:Addr)(fd:FuncData)(ps:List Str)(sp:Sp):Prop where
 len:∀vs H Q E,sp vs H Q E->vs.length=ps.length
 run:∀(A:Around) (outer:List Env) (s:Shared) (H:Hp) (args:Args) (us:List Value) (vs:List V) (Q:VK) (E:XK),Room k A->Env0 P w K mg base A outer s H->BindsTo s fd args (ps.zip us)->Vals vs us->sp vs H Q E ->
  codeAny (model P w) A (.call (.ref f) args) (CR CX outer P w H s Q E) s
theorem FnOk.mono{K:W.Frag}{CX:CXT}{j k:Nat}{sp:Sp}(F:FnOk P w K mg base CX j f fd ps sp)(h:j<=k):
  FnOk P w K mg base CX k f fd ps sp:=⟨F.len,λA outer s H args us vs Q E hr=>F.run A outer s H args us vs Q E (hr.mono h)⟩
def FnOk.imp{K:W.Frag}{CX:CXT}{k:Nat}{sp sp':Sp}(F:FnOk P w K mg base CX k f fd ps sp)
  (h:∀vs H Q E,sp' vs H Q E->sp vs H Q E):FnOk P w K mg base CX k f fd ps sp' :=
 ⟨λvs H Q E q=>F.len vs H Q E (h _ _ _ _ q),λA outer s H args us vs Q E hr he hb hv hs=>F.run A outer s H args us vs Q E hr he hb hv (h _ _ _ _ hs)⟩
section
variable {pins:List (Addr×Obj)}{Y:St}{s':Shared}
def Inv.env0(I:Inv X pins Y H s):Env0 X.prog X.w X.K X.mg X.base X.A X.stack s H :=
 ⟨I.ok.frames,I.ok.mod,I.bs,Wd I.ok.bsz I.sz,I.stack,I.stkFree,I.hok,I.bare⟩
def Inv.after{Q:VK}{u:Value}(I:Inv X pins Y H s)(h:CE X.stack X.prog X.w H s Q u s'):EP X pins Y Q u s':=by
 obtain⟨v,H',os,bare,un,hok,r,q⟩:=h;obtain⟨hh,g,d,t,os'⟩:=s';obtain rfl:os'=s.os:=os
 exact⟨v,H',I.call (h':=hh) (g':=g) (d':=d) (t':=t) (ch:=[]) un hok bare (λb z=>absurd z (by simp)),r,q⟩
end
def Qip(sp:Sp)(dvs:List V)(E:XK)(t:TA):TE:=λY H Q=>t Y H λvs H1=>sp (vs++dvs) H1 Q E
noncomputable def Binds(K:W.Frag)(fd:FuncData)(ps:List Str)(ds:List Value):Prop :=
 ∀(s:Shared) (us:List Value),K.In s.heap->(us++ds).length=ps.length->BindsTo s fd ⟨us,[]⟩ (ps.zip (us++ds))
def Binds.all{K:W.Frag}(h:∀us:List Value,us.length=ps.length->bindArgs fd ⟨us,[]⟩=pure (ps.zip us)):Binds K fd ps []:=λs us z hl=>by
 rw[W9]at hl ⊢;exact .of_eq (h us hl)
def QcB(CX:CXT)(X:Cx)(E:XK):Prop:=∀(pins:List (Addr×Obj)) (Y:St) (H:Hp) (s:Shared) (e:Value) (s':Shared),Inv X pins Y H s->CX X.stack H s E e s'->X.xe e s'
section
variable {CX:CXT}{k:Nat}{sp:Sp}{dvs:List V}{ds:List Value}{E:XK}{p:Pos}{t:TA}
def Qhv{pins:List (Addr×Obj)}{Y:St}{Q:VK}{us:List Value}{vs:List V}(F:FnOk X.prog X.w X.K X.mg X.base CX k f fd ps sp)(hr:Room k X.A)(hb:Binds X.K fd ps ds)(hd:Vals dvs ds)(hx:QcB CX X E)
  (I:Inv X pins Y H s) (r:Vals vs us) (h:sp (vs++dvs) H Q E):wpAny (model X.prog X.w) X.A (call (.ref f) us) (EP X pins Y Q) X.xe s:=by
 have r2:Vals (vs++dvs) (us++ds):=r.append hd
 have hl:(us++ds).length=ps.length:=by rw[<-r2.length];exact F.len _ _ _ _ h
 refine wpAny_call (T5 (F.run X.A X.stack s H ⟨us,[]⟩ (us++ds) (vs++dvs) Q E hr I.env0 (hb s us I.kIn hl) r2 h) λr s' hq=>?_)
 cases r with
 |error e=>exact hx pins Y H s e s' I hq
 |ok fl=>
  cases fl with
  |ret u=>exact I.after hq
  |next=>exact False.elim hq
  |brk=>exact False.elim hq
  |cont=>exact False.elim hq
def Qi9(F:FnOk X.prog X.w X.K X.mg X.base CX k f fd ps sp)(hr:Room k X.A)(hg:Gl X x)(hm:X.mg x=some (.ref f))(hk:W.keepIn X.K (.ref f)=true)(hb:Binds X.K fd ps ds)(hd:Vals dvs ds)(hx:QcB CX X E)
  (ha:PA X (e::es) t) (hdb:(x==("__debug__":Str))=false:=by decide) (he:starEach (e::es) X.env=(false,eval e X.env)::starEach es X.env:=by rfl) (hpl:(backTo pos (starEach es X.env)).any (·.1)=false:=by rfl):
  PE X (.Call (.Name x p) (e::es) [] pos) (Qip sp dvs E t):=by
 intro pins s Y H Q I h;refine Vd (ZG I hg hm ?_ hdb);refine W.callWith_K (h₀:=X.base) I.ok.mod.kin hk (thn (ha pos pins s Y H _ I h) λus s1 ⟨vs,H1,I1,r,q⟩=>⟨I1.kIn,?_⟩) he hpl;exact Qhv F hr hb hd hx I1 r q
def Qgk(F:FnOk X.prog X.w X.K X.mg X.base CX k f fd ps sp)(hr:Room k X.A)(hg:Gl X x)(hm:X.mg x=some (.ref f))(hk:W.keepIn X.K (.ref f)=true)(hb:Binds X.K fd ps ds)(hd:Vals dvs ds)(hx:QcB CX X E)
  (hdb:(x==("__debug__":Str))=false:=by decide):PE X (.Call (.Name x p) [] [] pos) (Qip sp dvs E QpI):=by
 intro pins s Y H Q I h;refine Vd (ZG I hg hm ?_ hdb);exact W.callWith_K0 I.kIn hk (Qhv (us:=[]) F hr hb hd hx I .nil h)
end
structure FnScope(N P:List Str)(sc:Scope):Prop where
 kind:sc.kind=.function
 co:sc.isCoroutine=false
 gen:sc.isGenerator=false
 nd:N.Nodup
 pre:N.take P.length=P
 par:∀x∈P,sc.names.lookup x=some .local\/sc.names.lookup x=some .cell
 nofree:∀y∈sc.names,y.2≠.free
theorem QaZ{kindOf:Str->Option NameKind}{x:Str}:∀{binds:List (Str×Value)} {m:Str->Option Value},(∀v,(x,v)∉binds)->bindL kindOf binds m x=m x
 |[],_,_=>rfl
 | (n,v)::r,m,h=>by
  unfold bindL;rw[QaZ λw hw=>h w (Xl _ hw)];split
  ·have:x≠n:=by rintro rfl;exact h v Xn
   simp[this]
  ·rfl
theorem Qa1{kindOf:Str->Option NameKind}{x:Str}:∀{binds:List (Str×Value)} {m:Str->Option Value},(∀v,(x,v)∉binds)->bindC kindOf binds m x=m x
 |[],_,_=>rfl
 | (n,v)::r,m,h=>by
  unfold bindC;rw[Qa1 λw hw=>h w (Xl _ hw)];split
  ·rfl
  ·have:x≠n:=by rintro rfl;exact h v Xn
   simp[this]
theorem Qa0{kindOf:Str->Option NameKind}{x:Str}{v:Value}:∀{P:List Str} {vs:List Value} {i:Nat} {m:Str->Option Value},P.Nodup->P[i]?=some x->vs[i]?=some v->kindOf x=some .local ->
  bindL kindOf (P.zip vs) m x=some v
 |[],_,_,_,_,h,_,_=>by simp at h
 |_::_,[],_,_,_,_,h,_=>by simp at h
 |p::P,w::vs,0,m,nd,h1,h2,hk=>by
  simp at h1 h2;subst h1;subst h2;show bindL kindOf ((p,w)::P.zip vs) m p=_;unfold bindL;rw[QaZ λv hv=>(Vh.mp nd).1 (List.of_mem_zip hv).1,if_pos hk];simp
 |p::P,w::vs,i+1,m,nd,h1,h2,hk=>by
  show bindL kindOf ((p,w)::P.zip vs) m x=_;unfold bindL
  exact Qa0 (i:=i) (Vh.mp nd).2 (by simpa using h1) (by simpa using h2) hk
theorem Qa2{kindOf:Str->Option NameKind}{x:Str}{v:Value}:∀{P:List Str} {vs:List Value} {i:Nat} {m:Str->Option Value},P.Nodup->P[i]?=some x->vs[i]?=some v->kindOf x≠some .local ->
  bindC kindOf (P.zip vs) m x=some v
 |[],_,_,_,_,h,_,_=>by simp at h
 |_::_,[],_,_,_,_,h,_=>by simp at h
 |p::P,w::vs,0,m,nd,h1,h2,hk=>by
  simp at h1 h2;subst h1;subst h2;show bindC kindOf ((p,w)::P.zip vs) m p=_;unfold bindC;rw[Qa1 λv hv=>(Vh.mp nd).1 (List.of_mem_zip hv).1,if_neg hk];simp
 |p::P,w::vs,i+1,m,nd,h1,h2,hk=>by
  show bindC kindOf ((p,w)::P.zip vs) m x=_;unfold bindC
  exact Qa2 (i:=i) (Vh.mp nd).2 (by simpa using h1) (by simpa using h2) hk
noncomputable def start(N:List Str)(vs:List V):St:=vs.map some++List.replicate (N.length-vs.length) none
noncomputable def Qe9(CX:CXT)(P:Program)(w:World)(K:W.Frag)(mg:Str->Option Value)(base:Heap)(N:List Str)(qual:Str)(scope:Scope)(f:Addr)(cd:Value)(A:Around)(outer:List Env)(s:Shared)(H:Hp)(E:XK):Cx where
 prog:=P
 w:=w
 K:=K
 mg:=mg
 base:=base
 A:=A.deeper (envOfC qual scope s.heap.objs.size f cd)
 N:=N
 s₀:=s
 H₀:=H
 env:=envOfC qual scope s.heap.objs.size f cd
 outer:=outer
 stack:=envOfC qual scope s.heap.objs.size f cd::outer
 ex:=[]
 calm:=true
 fn:=λz=>true
 pn:=[]
 xe:=λe s'=>wpAny (model P w) (A.deeper (envOfC qual scope s.heap.objs.size f cd)) (leaving (envOfC qual scope s.heap.objs.size f cd) e) (λz s''=>CX outer H s E e s'') (λe' s''=>CX outer H s E e' s'') s'
def Qcy{sc:Scope}{n:Nat}(h:sc.names.lookup x=some .cell):∃c,(cellsFrom n sc.names []).lookup x=some c:=by
 have q:=W.cellsFrom_some sc.names n [] (.inl h);exact Uh.mp q
def QeF{CX:CXT}{K:W.Frag}{N:List Str}{qual:Str}{scope:Scope}{cd:Value}{outer:List Env}{s1:Shared}{E:XK}{us:List Value}{vs:List V}
  (S:FnScope N ps scope) (hd:A.handled=none) (e0:Env0 P w K mg base A outer s H) (hl:vs.length=ps.length) (r:Vals vs us)
  (x:InCallC s s.heap.objs.size (bindL (envOfC qual scope s.heap.objs.size f cd).kindOf (ps.zip us) λt=>none) (cellsFrom (s.heap.objs.size+1) scope.names []) (bindC (envOfC qual scope s.heap.objs.size f cd).kindOf (ps.zip us) λt=>none) s1):
  Inv (Qe9 CX P w K mg base N qual scope f cd A outer s H E) [] (start N vs) H s1:=by
 have hpl:ps.length<=N.length:=by have:=congrArg List.length S.pre;rw[Ve]at this;omega
 obtain⟨h1,tk,rfl,hk⟩:=x.done
 have noA:∀b:Addr,b∉(Qe9 CX P w K mg base N qual scope f cd A outer s H E).ex:=λb z=>absurd (show b∈([]:List Addr)from z) (by simp)
 refine⟨⟨e0.mod,S.kind,rfl,rfl,Xg _,λy z c h1 h2=>?_,λy hy=>?_,λy c t h=>?_,λt=>hd,Around.frames_deeper e0.frames,.inr ⟨rfl,rfl⟩,λb z=>absurd z (noA b),e0.bs,e0.bsz,λb t t=>noA b,λb z=>absurd z (noA b),e0.funs,e0.frf⟩,
  rfl,e0.bare,Un.kept hk,⟨_,x.toInCall.ns,λi y v h1 h2 h3=>?_⟩,λy c h=>⟨_,x.cell y c h⟩,e0.hok.fresh (Xg _),λy c h=>?_,λp hp=>absurd (show p∈([]:List (Addr×Obj))from hp) (by simp),e0.hok.kept hk,?_⟩
 ·exact name_of_addr x.apart (Uo h1) (Uo h2)
 ·have hy:scope.names.lookup y=some .cell\/scope.names.lookup y=some .free:=hy
  rcases hy with hy|hy
  ·exact Qcy hy
  ·exact absurd rfl (S.nofree _ (Uo hy))
 ·exact Nat.le_of_lt (x.above y c (Uo h))
 ·have hi:i<vs.length:=by
   unfold start at h2;by_cases hi:i<vs.length
   ·exact hi
   ·rw[Wg (by simpa using hi)]at h2
    rw[Tf]at h2;split at h2<;>cases h2
  have ha:vs[i]?=some v:=by
   unfold start at h2
   rw[Xv (by simpa using hi),Wn]at h2
   cases e:vs[i]? with
   |none=>rw[e]at h2;cases h2
   |some a=>rw[e]at h2;cases h2;rfl
  obtain⟨u,hu,rv⟩:=r.get ha
  have hp:ps[i]?=some y:=by
   rw[<-S.pre,List.getElem?_take_of_lt (by omega)];exact h1
  have ndP:ps.Nodup:=by rw[<-S.pre];exact S.nd.sublist (List.take_sublist _ _)
  refine⟨u,rv,?_⟩
  rcases S.par y (X0 hp)with k|k
  ·exact .inl ⟨k,Qa0 ndP hp hu k⟩
  ·obtain⟨c,e⟩:=Qcy (n:=s.heap.objs.size+1) k;refine .inr ⟨.inl k,c,e,?_⟩;have q:=x.cell y c e
   rw[Qa2 ndP hp hu (by show scope.names.lookup y≠_;rw[k];decide)]at q
   exact q
 ·exact e0.hok.fresh (Nat.le_of_lt (x.above y c (Uo h)))
 ·unfold start;show _=N.length;rw[Xs,X5,List.length_replicate];omega
def Qmv{CX:CXT}{K:W.Frag}{k:Nat}{name qual:Str}{params:Arguments}{body:List Stmt}{scope:Scope}{dV kV doc pm cdv ct oc:Value}{an od:Option Addr}
  {osl:Array (Option Value)} {N:List Str} {sp:Sp} (lk:K.lookup f=some ⟨oc,od,.func (W.fnOf name qual params body scope dV kV doc pm an cdv ct),osl⟩) (hcd:W.codeIn K cdv qual=true) (S:FnScope N ps scope)
  (len:∀vs H Q E,sp vs H Q E->vs.length=ps.length)
  (hbody:∀(A:Around) (outer:List Env) (s:Shared) (H:Hp) (vs:List V) (Q:VK) (E:XK),Room k (A.deeper (envOfC qual scope s.heap.objs.size f cdv))->sp vs H Q E ->
   ∃t,PSs (Qe9 CX P w K mg base N qual scope f cdv A outer s H E) body t/\t {nx:=λz H'=>Q .non H',rt:=Q} (start N vs) H):
  FnOk P w K mg base CX (k+1) f (W.fnOf name qual params body scope dV kV doc pm an cdv ct) ps sp:=by
 refine⟨len,λA outer s H args us vs Q E hr e0 hb r hsp=>?_⟩;have hl:=len _ _ _ _ hsp;have KX:K.In s.heap:=e0.mod.kin.keeps λb o e=>(e0.bs b o e).1;have lim:s.heap.NoLimit:=e0.mod.nolimit.keeps λb o e=>(e0.bs b o e).1
 have hkind:∀y∈ps.zip us,scope.names.lookup y.1=some .local\/(scope.names.lookup y.1=some .cell/\((cellsFrom (s.heap.objs.size+1) scope.names []).lookup y.1).isSome=true):=λp hy=>by
  obtain⟨n,v⟩:=p
  rcases S.par n (List.of_mem_zip hy).1 with q|q
  ·exact .inl q
  ·exact .inr ⟨q,W.cellsFrom_some _ _ _ (.inl q)⟩
 refine codeAny_call_function hr.depth (KX _ _ lk) rfl S.co S.gen rfl (W.codeRec_of KX hcd) (hb _ _ _ _ ?_);refine wpAny_newFunctionEnv_cells S.kind hkind λenv he s1 x=>?_;subst he;refine⟨lim.keeps x.toInCall.keep,codeAny_func ?_⟩;obtain⟨t,ht,hq⟩:=hbody A outer s H vs Q E (hr.deeper _) hsp;have I:Inv (Qe9 CX P w K mg base N qual scope f cdv A outer s H E) [] (start N vs) H s1:=QeF S hr.hd e0 hl r x;refine X4 (ht [] s1 (start N vs) H _ I hq) (λfl s' hs=>?_) λe s' hs=>hs
 have fin:∀{Y':St} {H':Hp} {v:V} {u:Value},Inv (Qe9 CX P w K mg base N qual scope f cdv A outer s H E) [] Y' H' s'->RelV v u->Q v H'->CE outer P w H s Q u s' :=
  λ{Y' H' v u} J rv q=>⟨v,H',J.os,J.bare,J.base,J.hok,rv,q⟩
 cases fl with
 |ret u=>
  obtain⟨v,Y',H',J,rv,q⟩:=hs;exact fin J rv q
 |next=>
  obtain⟨Y',H',J,q⟩:=hs;exact fin (v:=V.non) (u:=Value.none) J rfl q
 |brk=>
  obtain⟨_,_,_,q⟩:=hs;exact False.elim q
 |cont=>
  obtain⟨_,_,_,q⟩:=hs;exact False.elim q
end
section
section
variable {X:Cx}{x:Str}{p pos:Pos}{e:Expr}{es:List Expr}{t:TA}{id T:String}{r:List V->Hp->VK->Prop}
def tCB(r:List V->Hp->VK->Prop)(t:TA):TE:=λY H Q=>t Y H λvs H1=>r vs H1 Q
def ZB(hc:CallR X (.builtin id) r)(hg:Gl X x)(hm:X.mg x=none)(hv:bootBuiltins x=some (.builtin id))(ha:PA X (e::es) t)(hn:x≠"__name__":=by decide)(hdb:(x==("__debug__":Str))=false:=by decide)
  (he:starEach (e::es) X.env=(false,eval e X.env)::starEach es X.env:=by rfl) (hpl:(backTo pos (starEach es X.env)).any (·.1)=false:=by rfl):PE X (.Call (.Name x p) (e::es) [] pos) (tCB r t):=by
 intro pins s Y H Q I h;refine Vd (ZD I hg hm hv ?_ hn hdb);exact PyProof.Rows.callWith_builtin1 (thn (ha pos pins s Y H _ I h) λus s1 z=>by obtain⟨vs,H1,I1,r1,q1⟩:=z;exact hc pins s1 Y H1 vs us Q I1 r1 q1) he hpl
def ZU(hc:CallR X (.type T) r)(hg:Gl X x)(hm:X.mg x=none)(hv:bootBuiltins x=some (.type T))(ha:PA X (e::es) t)(hn:x≠"__name__":=by decide)(hdb:(x==("__debug__":Str))=false:=by decide)
  (he:starEach (e::es) X.env=(false,eval e X.env)::starEach es X.env:=by rfl) (hpl:(backTo pos (starEach es X.env)).any (·.1)=false:=by rfl):PE X (.Call (.Name x p) (e::es) [] pos) (tCB r t):=by
 intro pins s Y H Q I h;refine Vd (ZD I hg hm hv ?_ hn hdb);exact Wv (thn (ha pos pins s Y H _ I h) λus s1 z=>by obtain⟨vs,H1,I1,r1,q1⟩:=z;exact hc pins s1 Y H1 vs us Q I1 r1 q1) he hpl
end
end
end L2
namespace HT
open PySem PyProof.Rows
section
open PySem.SeqAt
open PySem.AutoSeq1 (wpAny_loadPart')
open PySem.MeetsSeq PySem.MeetsSeq2 PySem.MeetsSeq3
end
section
noncomputable def sIx(n d:Nat):Option Int->Nat
 |none=>d
 |some v=>if v<0 then(v+(n:Int)).toNat else min v.toNat n
end
end HT
namespace L2
open PySem PySem.Spec PyProof.Rows
section
abbrev TO:=St->Hp->(Option Int->Hp->Prop)->Prop
noncomputable def PO(X:Cx)(e:Option Expr)(t:TO):Prop :=
 ∀(pins:List (Addr×Obj)) (s:Shared) (Y:St) (H:Hp) (Q:Option Int->Hp->Prop),Inv X pins Y H s->t Y H Q ->
  wpAny (model X.prog X.w) X.A (evalPart e X.env) (λu s'=>∃o H',Inv X pins Y H' s'/\IsPart u o/\Q o H') X.xe s
def Qin:TO:=λz H Q=>Q none H
def Qk2(t:TE):TO:=λY H Q=>t Y H λx H1=>∃i,x=.int i/\Q (some i) H1
def QcU{ns:List Int}:∀{us:List Value},Vals (ns.map V.int) us->IntsAre us ns:=by
 induction ns with
 |nil=>intro us r;rw[Ui]at r;cases r;exact .nil
 |cons n ns ih=>
  intro us r;rw[Xo]at r
  cases r with
  |cons r1 r2=>
   obtain⟨t,e⟩:=r1;subst e;exact .cons n t (ih r2)
section
variable {X:Cx}{e:Expr}{te:TE}{lo hi:Option Expr}{tl th:TO}{pos p2:Pos}
def QiZ:PO X none Qin:=by
 intro pins s Y H Q I h;rw[evalPart_none];exact Xi ⟨none,H,I,.none,h⟩
def Qd2(h:PE X e te):PO X (some e) (Qk2 te):=by
 intro pins s Y H Q I hw;rw[evalPart_some];refine thn (h pins s Y H _ I hw) λu s1 z=>?_;obtain⟨x,H1,I1,r1,q1⟩:=z;obtain⟨i,rfl,q⟩:=q1;obtain⟨t,rfl⟩:=r1;exact⟨some i,H1,I1,.int i t,q⟩
noncomputable def SlR(X:Cx)(r:V->Option Int->Option Int->Hp->VK->Prop):Prop :=
 ∀(pins:List (Addr×Obj)) (s:Shared) (Y:St) (H:Hp) (x:V) (v vl vu:Value) (lo hi:Option Int) (sl:Addr) (Q:VK),Inv X pins Y H s->RelV x v->s.heap.IsSliceOf sl vl vu .none->IsPart vl lo->IsPart vu hi->r x lo hi H Q ->
  ∃T id,typeLookup (.type T) "__getitem__"=pure (some (.builtin id))/\s.TypeIs v T/\wpAny (model X.prog X.w) X.A (getItem v (.ref sl)) (EP X pins Y Q) X.xe s
def tSl(r:V->Option Int->Option Int->Hp->VK->Prop)(te:TE)(tl th:TO):TE:=λY H Q=>te Y H λx H1=>tl Y H1 λl H2=>th Y H2 λu H3=>r x l u H3 Q
def Qgh{r:V->Option Int->Option Int->Hp->VK->Prop}(hr:SlR X r)(he:PE X e te)(hl:PO X lo tl)(hu:PO X hi th):PE X (.Subscript e (.Slice lo hi none p2) pos) (tSl r te tl th):=by
 intro pins s Y H Q I h;refine Subscript_ (thn (he pins s Y H _ I h) λv s1 z=>?_);obtain⟨x,H1,I1,r1,q1⟩:=z;refine wpAny_Slice (thn (hl pins s1 Y H1 _ I1 q1) λvl s2 ⟨l,H2,I2,pl,q2⟩=>thn (hu pins s2 Y H2 _ I2 q2) λvu s3 y=>?_);obtain⟨u,H3,I3,pu,q3⟩:=y;rw[evalPart_none];refine Xi ?_;have I4:Inv X pins Y H3 {s3 with heap:=s3.heap.push {cls:=.type "slice",data:=.fields #[vl,vu,.none]} }:=I3.kept (t':=s3.toks) λb ob q=>Xf _ q;obtain⟨T,id,hT,ht,hg⟩:=hr pins {s3 with heap:=s3.heap.push {cls:=.type "slice",data:=.fields #[vl,vu,.none]} } Y H3 x v vl vu l u s3.heap.objs.size Q I4 r1 (Heap.IsSliceOf.new ..) pl pu q3;show wpAny (model X.prog X.w) X.A (subscriptTail e (.Slice lo hi none p2) v (.ref s3.heap.objs.size)) (EP X pins Y Q) X.xe {s3 with heap:=s3.heap.push {cls:=.type "slice",data:=.fields #[vl,vu,.none]} }
 exact tail_any (ops:=[.ref s3.heap.objs.size,v]) ht hT hg (by with_unfolding_all rfl)
noncomputable def Qku(xs:List V)(lo hi:Option Int):List V:=(xs.drop (HT.sIx xs.length 0 lo)).take (HT.sIx xs.length xs.length hi-HT.sIx xs.length 0 lo)
def QbL(xs:List V)(lo hi:Option Int):(Qku xs lo hi).length<=xs.length:=by
 unfold Qku;rw[Ve,U0];omega
end
end
section
noncomputable def ixN(n:Nat)(i:Int):Option Nat:=if 0<=i then(if i<n then some i.toNat else none)else if -(n:Int)<=i then some (i+n).toNat else none
noncomputable def atI{α:Type}(xs:List α)(i:Int):Option α:=(ixN xs.length i).bind λj=>xs[j]?
def Qjw{n:Nat}{i:Int}{j:Nat}(h:ixN n i=some j):seqIndex? i n=some j/\j<n/\-(n:Int)<=i/\i<n:=by
 unfold ixN at h;by_cases h0:0<=i
 ·rw[if_pos h0]at h;by_cases h1:i<n
  ·rw[if_pos h1]at h;have e:i.toNat=j:=X8 h
   exact⟨by rw[seqIndex_of h0 h1,e],by omega,by omega,h1⟩
  ·rw[if_neg h1]at h;cases h
 ·rw[if_neg h0]at h;by_cases h1:-(n:Int)<=i
  ·rw[if_pos h1]at h;have e:(i+n).toNat=j:=X8 h
   exact⟨by rw[seqIndex_neg (by omega) h1,e],by omega,h1,by omega⟩
  ·rw[if_neg h1]at h;cases h
def QbO{α:Type}{xs:List α}{i:Int}{v:α}(h:atI xs i=some v):∃j,seqIndex? i xs.length=some j/\xs[j]?=some v/\j<xs.length/\-(xs.length:Int)<=i/\i<xs.length:=by
 unfold atI at h
 cases e:ixN xs.length i with
 |none=>rw[e]at h;cases h
 |some j=>
  rw[e]at h;obtain⟨h1,h2,h3,h4⟩:=Qjw e;exact⟨j,h1,h,h2,h3,h4⟩
def QfB(b:Expr):Prop:=∀o i,subscripted b false o i=operate [o,i] (getItem o i)
noncomputable def IxR(X:Cx)(r:R2):Prop :=
 ∀(value slice:Expr) (pins:List (Addr×Obj)) (s:Shared) (Y:St) (H:Hp) (x y:V) (v u:Value) (Q:VK),Inv X pins Y H s->RelV x v->RelV y u->r x y H Q ->
  subscripted slice false v u=operate [v,u] (getItem v u)->wpAny (model X.prog X.w) X.A (subscriptTail value slice v u) (EP X pins Y Q) X.xe s
noncomputable def MtR(X:Cx)(id:String)(r:V->List V->Hp->VK->Prop):Prop :=
 ∀(pins:List (Addr×Obj)) (s:Shared) (Y:St) (H:Hp) (x:V) (xs:List V) (v:Value) (us:List Value) (Q:VK),Inv X pins Y H s->RelV x v->Vals xs us->r x xs H Q ->
  wpAny (model X.prog X.w) X.A (call (.builtin id) (v::us)) (EP X pins Y Q) X.xe s
section
variable {X:Cx}{a b:Expr}{ta tb:TE}{pos:Pos}
def IxR.or{r r':R2}(h:IxR X r)(h':IxR X r'):IxR X (λx y H Q=>r x y H Q\/r' x y H Q):=by
 intro value slice pins s Y H x y v u Q I rx ry q hs
 rcases q with q|q
 ·exact h value slice pins s Y H x y v u Q I rx ry q hs
 ·exact h' value slice pins s Y H x y v u Q I rx ry q hs
def Qoi{r:R2}(hr:IxR X r)(ha:PE X a ta)(hb:PE X b tb)(hs:QfB b):PE X (.Subscript a b pos) (tOp r ta tb):=by
 intro pins s Y H Q I h;exact Subscript_ (Qpj ha hb I h λv u s2 x y H2 I2 rx ry q=>hr a b pins s2 Y H2 x y v u Q I2 rx ry q (hs _ _))
def Qp3(K:W.Frag):R2:=λx y H Q=>∃p xs i v,x=.ref p/\y=.int i/\SqL K H p xs/\atI xs i=some v/\Q v H
def Qp1(K:W.Frag):R2:=λx y H Q=>∃p xs i v,x=.ref p/\y=.int i/\SqT K H p xs/\atI xs i=some v/\Q v H
def Qp2:R2:=λx y H Q=>∃z i c,x=.str z/\y=.int i/\z.length<=sizeLine/\atI z.cps.toList i=some c/\Q (.str ⟨#[c]⟩) H
def ix_list:IxR X (Qp3 X.K):=by
 intro value slice pins s Y H x y v u Q I rx ry h hs;obtain⟨p,xs,i,z,rfl,rfl,hq,he,q⟩:=h;cases rx;obtain⟨t,rfl⟩:=ry;obtain⟨its,r,pl,hz⟩:=I.list hq;obtain⟨j,h1,h2,h3,h4,h5⟩:=QbO he;obtain⟨w,ew,rw'⟩:=r.get h2;have hl:=r.length;have hn:=Jn;have fin:EP X pins Y Q w s:=⟨z,H,I,rw',q⟩;by_cases h0:0<=i
 ·have hj:i.toNat=j:=by
   rw[seqIndex_of h0 h5]at h1;exact X8 h1
  exact item_listR pl.isList h0 (by omega) (by rw[hj];simpa using ew) fin hs
 ·have hj:(i+(its.toArray.size:Int)).toNat=j:=by
   rw[seqIndex_neg (by omega) h4]at h1
   rw[Xw,<-hl];exact X8 h1
  exact subscriptTail_builtinR (x:=w) pl.isList.typeIs slot_list_getitem.lookup
   (wpAny_getItem_list_neg (Q:=λr s'=>r=w/\EP X pins Y Q r s') pl.isList (by omega) (by rw[Xw]<;>omega) (by omega) (by rw[hj];simpa using ew) ⟨rfl,fin⟩) hs
def ix_tup:IxR X (Qp1 X.K):=by
 intro value slice pins s Y H x y v u Q I rx ry h hs;obtain⟨p,xs,i,z,rfl,rfl,hq,he,q⟩:=h;cases rx;obtain⟨t,rfl⟩:=ry;obtain⟨its,r,pl,hz⟩:=I.tuple hq;obtain⟨j,h1,h2,h3,h4,h5⟩:=QbO he;obtain⟨w,ew,rw'⟩:=r.get h2;have hl:=r.length;have hn:=Jn;have fin:EP X pins Y Q w s:=⟨z,H,I,rw',q⟩
 exact subscriptTail_builtinR (x:=w) pl.typeIs slot_tuple_getitem.lookup
  (getItem_tuple (j:=j) (Q:=λr s'=>r=w/\EP X pins Y Q r s') pl (by omega) (by omega) (by rw[Xw,<-hl];exact h1) (by simpa using ew) ⟨rfl,fin⟩) hs
def Qmq:IxR X Qp2:=by
 intro value slice pins s Y H x y v u Q I rx ry h hs;obtain⟨z,i,c,rfl,rfl,hz,he,q⟩:=h;obtain⟨t,rfl⟩:=rx;obtain⟨t',rfl⟩:=ry;obtain⟨j,h1,h2,h3,h4,h5⟩:=QbO he
 have hl:z.cps.toList.length=z.length:=by simp[Str.length]
 rw[hl]at h1 h4 h5;have hn:=Jn
 exact tail_any (typeIs_str s z t) slot_str_getitem.lookup (getItem_str (c:=c) (by
  have e1:decide (i < -(2 ^ 63:Int))=false:=Wf (by omega)
  have e2:decide (i≥2 ^ 63)=false:=Wf (by omega)
  rw[e1,e2,Bool.or_false]) (by rw[h1];simpa using h2) ⟨.str ⟨#[c]⟩,H,I.tok _,⟨_,rfl⟩,q⟩) hs
def rIx(K:W.Frag):R2:=λx y H Q=>Qp3 K x y H Q\/Qp1 K x y H Q\/Qp2 x y H Q
def ix_seq:IxR X (rIx X.K):=ix_list.or (ix_tup.or Qmq)
def Qat(lo hi:Option Int)(n:Nat):(sliceBounds lo hi none n).1=((HT.sIx n 0 lo:Nat):Int)/\(sliceBounds lo hi none n).2.1=((HT.sIx n n hi:Nat):Int)/\(sliceBounds lo hi none n).2.2=1:=by
 refine⟨?_,?_,rfl⟩
 ·cases lo with
  |none=>simp[sliceBounds,HT.sIx]
  |some i=>
   simp only[sliceBounds,HT.sIx,Option.getD_none,show(1:Int) > 0 by decide,Wm]
   by_cases h:i<0
   ·simp only[h,Wm]<;>omega
   ·simp only[h,Ww]<;>omega
 ·cases hi with
  |none=>simp[sliceBounds,HT.sIx]
  |some i=>
   simp only[sliceBounds,HT.sIx,Option.getD_none,show(1:Int) > 0 by decide,Wm]
   by_cases h:i<0
   ·simp only[h,Wm]<;>omega
   ·simp only[h,Ww]<;>omega
def JH(its:List Value)(lo hi:Option Int):slicePick its.toArray lo hi none=((its.drop (HT.sIx its.length 0 lo)).take (HT.sIx its.length its.length hi-HT.sIx its.length 0 lo)).toArray:=by
 obtain⟨h1,h2,h3⟩:=Qat lo hi its.toArray.size;unfold slicePick;rw[h1,h2,h3];simp only[sliceRange_one,pick_run,Xw]<;>rfl
def QpZ(K:W.Frag):V->Option Int->Option Int->Hp->VK->Prop:=λx lo hi H Q=>∃a xs,x=.ref a/\SqL K H a xs/\∀p,H p=none->Q (.ref p) (upd H p (.lst (Qku xs lo hi)))
def Qiy:SlR X (QpZ X.K):=by
 intro pins s Y H x v vl vu lo hi sl Q I rx hs pl pu h;obtain⟨a,xs,rfl,hx,q⟩:=h;cases rx;obtain⟨its,r,ht,hz⟩:=I.list hx;have hlen:=r.length;refine⟨"list",_,slot_list_getitem.lookup,ht.isList.typeIs,?_⟩
 refine wpAny_getItem_list_slice ht.isList hs pl pu .none (by simp) ?_ (by rw[Xw]<;>omega)
 rw[JH,<-hlen];refine⟨.ref s.heap.objs.size,_,I.laid (t':=s.toks) (o:=.lst (Qku xs lo hi)) (λb ob q=>Xf _ q) (Xg _) ?_,rfl,q _ (I.hok.fresh (Xg _))⟩;exact⟨Wd (QbL xs lo hi) hz,_,0,(r.drop (HT.sIx xs.length 0 lo)).take (HT.sIx xs.length xs.length hi-HT.sIx xs.length 0 lo),Xy _ rfl⟩
def QaW:CallR X (.builtin "len") (λxs H Q=>∃p ys,xs=[.ref p]/\(SqL X.K H p ys\/SqT X.K H p ys)/\Q (.int ys.length) H):= by
 intro pins s Y H xs us Q I r h;obtain⟨p,ys,rfl,hq,q⟩:=h;obtain⟨u,rfl,rx⟩:=Ja r;cases rx;have hn:=Jn
 rcases hq with hq|hq
 ·obtain⟨its,r',pl,hz⟩:=I.list hq;have hlen:=r'.length
  exact Calls.call_len_list pl.isList (by simp only[Xw]<;>omega) ⟨.int ys.length,H,I.tok _,⟨s.toks+1,by rw[Xw,hlen]⟩,q⟩
 ·obtain⟨its,r',pl,hz⟩:=I.tuple hq;have hlen:=r'.length
  exact len_tuple pl (by simp only[Xw]<;>omega) ⟨.int ys.length,H,I.tok _,⟨s.toks+1,by rw[Xw,hlen]⟩,q⟩
def QaV:CallR X (.builtin "len") (λxs H Q=>∃z,xs=[.str z]/\z.length<=sizeLine/\Q (.int z.length) H):= by
 intro pins s Y H xs us Q I r h;obtain⟨z,rfl,hz,q⟩:=h;obtain⟨u,rfl,t,rfl⟩:=Ja r;have hn:=Jn
 exact len_str (by omega) ⟨.int z.length,H,I.tok _,⟨_,rfl⟩,q⟩
def CallR.or{f:Value}{r r':List V->Hp->VK->Prop}(h:CallR X f r)(h':CallR X f r'):CallR X f (λxs H Q=>r xs H Q\/r' xs H Q):=by
 intro pins s Y H xs us Q I rs q
 rcases q with q|q
 ·exact h pins s Y H xs us Q I rs q
 ·exact h' pins s Y H xs us Q I rs q
def QaU:CallR X (.type "list") (λxs H Q=>∃p ys,xs=[.ref p]/\(SqL X.K H p ys\/SqT X.K H p ys)/\∀l,H l=none->Q (.ref l) (upd H l (.lst ys))):= by
 intro pins s Y H xs us Q I r h;obtain⟨p,ys,rfl,hq,q⟩:=h;obtain⟨u,rfl,rx⟩:=Ja r;cases rx
 have fin:∀(its:List Value),Vals ys its->ys.length<=sizeLine->∀(h':Heap) (c':Nat),(∀b o',s.heap.get? b=some o'->h'.get? b=some o') ->
   h'.get? s.heap.objs.size=some {cls:=.type "list",dict:=none,data:=.seq its.toArray c',slots:=#[]}->EP X pins Y Q (.ref s.heap.objs.size) {s with heap:=h'}:=λits r' hz h' c' kp e=>
  ⟨.ref s.heap.objs.size,_,I.laid (t':=s.toks) kp (Xg _) (show ObjOk X.prog X.w _ h' _ (.lst ys)from⟨hz,its,c',r',e⟩),rfl,q _ (I.hok.fresh (Xg _))⟩
 rcases hq with hq|hq
 ·obtain⟨its,r',pl,hz⟩:=I.list hq;have hlen:=r'.length;obtain⟨o,ho,hc,n,hd⟩:=pl.isList
  exact call_list_seq p (.inl rfl) ho hc hd (λh' c' kp e=>fin its r' hz h' c' kp e) (by simp only[Xw]<;>omega)
 ·obtain⟨its,r',pl,hz⟩:=I.tuple hq;have hlen:=r'.length;obtain⟨o,ho,hc,n,hd⟩:=pl
  exact call_list_seq p (.inr rfl) ho hc hd (λh' c' kp e=>fin its r' hz h' c' kp e) (by simp only[Xw]<;>omega)
def Qad:CallR X (.type "tuple") (λxs H Q=>∃p ys,xs=[.ref p]/\((SqL X.K H p ys/\∀l,H l=none->Q (.ref l) (upd H l (.tup ys)))\/(SqT X.K H p ys/\Q (.ref p) H))):= by
 intro pins s Y H xs us Q I r h;obtain⟨p,ys,rfl,h⟩:=h;obtain⟨u,rfl,rx⟩:=Ja r;cases rx
 rcases h with⟨hq,q⟩|⟨hq,q⟩
 ·obtain⟨its,r',pl,hz⟩:=I.list hq;have hlen:=r'.length
  refine call_tuple_list pl.isList (λh' kp=>?_) (by simp only[Xw]<;>omega)
  have I1:Inv X pins Y H {s with heap:=h'}:=I.kept (t':=s.toks) kp
  have I2:Inv X pins Y (upd H h'.objs.size (.tup ys)) {s with heap:=h'.push {cls:=.type "tuple",data:=.seq its.toArray} }:=
   I1.laid (t':=s.toks) (λb o e=>Xf _ e) (Xg _) (show ObjOk X.prog X.w _ _ _ (.tup ys)from⟨hz,its,r',IsTup.new _ _⟩)
  exact⟨.ref h'.objs.size,_,I2,rfl,q _ (I1.hok.fresh (Xg _))⟩
 ·obtain⟨its,r',pl,hz⟩:=I.tuple hq;exact call_tuple_same pl ⟨.ref p,H,I,rfl,q⟩
def tyV(K:W.Frag)(T:String)(x:V)(H:Hp):Prop:=match x with
 |.str _=>T="str"
 |.int _=>T="int"
 |.ref p=>(T="list"/\∃xs,SqL K H p xs)\/(T="tuple"/\∃o,K.lookup p=some o/\o.cls=.type "tuple"/\o.dict=none) \/
   (T="dict"/\((∃kvs,H p=some (.dK kvs))\/∃kvs,H p=some (.dT kvs)))\/(T="set"/\∃S n,H p=some (.set S n))
 |_=>False
def Qhm{pins:List (Addr×Obj)}{Y:St}{H:Hp}{s:Shared}{T:String}{x:V}{v:Value}(I:Inv X pins Y H s)(r:RelV x v)(ty:tyV X.K T x H):
  s.TypeIs v T/\∀a,v=.ref a->∃ob,s.heap.get? a=some ob/\ob.dict=none:=by
 cases x with
 |str z=>
  obtain⟨t,rfl⟩:=r;cases(show T="str" from ty);exact⟨typeIs_str s z t,λy e=>nomatch e⟩
 |int i=>
  obtain⟨t,rfl⟩:=r;cases(show T="int" from ty);exact⟨typeIs_int s i t,λy e=>nomatch e⟩
 |ref p=>
  cases r
  rcases ty with⟨rfl,xs,hq⟩|⟨rfl,o,hk,hc,hd⟩|⟨rfl,hk⟩|⟨rfl,S,n,hk⟩
  ·obtain⟨its,_,pl,_⟩:=I.list hq;refine⟨pl.isList.typeIs,λa e=>?_⟩;cases e;obtain⟨o,n,e,c,hd,_⟩:=pl;exact⟨o,e,hd⟩
  ·refine⟨⟨o,I.kIn p o hk,hc⟩,λa e=>?_⟩;cases e;exact⟨o,I.kIn _ o hk,hd⟩
  ·have z:∃o,s.heap.get? p=some o/\o.ExactDict:=by
    rcases hk with⟨kvs,hk⟩|⟨kvs,hk⟩
    ·obtain⟨_,_,_,_,o,_,_,e,ex,_⟩:=I.hok p _ hk;exact⟨o,e,ex⟩
    ·obtain⟨_,_,_,_,o,_,_,e,ex,_⟩:=I.hok p _ hk;exact⟨o,e,ex⟩
   obtain⟨o,e,ex⟩:=z;refine⟨⟨o,e,ex.1⟩,λa e2=>?_⟩;cases e2;exact⟨o,e,ex.2.1⟩
  ·obtain⟨o,_,_,_,e,ex,_⟩:=I.hok p _ hk;refine⟨⟨o,e,ex.1⟩,λa e2=>?_⟩;cases e2;exact⟨o,e,ex.2.1⟩
 |_=>exact False.elim ty
def QqG(K:W.Frag)(T:String)(r:V->List V->Hp->VK->Prop)(to:TE):TE:=λY H Q=>to Y H λx H1=>tyV K T x H1/\r x [] H1 Q
def tBM(K:W.Frag)(T:String)(r:V->List V->Hp->VK->Prop)(to:TE)(t:TA):TE:=λY H Q=>to Y H λx H1=>tyV K T x H1/\t Y H1 λxs H2=>r x xs H2 Q
variable {o e:Expr}{es:List Expr}{to:TE}{t:TA}{name:Str}{apos cpos:Pos}{T id:String}{r:V->List V->Hp->VK->Prop}
def QlR(pa:PlainAttrs T)(slot:Slot T name id)(hty:typeOf (.builtin id)=pure (.type "method_descriptor"))(hm:MtR X id r)(ho:PE X o to)
  (hbase:attributeBase o name X.env (eval o X.env)=eval o X.env:=by rfl) (hline:(apos.endLine==cpos.line)=true:=by rfl):PE X (.Call (.Attribute o name apos) [] [] cpos) (QqG X.K T r to):=by
 intro pins s Y H Q I h;refine wpAny_Call_method0_late hbase hline (thn (ho pins s Y H _ I h) λv s1 z=>?_);obtain⟨x,H1,I1,r1,ty,q1⟩:=z;obtain⟨h1,h2⟩:=Qhm I1 r1 ty;exact⟨T,id,pa,slot,hty,h1,h2,Calls.callWith_builtin rfl (PySem.evalArgs_none (hm pins s1 Y H1 x [] v [] Q I1 r1 .nil q1))⟩
def Qoj(pa:PlainAttrs T)(slot:Slot T name id)(hty:typeOf (.builtin id)=pure (.type "method_descriptor"))(hm:MtR X id r)(ho:PE X o to)(ha:PA X (e::es) t)
  (hbase:attributeBase o name X.env (eval o X.env)=eval o X.env:=by rfl)
  (hfew:((backTo cpos (starEach (e::es) X.env)).all (λx=>!x.1)&&(backToKw cpos (keywordEach [] X.env)).all (λx=>x.1.isSome)
   && decide ((e::es).length+([]:List Keyword).length+(if([]:List Keyword).isEmpty then 0 else 1) < 30))=true:=by rfl)
  (hline:(apos.endLine==cpos.line)=true:=by rfl) (hs:starEach (e::es) X.env=(false,eval e X.env)::starEach es X.env:=by rfl) (hplain:(backTo cpos (starEach es X.env)).any (·.1)=false:=by rfl):
  PE X (.Call (.Attribute o name apos) (e::es) [] cpos) (tBM X.K T r to t):=by
 intro pins s Y H Q I h;refine wpAny_Call_method_late hbase hfew hline rfl (thn (ho pins s Y H _ I h) λv s1 z=>?_);obtain⟨x,H1,I1,r1,ty,q1⟩:=z;obtain⟨h1,h2⟩:=Qhm I1 r1 ty;refine⟨T,id,pa,slot,hty,h1,h2,?_⟩;have hA:=ha cpos pins s1 Y H1 _ I1 q1;rw[hs]at hA ⊢
 refine Calls.callWith_builtin (by show(false||(backTo cpos (starEach es X.env)).any (·.1))=false;rw[hplain]<;>rfl) (Calls.evalArgs_plain ?_)
 exact thn hA λus s2 y=>by obtain⟨vs,H2,I2,r2,q2⟩:=y;exact hm pins s2 Y H2 x vs v us Q I2 r1 r2 q2
end
end
section
variable {X:Cx}{us:List Value}
noncomputable def MtM(X:Cx)(id:String)(r:V->List V->Hp->VK->Prop):Prop :=
 ∀(pins:List (Addr×Obj)) (s:Shared) (Y:St) (H:Hp) (x:V) (xs:List V) (v:Value) (us:List Value) (Q:VK),Inv X pins Y H s->RelV x v->Vals xs us->r x xs H Q ->
  wpAny (model X.prog X.w) X.A (call (.builtin id) (v::us)) (EP X pins Y Q) X.xe s
def Vals.one{x:V}(h:Vals [x] us):∃u,us=[u]/\RelV x u:=by
 cases h with
 |cons r t=>cases t;exact⟨_,rfl,r⟩
def Vals.two{x y:V}(h:Vals [x,y] us):∃u v,us=[u,v]/\RelV x u/\RelV y v:=by
 cases h with
 |cons r t=>obtain⟨v,rfl,q⟩:=Vals.one t;exact⟨_,_,rfl,r,q⟩
theorem Vals.reverse{xs:List V}(h:Vals xs us):Vals xs.reverse us.reverse:=by
 induction h with
 |nil=>exact .nil
 |cons r t ih=>rw[Tk,Tk];exact Vals.append ih (.cons r .nil)
section
variable {pins:List (Addr×Obj)}{Y:St}{H:Hp}{s:Shared}{l:Addr}{xs ys:List V}
def Inv.lset{its its':List Value}{n:Nat}{f:Array Value->Array Value}{t':Nat}(I:Inv X pins Y H s)(hH:H l=some (.lst xs))
  (e:s.heap.get? l=some {cls:=.type "list",data:=.seq its.toArray n}) (hf:f its.toArray=its'.toArray) (hv:Vals ys its') (hz:ys.length<=sizeLine):
  Inv X pins Y (upd H l (.lst ys)) {s with heap:=s.heap.update l (Obj.mapSeq f),toks:=t'}:=by
 have q:=PySem.IsL.update e f;rw[hf]at q
 refine I.write (x:=l) (e:=l) (by rw[hH];exact trivial) (.inl rfl) (λb' u hb hu=>(Vg s.heap (Obj.mapSeq f) (Wr hb)).trans hu) ⟨_,q⟩ ?_
 exact⟨hz,its',_,hv,q⟩
def Inv.lnew{its:List Value}{t':Nat}(I:Inv X pins Y H s)(hv:Vals ys its)(hz:ys.length<=sizeLine):
  Inv X pins Y (upd H s.heap.objs.size (.lst ys)) {s with heap:=s.heap.push {cls:=.type "list",data:=.seq its.toArray},toks:=t'}:=
 I.laid (λz z q=>Xf _ q) (Xg _) ⟨hz,its,0,hv,Xy _ rfl⟩
theorem Inv.fresh(I:Inv X pins Y H s):H s.heap.objs.size=none:=I.hok.fresh (Xg _)
def Inv.lstM(I:Inv X pins Y H s)(hH:H l=some (.lst xs)): xs.length<=sizeLine/\∃(its:List Value) (n:Nat),Vals xs its/\xs.length=its.length/\s.heap.get? l=some {cls:=.type "list",data:=.seq its.toArray n}:= by
 obtain⟨z,its,n,r,e⟩:=I.hok l _ hH;exact⟨z,its,n,r,r.length,e⟩
def Qgr{n:Nat}(h:n<=sizeLine):Builtin.List.listTooLong n=false:=by
 unfold Builtin.List.listTooLong
 exact Wf (by omega)
end
section

def QiM:V->List V->Hp->VK->Prop:=λx vs H Q=>∃l xs y,x=.ref l/\vs=[y]/\H l=some (.lst xs)/\xs.length<sizeLine/\Q .non (upd H l (.lst (xs++[y])))
def QaD:MtM X "list.append" QiM:=by
 intro pins s Y H x vs v us Q I rx rv h;obtain⟨l,xs,y,rfl,rfl,hH,hz,q⟩:=h;cases rx;obtain⟨u,rfl,ru⟩:=rv.one;obtain⟨z,its,n,r,hl,e⟩:=I.lstM hH
 refine call_meets F.slot_list_append ⟨_,e,rfl⟩ F.entry_list_append (F.args_list_append_2 _ _) (PySem.list_append l its.toArray n u (by rw[Xw];omega)) ⟨e,?_⟩
 refine⟨.non,_,I.lset (its':=its++[u]) hH e (by simp) (r.append (.cons ru .nil)) ?_,rfl,q⟩
 rw[Xs,List.length_singleton];omega
def QiL:V->List V->Hp->VK->Prop:=λx vs H Q=>∃l b xs zs,x=.ref l/\vs=[.ref b]/\H l=some (.lst xs)/\H b=some (.lst zs)/\xs.length+zs.length<=sizeLine/\Q .non (upd H l (.lst (xs++zs)))
def Qei:MtM X "list.extend" QiL:=by
 intro pins s Y H x vs v us Q I rx rv h;obtain⟨l,b,xs,zs,rfl,rfl,hH,hB,hz,q⟩:=h;cases rx;obtain⟨u,rfl,ru⟩:=rv.one;cases ru;obtain⟨z,its,n,r,hl,e⟩:=I.lstM hH;obtain⟨z2,its2,n2,r2,hl2,e2⟩:=I.lstM hB
 have hsz:its.toArray.size+its2.toArray.size<=sizeLine:=by rw[Xw,Xw];omega
 have hlong:¬(!its.toArray.isEmpty&&Builtin.List.listTooLong (its.toArray.size+its2.toArray.size))=true:=by
  rw[Qgr hsz,Bool.and_false];exact X3
 refine call_meets F.slot_list_extend ⟨_,e,rfl⟩ F.entry_list_extend (F.args_list_extend_2 _ _)
  (AutoSeq1.list_extend_list_list_0 l its.toArray n b its2.toArray n2 hlong (by rw[Xw];omega) (by omega)) ⟨e,e2,?_⟩
 refine⟨.non,_,I.lset (its':=its++its2) hH e (by simp) (r.append r2) ?_,rfl,q⟩
 rw[Xs];omega
def QqQ:R2:=λx y H Q=>∃l b xs zs,x=.ref l/\y=.ref b/\H l=some (.lst xs)/\H b=some (.lst zs)/\xs.length+zs.length<=sizeLine/\∀p,H p=none->Q (.ref p) (upd H p (.lst (xs++zs)))
def Ql5:OpR X (binaryOp .Add) QqQ:=by
 intro pins s Y H x y v u Q I rx ry h;obtain⟨l,b,xs,zs,rfl,rfl,hH,hB,hz,q⟩:=h;cases rx;cases ry;obtain⟨z,its,n,r,hl,e⟩:=I.lstM hH;obtain⟨z2,its2,n2,r2,hl2,e2⟩:=I.lstM hB
 refine PySem.P.add_list e e2 ?_ (by rw[Xw,Xw];omega)
 have ea:its.toArray++its2.toArray=(its++its2).toArray:=by simp
 rw[ea]
 exact⟨.ref _,_,I.lnew (t':=s.toks) (r.append r2) (by rw[Xs];omega),rfl,q _ I.fresh⟩
end
section
set_option maxRecDepth 100000 in
end
section

end
end
section
variable {a:Addr}{A:Around}{X:Cx}{H H':Hp}{pins:List (Addr×Obj)}{xs:List (List Key×Addr×Value)}{kvs:List (List Key×V)}{o:Option V}{pos:Pos}{P:Program}{s:Shared}{Y:St}{y:V}{u:Value}{Q:Value->Shared->Prop}{w:World}
section
variable {κ:Type}[DecidableEq κ]
noncomputable def ZP(kvs:List (κ×V))(k:κ):Option V:=(kvs.find? λkv=>decide (kv.1=k)).map (·.2)
noncomputable def ZT(kvs:List (κ×V))(k:κ)(v:V):List (κ×V):=
 if(kvs.any λkv=>decide (kv.1=k))=true then kvs.map (λkv=>if kv.1=k then(kv.1,v)else kv)else kvs++[(k,v)]
def Yy{p:κ×V}{r:List (κ×V)}{k:κ}(e:p.1=k):ZP (p::r) k=some p.2:=by simp[ZP,Vi,e]
def Yz{p:κ×V}{r:List (κ×V)}{k:κ}(e:¬p.1=k):ZP (p::r) k=ZP r k:=by simp[ZP,Vi,e]
theorem JD(k:κ):∀kvs:List (κ×V),(kvs.any λkv=>decide (kv.1=k))=(ZP kvs k).isSome
 |[]=>rfl
 |p::r=>by
  rw[U5];by_cases e:p.1=k
  ·simp only[Yy e,Wz e,Bool.true_or,Option.isSome_some]
  ·rw[Yz e,Wf e,Bool.false_or];exact JD k r
def Q5(kvs:List (κ×V))(k:κ)(v:V):(ZT kvs k v).length<=kvs.length+1:=by
 unfold ZT;split
 ·rw[X5];omega
 ·rw[Xs,Wa,W5];omega
def Qf9{kvs:List (κ×V)}{k:κ}(v:V)(h:ZP kvs k=none):ZT kvs k v=kvs++[(k,v)]:=by
 unfold ZT;rw[JD,h]
 exact if_neg (by decide)
def RelO.isSome_eq{u:Option Value}(r:RelO o u):o.isSome=u.isSome:=by
 cases o with
 |none=>cases u with
  |none=>rfl
  |some _=>exact(show False from r).elim
 |some _=>cases u with
  |none=>exact(show False from r).elim
  |some _=>rfl
theorem RelO.getD{u:Option Value}{d:V}{d':Value}(r:RelO o u)(rd:RelV d d'):RelV (o.getD d) (u.getD d'):=by
 cases o with
 |none=>cases u with
  |none=>exact rd
  |some _=>exact(show False from r).elim
 |some _=>cases u with
  |none=>exact(show False from r).elim
  |some _=>exact r
def KV.val{kvs:List (κ×V)}{vs:List (κ×Value)}(r:KV kvs vs)(k:κ):RelO (ZP kvs k) (valueAt vs k):=by
 unfold KV at r
 induction r with
 |nil=>exact True.intro
 | @cons p q ps qs h t ih=>
  obtain⟨h1,h2⟩:=h;by_cases e:p.1=k
  ·have e':q.1=k:=h1.symm.trans e
   have b:valueAt (q::qs) k=some q.2:=by simp[valueAt,Vi,e']
   rw[Yy e,b];exact h2
  ·have e':¬q.1=k:=λz=>e (h1.trans z)
   have b:valueAt (q::qs) k=valueAt qs k:=by simp[valueAt,Vi,e']
   rw[Yz e,b];exact ih
theorem KV.any{kvs:List (κ×V)}{vs:List (κ×Value)}(r:KV kvs vs)(k:κ):(kvs.any λkv=>decide (kv.1=k))=vs.any λkv=>decide (kv.1=k):=by
 unfold KV at r
 induction r with
 |nil=>rfl
 |cons h t ih=>rw[U5,U5,ih,h.1]
def KV.repl{kvs:List (κ×V)}{vs:List (κ×Value)}(r:KV kvs vs)(k:κ)(ry:RelV y u):
  KV (kvs.map λkv=>if kv.1=k then(kv.1,y)else kv) (vs.map λkv=>if kv.1=k then(kv.1,u)else kv):=by
 unfold KV at r ⊢
 induction r with
 |nil=>exact .nil
 | @cons p q ps qs h t ih=>
  rw[Xo,Xo];refine .cons ?_ ih;obtain⟨h1,h2⟩:=h;by_cases e:p.1=k
  ·rw[if_pos e,if_pos (h1.symm.trans e)];exact⟨h1,ry⟩
  ·rw[if_neg e,if_neg (λz=>e (h1.trans z))];exact⟨h1,h2⟩
def KV.put{kvs:List (κ×V)}{vs:List (κ×Value)}(r:KV kvs vs)(k:κ)(ry:RelV y u):KV (ZT kvs k y) (stored vs k u):=by
 unfold ZT stored;rw[r.any k];by_cases e:(vs.any λkv=>decide (kv.1=k))=true
 ·rw[if_pos e,if_pos e];exact r.repl k ry
 ·rw[if_neg e,if_neg e];exact Paired.snoc r ⟨rfl,ry⟩
theorem KV.length{kvs:List (κ×V)}{vs:List (κ×Value)}(r:KV kvs vs):kvs.length=vs.length:=Wq r
end
def QaI{k:Key}(r:RelV (kV k) u):(Ql P w).is k u=true:=by
 cases k with
 |inl i=>obtain⟨t,e⟩:=(show ∃t,u=Value.int i t from r);subst e;exact Qbv P w i t
 |inr x=>obtain⟨t,e⟩:=(show ∃t,u=Value.str x t from r);subst e;exact Qbu P w x t
theorem QaJ{P:Program}{w:World}:∀{ks:List Key} {us:List Value},Vals (ks.map kV) us->ItemsAre (Ql P w) ks us
 |[],_,r=>by rw[Ui]at r;cases r;exact .nil
 |k::ks,_,r=>by
  rw[Xo]at r
  cases r with
  |cons h t=>exact .cons (QaI h) (QaJ t)
abbrev KT(H:Hp):List (List Key×V)->List (List Key×Addr×Value)->Prop:=Paired λp q=>p.1=q.1/\H q.2.1=some (.tup (p.1.map kV))/\RelV p.2 q.2.2
def KT.val(r:KT H kvs xs)(k:List Key):RelO (ZP kvs k) ((atKey xs k).map (·.2)):=by
 induction r with
 |nil=>exact True.intro
 | @cons p q ps qs h t ih=>
  obtain⟨h1,_,h2⟩:=h;by_cases e:p.1=k
  ·have e':q.1=k:=h1.symm.trans e
   have b:atKey (q::qs) k=some q.2:=by simp[atKey,Vi,e']
   rw[Yy e,b];exact h2
  ·have e':¬q.1=k:=λz=>e (h1.trans z)
   have b:atKey (q::qs) k=atKey qs k:=by simp[atKey,Vi,e']
   rw[Yz e,b];exact ih
def KT.repl(r:KT H kvs xs)(k:List Key)(ry:RelV y u):
  KT H (kvs.map λkv=>if kv.1=k then(kv.1,y)else kv) (xs.map (putAt k u)):=by
 induction r with
 |nil=>exact .nil
 | @cons p q ps qs h t ih=>
  rw[Xo,Xo];refine .cons ?_ ih;obtain⟨h1,h2,h3⟩:=h;unfold putAt;by_cases e:p.1=k
  ·rw[if_pos e,if_pos (h1.symm.trans e)];exact⟨h1,h2,ry⟩
  ·rw[if_neg e,if_neg (λz=>e (h1.trans z))];exact⟨h1,h2,h3⟩
def KT.put(r:KT H kvs xs)(k:List Key){b:Addr}(hb:H b=some (.tup (k.map kV)))(ry:RelV y u):
  KT H (ZT kvs k y) (storedH xs k b u):=by
 have e:(kvs.any λkv=>decide (kv.1=k))=(atKey xs k).isSome:=by
  rw[JD,(r.val k).isSome_eq,Tl]
 unfold ZT storedH;rw[e];by_cases q:(atKey xs k).isSome=true
 ·rw[if_pos q,if_pos q];exact r.repl k ry
 ·rw[if_neg q,if_neg q];exact Paired.snoc r ⟨rfl,hb,ry⟩
def KT.keeps(r:KT H kvs xs)(ht:∀b ys,H b=some (.tup ys)->H' b=some (.tup ys)):KT H' kvs xs :=
 Paired.mapP r λy y z=>⟨z.1,ht _ _ z.2.1,z.2.2⟩
section
variable {h:Heap}
def Qlt{u:HO}(ok:HOk P w H h)(e:Rd H a u):ObjOk P w H h a u:=e.ok ok
def Qc1{kvs:List (Key×V)}(ok:HOk P w H h)(e:Rd H a (.dK kvs)):kvs.length<=sizeLine/\(a==sysModules)=false/\∃vs,KV kvs vs/\h.DictOf (Ql P w) a vs :=
 show ObjOk P w H h a (.dK kvs)from Qlt ok e
def QbH{kvs:List (Key×V)}(ok:HOk P w H h)(e:H a=some (.dK kvs)):kvs.length<=sizeLine/\(a==sysModules)=false/\∃vs,KV kvs vs/\h.DictOf (Ql P w) a vs:=Qc1 ok (.inl e)
def YW{ks:List Key}(ok:HOk P w H h)(e:H a=some (.tup (ks.map kV))):(tupleKind (Ql P w)).is h ks a:=by
 obtain⟨_,its,r,o,h1,h2,n,h3⟩:=(show ObjOk P w H h a (.tup (ks.map kV))from ok a _ e)
 exact⟨o,its.toArray,n,h1,h2,h3,by simpa using QaJ r⟩
def Qc0(ok:HOk P w H h)(e:Rd H a (.dT kvs)):kvs.length<=sizeLine/\(a==sysModules)=false /\
  ∃xs,KT H kvs xs/\h.DictOfH (tupleKind (Ql P w)) a xs:=by
 obtain⟨z,y,xs,r,o,es,ep,h1,h2,h3,h4,h5⟩:=(show ObjOk P w H h a (.dT kvs)from Qlt ok e);refine⟨z,y,xs,r,o,es,ep,h1,h2,h3,h4,λx hx=>?_,h5⟩
 have all:∀{l:List (List Key×V)} {m:List (List Key×Addr×Value)},KT H l m->∀x∈m,(tupleKind (Ql P w)).is h x.1 x.2.1:=by
  intro l m q
  induction q with
  |nil=>intro x hx;exact nomatch hx
  | @cons p q ps qs hq t ih=>
   intro x hx
   rcases X7.mp hx with e|hx
   ·subst e
    exact YW ok (by rw[<-hq.1];exact hq.2.1)
   ·exact ih x hx
 exact all r x hx
def QoY(ok:HOk P w H h)(e:H a=some (.dT kvs)):kvs.length<=sizeLine/\(a==sysModules)=false /\
  ∃xs,KT H kvs xs/\h.DictOfH (tupleKind (Ql P w)) a xs:=Qc0 ok (.inl e)
end
noncomputable def DGet(H:Hp)(a:Addr)(y:V)(r:Option V):Prop :=
 (∃kvs k,Rd H a (.dK kvs)/\y=kV k/\r=ZP kvs k)\/∃kvs k b,Rd H a (.dT kvs)/\y=.ref b/\H b=some (.tup (k.map kV))/\r=ZP kvs k
noncomputable def DPut(H:Hp)(a:Addr)(y v:V)(H':Hp):Prop :=
 (∃kvs k,H a=some (.dK kvs)/\y=kV k/\kvs.length<sizeLine/\H'=upd H a (.dK (ZT kvs k v))) \/
 ∃kvs k b,H a=some (.dT kvs)/\y=.ref b/\H b=some (.tup (k.map kV))/\kvs.length<sizeLine/\H'=upd H a (.dT (ZT kvs k v))
theorem DGet.k{H:Hp}{a:Addr}{kvs:List (Key×V)}{k:Key}(e:H a=some (.dK kvs)):DGet H a (kV k) (ZP kvs k):=.inl ⟨kvs,k,.inl e,rfl,rfl⟩
def DGet.t{b:Addr}{k:List Key}(e:H a=some (.dT kvs))(eb:H b=some (.tup (k.map kV))):DGet H a (.ref b) (ZP kvs k):=.inr ⟨kvs,k,b,.inl e,rfl,eb,rfl⟩
theorem DPut.k{H:Hp}{a:Addr}{kvs:List (Key×V)}{k:Key}{v:V}(e:H a=some (.dK kvs))(hl:kvs.length<sizeLine):DPut H a (kV k) v (upd H a (.dK (ZT kvs k v))):=.inl ⟨kvs,k,e,rfl,hl,rfl⟩
def DPut.t{b:Addr}{k:List Key}{v:V}(e:H a=some (.dT kvs))(eb:H b=some (.tup (k.map kV)))(hl:kvs.length<sizeLine):
  DPut H a (.ref b) v (upd H a (.dT (ZT kvs k v))):=.inr ⟨kvs,k,b,e,rfl,eb,hl,rfl⟩
section
variable {v:V}{r:Value}{E:Value->Shared->Prop}
def Inv.big(I:Inv X pins Y H s):sysModules<s.heap.objs.size:=by
 have h:mainGlobals<s.heap.objs.size:=(I.mod.glob.keeps I.bk).lt
 exact Nat.lt_trans (by decide) h
def Qe8(hu:A.units+1<cLine)(I:Inv X pins Y H s)(g:DGet H a y (some v))(ry:RelV y u)(h:∀w' s',Inv X pins Y H s'->RelV v w'->Q w' s'):
  wpAny (model X.prog X.w) A (getItem (.ref a) u) Q E s:=by
 rcases g with⟨kvs,k,e,ey,l⟩|⟨kvs,k,b,e,ey,eb,l⟩
 ·subst ey;obtain⟨z,hd,vs,rel,dd⟩:=Qc1 I.hok e
  obtain⟨w',hw,rw'⟩:=RelO.some_of (v:=v) (o:=valueAt vs k) (by rw[l];exact rel.val k)
  exact wpAny_getItem_of (QaI ry) dd.mapOf hw (h w' _ (I.tok _) rw')
 ·subst ey;cases(show u=Value.ref b from ry);obtain⟨z,hd,xs,rel,dd⟩:=Qc0 I.hok e
  obtain⟨w',hw,rw'⟩:=RelO.some_of (v:=v) (o:=(atKey xs k).map (·.2)) (by rw[l];exact rel.val k)
  obtain⟨p,hp,hp2⟩:=Xd.mp hw;refine wpAny_getItem_heap (Up hu) (YW I.hok eb) dd hp ?_;rw[hp2];exact h w' _ (I.tok _) rw'
def Qrl(hu:A.units+1<cLine)(I:Inv X pins Y H s)(g:DGet H a y o)(ry:RelV y u)(h:∀s',Inv X pins Y H s'->Q (.bool o.isSome) s'):
  wpAny (model X.prog X.w) A (compareOp .In u (.ref a)) Q E s:=by
 rcases g with⟨kvs,k,e,ey,l⟩|⟨kvs,k,b,e,ey,eb,l⟩
 ·subst ey;obtain⟨z,hd,vs,rel,dd⟩:=Qc1 I.hok e;refine wpAny_in_of (QaI ry) hd dd.mapOf ?_;rw[<-(rel.val k).isSome_eq,<-l];exact h _ (I.tok _)
 ·subst ey;cases(show u=Value.ref b from ry);obtain⟨z,hd,xs,rel,dd⟩:=Qc0 I.hok e;refine wpAny_in_heap (Up hu) (YW I.hok eb) hd dd ?_;have q:=(rel.val k).isSome_eq;rw[Tl]at q;rw[<-q,<-l];exact h _ (I.tok _)
def QjQ(hu:A.units+1<cLine)(I:Inv X pins Y H s)(g:DGet H a y o)(ry:RelV y u)(h:∀s',Inv X pins Y H s'->Q (.bool (!o.isSome)) s'):
  wpAny (model X.prog X.w) A (compareOp .NotIn u (.ref a)) Q E s:=by
 rcases g with⟨kvs,k,e,ey,l⟩|⟨kvs,k,b,e,ey,eb,l⟩
 ·subst ey;obtain⟨z,hd,vs,rel,dd⟩:=Qc1 I.hok e;refine wpAny_notIn_of (QaI ry) hd dd.mapOf ?_;rw[<-(rel.val k).isSome_eq,<-l];exact h _ (I.tok _)
 ·subst ey;cases(show u=Value.ref b from ry);obtain⟨z,hd,xs,rel,dd⟩:=Qc0 I.hok e;refine wpAny_notIn_heap (Up hu) (YW I.hok eb) hd dd ?_;have q:=(rel.val k).isSome_eq;rw[Tl]at q;rw[<-q,<-l];exact h _ (I.tok _)
def Y2{h':Heap}{t':Nat}{ob:HO}(I:Inv X pins Y H s)(mu:Mut (H a))(hs:Heap.SameBut a s.heap h')(he:∃q,h'.get? a=some q)(new:ObjOk X.prog X.w (upd H a ob) h' a ob):
  Inv X pins Y (upd H a ob) {s with heap:=h',toks:=t'}:=
 I.write (x:=a) (e:=a) mu (.inl rfl) (λb q hb z=>(hs.2 b hb).trans z) he new
def Qcs{h':Heap}{kvs:List (Key×V)}{vs:List (Key×Value)}(z:kvs.length<=sizeLine)(hd:(a==sysModules)=false)(rel:KV kvs vs)(dd:h'.DictOf (Ql P w) a vs):
  ObjOk P w H' h' a (.dK kvs):=⟨z,hd,vs,rel,dd⟩
def Qe7{Q:Unit->Shared->Prop}(hu:A.units+1<cLine)(I:Inv X pins Y H s)(g:DPut H a y v H')(ry:RelV y u)(rv:RelV v r)(h:∀s',Inv X pins Y H' s'->Q () s'):
  wpAny (model X.prog X.w) A (setItem (.ref a) u r) Q E s:=by
 rcases g with⟨kvs,k,e,ey,l,eH⟩|⟨kvs,k,b,e,ey,eb,l,eH⟩
 ·subst ey eH;obtain⟨z,hd,vs,rel,dd⟩:=QbH I.hok e
  have hz:vs.length<=sizeLine:=by rw[<-rel.length];exact z
  have hl:(ZT kvs k v).length<=sizeLine:=by have:=Q5 kvs k v;omega
  refine wpAny_setItem_pairs (hsz:=hz) (QaI ry) dd λh' dd' hs=>h _ ?_;have he:∃q,h'.get? a=some q:=let ⟨q,_,_,hq,_⟩:=dd';⟨q,hq⟩
  exact Y2 I (by rw[e];exact True.intro) hs he (Qcs hl hd (rel.put k rv) dd')
 ·subst ey eH;cases(show u=Value.ref b from ry);obtain⟨z,hd,xs,rel,dd⟩:=QoY I.hok e
  have hz:xs.length<=sizeLine:=by rw[<-Wq rel];exact z
  have hl:(ZT kvs k v).length<=sizeLine:=by have:=Q5 kvs k v;omega
  refine wpAny_setItem_heap (hsz:=hz) (Up hu) (YW I.hok eb) dd λh' dd' hs=>h _ ?_;obtain⟨q,es,ep,hq,h2,h3,h4,_,h5⟩:=dd'
  refine Y2 I (by rw[e];exact True.intro) hs ⟨q,hq⟩ ⟨hl,hd,_,(rel.put k eb rv).keeps λc ys ec=>?_,q,es,ep,hq,h2,h3,h4,h5⟩
  rw[Qf (Qov ec e (λz=>nomatch z))];exact ec
end
def QbI(I:Inv X pins Y H s)(g:DGet H a y o):s.TypeIs (.ref a) "dict":=by
 rcases g with⟨kvs,k,e,_,_⟩|⟨kvs,k,b,e,_,_,_⟩
 ·obtain⟨_,_,vs,_,dd⟩:=Qc1 I.hok e;exact dd.typeIs
 ·obtain⟨_,_,xs,_,dd⟩:=Qc0 I.hok e;exact dd.typeIs
def Qct(h:Heap)(hb:sysModules<h.objs.size):ObjOk P w H (h.push {cls:=.type "dict",data:=.dict #[]}) h.objs.size (.dK []):=
 ⟨W6 _,V2.mpr (Wr (Xp hb)),[],.nil,Heap.DictOf.new h⟩
def QgR(h:Heap)(hb:sysModules<h.objs.size):ObjOk P w H (h.push {cls:=.type "dict",data:=.dict #[]}) h.objs.size (.dT []):=
 ⟨W6 _,V2.mpr (Wr (Xp hb)),[],.nil,_,#[],0,Xy _ rfl,⟨rfl,rfl,rfl⟩,rfl,rfl,List.nodup_nil⟩
def Qk4:TE:=λz H Q=>∀p,H p=none->Q (.ref p) (upd H p (.dK []))
def Qk3:TE:=λz H Q=>∀p,H p=none->Q (.ref p) (upd H p (.dT []))
section

def Qgj:PE X (.Dict [] [] pos) Qk4:=λpins s Y H Q I h=>
 wpAny_Dict_empty ⟨.ref s.heap.objs.size,_,I.laid (a:=s.heap.objs.size) (o:=.dK []) (t':=s.toks) (λz z q=>Xf _ q) (Xg _) (Qct s.heap I.big),rfl,h _ (I.hok.fresh (Xg _))⟩
def Qgi:PE X (.Dict [] [] pos) Qk3:=λpins s Y H Q I h=>
 wpAny_Dict_empty ⟨.ref s.heap.objs.size,_,I.laid (a:=s.heap.objs.size) (o:=.dT []) (t':=s.toks) (λz z q=>Xf _ q) (Xg _) (QgR s.heap I.big),rfl,h _ (I.hok.fresh (Xg _))⟩
end
def QbX:List (TE×TE)->St->Hp->(List (V×V)->Hp->Prop)->Prop
 |[],_,H,Q=>Q [] H
 | (tk,tv)::r,Y,H,Q=>tk Y H λx H1=>tv Y H1 λy H2=>QbX r Y H2 λps H3=>Q ((x,y)::ps) H3
abbrev VV:List (V×V)->List (Value×Value)->Prop:=Paired λp q=>RelV p.1 q.1/\RelV p.2 q.2
noncomputable def PPs(X:Cx)(pos:Pos)(keys:List (Option Expr))(values:List Expr)(trs:List (TE×TE)):Prop :=
 ∀(pins:List (Addr×Obj)) (s:Shared) (Y:St) (H:Hp) (Q:List (V×V)->Hp->Prop),Inv X pins Y H s->QbX trs Y H Q ->
  wpAny (model X.prog X.w) X.A (evalPairs (pairTrees keys values X.env pos)) (λvs s'=>∃ps H',Inv X pins Y H' s'/\VV ps vs/\Q ps H') X.xe s
def QiY:PPs X pos [] [] []:=λpins s Y H Q I h=>pairTrees_nil_walk ⟨[],H,I,.nil,h⟩
def Qgg{k v:Expr}{ks:List (Option Expr)}{vs:List Expr}{tk tv:TE}{trs:List (TE×TE)}(hk:PE X k tk)(hv:PE X v tv)(hr:PPs X pos ks vs trs):
  PPs X pos (some k::ks) (v::vs) ((tk,tv)::trs):=λpins s Y H Q I h=>
 pairTrees_cons_walk (thn (hk pins s Y H _ I h) λu s1 ⟨x,H1,I1,rx,q1⟩=>thn (hv pins s1 Y H1 _ I1 q1) λw2 s2 ⟨y,H2,I2,ry,q2⟩=>
  thn (hr pins s2 Y H2 _ I2 q2) λws s3 z=>by obtain⟨ps,H3,I3,rel,q3⟩:=z;exact⟨(x,y)::ps,H3,I3,.cons ⟨rx,ry⟩ rel,q3⟩)
noncomputable def ZW(kvs more:List (Key×V)):List (Key×V):=more.foldl (λacc kv=>ZT acc kv.1 kv.2) kvs
def KV.merge:∀{more:List (Key×V)} {rs:List (Key×Value)} {kvs:List (Key×V)} {vs:List (Key×Value)},KV more rs->KV kvs vs->KV (ZW kvs more) (merged vs rs):=by
 intro more rs kvs vs r;unfold KV at r
 induction r generalizing kvs vs with
 |nil=>intro q;exact q
 | @cons p q ps qs h t ih=>
  intro r0
  have e:KV (ZT kvs p.1 p.2) (stored vs q.1 q.2):=by
   have:=r0.put p.1 h.2;rw[<-h.1];exact this
  exact ih e
theorem Zm:∀(more kvs:List (Key×V)),(ZW kvs more).length<=kvs.length+more.length
 |[],kvs=>by show kvs.length<=kvs.length+0;omega
 |p::r,kvs=>by
  have h1:=Zm r (ZT kvs p.1 p.2);have h2:=Q5 kvs p.1 p.2;show(ZW (ZT kvs p.1 p.2) r).length<=_;rw[Wa];omega
theorem Jz{P:Program}{w:World}:∀{kvs:List (Key×V)} {ws:List (Value×Value)},VV (kvs.map λkv=>(kV kv.1,kv.2)) ws->∃rs,Carries (Ql P w) ws rs/\KV kvs rs
 |[],_,r=>by rw[Ui]at r;cases r;exact⟨[],True.intro,.nil⟩
 |p::kvs,_,r=>by
  rw[Xo]at r
  cases r with
  | @cons a b as bs h t=>
   obtain⟨rs,c,q⟩:=Jz (P:=P) (w:=w) t;obtain⟨b1,b2⟩:=b;exact⟨(p.1,b2)::rs,⟨QaI h.1,rfl,c⟩,.cons ⟨rfl,h.2⟩ q⟩
def QnO(trs:List (TE×TE)):TE:=λY H Q=>∀p,H p=none->QbX trs Y (upd H p (.dK [])) λps H2=>H2 p=some (.dK [])/\∃kvs:List (Key×V),ps=kvs.map (λkv=>(kV kv.1,kv.2))/\kvs.length<=15/\Q (.ref p) (upd H2 p (.dK (ZW [] kvs)))
def Qi7{keys:List (Option Expr)}{values:List Expr}{trs:List (TE×TE)}(h:PPs X pos keys values trs)(hall:keys.all (·.isSome)=true)(hl:keys.length=values.length)(h0:keys≠[])
  (h15:keys.length<=15):PE X (.Dict keys values pos) (QnO trs):=by
 intro pins s Y H Q I q;have hn:=I.hok.fresh (Xg s.heap.objs.size);have I1:=I.laid (a:=s.heap.objs.size) (o:=.dK []) (h':=s.heap.push {cls:=.type "dict",data:=.dict #[]}) (t':=s.toks) (λy y q=>Xf _ q) (Xg _) (Qct s.heap I.big);refine wpAny_Dict_walk (knd:=Ql X.prog X.w) hall hl h0 h15 (thn (h pins _ Y _ _ I1 (q _ hn)) λws s2 x=>?_);obtain⟨ps,H2,I2,rel,e,kvs,ep,lk,q2⟩:=x;subst ep;obtain⟨rs,c,rk⟩:=Jz (P:=X.prog) (w:=X.w) rel;obtain⟨z,hd,vs0,r0,dd⟩:=QbH I2.hok e;cases r0;refine⟨rs,c,dd,λh' dd' hs=>⟨.ref s.heap.objs.size,_,?_,rfl,q2⟩⟩
 have hz:(ZW [] kvs).length<=sizeLine:=by
  have h1:=Zm kvs [];rw[W5]at h1;rw[Vy];omega
 have he:∃q,h'.get? s.heap.objs.size=some q:=let ⟨q,_,_,hq,_⟩:=dd';⟨q,hq⟩
 exact Y2 I2 (by rw[e];exact True.intro) hs he (Qcs hz hd (rk.merge .nil) dd')
section
variable {d:V}{r:Value}{E:Value->Shared->Prop}
def QmE(hu:A.units+1<cLine)(I:Inv X pins Y H s)(g:DGet H a y o)(ry:RelV y u)(rd:RelV d r)(h:∀w' s',Inv X pins Y H s'->RelV (o.getD d) w'->Q w' s'):
  wpAny (model X.prog X.w) A (call (.builtin "dict.get") [.ref a,u,r]) Q E s:=by
 rcases g with⟨kvs,k,e,ey,l⟩|⟨kvs,k,b,e,ey,eb,l⟩
 ·subst ey;obtain⟨z,hd,vs,rel,dd⟩:=Qc1 I.hok e;refine T6 Tz dd.typeIs PySem.F.entry_dict_get (PySem.F.args_dict_get_3 _ _ _) (meets_dict_get_default (Ql X.prog X.w) a (QaI ry) hd r) ⟨_,dd.mapOf,h _ _ (I.tok _) ?_⟩;rw[l];exact(rel.val k).getD rd
 ·subst ey;cases(show u=Value.ref b from ry);obtain⟨z,hd,xs,rel,dd⟩:=Qc0 I.hok e;refine T6 Tz dd.typeIs PySem.F.entry_dict_get (PySem.F.args_dict_get_3 _ _ _) (meetsH_dict_get_default (tupleKind (Ql X.prog X.w)) a b hd r) ⟨Up hu,k,xs,YW I.hok eb,dd,h _ _ (I.tok _) ?_⟩;rw[l];exact(rel.val k).getD rd
end
end
end L2
namespace Att
open PySem PySem.W PySem.Calls PyProof.Rows
def YX{P:Params}{h:Heap}:∀(ns:List Int) (vs:List Value),WellAll P h vs (ns.map WData.int)->IntsAre vs ns:=by
 intro ns
 induction ns with
 |nil=>
  intro vs w;rw[Ui]at w;cases w;exact .nil
 |cons n ns ih=>
  intro vs w;rw[Xo]at w
  cases w with
  |cons a b=>
   cases a;exact .cons _ _ (ih _ b)
def QdN{l:OpenLaw}{n:Nat}(hn:l.most=some n){P:Params}{h:Heap}{args:List WData}{vals:List Value}
  (hpre:l.row.toRowW.claim.pre args=true) (hwl:WellAll P h vals args):
  ∃a vs ns,vals=[Value.ref a]/\args=[WData.list (ns.map WData.int)]/\h.get? a=some {cls:=.type "list",data:=.seq vs.toArray}/\IntsAre vs ns/\ns.length<=n:=by
 have hsh:WShape.hasAll [] args [.list .int]=true:=(pre_splitW hpre).1;have hc:l.pre.holds [] {args:=args}=true:=(pre_splitW hpre).2;obtain⟨d,r,rfl,h1,h2⟩:=hasAllW_cons hsh;obtain rfl:=hasAllW_nil h2;obtain⟨xs,rfl,h3⟩:=hasW_list h1;obtain⟨ns,rfl⟩:=items_int h3
 have hlen:ns.length<=n:=by
  unfold OpenLaw.pre at hc
  have h4:(WTm.not (.lt (.lit (.int (n:Int))) (.len (.arg 0)))).holds [] {args:=[.list (ns.map .int)]}=true:=by
   have h4:=(holds_andW hc).1;rw[hn]at h4;exact h4
  have h5:=condW_of h4 (w_not (w_lt w_lit (w_len_list (w_arg rfl))));rw[X5]at h5;refine Tw λq=>?_
  have q':(n:Int) < ((ns.length:Nat):Int):=by omega
  first
   | (rw[Wz q']at h5;exact absurd h5 (by decide))
   | (simp at h5;omega)
 cases hwl with
 |cons w1 w2=>
  cases w2
  cases w1 with
  |list ho hall=>exact⟨_,_,ns,rfl,rfl,ho,YX ns _ hall,hlen⟩
def Qd1(l:OpenLaw)(args:List WData):l.row.toRowW.claim.post args (.bool true) args=true :=
 postW_of (r:=l.row.toRowW) (X:=(true==true))
  (show WShape.has [] (.bool true) .bool=true by first|rfl|decide|simp[WShape.has,WShape.arms,WShape.armsAll])
  (show(WTm.eq .res (.lit (.bool true))).value [] {args:=args,res:=some (.bool true),after:=args}=some (.bool (true==true))from w_eq_bool (w_res rfl) w_lit) rfl
def attach_call{l:OpenLaw}{n:Nat}{q:Program}{loose:List Str}{XP:(Str->Option Value)->Heap->Prop}{YP:World->Heap->Prop}{d:DefRec}
  (hn:l.most=some n) (hdf:d.params.defaults=[])
  (call:∀(w:World) (s₀ s₁:Shared) (mg mb:Str->Option Value) (fa:Addr) (o:Obj) (pm cd doc:Value) (a:Addr) (vs:List Value) (ns:List Int),
   Ground q loose [] XP w s₀ mg mb s₁.heap->YP w s₁.heap ->
   s₁.heap.get? fa=some o->o.data=.func (docDef d.name d.params d.body d.scope pm cd doc)->s₁.heap.CodeRec cd d.name->mg d.name=some (.ref fa) ->
   s₁.heap.get? a=some {cls:=.type "list",data:=.seq vs.toArray}->IntsAre vs ns->ns.length<=n->s₁.gens=#[] ->
   codeAny (model l.prog w) callerA (.call (.ref fa) ⟨[.ref a],[]⟩) (λr s'=>r=.ok (.ret (.bool true))/\OldK s₁.heap s'.heap/\s'.os=s₁.os/\AllBare s'.gens) s₁):
  WalkO q loose XP YP l.row.toRowW d [] (λf vs=>PySem.call f vs):=by
 intro w s₀ s₁ mg mb G Yyy fa o pm cd doc dV kV ho hd hcd hD hmg hg args vals as hpre hlay hrd hwl hlo;obtain rfl:dV=.none:=Dflts.none hD hdf;obtain rfl:kV=.none:=Dflts.noKw hD;obtain⟨a,vs,ns,rfl,rfl,hobj,hints,hlen⟩:=QdN hn hpre hwl;refine enter_call (T5 (call w s₀ s₁ mg mb fa o pm cd doc a vs ns G Yyy ho (fd_plain hd) hcd hmg hobj hints hlen hg) λr s' hq=>?_);obtain⟨rfl,h2,h3,h4⟩:=hq;exact⟨.inl ⟨.bool true,.bool true,[],rfl,λz=>rfl,.bool true,Qd1 l _,λz=>⟨List.Pairwise.nil,λz hm=>(nomatch hm)⟩⟩,h2,h3,h4⟩
end Att
namespace L2
open PySem PySem.Spec PyProof.Rows
section
theorem Qaq:∀{vs:List Value} {ns:List Int},IntsAre vs ns->Vals (ns.map V.int) vs
 |_,_,.nil=>.nil
 |_,_,.cons n t h=>.cons ⟨t,rfl⟩ (Qaq h)
def Qns(H:Hp):Prop:=∀b,H b=none\/∃o xs,H b=some (.frz o (.lst xs))
def Qgy{P:Program}{w:World}{K:W.Frag}{mg mb:Str->Option Value}{CX:CXT}{k:Nat}{fa a:Addr}{fd:FuncData}{x:Str}{sp:Sp}{s₁:Shared}{vs:List Value}{ns:List Int}
  (KX:K.In s₁.heap) (hns:s₁.heap.Ns mainGlobals mg) (hb:s₁.heap.Ns builtinsNs mb) (hbb:∀x:Str,x≠"__name__"->mb x=bootBuiltins x) (hlim:s₁.heap.NoLimit) (hg:s₁.gens=#[])
  (ha:s₁.heap.get? a=some {cls:=.type "list",data:=.seq vs.toArray}) (hi:IntsAre vs ns) (hl:ns.length<=sizeLine) (hr:Room k callerA)
  (F:∀base:Heap,K.In base->base.Ns mainGlobals mg->FnOk P w K mg base CX k fa fd [x] sp) (hbind:∀(s:Shared) (u:Value),BindsTo s fd ⟨[u],[]⟩ [(x,u)])
  (hsp:∀H:Hp,Qns H->SqL K H a (ns.map V.int)->sp [.ref a] H (λv y=>v=.bl true) λy y y=>False)
  (hCX:∀H e s',CX [] H s₁ (λy y y=>False) e s'->False):
  codeAny (model P w) callerA (.call (.ref fa) ⟨[.ref a],[]⟩) (λr s'=>r=.ok (.ret (.bool true))/\OldK s₁.heap s'.heap/\s'.os=s₁.os/\AllBare s'.gens) s₁:=by
 have rv:=Qaq hi;have lenV:=hi.length
 have core:∀H:Hp,Qns H->SqL K H a (ns.map V.int)->HOk P w H s₁.heap->(∀b,H b≠none->b=a)->(H a≠none->K.lookup a=none) ->
   codeAny (model P w) callerA (.call (.ref fa) ⟨[.ref a],[]⟩) (λr s'=>r=.ok (.ret (.bool true))/\OldK s₁.heap s'.heap/\s'.os=s₁.os/\AllBare s'.gens) s₁:=by
  intro H hO hS hok hA hK;have base_of:∀{b:Addr} {o:Obj},s₁.heap.get? b=some o->H b=none->(QgH s₁.heap H).get? b=some o:=λe n=>QgG e n
  have noA:∀{b:Addr} {o:Obj} {es:Array DictEntry} {ep:Nat},s₁.heap.get? b=some o->o.data=.dict es ep->H b=none:=λ{b o es ep} e d=>by
   cases q:H b with
   |none=>rfl
   |some u=>
    have e':b=a:=hA b (by rw[q];simp)
    subst e';rw[ha]at e;cases e;have d':Data.seq vs.toArray _=Data.dict es ep:=d;cases d'
  have nsK:∀{b:Addr} {m:Str->Option Value},s₁.heap.Ns b m->(QgH s₁.heap H).Ns b m:=λ{b m} ⟨o,es,ep,e,d,r⟩=>⟨o,es,ep,base_of e (noA e d),d,r⟩
  have hKb:K.In (QgH s₁.heap H):=λb o e=>base_of (KX b o e) (by
   cases q:H b with
   |none=>rfl
   |some u=>
    have e':b=a:=hA b (by rw[q];simp)
    subst e'
    rw[hK (by rw[q];simp)]at e;cases e)
  have hM:Mod K mg (QgH s₁.heap H):=⟨hKb,nsK hns,⟨mb,nsK hb,hbb⟩,let ⟨mc,h1,h2⟩:=hlim;⟨mc,nsK h1,h2⟩⟩
  have e0:Env0 P w K mg (QgH s₁.heap H) callerA [] s₁ H:=⟨rfl,hM,λb o e=>Qjj e,Nat.le_of_eq (QeG _ _),trivial,λb hb=>absurd (show b∈([]:List Addr)from hb) (by simp),hok,.of_eq hg⟩
  refine T5 ((F _ hKb (nsK hns)).run callerA [] s₁ H ⟨[.ref a],[]⟩ [.ref a] [.ref a] _ _ hr e0 (hbind s₁ (.ref a)) (.cons rfl .nil) (hsp H hO hS)) λr s' h=>?_
  cases r with
  |error e=>exact(hCX H e s' h).elim
  |ok fl=>
   cases fl with
   |next=>exact False.elim h
   |brk=>exact False.elim h
   |cont=>exact False.elim h
   |ret u=>
    obtain⟨v,H',os,bare,un,hok',r',q⟩:=h;have q':v=.bl true:=q;subst q';obtain rfl:u=Value.bool true:=r';refine⟨rfl,OldK.of_keep λb o e=>?_,os,bare⟩
    cases q:H b with
    |none=>exact un.keep b o e q (by intro z;exact absurd (show b∈([]:List Addr)from z) (by simp)) (by simp)
    |some u=>
     rcases hO b with z|⟨ob,xs,z⟩
     ·rw[q]at z;cases z
     ·have z2:=un.frzs b ob _ z;obtain⟨e1,_⟩:=hok b _ z;obtain⟨e2,_⟩:=hok' b _ z2;rw[e]at e1;cases e1;exact e2
 cases hk:K.lookup a with
 |some o=>
  have e:=KX a o hk;rw[ha]at e;cases e
  refine core (λy=>none) (λy=>.inl rfl) (.inr ⟨_,vs.toArray,_,hk,rfl,rfl,rfl,by rw[Xw,lenV];exact hl,by simpa using rv⟩) (λb u z=>by have z':(none:Option HO)=some u:=z;cases z') (λb z=>absurd rfl z) λz=>absurd rfl z
 |none=>
  refine core (λb=>if b=a then some (.frz {cls:=.type "list",data:=.seq vs.toArray} (.lst (ns.map V.int)))else none) (λb=>?_) (.inl (.inr ⟨{cls:=.type "list",data:=.seq vs.toArray},if_pos rfl⟩)) (λb u z=>?_) (λb z=>?_) λy=>hk
  ·by_cases hb:b=a
   ·exact .inr ⟨_,_,if_pos hb⟩
   ·exact .inl (if_neg hb)
  ·by_cases hb:b=a
   ·have z':=(if_pos hb).symm.trans z;cases z';subst hb
    exact⟨ha,by rw[X5];exact hl,vs,_,rv,ha⟩
   ·have z':=(if_neg hb).symm.trans z;cases z'
  ·by_cases hb:b=a
   ·exact hb
   ·exact absurd (if_neg hb) z
end
section
noncomputable abbrev KOf{K:W.Frag}{h:Heap}(_:K.In h):W.Frag:=K
def walk_of{l:W.OpenLaw}{n k:Nat}{q:Program}{loose:List Str}{XP:(Str->Option Value)->Heap->Prop}{YP:World->Heap->Prop}{d:DefRec}{K:Params->W.Frag}{CX:World->CXT}{sp:World->Sp}{x:Str}
  (hn:l.most=some n) (hn2:n<=sizeLine) (hdf:d.params.defaults=[]) (hr:Room k callerA)
  (hY:∀(w:World) (h:Heap),YP w h->(K w.params).In h)
  (F:∀(w:World) (mg:Str->Option Value) (fa:Addr) (h:Heap),(K w.params).In h->h.Ns mainGlobals mg->mg d.name=some (.ref fa) ->
   ∃fd:FuncData,(∀(s:Shared) (u:Value),BindsTo s fd ⟨[u],[]⟩ [(x,u)]) /\
    ∀base:Heap,(K w.params).In base->base.Ns mainGlobals mg->FnOk l.prog w (K w.params) mg base (CX w) k fa fd [x] (sp w))
  (hsp:∀(w:World) (H:Hp) (a:Addr) (ns:List Int),ns.length<=n->Qns H->SqL (K w.params) H a (ns.map V.int)->sp w [.ref a] H (λv z=>v=.bl true) λz z z=>False)
  (hCX:∀(w:World) (H:Hp) (s:Shared) (e:Value) (s':Shared),CX w [] H s (λz z z=>False) e s'->False):
  W.WalkO q loose XP YP l.row.toRowW d [] (λf vs=>PySem.call f vs):=by
 refine Att.attach_call hn hdf λw s₀ s₁ mg mb fa o pm cd doc a vs ns G Yyy ho hd hcd hmg hobj hints hlen hg=>?_;have KX:=hY w _ Yyy;obtain⟨fd,hb,hF⟩:=F w mg fa _ KX G.T.g hmg;exact Qgy KX G.T.g G.T.b G.T.builtins G.T.nolimit hg hobj hints (Wd hlen hn2) hr hF hb (λH hO hS=>hsp w H a ns hlen hO hS) λH e s'=>hCX w H s₁ e s'
end
section
noncomputable def QbK(s:Stmt):Arguments:=match s with
 |.FunctionDef _ a _ _ _ _ _ _ _ _=>a
 |_=>{posonlyargs:=[],args:=[],vararg:=none,kwonlyargs:=[],kw_defaults:=[],kwarg:=none,defaults:=[]}
noncomputable def Zy(s:Stmt):List Stmt:=match s with
 |.FunctionDef _ _ b _ _ _ _ _ _ _=>b
 |_=>[]
noncomputable def Qp(s:Stmt):Scope:=match s with
 |.FunctionDef _ _ _ _ _ _ sc _ _ _=>sc
 |_=>{kind:=.function,names:=[],isGenerator:=false,isCoroutine:=false}
abbrev CX0:CXT:=λz z z z z z=>False
abbrev E0:XK:=λz z z=>False
def QlT{X:Cx}:QcB CX0 X E0:=λz z z z z z z h=>h.elim
def QoO{A:Around}{k:Nat}(hr:Room k A):A.units+1<cLine:=Nat.lt_of_le_of_lt (Nat.add_le_add_left (by decide:1<=64) _) hr.units
section
variable {κ:Type}[DecidableEq κ]
end
end
end L2
namespace Iv
open PySem
noncomputable def QoC(sep:List Nat):List (List Nat)->List Nat
 |[]=>[]
 |[x]=>x
 |x::y::r=>x++sep++QoC sep (y::r)
noncomputable def Qhr(c:Nat):List Nat->List (List Nat)
 |[]=>[[]]
 |a::r=>if a=c then []::Qhr c r else match Qhr c r with
  |[]=>[[a]]
  |p::ps=>(a::p)::ps
end Iv
namespace L2
open PySem PySem.Spec PyProof.Rows Builtin Builtin.Str
section
variable {X:Cx}
def QiK:V->List V->Hp->VK->Prop:=λx vs H Q=>∃a k y kvs,x=.ref a/\vs=[kV k,y]/\H a=some (.dK kvs)/\kvs.length<sizeLine/\(∀z,ZP kvs k=some z->Q z H)/\(ZP kvs k=none->Q y (upd H a (.dK (kvs++[(k,y)]))))
def Qeh:MtR X "dict.setdefault" QiK:=by
 intro pins s Y H x vs v us Q I rx rv h;obtain⟨a,k,y,kvs,rfl,rfl,hH,hz,q1,q2⟩:=h;cases rx;obtain⟨uk,uy,rfl,rk,ry⟩:=Qa9 rv;obtain⟨z,hd,ws,rel,dd⟩:=QbH I.hok hH
 refine T6 F.slot_dict_setdefault dd.typeIs F.entry_dict_setdefault (F.args_dict_setdefault_3 _ _ _) (kt_meets_setdefault (Ql X.prog X.w) a (QaI rk) hd uy)
  ⟨ws,dd,by rw[<-rel.length];exact z,λw' hw=>?_,λhn h' dd' hs=>?_⟩
 ·have rr:=rel.val k;rw[hw]at rr
  cases e:ZP kvs k with
  |none=>rw[e]at rr;exact(show False from rr).elim
  |some z=>rw[e]at rr;exact⟨z,H,I.tok _,rr,q1 z e⟩
 ·have e:ZP kvs k=none:=by
   have rr:=rel.val k;rw[hn]at rr
   cases e:ZP kvs k with
   |none=>rfl
   |some z=>rw[e]at rr;exact(show False from rr).elim
  have he:∃q,h'.get? a=some q:=(by obtain⟨q,_,_,hq,_⟩:=dd';exact⟨q,hq⟩);have e2:=Qf9 y e
  have hl:(ZT kvs k y).length<=sizeLine:=by have:=Q5 kvs k y;omega
  have I2:=Y2 (t':=s.toks+1) I (by rw[hH];exact True.intro) hs he (Qcs hl hd (rel.put k ry) dd')
  rw[e2]at I2;exact⟨y,_,I2,ry,q2 e⟩
end
end L2
namespace L2
open PySem PySem.Spec PyProof.Rows
section
variable {X:Cx}
theorem QaX:∀{bs:List Bool} {us:List Value},Vals (bs.map V.bl) us->∀(i:Nat) v,us[i]?=some v->∃b,bs[i]?=some b/\v=.bool b
 |[],us,r,i,v,e=>by rw[Ui]at r;cases r;simp at e
 |b::bs,us,r,i,v,e=>by
  rw[Xo]at r
  cases r with
  |cons h t=>
   cases(show _=Value.bool b from h)
   cases i with
   |zero=>simp at e;exact⟨b,rfl,e.symm⟩
   |succ i=>simpa using QaX t i v (by simpa using e)
def QrT(bs:List Bool):((List.range bs.length).all λi=>(bs[i]?).getD true)=bs.all id:=LSm.range_all bs
def Qfo(hc:X.calm=true): CallR X (.builtin "all") (λxs H Q=>∃(a:Addr) (bs:List Bool),xs=[.ref a]/\SqL X.K H a (bs.map V.bl)/\Q (.bl (bs.all id)) H):= by
 intro pins s Y H xs us Q I r h;obtain⟨a,bs,rfl,hq,q⟩:=h;obtain⟨u,rfl,rx⟩:=Ja r;cases rx;obtain⟨its,rr,pl,hz⟩:=I.list hq;have hl:=pl.isList
 have hlt:a<s.heap.objs.size:=by obtain⟨_,e,_⟩:=hl;exact Xk e
 have hlen:=rr.length;rw[X5]at hlen;refine call_all_walk (wpAny_pyIter_list hl ?_)
 refine⟨s.heap.objs.size,[s.heap.objs.size,a],[s.heap.objs.size],its.toArray.size,_,_,λi=>(bs[i]?).getD true,rfl,Walks.list (A:=X.A.in1) (I.ok.hd hc) _ a (Xp hlt) its.toArray,
  ⟨⟨_,Xy _ rfl,rfl,rfl⟩,hl.push _⟩,λi v s' Q' E' hP hQ=>?_,λh' tk hk=>?_⟩
 ·obtain⟨b,e,rfl⟩:=QaX rr i v (by simpa using hP)
  simp only[e,Uj]at hQ;exact Uv hQ
 ·have e:((List.range its.toArray.size).all λi=>(bs[i]?).getD true)=bs.all id:=by
   rw[Xw,<-hlen];exact QrT bs
  rw[e];exact⟨.bl _,H,I.kept (t':=tk) (LSm.kept_iter hk),rfl,q⟩
def Qfj(hc:X.calm=true): CallR X (.builtin "max") (λxs H Q=>∃(a:Addr) (ns:List Int),xs=[.ref a]/\SqL X.K H a (ns.map V.int)/\0<ns.length/\∀m,m∈ns->(∀b∈ns,b<=m)->Q (.int m) H):= by
 intro pins s Y H xs us Q I r h;obtain⟨a,ns,rfl,hq,hz0,q⟩:=h;obtain⟨u,rfl,rx⟩:=Ja r;cases rx;obtain⟨its,rr,pl,hz⟩:=I.list hq;have hl:=pl.isList;have hi:=QcU rr;obtain⟨xs,e⟩:=hi.allInts.items
 have hns:ns=xs.toList.map (·.1):=by
  rw[<-hi.numsOf,<-nums_intItems,<-e]
 have hsz:0<xs.size:=by
  have h3:=hz0;rw[hns,X5,Um]at h3;exact h3
 rw[e]at hl;refine max_intList (I.ok.hd hc) hl hsz λv h' tk hv hk=>?_;obtain⟨t,rfl⟩:=intItems_at hv;obtain⟨h1,h2⟩:=argBest_gt (numAt xs) (xs.size-1);refine⟨.int _,H,I.kept hk,⟨_,rfl⟩,q _ ?_ λb hb=>?_⟩
 ·rw[hns,numAt_eq];exact getD_mem (by rw[X5,Um];omega)
 ·rw[hns]at hb;obtain⟨j,hj,rfl⟩:=mem_getD hb;rw[X5,Um]at hj
  rw[<-numAt_eq];exact h2 j (by omega)
end
end L2
namespace L2
open PySem PySem.Spec PySem.W PyProof.Rows
section
variable {p:Array Nat}{i m n:Nat}
noncomputable def Qhw{α:Type}(lt:Nat->Nat->Bool):KasT α->α
 |.ret a=>a
 |.ask i j k=>Qhw lt (k (lt i j))
def InR{α:Type}(n:Nat)(P:α->Prop):KasT α->Prop
 |.ret a=>P a
 |.ask i j k=>i<n/\j<n/\∀b,InR n P (k b)
theorem InR.bind{α β:Type}{n:Nat}{P:α->Prop}{R:β->Prop}{f:α->KasT β}:∀{t:KasT α},InR n P t->(∀a,P a->InR n R (f a))->InR n R (t.bind f)
 |.ret a,h,hf=>hf a h
 |.ask i j k,h,hf=>⟨h.1,h.2.1,λb=>InR.bind (h.2.2 b) hf⟩
theorem InR.run{α:Type}{n:Nat}{P:α->Prop}{lt:Nat->Nat->Bool}:∀{t:KasT α},InR n P t->P (Qhw lt t)
 |.ret a,h=>h
 |.ask i j k,h=>show P (Qhw lt (k (lt i j)))from InR.run (t:=k (lt i j)) (h.2.2 (lt i j))
theorem InR.wp{α:Type}{n:Nat}{P:α->Prop}{lt:Nat->Nat->Bool}{cmp:Nat->Nat->(Bool->Shared->Prop)->Shared->Prop}{s:Shared}{Q:α->Shared->Prop}(hc:∀i j C,i<n->j<n->C (lt i j) s->cmp i j C s):
  ∀{t:KasT α},InR n P t->Q (Qhw lt t) s->t.kasWp cmp Q s
 |.ret a,h,q=>q
 |.ask i j k,h,q=>hc i j _ h.1 h.2.1 (InR.wp hc (t:=k (lt i j)) (h.2.2 (lt i j)) q)
def Bd(n:Nat)(p:Array Nat):Prop:=0<n/\p.Perm (List.toArray (List.range n))
def Bd.get(h:Bd n p)(i:Nat):p.getD i 0<n:=by
 by_cases hi:i<p.size
 ·have e:p.getD i 0=p[i]:=by simp[Array.getD,hi]
  rw[e];have:=h.2.mem_iff.mp (Array.getElem_mem hi);simpa using this
 ·have e:p.getD i 0=0:=by simp[Array.getD,hi]
  rw[e];exact h.1
def Bd.perm{q:Array Nat}(h:Bd n p)(e:q.Perm p):Bd n q:=⟨h.1,e.trans h.2⟩
def Bd.rev{j:Nat}(h:Bd n p):Bd n (kas_rev p i j):=h.perm (mirror_perm _ _ _ _)
def Bd.bub{j:Nat}(h:Bd n p):Bd n (bubble p i j):=h.perm (bubble_perm _ _ _)
theorem QiI{n:Nat}{p:Array Nat}(h:Bd n p):∀f i,InR n (λz=>True) (kas_asc p f i)
 |0,_=>trivial
 |f+1,i=>⟨h.get _,h.get _,λb=>by
  cases b
  ·exact QiI h f (i+1)
  ·exact trivial⟩
theorem Qb2{n:Nat}:∀f (p:Array Nat) i q,Bd n p->InR n (λr=>Bd n r.1) (kas_desc f p i q)
 |0,p,i,q,h=>h
 |f+1,p,i,q,h=>⟨h.get _,h.get _,λb=>by
  cases b
  ·refine⟨h.get _,h.get _,λb=>?_⟩;cases b
   ·exact Qb2 f p _ _ h
   ·exact h
  ·show InR n _ (if q>0 then _ else _);split
   ·exact Qb2 f _ _ _ h.rev
   ·exact Qb2 f _ _ _ h⟩
def QdS{k:Nat}(h:Bd n p):InR n (λr=>Bd n r.2) (kas_tail3 k m p):=(QiI h.rev _ _).bind λa z=>h.rev
def Jf{k:Nat}(h:Bd n p):InR n (λr=>Bd n r.2) (kas_descPart k m p):=by
 refine(Qb2 _ _ _ _ h).bind λr hr=>?_;split
 ·exact QdS hr.rev
 ·exact QdS hr
def QiH(h:Bd n p):InR n (λr=>Bd n r.2) (kas_count m p):=by
 refine(QiI h _ _).bind λk z=>?_;split
 ·exact h
 ·split
  ·refine⟨h.get _,h.get _,λb=>?_⟩;cases b
   ·exact Jf h.rev
   ·exact h
  ·exact Jf h
theorem Qbj{n:Nat}{p:Array Nat}{k:Nat}(h:Bd n p):∀f l r,InR n (λz=>True) (kas_place p k f l r)
 |0,_,_=>trivial
 |f+1,l,r=>by
  unfold kas_place;split
  ·exact trivial
  ·refine⟨h.get _,h.get _,λb=>?_⟩;cases b
   ·exact Qbj h f _ _
   ·exact Qbj h f _ _
theorem Qlv{n:Nat}:∀f (p:Array Nat) k,Bd n p->InR n (Bd n) (kas_bin f p k)
 |0,p,k,h=>h
 |f+1,p,k,h=>(Qbj h _ _ _).bind λl z=>Qlv f _ _ h.bub
def Qhz(hn:0<n):InR n (Bd n) (kas_sort n):=by
 have h0:Bd n (List.toArray (List.range n)):=⟨hn,Array.Perm.refl _⟩;refine(QiH h0).bind λr hr=>?_;split
 ·exact Qlv _ _ _ hr
 ·exact hr
noncomputable def QhU:List Int->List Int->Bool
 |[],[]=>false
 |[],_::_=>true
 |_::_,[]=>false
 |x::xs,y::ys=>if x=y then QhU xs ys else decide (x<y)
noncomputable def ltK(ks:List (List Int))(i j:Nat):Bool:=QhU (ks.getD i []) (ks.getD j [])
noncomputable def permK(ks:List (List Int))(n:Nat):List Nat:=if n<2 then List.range n else(Qhw (ltK ks) (kas_sort n)).toList
section
variable {prog:Program}{w:World}{A:Around}{E:Value->Shared->Prop}{s:Shared}
def QmY(κ:SortKind)(z:Array Keyed):arrOf (SortSt.mk' κ z #[] 7 none)=z:=rfl
def QdJ(vs:List Value)(h:vs.length<2):(arrOf (SortSt.mk' general' (vs.toArray.zip vs.toArray) #[] 7 none)).map (·.2)=List.toArray ((List.range vs.length).map λi=>vs.getD i .none):=by
 rw[QmY]
 match vs,h with
 |[],_=>simp
 |[v],_=>simp[List.range,List.range.loop]
 |_::_::_,h=>simp at h;omega
def QcI{l:Addr}{vs:List Value}{κ:SortKind}{ks:List (List Int)}{Q:Value->Shared->Prop}(hl:s.heap.IsList l vs.toArray)(h64:vs.length<64)
  (hk:2<=vs.length->∀h' A' (Q':SortKind->Shared->Prop),(∀b o,s.heap.get? b=some o->h'.get? b=some o)->Q' κ {s with heap:=h'}->wpAny (model prog w) A' (keyKind' vs.toArray) Q' (λz z=>False) {s with heap:=h'})
  (hlt:2<=vs.length->∀h' A' (Q':Bool->Shared->Prop) i j,(∀b o,s.heap.get? b=some o->h'.get? b=some o)->i<vs.length->j<vs.length->Q' (ltK ks i j) {s with heap:=h'} ->
   wpAny (model prog w) A' (keyLt' κ (vs.getD i .none) (vs.getD j .none)) Q' (λz z=>False) {s with heap:=h'})
  (hQ:∀h' c D,s.heap.objs.size<=D->(∀b o,s.heap.get? b=some o->h'.get? b=some o)->h'.get? D=some (seqObj "list" (List.toArray ((permK ks vs.length).map λi=>vs.getD i .none)) c)->Q (.ref D) {s with heap:=h'}):
  wpAny (model prog w) A (call (.builtin "sorted") [.ref l]) Q E s:=by
 refine Calls.call_function_entry kind_sorted plain_sorted entry_sorted (args_sorted1 _) ?_;unfold Builtin.«sorted»;refine Xa (m:=checkCount "sorted" 1 1 _) (Xi ?_)
 refine Xa (collect_list hl ?_ (by rw[Vy];omega))
 refine Xa (wpAny_newList ?_ (by rw[Vy];omega))
 have hsz:((s.heap.push (seqObj "list" #[] 0)).update s.heap.objs.size (Obj.mapSeq (·++vs.toArray))).objs.size=s.heap.objs.size+1:=by
  rw[Heap.size_update,size_push']
 generalize hh1:((s.heap.push (seqObj "list" #[] 0)).update s.heap.objs.size (Obj.mapSeq (·++vs.toArray)))=h1 at hsz
 have k1:∀b o,s.heap.get? b=some o->h1.get? b=some o:=λb o q=>by
  have hlt:b<s.heap.objs.size:=Xk q;rw[<-hh1,Heap.get?_update_ne _ _ _ _ (Xp hlt),Heap.get?_push_ne _ _ _ (Xp hlt)];exact q
 have hoL:(h1.push (seqObj "list" vs.toArray 0)).get? h1.objs.size=some (seqObj "list" vs.toArray 0):=Xy _ rfl;show wpAny _ _ _ _ _ {s with heap:=h1.push (seqObj "list" vs.toArray 0)};generalize ha:h1.objs.size=a at hoL hsz;refine Xa (W8 (U1 slot_list_sort ⟨_,hoL,rfl⟩ entry_list_sort ?_ (args_list_sort _)));have k2:∀b o,s.heap.get? b=some o->(h1.push (seqObj "list" vs.toArray 0)).get? b=some o:=λb o q=>Xf _ (k1 b o q);generalize (h1.push (seqObj "list" vs.toArray 0))=h2 at hoL k2;rw[list_sort_plain]
 have hlen:vs.toArray.size=vs.length:=by simp
 refine Xa (listItems_at (s:={s with heap:=h2}) hoL rfl ?_)
 refine Xa (listUpdate_at (s:={s with heap:=h2}) hoL rfl ?_ (by rw[hlen,Vy];omega) (W6 _))
 obtain⟨e1,ho1⟩:∃e1,(h2.update a (Obj.mapSeq λz=>(#[]:Array Value))).get? a=some (seqObj "list" #[] e1):=⟨_,get?_update_seq hoL (λz=>#[])⟩
 have hna:∀b o,s.heap.get? b=some o->b≠a:=λb o q=>Xp (Xr (Xk q) (by rw[hsz];exact Ut _))
 have k3:∀b o,s.heap.get? b=some o->(h2.update a (Obj.mapSeq λz=>(#[]:Array Value))).get? b=some o:=λb o q=>(Vg _ _ (Wr (hna b o q))).trans (k2 b o q);generalize (h2.update a (Obj.mapSeq λz=>(#[]:Array Value)))=h3 at ho1 k3;refine Xa (seqEpoch_at (s:={s with heap:=h3}) ho1 rfl ?_)
 refine Xa (wpAny_newTuple ?_ (by show vs.length<=_;rw[Vy];omega))
 refine Xa (wpAny_newList ?_ (W6 _));refine W8 ?_;show wpAny (model prog w) _ _ _ _ {s with heap:=(h3.push (seqObj "tuple" vs.toArray 0)).push (seqObj "list" #[] 0)};have ho4:((h3.push (seqObj "tuple" vs.toArray 0)).push (seqObj "list" #[] 0)).get? a=some (seqObj "list" #[] e1):=Xf _ (Xf _ ho1);have k4:∀b o,s.heap.get? b=some o->((h3.push (seqObj "tuple" vs.toArray 0)).push (seqObj "list" #[] 0)).get? b=some o:=λb o q=>Xf _ (Xf _ (k3 b o q));generalize ((h3.push (seqObj "tuple" vs.toArray 0)).push (seqObj "list" #[] 0))=h4 at ho4 k4;dsimp only
 have fin:∀out:Array Value,out=List.toArray ((permK ks vs.length).map λi=>vs.getD i .none)->Q (.ref a) {s with heap:=h4.update a (Obj.mapSeq λz=>out)}:=λout eo=>by
  obtain⟨c,hc⟩:∃c,(h4.update a (Obj.mapSeq λz=>out)).get? a=some (seqObj "list" out c):=⟨_,get?_update_seq ho4 (λz=>out)⟩;rw[eo]at hc ⊢
  exact hQ _ c a (by rw[hsz];exact Ut _) (λb o q=>(Vg _ _ (Wr (hna b o q))).trans (k4 b o q)) hc
 by_cases h2:vs.toArray.size<2
 ·rw[if_pos h2,if_pos h2];refine Xa (Xi ?_);rw[StateT.run_pure];refine Xa (Xi ?_);dsimp only;refine Xa (seqEpoch_at (s:={s with heap:=h4}) ho4 rfl ?_)
  refine Xa (listUpdate_at (s:={s with heap:=h4}) ho4 rfl ?_ (W6 _) (hsz2:=by rw[Array.size_map];show(pairsOf vs).size<=_;rw[pairsOf_size,Vy];omega))
  simp only[bne_self_eq_false,X9,Ww];refine Xi ⟨_,rfl,Xi ⟨_,rfl,fin ((arrOf (SortSt.mk' general' (vs.toArray.zip vs.toArray) #[] 7 none)).map (·.2)) ?_⟩⟩;rw[hlen]at h2;unfold permK;rw[if_pos h2];exact QdJ vs h2
 ·rw[if_neg h2,if_neg h2];rw[hlen]at h2
  have h2':2<=vs.length:=by omega
  refine Xa (X4 (hk h2' h4 _ (λκ' s'=>κ'=κ/\s'={s with heap:=h4}) k4 ⟨rfl,rfl⟩) (λκ' s' hs=>?_) λz z x=>x.elim);obtain⟨rfl,rfl⟩:=hs
  have R:=Qhz (n:=vs.length) (by omega)
  refine Xa (X4 (kat_run (Q:=λst' s'=>s'={s with heap:=h4}/\arrOf st'=(Qhw (ltK ks) (kas_sort vs.length)).map (kas_item (vs.toArray.zip vs.toArray))/\failedOf st'=none/\(arrOf st').size=vs.length) (G:=λp s'=>p=Qhw (ltK ks) (kas_sort vs.length)/\s'={s with heap:=h4})
   rfl h2' h64 (λp' st' s' a1 a2 a3 a4=>⟨a4.2,a4.1▸a2,a3,by rw[a2,Array.size_map];exact a1⟩) (InR.wp (λi j C hi hj c=>hlt h2' h4 _ C i j k4 hi hj c) R ⟨rfl,rfl⟩)) ?_ λz z e=>e)
  rintro⟨⟨⟩,st'⟩ s' ⟨rfl,har,hf,hsize⟩;dsimp only;have hout:=kat_snds rfl har;rw[hout];refine Xa (seqEpoch_at (s:={s with heap:=h4}) ho4 rfl ?_)
  have hz:(List.toArray ((Qhw (ltK ks) (kas_sort vs.length)).toList.map λi=>vs.getD i Value.none)).size<=sizeLine+1:=by
   have e:(arrOf st').size=vs.length:=hsize;have e2:((arrOf st').map (·.2)).size=vs.length:=(Array.size_map ..).trans e;rw[hout]at e2;rw[e2,Vy];omega
  refine Xa (listUpdate_at (s:={s with heap:=h4}) ho4 rfl ?_ (W6 _) hz);rw[hf];simp only[bne_self_eq_false,X9,Ww];refine Xi ⟨_,rfl,Xi ⟨_,rfl,fin _ ?_⟩⟩;unfold permK;rw[if_neg h2]
def permK_perm(ks:List (List Int))(n:Nat):(permK ks n).Perm (List.range n):=by
 unfold permK;split
 ·exact List.Perm.refl _
 ·exact((Qhz (n:=n) (by omega)).run (lt:=ltK ks)).2.toList
def permK_length(ks:List (List Int))(n:Nat):(permK ks n).length=n:=by rw[(permK_perm ks n).length_eq,Tn]
theorem Qev{b:Bool}{Q:Bool->Shared->Prop}:∀{k l:List Int} {xs ys:List Value} {fin:Bool} {i:Nat},Vals (k.map V.int) xs->Vals (l.map V.int) ys->fin=decide (k.length<l.length)->Q (QhU k l) s->KatLex prog w A true fin Q (xs.zip ys) i s
 |[],l,xs,ys,fin,i,h1,h2,hf,q=>by
  cases h1;rw[List.zip_nil_left];refine kat_nil ?_
  cases l with
  |nil=>rw[hf];exact q
  |cons _ _=>rw[hf];simpa[QhU]using q
 |x::k,[],xs,ys,fin,i,h1,h2,hf,q=>by
  cases h2;rw[Tb];refine kat_nil ?_;rw[hf];simpa[QhU]using q
 |x::k,y::l,xs,ys,fin,i,h1,h2,hf,q=>by
  cases h1 with
  |cons r1 t1=>
   cases h2 with
   |cons r2 t2=>
    obtain⟨a1,rfl⟩:=r1;obtain⟨a2,rfl⟩:=r2;rw[Vu];refine kat_cons (wpAny_eqBool_int ?_);by_cases e:x=y
    ·subst e
     rw[show(x==x)=true by simp]
     refine kat_yes (Qev (b:=b) t1 t2 (by rw[hf];simp) ?_)
     simpa[QhU]using q
    ·rw[show(x==y)=false by simp[e]]
     have q':Q (decide (x<y)) s:=by simpa[QhU,e]using q
     refine kat_no ?_
     cases i with
     |zero=>exact oneLt_int q'
     |succ i=>exact kat_one _ _ (PyProof.Rows.lt_int q')
theorem Qdx{h:Heap}: ∀{vs:List Value},(∀v∈vs,∃a o xs n,∃(i:Int) (t:Tok),v=Value.ref a/\h.get? a=some o/\o.cls=.type "tuple"/\o.data=.seq xs n/\xs[0]?=some (Value.int i t))->∃fs,KatTups h vs fs/\fs.length=vs.length/\∀f∈fs,∃i t,f=Value.int i t
 |[],_=>⟨[],.nil,rfl,by simp⟩
 |v::vs,H=>by
  obtain⟨fs,t,l,f⟩:=Qdx λz hz=>H z (Xl _ hz);obtain⟨a,o,xs,n,i,tk,rfl,h1,h2,h3,h4⟩:=H v (Xn ..)
  refine⟨Value.int i tk::fs,KatTups.cons h1 h2 h3 h4 t,by simp[l],λz hz=>?_⟩
  rcases X7.mp hz with rfl|hz
  ·exact⟨_,_,rfl⟩
  ·exact f z hz
end
def Qkj(K:W.Frag)(H:Hp)(ys:List V)(ks:List (List Int)):Prop:=ys.length=ks.length/\∀(i:Nat) y k,ys[i]?=some y->ks[i]?=some k->k≠[]/\∃b,y=.ref b/\SqT K H b (k.map V.int)
noncomputable def Qbd(ks:List (List Int))(ys:List V):List V:=(permK ks ys.length).map λi=>ys.getD i .non
section
variable {X:Cx}
theorem Qap{ys:List V}{its:List Value}(r:Vals ys its):∀(p:List Nat),Vals (p.map λi=>ys.getD i .non) (p.map λi=>its.getD i .none)
 |[]=>.nil
 |i::p=>.cons (by
   show RelV (ys.getD i .non) (its.getD i .none)
   cases e:ys[i]? with
   |none=>
    have:its[i]?=none:=by
     rw[X6]at e ⊢;rw[<-r.length];exact e
    simp[List.getD,e,this,RelV]
   |some v=>
    obtain⟨u,hu,ru⟩:=r.get e
    simpa[List.getD,e,hu]using ru) (Qap r p)
def Qc6:CallR X (.builtin "sorted") (λxs H Q=>∃(a:Addr) (ys:List V) (ks:List (List Int)),xs=[.ref a]/\SqL X.K H a ys/\ys.length<64/\(2<=ys.length->Qkj X.K H ys ks)/\∀p,H p=none->Q (.ref p) (upd H p (.lst (Qbd ks ys)))):= by
 intro pins s Y H xs us Q I r h;obtain⟨a,ys,ks,rfl,hq,h64,ht,q⟩:=h;obtain⟨u,rfl,rx⟩:=Ja r;cases rx;obtain⟨its,rr,pl,hz⟩:=I.list hq;have hlen:=rr.length
 have item:2<=its.length->∀i,i<its.length->∃(b:Addr) (o:Obj) (xs:List Value) (n:Nat) (k:List Int),its.getD i .none=Value.ref b/\s.heap.get? b=some o/\o.cls=.type "tuple"/\o.data=.seq xs.toArray n/\ks.getD i []= k/\k≠[]/\Vals (k.map V.int) xs:=by
  intro h2 i hi
  obtain⟨tl,tt⟩:=ht (by omega)
  have hi':i<ys.length:=by omega
  have hk:i<ks.length:=by omega
  obtain⟨kn,b,ey,sq⟩:=tt i ys[i] ks[i] (Xe hi') (Xe hk);obtain⟨v,hv,rv⟩:=rr.get (Xe hi');rw[ey]at rv;cases rv;obtain⟨xs,rx,⟨o,e1,e2,n,e3⟩,_⟩:=I.tuple sq
  exact⟨b,o,xs,n,ks[i],by simp[List.getD,hv],e1,e2,e3,by simp[List.getD,hk],kn,rx⟩
 refine QcI (κ:=tuples' true) (ks:=ks) pl.isList (by omega) (λh2 h' A' Q' kp q'=>?_) (λh2 h' A' Q' i j kp hi hj q'=>?_) λh' c D hD kp hh=>?_
 ·obtain⟨fs,t,l,f⟩:=Qdx (h:=h') (vs:=its) λv hv=>by
   obtain⟨i,hi,rfl⟩:=List.getElem_of_mem hv;obtain⟨b,o,xs,n,k,e0,e1,e2,e3,e4,kn,rx⟩:=item h2 i hi
   have e0':its[i]=Value.ref b:=by simpa[List.getD,hi]using e0
   cases k with
   |nil=>exact absurd rfl kn
   |cons x k=>
    cases rx with
    |cons r1 t1=>
     obtain⟨tk,rfl⟩:=r1
     exact⟨b,o,_,n,x,tk,e0',kp b o e1,e2,e3,by simp⟩
  refine kat_kind (T:=.type "int") t (by omega) (λv hv=>?_) (by decide) ?_
  ·obtain⟨i,t,rfl⟩:=f v hv;exact Looks.of_pure rfl
  ·exact q'
 ·obtain⟨b,o,xs,n,k,e0,e1,e2,e3,e4,kn,rx⟩:=item h2 i hi;obtain⟨b2,o2,xs2,n2,k2,f0,f1,f2,f3,f4,kn2,rx2⟩:=item h2 j hj;rw[e0,f0];refine kat_lt (kp b o e1) e3 (kp b2 o2 f1) f3 ?_
  have q2:Q' (QhU k k2) {s with heap:=h'}:=by
   have:=q';unfold ltK at this;rw[e4,f4]at this;exact this
  have l1:=rx.length;have l2:=rx2.length;simp only[X5]at l1 l2
  exact Qev (b:=true) rx rx2 (by simp[<-l1,<-l2]) q2
 ·refine⟨.ref D,_,I.laid (t':=s.toks) (o:=.lst (Qbd ks ys)) kp hD ?_,rfl,q D (I.hok.fresh hD)⟩
  refine⟨by unfold Qbd;rw[X5,permK_length];exact hz,_,c,?_,hh⟩
  unfold Qbd;rw[hlen];exact Qap rr _
def Qkc(j k:List Int):((List.range (min j.length k.length)).all (λi=>decide (j[i]?=k[i]?))&&j.length==k.length)=decide (j=k):=by
 rw[Vn];simp only[Xj,Wj,Vt,Xq,V4];constructor
 ·rintro⟨h,l⟩;refine Uw λi=>?_;by_cases c:i<j.length
  ·exact h i (by omega)
  ·rw[Wx (by omega),Wx (by omega)]
 ·rintro rfl;exact⟨λz z=>rfl,rfl⟩
theorem JP:∀{j k:List Int},j.map V.int=k.map V.int->j=k
 |[],[],_=>rfl
 |[],_::_,h=>by cases h
 |_::_,[],h=>by cases h
 |a::j,b::k,h=>by
  rw[Xo,Xo,T7]at h;rw[V.int.inj h.1,JP h.2]
def QhY{k:List Int}{us:List Value}(r:Vals (k.map V.int) us)(h:i<us.length):∃a t,k[i]?=some a/\us[i]=.int a t:=by
 have l:=r.length;rw[X5]at l
 have e:(k.map V.int)[i]?=some (V.int (k[i]'(by omega))):=by rw[Wn,Xe (by omega)];rfl
 obtain⟨u,e1,t,rfl⟩:=r.get e;rw[Xe h]at e1;exact⟨_,t,Xe _,X8 e1⟩
def QqP(K:W.Frag):R2:=λx y H Q=>∃p ys k ks b,y=.ref p/\(SqL K H p ys\/SqT K H p ys)/\x=.ref b/\SqT K H b (k.map V.int)/\Qkj K H ys ks/\Q (.bl (ks.any λk'=>decide (k'=k))) H
def Ql0(hu:X.A.units+1<cLine):OpR X (compareOp .In) (QqP X.K):=by
 intro pins s Y H x y v u Q I rx ry h;obtain⟨p,ys,k,ks,b,rfl,hq,rfl,hb,tk,q⟩:=h;cases rx;cases ry;obtain⟨bi,rb,plb,_⟩:=I.tuple hb
 obtain⟨e,ew⟩:∃e:Value->Bool,∀(k':List Int) c,SqT X.K H c (k'.map V.int)->e (.ref c)=decide (k'=k):=by
  refine⟨λw=>@decide (∃c,w=.ref c/\SqT X.K H c (k.map V.int)) (Classical.propDecidable _),λk' c hc=>?_⟩;rw[Vn,@decide_eq_true_eq _ (Classical.propDecidable _),Xq];constructor
  ·rintro⟨c',e,h⟩;cases e;exact JP (I.tuple_inj hc h)
  ·rintro rfl;exact⟨c,rfl,hc⟩
 have at_:∀{its:List Value},Vals ys its->∀(i:Nat) w,its[i]?=some w->∃k' c,ks[i]?=some k'/\w=.ref c/\SqT X.K H c (k'.map V.int):=λ{its} r i w ei=>by
  have l:=r.length;have li:=(Xc.mp ei).1
  have ly:i<ys.length:=by omega
  have lk:i<ks.length:=by rw[<-tk.1];exact ly
  obtain⟨_,c,ec,hc⟩:=tk.2 i _ _ (Xe ly) (Xe lk);obtain⟨u,e1,ru⟩:=r.get (Xe ly);rw[ei]at e1;cases e1;rw[ec]at ru;exact⟨_,c,Xe lk,ru,hc⟩
 have he:∀{its:List Value},Vals ys its->∀w∈its,SeqAt.EqAt X.A.in1 s w (.ref b) (e w):=λ{its} r w m=>by
  obtain⟨i,hi⟩:=Vf m;obtain⟨k',c,_,rfl,hc⟩:=at_ r i w hi;rw[ew k' c hc];by_cases z:c=b
  ·subst z;rw[Wz (JP (I.tuple_inj hc hb))];exact SeqAt.EqAt.same _
  ·obtain⟨ci,rc,plc,_⟩:=I.tuple hc;have l1:=rc.length;have l2:=rb.length;rw[X5]at l1 l2
   have:=SeqAt.RcAt.tuples (A:=X.A.in1) (e:=λi=>decide (k'[i]?=k[i]?)) plc plb (show X.A.units+1<cLine from hu) λj h1 h2=>by
    obtain⟨a,t,e1,e2⟩:=QhY rc (i:=j) (by simpa using h1)
    obtain⟨a',t',e3,e4⟩:=QhY rb (i:=j) (by simpa using h2)
    have:=SeqAt.EqAt.int_int (A:=X.A.in1.in1) (s:=s) a t a' t';simp only[List.getElem_toArray,e1,e2,e3,e4,W7];rw[show decide (a=a')=(a==a')from rfl];exact this
   refine SeqAt.EqAt.of_refs z ?_;rw[<-Qkc,l1,l2];simpa using this
 have ea:∀{its:List Value},Vals ys its->its.any e=ks.any λk'=>decide (k'=k):=λ{its} r=>by
  have l:=r.length
  have em:its.map e=ks.map λk'=>decide (k'=k):=by
   refine Uw λi=>?_;rw[Wn,Wn]
   cases ei:its[i]? with
   |none=>
    have:ks[i]?=none:=by
     rw[X6]at ei ⊢;rw[<-tk.1];omega
    rw[this];rfl
   |some w=>
    obtain⟨k',c,e1,rfl,hc⟩:=at_ r i w ei;rw[e1];simp only[Wy,ew k' c hc]
  have:=congrArg (List.any · id) em;simpa[List.any_map]using this
 rcases hq with hq|hq
 ·obtain⟨its,r,pl,_⟩:=I.list hq
  refine SeqAt.in_listAt e pl.isList (λw hw=>he r w (by simpa using hw)) ⟨.bl _,H,I,rfl,?_⟩
  rw[show its.toArray.any e=its.any e by simp,ea r]
  exact q
 ·obtain⟨its,r,pl,_⟩:=I.tuple hq
  refine SeqAt.in_tupleAt e pl (λw hw=>he r w (by simpa using hw)) ⟨.bl _,H,I,rfl,?_⟩
  rw[show its.toArray.any e=its.any e by simp,ea r]
  exact q
end
end
section
def QV:entryFor table "dict.update.loop"=some Builtin.«dict.update.loop»:=entryFor_of_tree (by kernel_rfl)
def Qw:plainId "dict.update.loop"=true:=by decide +kernel
def Jb:typeLookup (.type "list") "keys"=pure none:=am_miss_of_fast (by kernel_rfl)
section
variable {prog:Program}{w:World}{A:Around}{s:Shared}{R:Result->Shared->Prop}{E:Value->Shared->Prop}
def Z0{a:Addr}{o:Obj}{xs:Array Value}{k:Nat}{Q:Option Value->Shared->Prop}
  (hx:s.heap.get? a=some o) (hc:o.cls=.type "list") (hdat:o.data=.seq xs k) (hd:o.dict=none) (hA:A.handled=none)
  (h:∀h' tk,(∀b o,s.heap.get? b=some o->h'.get? b=some o)->Q none {s with heap:=h',toks:=tk}):
  wpAny (model prog w) A (getAttr? (.ref a) "keys") Q E s:=by
 obtain⟨c,dct,dat,sl⟩:=o;simp only at hc hdat hd;subst hc hdat hd;obtain⟨hp,g,d,tk,os⟩:=s;have hT:∀tk',(⟨hp,g,d,tk',os⟩:Shared).TypeIs (.ref a) "list":=λz=>⟨_,hx,rfl⟩;have f1:=sub_AttributeError;have f3:=Tc.lookup;have f4:=Tc.bind (.ref a);have f5:=am_list_getattr_none;unfold getAttr? getAttrBy? getAttrBy
 repeat (any_goals (first|assumption|exact hT _|((with_reducible show wpAny _ _ (call (Value.builtin "list.__getattribute__") _ _) _ _ _);refine call_meets Tc (hT _) am_entry_list_getattribute (F.args_list_getattribute_2 _ _) (meets_getattribute_miss_list a xs k sl "keys" _ Jb (by decide) (by size_fits)) ⟨hx,hA,λh' tk' e hx'=>?_⟩)|wp_step))
 obtain⟨t',u',he⟩:=hx'.there;show wpAny _ _ (getattributeRaised _ _ _ _ _ _ _) _ _ _;unfold getattributeRaised
 repeat (any_goals (first|assumption|wp_step))
 exact h _ _ hx'.keeps
def QcO{D:Nat->Heap->Prop}{d it l:Addr}{items:Array Value}(n1:d≠it)(n2:d≠l)(n3:it≠l)(hh:A.in1.handled=none)
  (keep:∀i h h',D i h->(∀b o,b≠it->h.get? b=some o->h'.get? b=some o)->D i h')
  (step:∀(i:Nat) u (s:Shared),items[i]?=some u->D i s.heap->∃t key v o n,u=.ref t/\s.heap.get? t=some o/\o.cls=.type "tuple"/\o.data=.seq #[key,v] n /\
   ∀(E:Value->Shared->Prop) (Q:Unit->Shared->Prop),(∀h' tk,D (i+1) h'->Heap.SameBut d s.heap h'->Q () {s with heap:=h',toks:=tk})->wpAny (model prog w) A.in1 (dictSet d key v) Q E s):
  ∀(m i:Nat) (s:Shared),i+m=items.size->s.heap.IsListIter it l i->s.heap.IsList l items->D i s.heap ->
  (∀s',D items.size s'.heap->(∀b o,b≠d->b≠it->s.heap.get? b=some o->s'.heap.get? b=some o)->(∃h' c,s'={s with heap:=h',toks:=c})->R (.ok (.ret .none)) s') ->
  codeAny (model prog w) A (.builtin "dict.update.loop" ⟨[.ref d,.ref it,rawInt i,.none],[]⟩) R s:=by
 intro m
 induction m with
 |zero=>
  intro i s e hi hl hd hR;refine T8 QV ?_;rw[Around.under_plainId Qw _];show wpAny _ A.in1 (pyNext (.ref it) >>= _) _ _ s
  refine Xa (wpAny_pyNext_list_end hh hi hl (by simp;omega) λh' hs'=>?_)
  show wpAny _ A.in1 (Builtin.Dict.addKeywords d [] >>= _) _ _ _;refine Xa (Xi (Xi (hR _ ?_ (λb o b1 b2 e'=>?_) ⟨_,_,rfl⟩)))
  ·have:i=items.size:=by omega
   subst this;exact keep _ _ _ hd λb o nb e=>hs' b o nb e
  ·exact hs' b o b2 e'
 |succ m ih=>
  intro i s e hi hl hd hR
  have lt:i<items.size:=by omega
  obtain⟨u,eu⟩:∃u,items[i]?=some u:=⟨items[i],by simp[lt]⟩
  refine T8 QV ?_;rw[Around.under_plainId Qw _];show wpAny _ A.in1 (pyNext (.ref it) >>= _) _ _ s;refine Xa (wpAny_pyNext_list_item hi hl eu λh1 hi1 hs1=>?_);have g1:∀b o,b≠it->s.heap.get? b=some o->h1.get? b=some o:=λb o nb e=>(hs1.2 b nb).trans e;have hd1:D i h1:=keep _ _ _ hd g1;obtain⟨t,key,v,o,n,rfl,ho1,hc,hdat,st⟩:=step i u {s with heap:=h1} eu hd1;refine Xa (W8 ?_);refine Xa (wpAny_tryCatch ?_);unfold Builtin.Dict.pairItems;refine Xa (wpAny_typeOf_ref ho1 ?_);rw[hc]
  show wpAny _ _ (do return ((<-seqItems? (.ref t)).getD #[]).toList) _ _ _
  refine Xa (wpAny_seqItems ho1 hdat (Xi ?_));show wpAny _ _ (holding [key,v] (dictSet d key v)) _ _ _;refine W8 (st _ _ λh2 tk hd2 hs2=>?_);have g2:∀b o,b≠d->h1.get? b=some o->h2.get? b=some o:=λb o nb e=>(hs2.2 b nb).trans e;refine Xi ⟨Tv Qw _,?_⟩
  refine ih (i+1) _ (by omega) ?_ ?_ hd2 λs' hd' hk' hs'=>?_
  ·obtain⟨oi,hoi,rest⟩:=hi1;exact⟨oi,g2 it oi (Wr n1) hoi,rest⟩
  ·obtain⟨ol,hol,rest⟩:=hl;exact⟨ol,g2 l ol (Wr n2) (g1 l ol (Wr n3) hol),rest⟩
  ·exact hR s' hd' (λb o b1 b2 e'=>hk' b o b1 b2 (g2 b o b1 (g1 b o b2 e'))) (by obtain⟨h3,c3,e3⟩:=hs';exact⟨h3,c3,e3⟩)
def Jd{D:Nat->Heap->Prop}{l:Addr}{ol:Obj}{items:Array Value}{nl:Nat}{Q:Value->Shared->Prop}(hA:A.handled=none)
  (hl:s.heap.get? l=some ol) (hc:ol.cls=.type "list") (hdat:ol.data=.seq items nl) (hdd:ol.dict=none)
  (start:∀h',(∀b o,s.heap.get? b=some o->h'.get? b=some o)->h'.get? s.heap.objs.size=some {cls:=.type "dict",data:=.dict #[]}->D 0 h')
  (keep:∀i h h' it,s.heap.objs.size<it->D i h->(∀b o,b≠it->h.get? b=some o->h'.get? b=some o)->D i h')
  (step:∀(i:Nat) u (s':Shared),items[i]?=some u->D i s'.heap->∃t key v o n,u=.ref t/\s'.heap.get? t=some o/\o.cls=.type "tuple"/\o.data=.seq #[key,v] n /\
   ∀(E:Value->Shared->Prop) (Q:Unit->Shared->Prop),(∀h' tk,D (i+1) h'->Heap.SameBut s.heap.objs.size s'.heap h'->Q () {s' with heap:=h',toks:=tk})->wpAny (model prog w) A.in1.in1 (dictSet s.heap.objs.size key v) Q E s')
  (h:∀h' tk,D items.size h'->(∀b o,s.heap.get? b=some o->h'.get? b=some o)->Q (.ref s.heap.objs.size) {s with heap:=h',toks:=tk}):
  wpAny (model prog w) A (call (.type "dict") [.ref l]) Q E s:=by
 have hlt:l<s.heap.objs.size:=Xk hl;refine callType_codes (Q₁:=λobj s₁=>obj=.ref s.heap.objs.size/\s₁={s with heap:=s.heap.push {cls:=.type "dict",data:=.dict #[]} }) F.kt_called_dict (F.kt_typeCall_dict_1 _) F.entry_dict_init (kt_code_dict_new _ ⟨rfl,rfl⟩) ?_;rintro obj s₁ ⟨rfl,rfl⟩;have hnew:(s.heap.push {cls:=.type "dict",data:=.dict #[]}).get? s.heap.objs.size=some {cls:=.type "dict",data:=.dict #[]}:=Xy _ rfl;have hT:Shared.TypeIs {s with heap:=s.heap.push {cls:=.type "dict",data:=.dict #[]} } (.ref s.heap.objs.size) "dict":=⟨_,hnew,rfl⟩;refine⟨hT,F.args_dict_init_2 _ _,?_⟩;unfold Builtin.«dict.__init__»;refine Xa ?_;unfold Builtin.Dict.selfAndRest;refine Xa (wpAny_notOrdered_dict hT ?_);show wpAny _ _ (pure (s.heap.objs.size,[Value.ref l])) _ _ _;refine Xi ?_;show wpAny _ _ (Builtin.Dict.updateFrom "dict.__init__" s.heap.objs.size (.ref l) [] .none) _ _ _;unfold Builtin.Dict.updateFrom;have hl1:(s.heap.push {cls:=.type "dict",data:=.dict #[]}).get? l=some ol:=Xf _ hl;refine Xa (wpAny_typeOf_ref hl1 ?_);rw[hc]
 rw[if_pos (by decide)]
 refine Xa (Z0 (A:=A.in1.in1) hl1 hc hdat hdd hA λh2 tk2 k2=>?_);rw[if_pos (show(none:Option Value).isNone=true from rfl)];refine Xa (wpAny_rule ?_);have hl2:h2.IsList l items:=⟨ol,k2 _ _ hl1,hc,nl,hdat⟩;refine Xa (wpAny_pyIter_list (s:=⟨h2,_,_,_,_⟩) hl2 ?_);have g3:∀b o,s.heap.get? b=some o->(h2.push {cls:=.type "list_iterator",data:=.fields #[.ref l,.int 0 0]}).get? b=some o:=λb o e=>Xf _ (k2 _ _ (Xf _ e));have hd3:(h2.push {cls:=.type "list_iterator",data:=.fields #[.ref l,.int 0 0]}).get? s.heap.objs.size=some {cls:=.type "dict",data:=.dict #[]}:=Xf _ (k2 _ _ hnew);have lt2:s.heap.objs.size<h2.objs.size:=Xk (k2 _ _ hnew);refine Xi ⟨Tv Qw _,?_⟩
 refine QcO (D:=D) (items:=items) (A:=A.in1) (l:=l) (Xp lt2) (Nat.ne_of_gt hlt) (Nat.ne_of_gt (Nat.lt_trans hlt lt2)) (by simpa using hA)
  (λi h h'=>keep i h h' _ lt2) step items.size 0 _ (by omega) ⟨_,Xy _ rfl,rfl,rfl⟩ ?_ (start _ g3 hd3) λs' hd' hk' hs'=>?_
 ·obtain⟨o4,ho4,rest⟩:=hl2;exact⟨o4,Xf _ ho4,rest⟩
 ·obtain⟨h4,c4,rfl⟩:=hs';exact⟨rfl,h h4 c4 hd' λb o e=>hk' b o (Xp (Xk e)) (Xp (Nat.lt_trans (Xk e) lt2)) (g3 b o e)⟩
end
noncomputable def JY(kvs:List (List Key×V)):List (List Key×V):=kvs.foldl (λacc p=>ZT acc p.1 p.2) []
def Qlx:List V->Hp->VK->Prop:=λxs H Q=>∃a vs kvs,xs=[.ref a]/\H a=some (.lst vs) /\
 Paired (λ(v:V) (p:List Key×V)=>∃t kb,v=.ref t/\H t=some (.tup [.ref kb,p.2])/\H kb=some (.tup (p.1.map kV))) vs kvs/\∀d,H d=none->Q (.ref d) (upd H d (.dT (JY kvs)))
def QaM(kvs acc:List (List Key×V)):(kvs.foldl (λacc p=>ZT acc p.1 p.2) acc).length<=acc.length+kvs.length:=by
 induction kvs generalizing acc with
 |nil=>simp
 |cons p r ih=>
  have h1:=ih (ZT acc p.1 p.2);have h2:=Q5 acc p.1 p.2;simp only[Vo,Wa];omega
def QqS{α β:Type}{R:α->β->Prop}{l:List α}{m:List β}{i:Nat}{a:α}(h:Paired R l m)(e:l[i]?=some a):∃b,m[i]?=some b/\R a b:=Jh h e
def QdB{kvs:List (List Key×V)}{i:Nat}{p:List Key×V}(h:kvs[i]?=some p):JY (kvs.take (i+1))=ZT (JY (kvs.take i)) p.1 p.2:=by
 unfold JY;rw[Vl,h];simp
def Qc8{X:Cx}(hu:X.A.units+2<cLine)(hh:X.calm=true):CallR X (.type "dict") Qlx:=by
 intro pins s Y H xs us Q I r h;obtain⟨a,vs,kvs,rfl,ha,pr,q⟩:=h;obtain⟨u,rfl,ru⟩:=Ja r;cases ru;obtain⟨z,its,n,rv,ho⟩:=(show ObjOk X.prog X.w H s.heap a (.lst vs)from I.hok a _ ha);have hnd:H s.heap.objs.size=none:=I.hok.fresh (Xg _);have lv:vs.length=kvs.length:=Wq pr;have li:vs.length=its.length:=rv.length
 have isK:∀(h':Heap) ks kb,(∀b o,H b≠none->s.heap.get? b=some o->h'.get? b=some o)->H kb=some (.tup (ks.map kV))->(tupleKind (Ql X.prog X.w)).is h' ks kb:=λh' ks kb k e=>by
  obtain⟨o,its,n,h1,h2,h3,h4⟩:=YW I.hok e
  exact⟨o,its,n,k kb o (by rw[e];exact λz=>nomatch z) h1,h2,h3,h4⟩
 have allK:∀(h':Heap) {l:List (List Key×V)} {m:List (List Key×Addr×Value)},(∀b o,H b≠none->s.heap.get? b=some o->h'.get? b=some o)->KT H l m->∀x∈m,(tupleKind (Ql X.prog X.w)).is h' x.1 x.2.1:=by
  intro h' l m k q
  induction q with
  |nil=>intro x hx;exact nomatch hx
  | @cons p q ps qs hq t ih=>
   intro x hx
   rcases X7.mp hx with e|hx
   ·subst e
    exact isK h' _ _ k (by rw[<-hq.1];exact hq.2.1)
   ·exact ih x hx
 refine Jd (D:=λi h'=>∃ms,KT H (JY (kvs.take i)) ms/\h'.DictOfH (tupleKind (Ql X.prog X.w)) s.heap.objs.size ms/\∀b o,H b≠none->s.heap.get? b=some o->h'.get? b=some o)
  (I.ok.hd hh) ho rfl rfl rfl (λh' k hd=>?_) (λi h1 h' it lt ⟨ms,kt,dd,k⟩ e=>?_) (λi u s' eu ⟨ms,kt,dd,k⟩=>?_) (λh' tk ⟨ms,kt,dd,_⟩ k=>?_)
 ·refine⟨[],.nil,⟨_,#[],0,hd,⟨rfl,rfl,rfl⟩,rfl,rfl,?_,List.nodup_nil⟩,λb o y e=>k b o e⟩;intro x hx;cases hx
 ·have k':∀b o,H b≠none->s.heap.get? b=some o->h'.get? b=some o:=λb o nb e'=>e b o (Xp (Nat.lt_trans (Xk e') lt)) (k b o nb e');obtain⟨o,es,ep,d1,d2,d3,d4,d5,d6⟩:=dd;exact⟨ms,kt,⟨o,es,ep,e _ o (Xp lt) d1,d2,d3,d4,allK h' k' kt,d6⟩,k'⟩
 ·have eu':its[i]?=some u:=by simpa using eu
  have lt:i<its.length:=(Xc.mp eu').1
  obtain⟨v,ev⟩:∃v,vs[i]?=some v:=⟨vs[i],by simp[li,lt]⟩
  obtain⟨u',eu2,rvu⟩:=rv.get ev;rw[eu']at eu2;cases eu2;obtain⟨p,ep,t,kb,rfl,ht,hkb⟩:=QqS pr ev;cases(show u=Value.ref t from rvu);obtain⟨_,its2,r2,o,o1,o2,n2,o3⟩:=(show ObjOk X.prog X.w H s.heap t (.tup [.ref kb,p.2])from I.hok t _ ht);obtain⟨x1,x2,rfl,rx1,rx2⟩:=Qa9 r2;cases(show x1=Value.ref kb from rx1)
  refine⟨t,.ref kb,x2,o,n2,rfl,k t o (by rw[ht];exact λz=>nomatch z) o1,o2,o3,λE Q hQ=>?_⟩
  have hsz:ms.length<=sizeLine:=by
   rw[<-Wq kt];have h1:=QaM (kvs.take i) []
   have h2:(kvs.take i).length<=kvs.length:=by simp[Ve];omega
   unfold JY;simp only[W5]at h1;omega
  refine wpAny_dictSet_heap (hsz:=hsz) (show X.A.units+2<cLine from hu) (isK _ _ _ k hkb) dd λh' dd' hs=>hQ h' _ ⟨_,?_,dd',λb o' nb e=>(hs.2 b (λz=>?_)).trans (k b o' nb e)⟩ hs
  ·rw[QdB ep];exact kt.put p.1 hkb rx2
  ·subst z;exact nb hnd
 ·have hz:its.toArray.size=kvs.length:=by simp;omega
  rw[hz,Vs]at kt;obtain⟨o,es,ep,d1,d2,d3,d4,d5,d6⟩:=dd;refine⟨.ref s.heap.objs.size,_,I.laid (a:=s.heap.objs.size) (o:=.dT (JY kvs)) (t':=tk) k (Xg _) ⟨?_,?_,ms,kt.keeps λb ys e=>?_,o,es,ep,d1,d2,d3,d4,d6⟩,rfl,q _ hnd⟩
  ·have:=QaM kvs [];unfold JY;simp only[W5]at this;omega
  ·exact V2.mpr (Wr (Xp I.big))
  ·rw[Qf (QY e hnd)];exact e
end
end L2
namespace L2
open PySem
variable {env:Env}{scope:Scope}
noncomputable def Qc5(cells:List (Str×Addr)):List (Str×NameKind)->List (Str×Addr)->List (Str×Addr)
 |[],cs=>cs
 | (n,k)::r,cs=>Qc5 cells r (if(k==.free)=true then(match cells.lookup n with|some c=>(n,c)::cs|none=>cs)else cs)
def Jy(h:∀y∈scope.names,y.2=.free->∃c,env.cells.lookup y.1=some c):closureFor scope env=pure (Qc5 env.cells scope.names []):=by
 have all:∀(l:List (Str×NameKind)) (cs:List (Str×Addr)),(∀y∈l,y.2=.free->∃c,env.cells.lookup y.1=some c) ->
   (forIn l cs λ(x:Str×NameKind) (r:List (Str×Addr))=>match x with|(name,kind)=>if(kind==NameKind.free)=true then(do let y <-cellOf env name;pure (ForInStep.yield ((name,y)::r)))else(pure (ForInStep.yield r):Sem _))=(pure (Qc5 env.cells l cs):Sem _):=by
  intro l
  induction l with
  |nil=>intro cs _;simp only[List.forIn_nil];rfl
  |cons p r ih=>
   obtain⟨n,k⟩:=p;intro cs hy;rw[List.forIn_cons];by_cases hk:(k==NameKind.free)=true
   ·obtain⟨c,hc⟩:=hy (n,k) Xn (by simpa using hk)
    have hc:env.cells.lookup n=some c:=hc
    have e:cellOf env n=pure c:=by unfold cellOf;rw[hc]
    simp only[hk,Wm,e,pure_bind];rw[ih _ λy m=>hy y (Xl _ m)];simp only[Qc5,hk,Wm,hc]
   ·simp only[hk,X9,Ww,pure_bind];rw[ih _ λy m=>hy y (Xl _ m)];simp only[Qc5,hk,X9,Ww]
 have:=all scope.names [] h;unfold closureFor;simp only[bind_pure_comp]at this ⊢;rw[this];rfl
theorem QaT{cells:List (Str×Addr)}{x:Str}{c:Addr}:∀{l:List (Str×NameKind)} {cs:List (Str×Addr)},(Qc5 cells l cs).lookup x=some c->cs.lookup x=some c\/cells.lookup x=some c
 |[],_,h=>.inl h
 | (n,k)::r,cs,h=>by
  have h:(Qc5 cells r (if(k==NameKind.free)=true then(match cells.lookup n with|some c=>(n,c)::cs|none=>cs)else cs)).lookup x=some c:=h
  rcases QaT h with h1|h1
  ·clear h;by_cases hk:(k==NameKind.free)=true
   ·rw[if_pos hk]at h1
    cases hc:cells.lookup n with
    |none=>rw[hc]at h1;exact .inl h1
    |some c'=>
     rw[hc]at h1;have h2:List.lookup x ((n,c')::cs)=some c:=h1;clear h1;rw[V3]at h2
     cases hx:x==n with
     |true=>
      rw[hx]at h2;have e:=eq_of_beq hx;subst e;exact .inr (hc.trans h2)
     |false=>rw[hx]at h2;exact .inl h2
   ·rw[if_neg hk]at h1;exact .inl h1
  ·exact .inr h1
theorem Qac{cells:List (Str×Addr)}{x:Str}{c:Addr}(hc:cells.lookup x=some c):∀{l:List (Str×NameKind)} {cs:List (Str×Addr)},((x,NameKind.free)∈l\/cs.lookup x=some c)->(Qc5 cells l cs).lookup x=some c
 |[],_,h=>by
  rcases h with h|h
  ·cases h
  ·exact h
 | (n,k)::r,cs,h=>by
  show(Qc5 cells r (if(k==NameKind.free)=true then(match cells.lookup n with|some c=>(n,c)::cs|none=>cs)else cs)).lookup x=some c
  refine Qac (l:=r) hc ?_
  rcases h with h|h
  ·rcases X7.mp h with e|h
   ·cases e;refine .inr ?_
    rw[if_pos (by decide),hc]
    simp[V3]
   ·exact .inl h
  ·refine .inr ?_;split
   ·split
    ·rename_i c' h';rw[V3];split
     ·rename_i e;have e:=eq_of_beq e;subst e;exact h'.symm.trans hc
     ·exact h
    ·exact h
   ·exact h
noncomputable def mang(x:Str):Str:=⟨x.cps.push 33⟩
noncomputable def hideN(xs N:List Str):List Str:=N.map λy=>if xs.contains y then mang y else y
def ZY{xs N:List Str}:(hideN xs N).length=N.length:=by unfold hideN;rw[X5]
def QgF{xs N:List Str}{i:Nat}{y:Str}(h:(hideN xs N)[i]?=some y):∃z,N[i]?=some z/\((z∈xs/\y=mang z)\/(z∉xs/\y=z)):=by
 unfold hideN at h;rw[Wn,Xd]at h;obtain⟨z,h1,h2⟩:=h;refine⟨z,h1,?_⟩;by_cases c:xs.contains z=true
 ·rw[if_pos c]at h2;exact .inl ⟨Vv.mp c,h2.symm⟩
 ·rw[if_neg c]at h2;exact .inr ⟨λm=>c (Vv.mpr m),h2.symm⟩
noncomputable def relN(outer:List (Str×NameKind))(names:List (Str×NameKind)):List (Str×NameKind):=names.map λ(n,k)=>if(k==.free&&outer.lookup n==some .cell)=true then(n,.cell)else(n,k)
def QP(h:env.scope.kind=.function):(relabel scope env).names=relN env.scope.names scope.names:=by
 unfold relabel relN;refine List.map_congr_left λp z=>?_;obtain⟨n,k⟩:=p;simp only[h,beq_self_eq_true,Bool.and_true];rfl
theorem Zs{outer:List (Str×NameKind)}{x:Str}:∀{l:List (Str×NameKind)},(relN outer l).lookup x=(l.lookup x).map λk=>if(k==.free&&outer.lookup x==some .cell)=true then .cell else k
 |[]=>rfl
 | (n,k)::r=>by
  have ih:=@Zs outer x r;show List.lookup x ((if(k==NameKind.free&&outer.lookup n==some .cell)=true then(n,NameKind.cell)else(n,k))::relN outer r)=_;rw[V3 (as:=r)]
  cases hx:x==n with
  |true=>
   have e:=eq_of_beq hx;subst e;simp only[T0,Wy];by_cases z:(k==NameKind.free&&outer.lookup x==some .cell)=true
   ·rw[if_pos z,if_pos z,T0]
   ·rw[if_neg z,if_neg z,T0]
  |false=>
   split
   ·simp[V3,hx,ih]
   ·simp[V3,hx,ih]
def Ye{κ β:Type}[BEq κ][LawfulBEq κ]{l:List (κ×β)}{k:κ}{b:β}(h:l.lookup k=some b):(k,b)∈l:=by
 induction l with
 |nil=>simp at h
 |cons p r ih=>
  obtain⟨a,c⟩:=p;rw[V3]at h;split at h
  ·rename_i e;have e:=eq_of_beq e;subst e;cases h;exact Xn
  ·exact Xl _ (ih h)
section
variable {prog:Program}{w:World}{A:Around}{R:Result->Shared->Prop}{s:Shared}
def QfL{E:Value->Shared->Prop}{tl:Option Expr}{Q:Bool->Shared->Prop}(h:match tl with|none=>Q true s|some c=>wpAny (model prog w) A (isTrue c env (eval c env)) Q E s):
  wpAny (model prog w) A (forIn tl.toList true λc r=>if r=true then do let ok <-isTrue c env (eval c env);pure (ForInStep.yield ok)else pure (ForInStep.yield r)) Q E s:=by
 cases tl with
 |none=>exact wpAny_tests_nil h
 |some c=>exact wpAny_tests_one h
def QbM{elt target iter:Expr}{tl:Option Expr}{pos:Pos}{it acc:Value}(I:Nat->Shared->Prop)
  (turn:∀n s,I n s->wpAny (model prog w) A (pyNext it) (λr s₁=>match r with
   |none=>R (.ok .next) s₁
   |some v=>wpAny (model prog w) A (letOwnedTupleGo target it v) (λz s₁'=>wpAny (model prog w) A (assign target env v) (λz s₂=>
     wpAny (model prog w) A (forIn tl.toList true λc r=>if r=true then do let ok <-isTrue c env (eval c env);pure (ForInStep.yield ok)else pure (ForInStep.yield r)) (λok s₃=>if ok=true then
      wpAny (model prog w) A (eval elt env) (λx s₄=>
       wpAny (model prog w) A (call (.builtin "list.append") [acc,x]) (λz s₅=>∃m,m<n/\I m s₅) (notedBy (model prog w) A env λe s'=>R (.error e) s') s₄) (notedBy (model prog w) A env λe s'=>R (.error e) s') s₃
      else ∃m,m<n/\I m s₃) (notedBy (model prog w) A env λe s'=>R (.error e) s') s₂)
        (notedBy (model prog w) A env λe s'=>R (.error e) s') s₁') (notedBy (model prog w) A env λe s'=>R (.error e) s') s₁) (notedBy (model prog w) A env λe s'=>R (.error e) s') s)
  (n:Nat) (h:I n s):codeAny (model prog w) A (.compLoop (.ListComp elt [⟨target,iter,tl.toList,0⟩] scope pos) 0 it acc env) R s:=by
 refine codeAny_loop rfl I (λn s hI=>?_) n h
 show wpAny _ A ((compTurn (.ListComp elt [⟨target,iter,tl.toList,0⟩] scope pos) 0 it acc env).onRaise (λx=>do noteFrame x env;theTreesLotGoes x)) _ _ s
 refine wpAny_noted ?_;rw[compTurn_list];refine Xa (wpAny_standAt (Xa (X4 (turn n s hI) (λr s₁ h₁=>?_) λz z h'=>h')))
 cases r with
 |none=>exact Xi h₁
 |some v=>
  refine Xa (X4 h₁ (λz s₁' h₁'=>?_) λz z h'=>h');refine Xa (X4 h₁' (λz s₂ h₂=>Xa (X4 h₂ (λok s₃ h₃=>?_) λz z h'=>h')) λz z h'=>h')
  cases ok with
  |true=>
   rw[if_pos rfl]at h₃;exact Xa (Xa (X4 h₃ (λx s₄ h₄=>Xa (X4 h₄ (λz s₅ h₅=>Xi (Xi ⟨rfl,h₅⟩)) λz z h'=>h')) λz z h'=>h'))
  |false=>
   rw[if_neg X3]at h₃;exact Xa (Xi (Xi ⟨rfl,h₃⟩))
end
end L2
namespace L2
open PySem PySem.Spec PySem.W PyProof.Rows
variable {env:Env}{α:Type}{e:Value}
def KD{α:Type}:Sem α->Prop
 |.pure _=>True
 |.raise _=>True
 |.unsupported _=>True
 |.rule _ k=>KD (k ())
 |.at _ k=>KD (k ())
 |.load _ _ k=>∀o,KD (k o)
 |.loadIfAlive _ k=>∀o,KD (k o)
 |.update _ _ f k=>(∀o:Obj,(f o).dict=o.dict/\(o.isFreed=false->(f o).isFreed=false))/\KD (k ())
 |.point _ k=>KD (k ())
 |.alloc _ k=>∀a,KD (k a)
 |.fresh k=>∀a,KD (k a)
 |.ask k=>∀a,KD (k a)
 |.handled _ k=>∀a,KD (k a)
 |.stack k=>∀a,KD (k a)
 |.thread k=>∀a,KD (k a)
 |_=>False
theorem KD.bind{β:Type}{f:α->Sem β}(hf:∀a,KD (f a)):∀{m:Sem α},KD m->KD (m.bind f):=by
 intro m
 induction m with
 |pure a=>exact λz=>hf a
 |raise e=>exact λz=>trivial
 |unsupported w=>exact λz=>trivial
 |rule t k ih=>exact λh=>ih () h
 | «at» t k ih=>exact λh=>ih () h
 |load a p k ih=>exact λh o=>ih o (h o)
 |loadIfAlive a k ih=>exact λh o=>ih o (h o)
 |update a p g k ih=>exact λh=>⟨h.1,ih () h.2⟩
 |point l k ih=>exact λh=>ih () h
 |alloc o k ih=>exact λh a=>ih a (h a)
 |fresh k ih=>exact λh a=>ih a (h a)
 |ask k ih=>exact λh a=>ih a (h a)
 |handled o k ih=>exact λh a=>ih a (h a)
 |stack k ih=>exact λh a=>ih a (h a)
 |thread k ih=>exact λh a=>ih a (h a)
 |_=>exact λh=>False.elim h
def DK(h h':Heap):Prop:=∀b o,h.get? b=some o->∃o',h'.get? b=some o'/\o'.dict=o.dict
def DK.refl(h:Heap):DK h h:=λz o e=>⟨o,e,rfl⟩
theorem DK.trans{h h1 h2:Heap}(a:DK h h1)(b:DK h1 h2):DK h h2:=λx o e=>by
 obtain⟨o1,e1,d1⟩:=a x o e;obtain⟨o2,e2,d2⟩:=b x o1 e1;exact⟨o2,e2,d2.trans d1⟩
def DK.kept{h h':Heap}(k:∀b o,h.get? b=some o->h'.get? b=some o):DK h h':=λb o e=>⟨o,k b o e,rfl⟩
def QoB{M:Model}{Γ:PySem.Ctx}{Q:α->Pos->Shared->Prop}{E:Value->Pos->Shared->Prop}:∀{t:Sem α} {p:Pos} {s:Shared} {h0:Heap},KD t->DK h0 s.heap->Sem.wp M Γ t Q E p s ->
  Sem.wp M Γ t (λa p' s'=>Q a p' s'/\DK h0 s'.heap) (λe p' s'=>E e p' s'/\DK h0 s'.heap) p s:=by
 intro t
 induction t with
 |pure a=>exact λz d q=>⟨q,d⟩
 |raise e=>exact λz d q=>⟨q,d⟩
 |unsupported w=>exact λz z q=>q
 |rule t k ih=>exact λh d q=>ih () h d q
 | «at» t k ih=>exact λh d q=>ih () h d q
 |load a p k ih=>
  intro p s h0 h d q;obtain⟨o,e,q⟩:=q;exact⟨o,e,ih o (h o) d q⟩
 |loadIfAlive a k ih=>exact λh d q=>ih _ (h _) d q
 |update a p g k ih=>
  intro p s h0 h d q;obtain⟨e,q⟩:=q;refine⟨e,ih () h.2 (d.trans λb o ho=>?_) q⟩;by_cases hb:b=a
  ·subst hb;exact⟨g o,Vw _ ho ((h.1 o).2 (Heap.get?_some_iff.mp ho).2),(h.1 o).1⟩
  ·exact⟨o,(Heap.get?_update_ne _ _ _ _ hb).trans ho,rfl⟩
 |point l k ih=>exact λh d q=>ih () h d q
 |alloc o k ih=>exact λh d q=>ih _ (h _) (d.trans (DK.kept λb o e=>Xf _ e)) q
 |fresh k ih=>exact λh d q=>ih _ (h _) d q
 |ask k ih=>exact λh d q=>ih _ (h _) d q
 |handled o k ih=>exact λh d q=>ih _ (h _) d q
 |stack k ih=>exact λh d q=>ih _ (h _) d q
 |thread k ih=>exact λh d q=>ih _ (h _) d q
 |_=>exact λh=>False.elim h
def Jp{M:Model}{A:Around}{t:Sem α}{Q:α->Shared->Prop}{E:Value->Shared->Prop}{s:Shared}(h:KD t)(q:wpAny M A t Q E s):
  wpAny M A t (λa s'=>Q a s'/\DK s.heap s'.heap) (λe s'=>E e s'/\DK s.heap s'.heap) s:=fun Γ p i=>QoB h (DK.refl _) (q Γ p i)
def Qmp{f:Array Value->Array Value}(o:Obj):(Obj.mapFields f o).dict=o.dict/\(o.isFreed=false->(Obj.mapFields f o).isFreed=false):=by
 obtain⟨c,d,dt,sl⟩:=o;cases dt<;>exact⟨rfl,λh=>h⟩
def KD.b{β:Type}{m:Sem α}{f:α->Sem β}(h:KD m)(hf:∀a,KD (f a)):KD (m >>= f):=KD.bind hf h
def Qby{a:Addr}:KD (load a):=λz=>trivial
def YF{i:Nat}:KD (field e i):=by
 unfold field fieldsOf
 refine KD.b ?_ λvs=>by split<;>exact trivial
 split
 ·exact KD.b Qby λo=>by split<;>exact trivial
 ·exact trivial
def Jo{i:Nat}{x:Value}:KD (setField e i x):=by
 unfold setField;split
 ·unfold updateField;refine KD.b Qby λo=>?_;split
  ·split
   ·exact⟨Qmp,trivial⟩
   ·exact trivial
  ·exact trivial
 ·exact trivial
def ZX{f:Option Addr}:KD (setFlight e f):=by
 unfold setFlight;refine KD.b YF λtb=>?_;split
 ·exact Jo
 ·exact trivial
theorem Qck:∀l:List Env,KD (readyFrames l)
 |[]=>trivial
 |env::outer=>by
  unfold readyFrames;split
  ·refine KD.b Qby λo=>?_;split
   ·exact trivial
   ·refine KD.b ?_ λim=>KD.b ?_ λback=>KD.b (show KD (update _ _)from⟨λo=>⟨rfl,by obtain⟨c,d,dt,sl⟩:=o;cases dt<;>exact λh=>h⟩,trivial⟩) λz=>Qck outer
    ·unfold behindIsImport
     repeat (first|exact trivial|exact KD.b YF λz=>trivial|split|refine KD.b trivial λz=>?_)
    ·unfold keptBack;split
     ·split
      ·exact trivial
      ·unfold underTheClaimsCaller
       repeat (first|exact trivial|exact λz=>trivial|split|refine KD.b ?_ λz=>?_)
     ·exact trivial
  ·exact trivial
def QgA:KD (PySem.frameOf env):=by
 unfold PySem.frameOf frameEnvs
 refine KD.b ?_ λl=>KD.b ?_ λo=>by split<;>exact trivial
 ·exact KD.b (λz=>trivial) λz=>trivial
 ·unfold frameObject;split
  ·exact trivial
  ·exact KD.b (Qck _) λz=>trivial
def QeB:KD (noteFrame e env):=by
 have place:∀{f:Addr} {b:Bool},KD (entryPlaceOf f b):=λ{f b}=>by
  unfold entryPlaceOf
  exact KD.b (λz=>trivial) λacts=>by split<;>exact trivial
 have fin:∀{hd:Value} {f:Addr},KD (do setField e 1 (<-EntryCells.newEntry hd (<-PySem.frameOf env) .none (rawInt f) .none (<-entryPlaceOf f (hd != .none)))):=λ{hd f}=>by
  refine KD.b QgA λa=>KD.b place λpl=>KD.b ?_ λb=>Jo;unfold EntryCells.newEntry newFields newObj newObjAsIs;dsimp only
  split<;>split<;>first|exact trivial|exact λz=>trivial|exact KD.b trivial λz=>KD.b (λz=>trivial) λz=>trivial
 unfold noteFrame;split
 ·refine KD.b YF λhd=>?_;split
  ·refine KD.b YF λfl=>?_;split
   ·exact trivial
   ·exact KD.b Jo λz=>fin
  ·exact fin
 ·exact trivial
def Qcl:KD (leaving env e):=by
 unfold leaving;exact KD.b QeB λz=>ZX
end L2
namespace L2
open PySem PySem.Spec PySem.W PyProof.Rows PySem.Calls PySem.Builtin PySem.Builtin.ObjectAttr PySem.Builtin.Getset_descriptor
variable {C a:Addr}{M:Model}
structure ErrCls(K:W.Frag)(C:Addr):Prop where
 ga:findIn K (.ref C) "__getattribute__"=some (some (.builtin "BaseException.__getattribute__"))
 gh:findIn K (.ref C) "__getattr__"=some none
 cl:findIn K (.ref C) "__class__"=some (some (.builtin "object.__class__"))
 gg:specialIn K (.builtin "object.__class__") "__get__"=some (some (.builtin "getset_descriptor.__get__"))
 tk:takesIn K (.builtin "object.__class__")=some true
 sb:subIn K (.ref C) (.type "BaseException")=some true
 so:subIn K (.ref C) (.type "object")=some true
 is:(clsIn K C).isSome=true
def Y8(a C:Addr)(dd:Option Addr)(h:Heap):Prop:=∃o vs,h.get? a=some o/\o.cls=.ref C/\o.data=.fields vs/\o.dict=dd
section
variable {prog:Program}{w:World}{A:Around}{E:Value->Shared->Prop}{K:W.Frag}{h:Heap}{g:Array GenState}{d:Drawn}{t:Nat}{os:OsState}{dd:Option Addr}
def Ju(p:Y8 a C dd h):Looks M h (typeOf (.ref a)) (.ref C):=by
 obtain⟨o,vs,h1,h2,_⟩:=p;exact h2▸(Looks.ld h1).andThen .now
def QgP(Yyy:ErrCls K C)(X:K.In h):Looks M h (find (.ref a) (.ref C) "__class__") (.bind (.builtin "getset_descriptor.__get__") (.builtin "object.__class__")):=by
 have L1:=looks_findIn (M:=M) X Yyy.cl;have L2:Looks M h (getOf (some (.builtin "object.__class__"))) (some (.builtin "getset_descriptor.__get__")):=looks_specialIn X Yyy.gg
 have L3:Looks M h (dataDescriptor? (some (.builtin "object.__class__")) (some (.builtin "getset_descriptor.__get__"))) (some (.builtin "getset_descriptor.__get__",.builtin "object.__class__")):=by
  unfold dataDescriptor?;refine(looks_takesIn X Yyy.tk).andThen ?_;exact .now
 refine L1.andThen (L2.andThen (L3.andThen ?_));exact Looks.tag .now
def QbF{R:Result->Shared->Prop}(Yyy:ErrCls K C)(X:K.In h)(p:Y8 a C dd h)(hq:R (.ok (.ret (.ref C))) ⟨h,g,d,t,os⟩):
  codeAny (model prog w) A (.call (.builtin "getset_descriptor.__get__") ⟨[.builtin "object.__class__",.ref a,.ref C],[]⟩) R ⟨h,g,d,t,os⟩:=by
 have L1:=looks_subIn (M:=model prog w) X Yyy.so;have L0:=Ju (M:=model prog w) p;refine codeAny_call_builtin KF.slot_gs.plain KF.entry_gs (KF.slot_gs.check _ _ _ _ _ _ _ _ KF.type_class (KF.args_gs _ _ _) ?_);unfold Builtin.«getset_descriptor.__get__» descrGet;rw[dga_obj];refine Xa (Xi ?_);unfold descrGetter descrCheckInstance descrNameAndClass isInstance;simp only[KF.owner_class]
 repeat lk
 refine⟨Code.quiet_builtin _ (by decide +kernel),T8 KF.entry_class ?_⟩
 unfold Builtin.«object.__class__» shownTypeOf
 repeat lk
 exact hq
def QeW{nameV:Value}{Q:Unit->Shared->Prop}(Yyy:ErrCls K C)(X:K.In h)(p:Y8 a C dd h)(hq:Q () ⟨h,g,d,t,os⟩):wpAny M A (checkBuiltinCall "BaseException.__getattribute__" ⟨[.ref a,nameV],[]⟩) Q E ⟨h,g,d,t,os⟩:=by
 have hk:builtinKind "BaseException.__getattribute__"=some .slot:=by decide +kernel
 have hsplit:splitId "BaseException.__getattribute__"=some ("BaseException","__getattribute__"):=by decide +kernel
 have ha:=PySem.F.args_bexc_ga (.ref a) nameV;have L2:Looks M h (isInstance (.ref a) (.type "BaseException")) true:=(Ju p).andThen (looks_subIn X Yyy.sb);simp only[checkBuiltinCall,hk,hsplit];refine Xa (L2.at ?_)
 repeat (first|wp_step)
 exact hq
def QeU{tk:Tok}{Q:Fin->Shared->Prop}(Yyy:ErrCls K C)(X:K.In h)(p:Y8 a C dd h)(hq:Q (.done (.ret (.ref C))) ⟨h,g,d,t,os⟩):
  wpAny (model prog w) A (Builtin.«object.__getattribute__» ⟨[.ref a,.str "__class__" tk],[]⟩) Q E ⟨h,g,d,t,os⟩:=by
 have L0:=Ju (M:=model prog w) p;have L1:=QgP (M:=model prog w) (a:=a) Yyy X;unfold Builtin.«object.__getattribute__»;refine Xa (Xi (Xa (Xi (Xa (L0.at (Xa (L1.at ?_)))))));show wpAny _ _ (holding [_] (call (.builtin "getset_descriptor.__get__") [.builtin "object.__class__",.ref a,.ref C]) >>= ret) _ _ _;exact Xa (W8 (wpAny_call (QbF Yyy X p (Xi hq))))
def QeV{Q:Option Value->Shared->Prop}(Yyy:ErrCls K C)(X:K.In h)(p:Y8 a C dd h)(hq:Q (some (.ref C)) ⟨h,g,d,t+1,os⟩):
  wpAny (model prog w) A (getAttr? (.ref a) "__class__") Q E ⟨h,g,d,t,os⟩:=by
 have L0:=Ju (M:=model prog w) p;have L1:=looks_findIn (M:=model prog w) X Yyy.ga;have L2:=looks_findIn (M:=model prog w) X Yyy.gh;unfold getAttr? getAttrBy? getAttrBy;refine Xa (wpAny_mkText (Xa (wpAny_attempt (W8 (Xa (L0.at (Xa (L1.at ?_))))))));dsimp only
 have hne:¬(onTheHeap (Value.ref C)&&Value.builtin "BaseException.__getattribute__"==Value.builtin "object.__getattribute__")=true:=by
  rw[show(Value.builtin "BaseException.__getattribute__"==Value.builtin "object.__getattribute__")=false from by decide +kernel]
  simp
 rw[if_neg hne];unfold getAttrByItsOwn hookBefore;refine Xa ?_;rw[if_pos (show onTheHeap (Value.ref C)=true from rfl)];refine L2.at ?_;refine Xa (wpAny_attempt (W8 ?_));have f3:=PySem.F.attrBase_ValueError.ga.bind (.ref a);show wpAny _ _ (boundAndCalled (.builtin "BaseException.__getattribute__") (.ref a) _) _ _ _;unfold boundAndCalled;refine Xa (Vz f3 ?_);refine wpAny_call ?_;refine codeAny_call_builtin PySem.F.attrBase_ValueError.ga.plain PySem.F.entry_bexc_ga (QeW Yyy X p (QeU Yyy X p ?_));show wpAny _ _ (handedOut _) _ _ _;exact Xi (Xi hq)
def Qci(Yyy:ErrCls K C):KitX K (.ref a) (.ref C) (Y8 a C dd) where
 ty:=λy y y p=>Ju p
 it:=λy y X y=>by
  obtain⟨cdD,hcD⟩:=Uh.mp Yyy.is;unfold clsIn at hcD;split at hcD
  ·rename_i c' d' cd' sl' ho;intro A' Q' E' s' k q;unfold isType loadHead;exact Xa (wpAny_loadPart (k _ _ (X _ _ ho)) (Xi q))
  ·cases hcD
 ne:=λh tp dd its n sl X htp=>by
  obtain⟨cdD,hcD⟩:=Uh.mp Yyy.is;refine Bool.eq_false_iff.mpr λq=>?_;have e:C=tp:=Value.ref.inj (V4.mp q);subst e;unfold clsIn at hcD;split at hcD
  ·rename_i c' d' cd' sl' ho;have z:=(X _ _ ho).symm.trans htp;cases z
  ·cases hcD
 ca:=λ{_ _ _ _ _ s} X p k=>by
  obtain⟨h,g,d,t,os⟩:=s;exact QeV Yyy X p k
end
noncomputable def QeX(a C:Addr)(dd:Option Addr):HO:=.ext (Y8 a C dd)
def Qmz{P:Program}{w:World}{H:Hp}{h:Heap}{dd:Option Addr}(p:Y8 a C dd h):ObjOk P w H h a (QeX a C dd):=by
 refine⟨p,?_,λh1 h2 q k=>?_⟩
 ·obtain⟨o,_,e,_⟩:=p;exact⟨o,e⟩
 ·obtain⟨o,vs,e,r⟩:=q;exact⟨o,vs,k o e,r⟩
def Qcr{X:Cx}{pins:List (Addr×Obj)}{Y:St}{H:Hp}{s:Shared}{dd:Option Addr}(I:Inv X pins Y H s)(e:H a=some (QeX a C dd)):Y8 a C dd s.heap :=
 (show ObjOk X.prog X.w H s.heap a (.ext (Y8 a C dd))from I.hok a _ e).1
def Qfn{X:Cx}: CallR X (.builtin "isinstance") (λxs H Q=>∃a c cv C dd b,xs=[.ref a,c]/\(match c with|.ty n=>some (Value.type n)|.ref r=>some (.ref r)|_=>none)= some cv/\H a=some (QeX a C dd)/\ErrCls X.K C/\W.kitOne X.K (.ref C) cv=some b/\Q (.bl b) H):= by
 intro pins s Y H xs us Q I r h;obtain⟨a,c,cv,C,dd,b,rfl,hc,ha,Yyy,e,q⟩:=h;obtain⟨u,w',rfl,rx,rc⟩:=Qa9 r;cases(show u=Value.ref a from rx)
 have ec:w'=cv:=by
  cases c with
  |ty n=>cases(show w'=Value.type n from rc);exact X8 hc
  |ref r0=>cases(show w'=Value.ref r0 from rc);exact X8 hc
  |_=>cases hc
 subst ec;exact V6 (Qci Yyy) I.kIn (Qcr I ha) e (λz=>nomatch z) λtk=>⟨.bl b,H,I.tok tk,rfl,q⟩
end L2
namespace L2
open PySem PySem.Spec PySem.W PyProof.Rows
section
variable {L:Addr}{h':Heap}{H:Hp}{E2:Value->Shared->Prop}
structure Cov(B:Heap)(H:Hp)(s:Shared)(l:List Env):Prop where
 trk:∀b u,H b=some u->∃o,B.get? b=some o
 old:∀b o,s.heap.get? b=some o->b∉frs l->∃o',B.get? b=some o'
def DictAt(h:Heap)(a:Addr)(dd:Option Addr):Prop:=∃o,h.get? a=some o/\o.dict=dd
def DictAt.dk{h:Heap}{a:Addr}{dd:Option Addr}(d:DictAt h a dd)(k:DK h h'):DictAt h' a dd:=by
 obtain⟨o,e,q⟩:=d;obtain⟨o',e',q'⟩:=k a o e;exact⟨o',e',q'.trans q⟩
noncomputable def CXw(P:Program)(w:World):CXT:=λouter H s E e s'=>∃a C H' B a0 dd,e=.ref a/\s'.os=s.os/\AllBare s'.gens/\Un (frs outer) [] H H' s.heap s'.heap/\HOk P w H' s'.heap /\
 Heap.FlyingW B outer a (.ref C) a0 s'.heap/\Cov B H' s outer/\H' a=none/\s.heap.get? a=none/\DictAt s'.heap a dd/\E (.ref C) dd H'
def ObjOk.there{P:Program}{w:World}{h:Heap}{a:Addr}{o:HO}(x:ObjOk P w H h a o):∃u,h.get? a=some u:=by
 cases o with
 |lst xs=>obtain⟨_,_,_,_,e⟩:=x;exact⟨_,e⟩
 |tup xs=>obtain⟨_,_,_,_,e,_⟩:=x;exact⟨_,e⟩
 |dK kvs=>obtain⟨_,_,_,_,o,_,_,e,_⟩:=x;exact⟨_,e⟩
 |dT kvs=>obtain⟨_,_,_,_,o,_,_,e,_⟩:=x;exact⟨_,e⟩
 |set S n=>obtain⟨o,_,_,_,e,_⟩:=x;exact⟨_,e⟩
 |ins C dx fs=>obtain⟨_,_,_,e,_⟩:=x;exact⟨_,e⟩
 |own y=>obtain⟨_,e⟩:=x;exact⟨_,e⟩
 |xd fs=>obtain⟨_,⟨_,_,_,e,_⟩,_⟩:=x;exact⟨_,e⟩
 |rng lo hi=>obtain⟨_,_,_,e⟩:=x;exact⟨_,e⟩
 |frz ob u=>obtain⟨e,_⟩:=x;exact⟨_,e⟩
 |tbl ps=>exact⟨_,(show h.get? a=some _ from x)⟩
 |met f y=>exact⟨_,(show h.get? a=some _ from x)⟩
 |ext φ=>obtain⟨_,⟨_,e⟩,_⟩:=x;exact⟨_,e⟩
def Qdt{P:Program}{w:World}{l:List Env}{H':Hp}{s:Shared}{h1 h2 B base:Heap}(un:Un (frs l) [] H H' s.heap h1)(hok:HOk P w H' h1)(ff:s.heap.FunFrames base l)(fr:∀b∈frs l,H b=none)
  (st1:B.StaysIn h1) (st2:B.StaysIn h2) (up:h1.UpToSlots h2) (cv:Cov B H' s l):Un (frs l) [] H H' s.heap h2/\HOk P w H' h2:=by
 have fsl:∀b o,s.heap.get? b=some o->b∈frs l->∃sl,h2.get? b=some {o with slots:=sl}:=λb o q hb=>by
  obtain⟨sl,e⟩:=un.slot b o q (fr b hb) hb (by simp)
  obtain⟨_,o2,ho2,hd⟩:=ff.mem hb;rw[q]at ho2;cases ho2;obtain⟨sl',e'⟩:=up b _ e hd;exact⟨sl',e'⟩
 refine⟨⟨λb o q n hb hx=>?_,λb o q n hb hx=>fsl b o q hb,un.free,λb o q hx=>?_,un.tups,un.frzs,un.tbls⟩,λa o e=>?_⟩
 ·have e1:=un.keep b o q n hb hx;obtain⟨o',e2⟩:=cv.old b o q hb;have e3:=st1 b o' e2;rw[e1]at e3;cases e3;exact st2 b _ e2
 ·by_cases hb:b∈frs l
  ·obtain⟨sl,e⟩:=fsl b o q hb;exact⟨_,e⟩
  ·obtain⟨o',e2⟩:=cv.old b o q hb;exact⟨o',st2 b _ e2⟩
 ·refine(hok a o e).stay (λb u hb q=>?_) (λy z=>z) λy y z=>z
  have ht:∃x,H' b=some x:=by
   rcases hb with rfl|z
   ·exact⟨_,e⟩
   ·exact⟨_,z⟩
  obtain⟨x,hx⟩:=ht;obtain⟨o',e2⟩:=cv.trk b x hx;have e3:=st1 b o' e2;rw[q]at e3;cases e3;exact st2 b _ e2
section
variable {X:Cx}{pins:List (Addr×Obj)}{Y:St}{H':Hp}{s s':Shared}{e C:Addr}{dd:Option Addr}{B:Heap}{a0:Value}{E:XK}
def Cov.up(I:Inv X pins Y H s)(hex:X.ex=[])(cv:Cov B H' s X.stack):Cov B H' X.s₀ X.outer:=by
 refine⟨cv.trk,λb o q hb=>?_⟩
 obtain⟨o',e⟩:=I.base.there b o q (by rw[hex];simp)
 refine cv.old b o' e λz=>?_
 rcases X7.mp (I.stkSub b z)with z|z
 ·exact Xp (Xr (Xk q) I.ok.above) z
 ·exact hb z
def Qew(hst:X.stack=X.env::X.outer)(hf:X.env.frame=some L)(hex:X.ex=[])(J:Inv X pins Y H' s')(fl:Heap.FlyingW B X.stack e (.ref C) a0 s'.heap)(cv:Cov B H' X.s₀ X.outer)
  (hn:H' e=none) (hsz:X.s₀.heap.get? e=none) (da:DictAt s'.heap e dd) (hE:E (.ref C) dd H'):wpAny (model X.prog X.w) X.A (leaving X.env (.ref e)) (λy s''=>CXw X.prog X.w X.outer X.H₀ X.s₀ E (.ref e) s'') E2 s':=by
 rw[hst]at fl;refine X4 (Jp (E:=λy y=>False) Qcl (wpAny_leaves_onW (Q:=λy s''=>Heap.FlyingW B X.outer e (.ref C) a0 s''.heap/\s'.heap.UpToSlots s''.heap/\s''.os=s'.os/\s''.gens=s'.gens) (hst▸J.ok.frames) hf fl λh' fl' up=>⟨fl',up,rfl,rfl⟩)) (λy s'' x=>?_) λy y z=>z.1.elim;obtain⟨⟨fl',up,eo,eg⟩,dk⟩:=x;have b:=J.base;rw[hex]at b;obtain⟨un,hok⟩:=Qdt b J.hok J.ok.funs J.ok.frf fl.1 fl'.1 up cv;exact⟨e,C,H',B,a0,dd,rfl,eo.trans J.os,eg▸J.bare,un,hok,fl',cv,hn,hsz,da.dk dk,hE⟩
def YV{oe:Obj}{vs:Array Value}(hst:X.stack=X.env::X.outer)(hf:X.env.frame=some L)(hex:X.ex=[])(I:Inv X pins Y H s)(hn:H e=none)(h0:X.s₀.heap.get? e=none)(hl:e≠X.env.locals)
  (he:s.heap.get? e=some oe) (hc:oe.cls=.ref C) (hd:oe.data=.fields vs) (v0:vs[0]?=some a0) (v1:vs[1]?=some .none) (hE:E (.ref C) oe.dict H):
  wpAny (model X.prog X.w) X.A (leaving X.env (.ref e)) (λy s''=>CXw X.prog X.w X.outer X.H₀ X.s₀ E (.ref e) s'') E2 s:=by
 have nf:e∉frs X.stack:=λz=>by
  rcases X7.mp (I.stkSub e z)with z|z
  ·exact hl z
  ·obtain⟨_,o,ho,_⟩:=I.ok.funs.mem z;rw[h0]at ho;cases ho
 generalize hB:hideAll s.heap (e::frs X.stack)=B;have stB:B.StaysIn s.heap:=λb o q=>of_hideAll _ (hB▸q);have ff:s.heap.FunFrames B X.stack:=hB▸funFrames_hide I.stack λenv hm a ha=>Xl _ (Sj.mpr ⟨env,hm,ha⟩);have eB:B.get? e=none:=hB▸hideAll_none _ (Xn ..)
 have cv:Cov B H X.s₀ X.outer:=by
  refine⟨λb u q=>?_,λb o q hb=>?_⟩
  ·obtain⟨o,ho⟩:=(I.hok b u q).there;refine⟨o,hB▸hideAll_get _ ho λz=>?_⟩
   rcases X7.mp z with rfl|z
   ·rw[hn]at q;cases q
   ·rw[I.stkFree b z]at q;cases q
  ·obtain⟨o',ho⟩:=I.base.there b o q (by rw[hex];simp)
   refine⟨o',hB▸hideAll_get _ ho λz=>?_⟩
   rcases X7.mp z with rfl|z
   ·rw[h0]at q;cases q
   ·rcases X7.mp (I.stkSub b z)with z|z
    ·exact Xp (Xr (Xk q) I.ok.above) z
    ·exact hb z
 refine X4 (Jp (E:=λy y=>False) Qcl (wpAny_leaving_firstW (base:=B) (Q:=λy s''=>Heap.FlyingW B X.outer e (.ref C) a0 s''.heap/\s.heap.UpToSlots s''.heap/\s''.os=s.os/\s''.gens=s.gens) (hst▸I.ok.frames) (hst▸ff) hf he stB eB hd v1 v0 λh' x=>by obtain⟨k1,⟨_,_,k2⟩,k3,k4⟩:=x;exact⟨⟨k1,eB,k2,hc▸k3⟩,k4,rfl,rfl⟩)) (λy s'' v=>?_) λy y z=>z.1.elim;obtain⟨⟨fl',up,eo,eg⟩,dk⟩:=v;have b:=I.base;rw[hex]at b;obtain⟨un,hok⟩:=Qdt b I.hok I.ok.funs I.ok.frf stB fl'.1 up cv;exact⟨e,C,H,B,a0,oe.dict,rfl,eo.trans I.os,eg▸I.bare,un,hok,fl',cv,hn,h0,DictAt.dk ⟨oe,he,rfl⟩ dk,hE⟩
def QcQ{vs:List Value}(hst:X.stack=X.env::X.outer)(hf:X.env.frame=some L)(hex:X.ex=[])(I:Inv X pins Y H s)(hx:Heap.MadeExcOf s.heap h' e (.ref C) vs)(hE:E (.ref C) none H):
  wpAny (model X.prog X.w) X.A (leaving X.env (.ref e)) (λy s''=>CXw X.prog X.w X.outer X.H₀ X.s₀ E (.ref e) s'') E2 {s with heap:=h'}:=by
 have hn:H e=none:=by
  cases q:H e with
  |none=>rfl
  |some u=>
   obtain⟨o,ho⟩:=(I.hok e u q).there;rw[hx.new]at ho;cases ho
 have h0:X.s₀.heap.get? e=none:=by
  cases q:X.s₀.heap.get? e with
  |none=>rfl
  |some o=>
   obtain⟨o',ho⟩:=I.base.there e o q (by rw[hex];simp)
   rw[hx.new]at ho;cases ho
 obtain⟨t,he,_,_⟩:=hx.there;refine YV hst hf hex (I.kept (t':=s.toks) hx.keeps) hn h0 (λz=>?_) he rfl rfl rfl rfl hE;obtain⟨m,⟨o,_,_,ho,_⟩,_⟩:=I.loc;rw[<-z,hx.new]at ho;cases ho
def Qmw(I:Inv X pins Y H s)(hex:X.ex=[]){v:Value}(h:CXw X.prog X.w X.stack H s E v s'):∃e C H' B a0 dd,v=.ref e/\Inv X pins Y H' s'/\Heap.FlyingW B X.stack e (.ref C) a0 s'.heap/\Cov B H' s X.stack/\H' e=none/\s.heap.get? e=none/\X.s₀.heap.get? e=none/\DictAt s'.heap e dd/\E (.ref C) dd H':=by
 obtain⟨a,C,H',B,a0,dd,e,os,bare,un,hok,fl,cv,hn,hs,da,hE⟩:=h
 refine⟨a,C,H',B,a0,dd,e,I.call' (ch:=[]) os un hok bare (λb z=>absurd z (by simp)),fl,cv,hn,hs,?_,da,hE⟩
 cases q:X.s₀.heap.get? a with
 |none=>rfl
 |some o=>
  obtain⟨o',ho⟩:=I.base.there a o q (by rw[hex];simp)
  rw[hs]at ho;cases ho
def Inv.adopt{ho:HO}(I:Inv X pins Y H s)(hn:H e=none)(h0:X.s₀.heap.get? e=none)(hL:e≠X.env.locals)(hC:∀x c,X.env.cells.lookup x=some c->c≠e)(hp:∀p∈X.pn++pins,p.1≠e)
  (new:ObjOk X.prog X.w (upd H e ho) s.heap e ho):Inv X pins Y (upd H e ho) s:=by
 have ne:∀b u,H b=some u->b≠e:=λb u q z=>by rw[z,hn]at q;cases q
 refine⟨I.ok,I.os,I.bare,⟨I.base.keep,I.base.slot,λb o q n hx=>?_,I.base.there,λb xs q=>?_,λb o u q=>?_,λb ps q=>?_⟩,I.loc,I.cell,?_,λx c q=>?_,λp hp'=>?_,λb u q=>?_,I.len⟩
 ·have hb:b≠e:=λz=>by rw[z,h0]at q;cases q
  rw[Qf hb];exact I.base.free b o q n hx
 ·have z:=I.base.tups b xs q;rw[Qf (ne _ _ z)];exact z
 ·have z:=I.base.frzs b o u q;rw[Qf (ne _ _ z)];exact z
 ·obtain⟨m,z⟩:=I.base.tbls b ps q
  exact⟨m,by rw[Qf (ne _ _ z)];exact z⟩
 ·rw[Qf (Wr hL)];exact I.free
 ·rw[Qf (hC x c q)];exact I.freeC x c q
 ·obtain⟨a1,a2,a3⟩:=I.pin p hp'
  exact⟨a1,by rw[Qf (hp p hp')];exact a2,a3⟩
 ·by_cases hb:b=e
  ·subst hb;rw[Qh]at q;cases q;exact new
  ·rw[Qf hb]at q
   exact(I.hok b u q).stay (λc v y r=>r) (λc r=>by rw[Qf (ne _ _ r)];exact r) λc xs r=>by rw[Qf (ne _ _ r)];exact r
def Inv.gone{n:Str}{j t:Nat}{m:Str->Option Value}{v:Option Value}(I:Inv X pins Y H s)(hN:X.N.Nodup)(hj:X.N[j]?=some n)(hk:X.env.scope.names.lookup n=some .local)(hm:s.heap.Ns X.env.locals m)
  (hn:h'.Ns X.env.locals (λx=>if x=n then v else m x)) (hs:Heap.SameBut X.env.locals s.heap h'):Inv X pins (Y.set j none) H {s with heap:=h',toks:=t}:=by
 obtain⟨m0,hm0,hl⟩:=id I.loc;obtain⟨oL,_,_,hoL,_⟩:=id hm
 have em:∀x,m0 x=m x:=λx=>by
  obtain⟨o1,es1,ep1,a1,a2,a3,a4⟩:=hm0;obtain⟨o2,es2,ep2,b1,b2,b3,b4⟩:=hm;rw[a1]at b1;cases b1;rw[a2]at b2;cases b2;rw[<-a4,<-b4]
 refine⟨I.ok,I.os,I.bare,⟨λb o e n hb hx=>?_,λb o e n hb hx=>?_,I.base.free,λb o e hx=>?_,I.base.tups,I.base.frzs,I.base.tbls⟩,⟨_,hn,λi y v' e1 e2 e3=>?_⟩,λy c e=>?_,I.free,I.freeC,λp hp=>?_,λb ob e=>?_,by simpa using I.len⟩
 ·exact(hs.2 b (Xp (Xr (Xk e) I.ok.above))).trans (I.base.keep b o e n hb hx)
 ·obtain⟨sl,e1⟩:=I.base.slot b o e n hb hx;exact⟨sl,(hs.2 b (Xp (Xr (Xk e) I.ok.above))).trans e1⟩
 ·obtain⟨o',e1⟩:=I.base.there b o e hx;exact⟨o',(hs.2 b (Xp (Xr (Xk e) I.ok.above))).trans e1⟩
 ·have hij:i≠j:=λz=>by
   subst z
   have l:i < Y.length:=by rw[I.len];exact(Xc.mp hj).1
   rw[Xz l]at e2;cases e2
  rw[Xu (Wr hij)]at e2;obtain⟨u',r',q⟩:=hl i y v' e1 e2 e3;refine⟨u',r',?_⟩
  rcases q with⟨k,e⟩|⟨k,c,e,z⟩
  ·refine .inl ⟨k,?_⟩;have:y≠n:=λe=>hij (JL hN e1 (e▸hj));simp[this,<-em,e]
  ·exact .inr ⟨k,c,e,z.sameBut hs (I.cne y c e)⟩
 ·obtain⟨w',z⟩:=I.cell y c e;exact⟨w',z.sameBut hs (I.cne y c e)⟩
 ·obtain⟨e,n,ne,nf,d⟩:=I.pin p hp;exact⟨(hs.2 p.1 ne).trans e,n,ne,nf,d⟩
 ·refine(I.hok b ob e).stay (λc w' hc q=>(hs.2 c ?_).trans q) (λw q=>q) λw w q=>q;rintro rfl
  rcases hc with hc|hc
  ·rw[<-hc,I.free]at e;cases e
  ·rw[I.free]at hc;cases hc
end
end
section
variable {C:Addr}{body:List Stmt}
def QeT{K:W.Frag}{h:Heap}{bmB:List Value}{newId:String}(X:K.In h)(q:excIn K C bmB newId=true):
  ∃bm N nm q bs hdct sn sub ab col dd k0 k1 k2 k3 k5 mN,h.get? C=some (excClassObj nm q C N bs bm hdct sn sub ab col dd k0 k1 k2 k3 k5 newId)/\h.Ns N mN/\mN "__init__"=none/\OwnTail h bmB bm:=by
 unfold excIn at q;split at q
 ·rename_i dd cd sl ho;split at q
  ·rename_i C' bm k0 k1 k2 k3 n k5 hm hs;simp only[Xj,V4,Uc]at q;obtain⟨⟨⟨⟨⟨rfl,rfl⟩,hdel⟩,ht⟩,hok⟩,hni⟩:=q;obtain⟨nm,bs,mro,ns,qn,hd,sn,sub,ab,col,del⟩:=cd;dsimp only at hm hdel hok hni;subst hm hdel
   have hsl:sl=#[k0,k1,k2,k3,some (.builtin n),k5]:=by
    obtain⟨l⟩:=sl;simp only at hs;rw[hs]
   subst hsl;exact⟨bm,ns,nm,qn,bs,hd,sn,sub,ab,col,dd,k0,k1,k2,k3,k5,_,X _ _ ho,.of_isNs (isNs_of_in X hok),nsMap_none_of_in X hok hni,tail_of_in X ht⟩
  ·cases q
 ·cases q
noncomputable def Qa8:List Value:=[.type "ValueError",.type "Exception",.type "BaseException",.type "object"]
section
variable {X:Cx}{x:Str}{np cpos pos:Pos}{t:TA}{W:Hp->Prop}
def Qlq(t:TA)(W:Hp->Prop):TS:=λz Y H=>t Y H λvs H1=>vs.length<=sizeLine/\W H1
def Qgc{e₀:Expr}{rest:List Expr}(q:excIn X.K C Qa8 "ValueError.__new__"=true)(hg:Gl X x)(hm:X.mg x=some (.ref C))(hc:X.calm=true)(ha:PA X (e₀::rest) t)
  (hw:∀pins Y H s h' e vs,Inv X pins Y H s->Heap.MadeExcOf s.heap h' e (.ref C) vs->W H->X.xe (.ref e) {s with heap:=h'})
  (he:starEach (e₀::rest) X.env=(false,eval e₀ X.env)::starEach rest X.env) (hpl:(backTo cpos (starEach rest X.env)).any (·.1)=false) (hdb:(x==("__debug__":Str))=false):
  PS X (.Raise (some (.Call (.Name x np) (e₀::rest) [] cpos)) none pos) (Qlq t W):=by
 intro pins s Y H D I h;obtain⟨tl,N,nm,qn,bs,hdct,sn,sub,ab,col,dd,k0,k1,k2,k3,k5,mN,hC,hN,hni,T⟩:=QeT I.ok.mod.kin q
 refine wpAny_Raise_call_subT (C:=C) (nm:=nm) (q:=qn) (N:=N) (bs:=bs) (bm:=tl) (hdct:=hdct) (sn:=sn) (sub:=sub) (ab:=ab) (col:=col) (dd:=dd) (k0:=k0) (k1:=k1) (k2:=k2) (k3:=k3) (k5:=k5)
  Ua (mN:=mN) (T.hasType Ua.hasBase) (I.ok.hd hc) (by rw[he];show(false||(backTo cpos (starEach rest X.env)).any (·.1))=false;rw[hpl];rfl) hni (ZG I hg hm ⟨rfl,?_⟩ hdb)
 have h':=ha cpos pins s Y H _ I h;rw[he]at h' ⊢;refine Calls.evalArgs_plain (X4 h' (λus s₂ z=>?_) λv v y=>y);obtain⟨vs,H1,I1,r,l,w⟩:=z
 exact⟨rfl,by rw[<-r.length];exact l,I1.bk _ _ hC,hN.keeps I1.bk,T.keeps I1.bk,λh' e mx=>hw pins Y H1 s₂ h' e us I1 mx w⟩
def QdX(q:excIn X.K C Qa8 "ValueError.__new__"=true)(hg:Gl X x)(hm:X.mg x=some (.ref C))(hc:X.calm=true)
  (hw:∀pins Y H s h' e vs,Inv X pins Y H s->Heap.MadeExcOf s.heap h' e (.ref C) vs->W H->X.xe (.ref e) {s with heap:=h'}) (hdb:(x==("__debug__":Str))=false):
  PS X (.Raise (some (.Call (.Name x np) [] [] cpos)) none pos) (λz z H=>W H):=by
 intro pins s Y H D I h;obtain⟨tl,N,nm,qn,bs,hdct,sn,sub,ab,col,dd,k0,k1,k2,k3,k5,mN,hC,hN,hni,T⟩:=QeT I.ok.mod.kin q
 refine wpAny_Raise_call_subT (C:=C) (nm:=nm) (q:=qn) (N:=N) (bs:=bs) (bm:=tl) (hdct:=hdct) (sn:=sn) (sub:=sub) (ab:=ab) (col:=col) (dd:=dd) (k0:=k0) (k1:=k1) (k2:=k2) (k3:=k3) (k5:=k5)
  Ua (mN:=mN) (T.hasType Ua.hasBase) (I.ok.hd hc) rfl hni (ZG I hg hm ⟨rfl,?_⟩ hdb)
 exact evalArgs_empty ⟨rfl,W6 _,I.bk _ _ hC,hN.keeps I.bk,T.keeps I.bk,λh' e mx=>hw pins Y H s h' e [] I mx h⟩
end
section
variable {X:Cx}{pins:List (Addr×Obj)}{Y:St}{H H':Hp}{s s':Shared}{e C':Addr}{dd:Option Addr}{B:Heap}{a0:Value}{x n y:Str}{j:Nat}{np pn pos:Pos}{Q:Flow->Shared->Prop}{E:Value->Shared->Prop}
noncomputable def Cx.hd(X:Cx)(v:Value):Cx:={X with A:=X.A.mark (some v),calm:=false}
theorem Inv.hd{v:Value}(I:Inv X pins Y H s):Inv (X.hd v) pins Y H s :=
 ⟨⟨I.ok.mod,I.ok.kind,I.ok.glob,I.ok.blt,I.ok.above,I.ok.inj,I.ok.has,I.ok.cab,(λz=>nomatch z),I.ok.frames,I.ok.stk,I.ok.exf,I.ok.bs,I.ok.bsz,I.ok.noex,I.ok.exfs,I.ok.funs,I.ok.frf⟩,I.os,I.bare,I.base,I.loc,I.cell,I.free,I.freeC,I.pin,I.hok,I.len⟩
def Inv.unhd{v:Value}(ok:X.Ok)(I:Inv (X.hd v) pins Y H s):Inv X pins Y H s:=⟨ok,I.os,I.bare,I.base,I.loc,I.cell,I.free,I.freeC,I.pin,I.hok,I.len⟩
structure Met(X:Cx)(pins:List (Addr×Obj))(Y:St)(H H':Hp)(s s':Shared)(e C:Addr)(dd:Option Addr)(B:Heap)(a0:Value):Prop where
 I:Inv X pins Y H s
 os:s'.os=s.os
 bare:AllBare s'.gens
 un:Un (frs X.stack) [] H H' s.heap s'.heap
 hok:HOk X.prog X.w H' s'.heap
 fl:Heap.FlyingW B X.stack e (.ref C) a0 s'.heap
 cv:Cov B H' s X.stack
 hn:H' e=none
 hs0:s.heap.get? e=none
 h00:X.s₀.heap.get? e=none
 da:DictAt s'.heap e dd
def Met.at(M:Met X pins Y H H' s s' e C dd B a0){h2:Heap}(f2:Heap.FlyingW B X.stack e (.ref C) a0 h2)(up:s'.heap.UpToSlots h2)(tk:Nat):Inv X pins Y H' {s' with heap:=h2,toks:=tk}:=by
 obtain⟨un2,hok2⟩:=Qdt M.un M.hok M.I.stack M.I.stkFree M.fl.1 f2.1 up M.cv
 exact M.I.call' (s':={s' with heap:=h2,toks:=tk}) (ch:=[]) M.os un2 hok2 M.bare (λb z=>absurd z (by simp))
def Qh1{h:Heap}{l:List Env}(f:Heap.FlyingW B l e (.ref C) a0 h)(d:DictAt h e dd):Y8 e C dd h:=by
 obtain⟨_,_,_,oe,vs,T,oT,ts,he,hc,hd,_⟩:=f;obtain⟨o,e1,e2⟩:=d;cases he.symm.trans e1;exact⟨oe,vs,he,hc.1,hd,e2⟩
def Qcd{nm:Option Str}(hst:X.stack=X.env::X.outer)(hf:X.env.frame=some X.env.locals)(M:Met X pins Y H H' s s' e C dd B a0)
  (hg:Gl X x) (hm:X.mg x=some (.ref C')) (hx:exmOne X.K (.ref C) (.ref C')=some true) (hdb:(x==("__debug__":Str))=false)
  (k:∀h₅,Heap.FlyingW B (X.env::X.outer) e (.ref C) a0 h₅->s'.heap.UpToSlots h₅->DictAt h₅ e dd->codeAny (model X.prog X.w) (X.A.mark (some (.ref e))) (.handlers (.ref e) [.ExceptHandler none nm body pos] X.env) (λr s₂=>match r with
     |.ok f=>(match nm with
      |none=>Q f s₂
      |some n=>wpAny (model X.prog X.w) X.A (do bindName X.env n .none;unbindBehindTheSuite X.env n pos) (λv s₃=>Q f s₃) E s₂)
     |.error y=>cameBackBy (model X.prog X.w) X.A X.env E y s₂) {s' with heap:=h₅}):
  wpAny (model X.prog X.w) X.A (noteFrame (.ref e) X.env) (λv s₂=>wpAny (model X.prog X.w) X.A (setFlight (.ref e) none) (λv s₃=>
   wpAny (model X.prog X.w) X.A (handleBy (.ref e) X.env [.ExceptHandler (some (.Name x np)) nm body pos]) Q E s₃) E s₂) E s':=by
 have fl:=M.fl;rw[hst]at fl;refine X4 (Jp (E:=λv v=>False) QeB (wpAny_looks_onW (Q:=λv s''=>∃h₄,s''={s' with heap:=h₄}/\Heap.HeldW B (X.env::X.outer) e (.ref C) a0 X.env.locals h₄/\s'.heap.UpToSlots h₄) (hst▸M.I.ok.frames) hf fl λh₄ x y=>⟨h₄,rfl,x,y⟩)) (λv s4 u=>?_) λv v z=>z.1.elim;obtain⟨⟨h₄,e4,hl₄,up₄⟩,dk₄⟩:=u;subst e4;refine X4 (Jp (E:=λv v=>False) ZX (wpAny_landsW (s:={s' with heap:=h₄}) (Q:=λv s''=>∃h₅,s''={s' with heap:=h₅}/\Heap.FlyingW B (X.env::X.outer) e (.ref C) a0 h₅/\h₄.UpToSlots h₅) hl₄ λh₅ x y=>⟨h₅,rfl,x,y⟩)) (λv s5 t=>?_) λv v z=>z.1.elim;obtain⟨⟨h₅,e5,fl₅,up₅'⟩,dk₅⟩:=t;subst e5;have da₅:=(M.da.dk dk₄).dk dk₅;have up₅:=up₄.trans up₅';have J5:=M.at (hst▸fl₅) up₅ s'.toks
 refine wpAny_handleBy_cons (codeAny_handlers_test ?_) (by intro z;cases z)
 refine U4 M.I.ok.kind hg (Calls.loadGlobal_global (by rw[M.I.ok.glob];exact J5.mod.glob.keeps J5.bk) hm ?_) hdb
 refine(exm_one (M:=model X.prog X.w) J5.kIn (Ju (Qh1 fl₅ da₅)) hx).here ?_;exact k h₅ fl₅ up₅ da₅
def QjW{b₀:Stmt}{W:St->Hp->Prop}(hst:X.stack=X.env::X.outer)(hf:X.env.frame=some X.env.locals)(M:Met X pins Y H H' s s' e C dd B a0)
  (hg:Gl X x) (hm:X.mg x=some (.ref C')) (hx:exmOne X.K (.ref C) (.ref C')=some true) (hdb:(x==("__debug__":Str))=false)
  (hS:∀s7,Inv (X.hd (.ref e)) pins Y H' s7->wpAny (model X.prog X.w) (X.hd (.ref e)).A (execs (b₀::body) X.env) (λf s8=>f=.next/\∃σ8 H8,Inv (X.hd (.ref e)) pins σ8 H8 s8/\W σ8 H8) (λv v=>False) s7)
  (k:∀σ8 H8 s'',W σ8 H8->Inv X pins σ8 H8 s''->Q .next s''):
  wpAny (model X.prog X.w) X.A (noteFrame (.ref e) X.env) (λv s₂=>wpAny (model X.prog X.w) X.A (setFlight (.ref e) none) (λv s₃=>
   wpAny (model X.prog X.w) X.A (handleBy (.ref e) X.env [.ExceptHandler (some (.Name x np)) none (b₀::body) pos]) Q E s₃) E s₂) E s':=by
 refine Qcd hst hf M hg hm hx hdb λh₅ fl₅ up₅ da₅=>?_;refine codeAny_handlers_suite ?_;refine X4 (Jp (E:=λv v=>False) ZX (lands_againW (s:={s' with heap:=h₅}) (Q:=λv s''=>∃h₆,s''={s' with heap:=h₆}/\Heap.FlyingW B (X.env::X.outer) e (.ref C) a0 h₆/\h₅.UpToSlots h₆) fl₅ λh₆ x y=>⟨h₆,rfl,x,y⟩)) (λv s6 u=>?_) λv v z=>z.1.elim;obtain⟨⟨h₆,e6,fl₆,up₆⟩,dk₆⟩:=u;subst e6;have da₆:=da₅.dk dk₆;have J6:=M.at (hst▸fl₆) (up₅.trans up₆) s'.toks;refine X4 (hS _ J6.hd) (λf s8 t=>?_) λv v z=>z.elim;obtain⟨ef,σ8,H8,J8,w⟩:=t;subst ef;exact k σ8 H8 s8 w (J8.unhd M.I.ok)
def QjX{b₀:Stmt}{W:St->Hp->Prop}(hst:X.stack=X.env::X.outer)(hf:X.env.frame=some X.env.locals)(hN:X.N.Nodup)(M:Met X pins Y H H' s s' e C dd B a0)
  (hg:Gl X x) (hm:X.mg x=some (.ref C')) (hx:exmOne X.K (.ref C) (.ref C')=some true) (hdb:(x==("__debug__":Str))=false)
  (hj:X.N[j]?=some n) (kn:X.env.scope.names.lookup n=some .local)
  (hS:∀s7,Inv (X.hd (.ref e)) pins (Y.set j (some (.ref e))) (upd H' e (QeX e C dd)) s7->wpAny (model X.prog X.w) (X.hd (.ref e)).A (execs (b₀::body) X.env) (λf s8=>f=.next/\∃σ8 H8,Inv (X.hd (.ref e)) pins σ8 H8 s8/\W σ8 H8) (λu u=>False) s7)
  (k:∀σ8 H8 s'',W σ8 H8->Inv X pins (σ8.set j none) H8 s''->Q .next s''):
  wpAny (model X.prog X.w) X.A (noteFrame (.ref e) X.env) (λu s₂=>wpAny (model X.prog X.w) X.A (setFlight (.ref e) none) (λu s₃=>
   wpAny (model X.prog X.w) X.A (handleBy (.ref e) X.env [.ExceptHandler (some (.Name x np)) (some n) (b₀::body) pos]) Q E s₃) E s₂) E s':=by
 refine Qcd hst hf M hg hm hx hdb λh₅ fl₅ up₅ da₅=>?_;refine codeAny_handlers_suite_as ?_;refine X4 (Jp (E:=λu u=>False) ZX (lands_againW (s:={s' with heap:=h₅}) (Q:=λu s''=>∃h₆,s''={s' with heap:=h₆}/\Heap.FlyingW B (X.env::X.outer) e (.ref C) a0 h₆/\h₅.UpToSlots h₆) fl₅ λh₆ x y=>⟨h₆,rfl,x,y⟩)) (λu s6 r=>?_) λu u z=>z.1.elim;obtain⟨⟨h₆,e6,fl₆,up₆⟩,dk₆⟩:=r;subst e6;have da₆:=da₅.dk dk₆;have J6:=M.at (hst▸fl₆) (up₅.trans up₆) s'.toks;have I:=M.I;have hs0:=M.hs0
 have cne:∀z c,X.env.cells.lookup z=some c->c≠e:=λz c q w=>by
  obtain⟨v,o,ho,_⟩:=I.cell z c q;rw[w,hs0]at ho;cases ho
 have hL:e≠X.env.locals:=λw=>by
  obtain⟨m,⟨o,_,_,ho,_⟩,_⟩:=I.loc;rw[<-w,hs0]at ho;cases ho
 have hp:∀p∈X.pn++pins,p.1≠e:=λp q w=>by
  have:=(I.pin p q).1;rw[w,hs0]at this;cases this
 have J6':Inv X pins Y (upd H' e (QeX e C dd)) {s' with heap:=h₆}:=J6.adopt M.hn M.h00 hL cne hp (Qmz (Qh1 fl₆ da₆));refine JF (v:=.ref e) J6' hN hj (.inl kn) rfl (λs7 J7=>?_) (.inr kn);refine X4 (hS _ J7.hd) (λf s8 l=>?_) λu u z=>z.elim;obtain⟨ef,σ8,H8,J8,w⟩:=l;subst ef;have J8:=J8.unhd I.ok;obtain⟨m8,hn8,_⟩:=J8.loc
 refine wpAny_nameGoes_keeps kn hn8 (by rw[I.ok.kind];rfl) λh' v hv hs=>?_
 exact k σ8 H8 _ w (J8.gone (t:=s8.toks+1) hN hj kn hn8 hv hs)
end
end
section
section
open Builtin Builtin.ObjectAttr
end
end
end L2
namespace L2
open PySem PySem.Spec PySem.W PyProof.Rows PySem.Calls PySem.Builtin PySem.Builtin.ObjectAttr
end L2
namespace L2
open PySem PySem.Spec PySem.W PyProof.Rows
end L2
namespace L2
open PySem
open Sem (wp)
open AutoSeq1 (wpAny_loadPart')
end L2
namespace L2
open PySem PySem.Spec PyProof.Rows
section
section
variable {X:Cx}
def QpH(K:W.Frag)(te:TE):TE:=λY H Q=>te Y H λx H1=>∃a xs,x=.ref a/\SqL K H1 a xs/\∀p,H1 p=none->Q (.ref p) (upd H1 p (.lst xs.reverse))
def QlO{e:Expr}{te:TE}{j:Nat}{p1 p3 p2 pos:Pos}(he:PE X e te):PE X (.Subscript e (.Slice none none (some (.UnaryOp .USub (.Constant (.int 1) j p1) p3)) p2) pos) (QpH X.K te):=by
 intro pins s Y H Q I h;refine Subscript_ (thn (he pins s Y H _ I h) λv s1 z=>?_);obtain⟨x,H1,I1,r1,q1⟩:=z;have hk:PO X (some (.UnaryOp .USub (.Constant (.int 1) j p1) p3)) (Qk2 (tUn (rU λi=>.int (-i)) (tC (.int 1)))):=Qd2 (QlN Qhl Qd7);refine wpAny_Slice ?_;rw[evalPart_none];refine Xi ?_;refine Xi ?_;refine thn (hk pins s1 Y H1 (λo H2=>o=some (-1)/\H2=H1) I1 ⟨1,rfl,-1,rfl,rfl,rfl⟩) λvk s3 y=>?_;obtain⟨o,H3,I3,pk,eo,eH⟩:=y;subst eo eH;have I4:Inv X pins Y H3 {s3 with heap:=s3.heap.push {cls:=.type "slice",data:=.fields #[.none,.none,vk]} }:=I3.kept (t':=s3.toks) λb ob q=>Xf _ q;obtain⟨a,xs,rfl,hq,q⟩:=q1;cases r1;obtain⟨its,r,ht,hz⟩:=I4.list hq;have hlen:=r.length;show wpAny (model X.prog X.w) X.A (subscriptTail e (.Slice none none (some (.UnaryOp .USub (.Constant (.int 1) j p1) p3)) p2) (.ref a) (.ref s3.heap.objs.size)) (EP X pins Y Q) X.xe {s3 with heap:=s3.heap.push {cls:=.type "slice",data:=.fields #[.none,.none,vk]} }
 refine tail_any (ops:=[.ref a,.ref s3.heap.objs.size]) ht.isList.typeIs slot_list_getitem.lookup ?_ (by with_unfolding_all rfl)
 refine wpAny_getItem_list_slice ht.isList (Heap.IsSliceOf.new ..) .none .none pk (by simp) ?_ (by rw[Xw]<;>omega)
 rw[W.krv_pick];refine⟨.ref _,_,I4.laid (t':=s3.toks) (o:=.lst xs.reverse) (λb ob q=>Xf _ q) (Xg _) ?_,rfl,q _ (I4.hok.fresh (Xg _))⟩
 exact⟨by rw[Sg];exact hz,_,0,by simpa using r.reverse,Xy _ rfl⟩
end
end
section
open Sem (wp)
section
variable {prog:Program}{w:World}{A:Around}{E:Value->Shared->Prop}{s:Shared}
def Qem:typeLookup (.type "list_reverseiterator") "__len__"=pure none:=by rw[typeLookup_type,T1];kernel_rfl
def Qgt:typeLookup (.type "list_reverseiterator") "__length_hint__"=pure (some (.builtin "list_reverseiterator.__length_hint__")):=by rw[typeLookup_type,T1];kernel_rfl
def QcY{R:Result->Shared->Prop}{I l:Addr}{items:Array Value}(hh:A.handled=none)(hit:s.heap.IsRevIter I l ((items.size:Int) - 1))(hl:s.heap.IsList l items)(hne:l≠I)(hn:items.size<=sizeLine)(S:Addr)(res:Value)(c₀:Nat)
  (hS:s.heap.get? S=some {cls:=.type "list",data:=.seq #[] c₀}) (hSI:S≠I) (hSl:S≠l)
  (hR:∀h' tk acc' c',(∀b o,b≠S->b≠I->s.heap.get? b=some o->h'.get? b=some o)->h'.get? S=some {cls:=.type "list",dict:=none,data:=.seq acc' c',slots:=#[]} ->
   ItemsOf (λi v=>items[items.size-1-i]?=some v) acc' items.size->R (.ok (.ret res)) {s with heap:=h',toks:=tk}):
  wpAny (model prog w) A.in1 (Builtin.List.listExtendWith (.ref S) (.ref I) res)
   (λfin s'=>match fin with|.done f=>R (.ok f) s'|.again c'=>c'.quiet=true/\codeAny (model prog w) A c' R s') (λe s'=>R (.error e) s') s:=by
 have hTy:s.TypeIs (.ref I) "list_reverseiterator":=hit.typeIs;have W:=(Walks.listRev (prog:=prog) (w:=w) (A:=A.in1) hh I l hne items).toS
 have hSf:S∉[I,l]:=λhm=>by
  rcases X7.mp hm with e|hm
  ·exact hSI e
  ·exact hSl (Wh.mp hm)
 unfold Builtin.List.listExtendWith;refine Xa (wpAny_typeOf hTy ?_)
 have h1:Builtin.List.listSameRef (.ref S) (.ref I)=false:=by simp[Builtin.List.listSameRef,hSI]
 have h2:(Value.type "list_reverseiterator"==Value.type "list")=false:=by decide
 have h3:(Value.type "list_reverseiterator"==Value.type "tuple")=false:=by decide
 simp only[h1,h2,h3,Bool.or_false,X9,Ww];refine Xa (wpAny_pyIter_revIter hit ?_);refine Xa (W8 ?_);unfold Builtin.List.listLengthHint;refine Xa (U9 hTy Qem ?_);show wpAny _ A.in1 (specialOf (Value.ref I) (Str.ofString "__length_hint__") >>= _) _ _ _;refine Xa (U9 hTy Qgt ?_);generalize hid:("list_reverseiterator.__length_hint__":String)=id0
 wp_delta
 rw[show splitId id0=some ("list_reverseiterator","__length_hint__")from by subst hid;decide +kernel]
 subst hid
 refine Xa (wpAny_isInstance (T:="list_reverseiterator") (b:=true) hTy (by rw[isSubtype_type];kernel_rfl) ?_)
 refine Ta (λhab=>absurd hab (by decide)) (λz=>?_)
 refine Ta (λz=>?_) (λhab=>absurd (by decide +kernel) hab)
 refine Ta (λhab=>absurd hab (by decide +kernel)) (λz=>?_)
 refine Xi ?_
 rw[if_neg (by decide)]
 refine Xi ⟨Tv F.plain_extend_loop _,codeAny_extend_loopS W hn S hSf res items.size 0 _ #[] c₀ rfl (W6 _) ⟨W6 _,by simpa using hit,hl⟩ hS (ItemsOf.nil _) λs' acc' c' hm hS' hacc=>?_⟩
 rw[Moved.eq_with hm];refine hR s'.heap s'.toks acc' c' (λb o hb hb2 e=>hm.heap b o (λhmem=>?_) e) hS' hacc
 rcases X7.mp hmem with e'|hmem
 ·exact hb e'
 ·exact hb2 (Wh.mp hmem)
def Qaf{Q:Value->Shared->Prop}{I l:Addr}{items:Array Value}(hh:A.handled=none)(hit:s.heap.IsRevIter I l ((items.size:Int) - 1))(hl:s.heap.IsList l items)(hne:l≠I)(hn:items.size<=sizeLine)
  (hQ:∀h' tk acc' c',(∀b o,b≠I->s.heap.get? b=some o->h'.get? b=some o) ->
   h'.get? s.heap.objs.size=some {cls:=.type "list",dict:=none,data:=.seq acc' c',slots:=#[]}->ItemsOf (λi v=>items[items.size-1-i]?=some v) acc' items.size->Q (.ref s.heap.objs.size) {s with heap:=h',toks:=tk}):
  wpAny (model prog w) A (call (.type "list") [.ref I]) Q E s:=by
 refine callType_codes (Q₁:=λobj s₁=>obj=.ref s.heap.objs.size/\s₁={s with heap:=s.heap.push {cls:=.type "list",data:=.seq #[]} }) F.called_list (F.typeCall_list_1 _) F.entry_list_init
  (code_list_new _ ⟨rfl,rfl⟩) λobj s₁ h₁=>?_
 obtain⟨rfl,rfl⟩:=h₁;have hS:(s.heap.push {cls:=.type "list",data:=.seq #[]}).get? s.heap.objs.size=some {cls:=.type "list",data:=.seq #[]}:=Xy _ rfl
 have hI:s.heap.objs.size≠I:=by
  obtain⟨o,e,_⟩:=hit;exact Wr (Xp (Xk e))
 have hL:s.heap.objs.size≠l:=by
  obtain⟨o,e,_⟩:=hl;exact Wr (Xp (Xk e))
 refine⟨⟨_,hS,rfl⟩,F.args_list_init_2 _ _,?_⟩
 show wpAny _ _ (do let old <-Builtin.List.listItems (.ref s.heap.objs.size);Builtin.List.listUpdate (.ref s.heap.objs.size) (λz=>#[]);letGo old.toList.reverse;Builtin.List.listExtendWith (.ref s.heap.objs.size) (.ref I) .none) _ _ _
 refine Xa ?_;unfold Builtin.List.listItems;refine Xa (wpAny_seqItems hS rfl (Xi ?_));show wpAny _ _ (updateSeq s.heap.objs.size (λz=>#[]) >>= λz=>letGo (#[]:Array Value).toList.reverse >>= λz=>Builtin.List.listExtendWith (.ref s.heap.objs.size) (.ref I) .none) _ _ _;refine Xa (T9 hS rfl ?_);have hS₂:=Vw (Obj.mapSeq (λz=>(#[]:Array Value))) hS rfl
 have oth:∀b o,s.heap.get? b=some o->((s.heap.push {cls:=.type "list",data:=.seq #[]}).update s.heap.objs.size (Obj.mapSeq (λz=>(#[]:Array Value)))).get? b=some o :=
  λb o e=>(Vg _ _ (Wr (Xp (Xk e)))).trans (Xf _ e)
 refine Xa (wpAny_letGo ?_);refine QcY (A:=A.in1) hh (l:=l) (items:=items) ?_ ?_ hne hn _ .none _ hS₂ hI hL λh' tk acc' c' hk hS' hacc=>?_
 ·exact hit.at λo e=>oth _ _ e
 ·exact hl.at λo e=>oth _ _ e
 ·exact⟨rfl,hQ h' tk acc' c' (λb o hb e=>hk b o (Xp (Xk e)) hb (oth b o e)) hS' hacc⟩
end
section
variable {X:Cx}
def Qf6{xs:List V}{its:List Value}{acc:Array Value}(r:Vals xs its)(h:ItemsOf (λi v=>its.toArray[its.toArray.size-1-i]?=some v) acc its.toArray.size):Vals xs.reverse acc.toList:=by
 have e:acc.toList=its.reverse:=by
  refine Uw λi=>?_;by_cases hi:i<its.length
  ·rw[List.getElem?_reverse hi]
   have hs:acc.size=its.length:=by simpa using h.1
   have hi':i<acc.size:=by omega
   have h1:=h.2 i acc[i] (by simp[hi'])
   simp only[List.getElem?_toArray,Xw]at h1;rw[h1];simp[hi']
  ·have hs:acc.size=its.length:=by simpa using h.1
   rw[Wx (by simp;omega),Wx (by simp;omega)]
 rw[e];exact r.reverse
def Qi6{e:Expr}{te:TE}{p q pos pos2:Pos}(hc:X.calm=true)(hg:Gl X "list")(hm:X.mg "list"=none)(hg2:Gl X "reversed")(hm2:X.mg "reversed"=none)(he:PE X e te)(hs:starEach [e] X.env=[(false,eval e X.env)]):
  PE X (.Call (.Name "list" p) [.Call (.Name "reversed" q) [e] [] pos2] [] pos) (QpH X.K te):=by
 intro pins s Y H Q I h;refine Vd (ZD I hg hm PyProof.Rows.boot_list ?_);refine Wv (e:=.Call (.Name "reversed" q) [e] [] pos2) (rest:=[]) ?_ rfl rfl;show wpAny _ _ (spliced ((false,eval (.Call (.Name "reversed" q) [e] [] pos2) X.env)::backTo pos (starEach [] X.env))) _ _ s;refine V7 ?_;refine Vd (ZD I hg2 hm2 boot_reversed ?_);refine Wv (e:=e) (rest:=[]) ?_ hs rfl;rw[hs];show wpAny _ _ (spliced ((false,eval e X.env)::backTo pos2 (starEach [] X.env))) _ _ s;refine V7 (thn (he pins s Y H _ I h) λu s1 z=>?_);obtain⟨x,H1,I1,rx,q1⟩:=z;refine Ub ?_;obtain⟨a,xs,ev,hq,q⟩:=q1;subst ev;cases rx;obtain⟨its,rv,pl,hz⟩:=I1.list hq;refine call_reversed_list pl.isList ?_;refine Ub ?_;have I2:Inv X pins Y H1 {s1 with heap:=s1.heap.push (revObj a ((its.toArray.size:Int) - 1))}:=I1.kept (t':=s1.toks) λb o e=>Xf _ e
 have st:(s1.heap.push (revObj a ((its.toArray.size:Int) - 1))).IsRevIter s1.heap.objs.size a ((its.toArray.size:Int) - 1):=⟨_,Xy _ rfl,rfl,by simp[revObj]⟩
 have hl:(s1.heap.push (revObj a ((its.toArray.size:Int) - 1))).IsList a its.toArray:=pl.isList.at λo e=>Xf _ e
 have hne:a≠s1.heap.objs.size:=by
  obtain⟨o,e,_⟩:=pl.isList;exact Xp (Xk e)
 refine Qaf (I2.ok.hd hc) st hl hne (by rw[Xw,<-rv.length];exact hz) λh' tk acc c' kp hS hacc=>?_
 have e1:(s1.heap.push (revObj a ((its.toArray.size:Int) - 1))).objs.size=s1.heap.objs.size+1:=by simp[Heap.push]
 have hS':=hS
 refine⟨.ref _,_,I1.laid (t':=tk) (o:=.lst xs.reverse) (a:=(s1.heap.push (revObj a ((its.toArray.size:Int) - 1))).objs.size) (λb o e=>kp b o (Xp (Xk e)) (Xf _ e)) (by rw[e1];exact Ut _) ?_,rfl,q _ (I1.hok.fresh (a:=(s1.heap.push (revObj a ((its.toArray.size:Int) - 1))).objs.size) (by rw[e1];exact Ut _))⟩
 exact⟨by rw[Sg];exact hz,acc.toList,c',Qf6 rv hacc,by simpa using hS⟩
noncomputable def Its(x:PySem.Str):It:=⟨λi z=>i<x.cps.size,λi H y H'=>H'=H/\∃c,x.cps[i]?=some c/\y=.str ⟨#[c]⟩,λi z=>x.cps.size<=i⟩
def QfQ{P:Program}{w:World}{K:W.Frag}{tg:Expr}(x:PySem.Str)(tk:Tok)(it:Addr)(n:String)(hn:n="str_ascii_iterator"\/n="str_iterator"): Turn P w K tg (Its x) [it] it (λi h=>h.IsStrIter it n x tk i) where
 mem:=by simp
 obj:=λi h st b hb=>by
  have e:b=it:=by simpa using hb
  subst e;obtain⟨o,e,c,d⟩:=st
  exact⟨o,e,λv z=>by rw[d]at z;cases z⟩
 keep:=λi h h' st k=>by
  obtain⟨o,e,r⟩:=st
  exact⟨o,k it (by simp) o e,r⟩
 item:=by
  intro X hP hw hK hc i pins s Y H E I hf st hg;subst hP hw hK
  obtain⟨f0,f1,f2,f3,f4,f5⟩:=hf it (by simp)
  have hg:i<x.cps.size:=hg;have hx:x.cps[i]?=some x.cps[i]:=Array.getElem?_eq_getElem hg
  have fin:∀h',h'.IsStrIter it n x tk (i+1)->Heap.SameBut it s.heap h'->∃u,some (Value.str ⟨#[x.cps[i]]⟩ s.toks)=some u /\
    wpAny (model X.prog X.w) X.A (letOwnedTupleGo tg (.ref it) u) (λt s2=>∃y H',Inv X pins Y H' s2/\RelV y u/\(Its x).yld i H y H'/\s2.heap.IsStrIter it n x tk (i+1)/\∀b∈[it],H' b=none) E {s with heap:=h',toks:=s.toks+1}:=by
   intro h' st' sb;have I1:Inv X pins Y H {s with heap:=h',toks:=s.toks+1}:=I.turned (t':=s.toks+1) (λb o hb e=>(sb.2 b hb).trans e) f0 f1 f3 f4 f5;obtain⟨o,e,c,d⟩:=id st'
   exact⟨_,rfl,QcV (s:={s with heap:=h',toks:=s.toks+1}) e c d (by rcases hn with rfl|rfl<;>decide) ⟨.str ⟨#[x.cps[i]]⟩,H,I1,⟨_,rfl⟩,⟨rfl,_,hx,rfl⟩,st',λb hb=>(hf b hb).1⟩⟩
  rcases hn with rfl|rfl
  ·exact wpAny_pyNext_ascii_item st hx fin
  ·exact wpAny_pyNext_wide_item st hx fin
 done:=by
  intro X hP hw hK hc i pins s Y H E I hf st hg;subst hP hw hK;have hg:x.cps.size<=i:=hg;have hx:x.cps[i]?=none:=Array.getElem?_eq_none hg
  obtain⟨f0,f1,f2,f3,f4,f5⟩:=hf it (by simp)
  rcases hn with rfl|rfl
  ·exact wpAny_pyNext_ascii_end (I.ok.hd hc) st hx λh' eb=>⟨rfl,I.turned (t':=s.toks) (λb o hb e=>eb b o hb e) f0 f1 f3 f4 f5⟩
  ·exact wpAny_pyNext_wide_end (I.ok.hd hc) st hx λh' eb=>⟨rfl,I.turned (t':=s.toks) (λb o hb e=>eb b o hb e) f0 f1 f3 f4 f5⟩
 self:=λt t t t t st h=>by
  rcases hn with rfl|rfl
  ·exact wpAny_pyIter_striter_ascii st h
  ·exact wpAny_pyIter_striter_wide st h
def Qq4(te:TE):TI:=λY H R=>te Y H λx H1=>∃t,x=.str t/\R (Its t) H1
def QlI{tg e:Expr}{te:TE}(he:PE X e te):PI X tg e (Qq4 te):=by
 intro pins s Y H R I h;refine thn (he pins s Y H _ I h) λu s1 z=>?_;obtain⟨x,H1,I1,rx,q1⟩:=z;obtain⟨t,rfl,q⟩:=q1;obtain⟨tk,rfl⟩:=rx
 have fin:∀(n:String) (o:Obj),n="str_ascii_iterator"\/n="str_iterator"->o={cls:=.type n,data:=.fields #[.str t tk,.int 0 0]}->PIE X pins Y tg R (.ref s1.heap.objs.size) {s1 with heap:=s1.heap.push o}:= by
  intro n o hn ho;subst ho;refine⟨s1.heap.objs.size,[s1.heap.objs.size],_,_,H1,rfl,I1.kept (t':=s1.toks) λb o e=>Xf _ e,QfQ t tk _ n hn,⟨_,Xy _ rfl,rfl,rfl⟩,λb hb=>?_,q⟩
  have e:b=s1.heap.objs.size:=by simpa using hb
  subst e;exact I1.fpOk (Xg _) (I1.hok.fresh (Xg _))
 cases ha:t.cps.all (· < 128)
 ·exact wpAny_pyIter_wide ha (fin _ _ (.inr rfl) rfl)
 ·exact wpAny_pyIter_ascii ha (fin _ _ (.inl rfl) rfl)
end
end
section
section
variable {X:Cx}{pins:List (Addr×Obj)}{Y:St}{H:Hp}{s:Shared}{d:Addr}
def Inv.freeze{kv:List (Key×V)}(I:Inv X pins Y H s)(h:H d=some (.dK kv)):∃o es ep,s.heap.get? d=some o/\o.data=.dict es ep/\Inv X pins Y (upd H d (.frz o (.dK kv))) s:=by
 obtain⟨hz,hm,vs,r,o,es,ep,e,c,dt,rr⟩:=QbH I.hok h;refine⟨o,es,ep,e,dt,?_⟩
 have:=I.write (x:=d) (e:=d) (o:=.frz o (.dK kv)) (h':=s.heap) (t':=s.toks) (by rw[h];trivial) (.inl rfl) (λb u z q=>q) ⟨o,e⟩ ⟨e,hz,hm,vs,r,o,es,ep,e,c,dt,rr⟩
 exact this
def Inv.thaw{o:Obj}{kv:List (Key×V)}(I:Inv X pins Y H s)(h:H d=some (.frz o (.dK kv)))(h0:∀o' u',X.H₀ d≠some (.frz o' u')):Inv X pins Y (upd H d (.dK kv)) s:=by
 have ne:∀{b:Addr},H b=none->b≠d:=λq z=>by rw[z,h]at q;cases q
 refine⟨I.ok,I.os,I.bare,⟨I.base.keep,I.base.slot,λb ob q n hx=>?_,I.base.there,λb xs q=>?_,λb ob u q=>?_,λb ps q=>?_⟩,I.loc,I.cell,?_,λx c e=>?_,λp hp=>?_,λb u q=>?_,I.len⟩
 ·have:=I.base.free b ob q n hx;rw[Qf (ne this)];exact this
 ·have:=I.base.tups b xs q
  rw[Qf (λz=>by rw[z,h]at this;cases this)]
  exact this
 ·have:=I.base.frzs b ob u q
  rw[Qf (λz=>by subst z;exact h0 _ _ q)]
  exact this
 ·obtain⟨more,e⟩:=I.base.tbls b ps q;refine⟨more,?_⟩
  rw[Qf (λz=>by rw[z,h]at e;cases e)]
  exact e
 ·rw[Qf (ne I.free)];exact I.free
 ·rw[Qf (ne (I.freeC x c e))];exact I.freeC x c e
 ·obtain⟨a1,a2,a3⟩:=I.pin p hp
  exact⟨a1,by rw[Qf (ne a2)];exact a2,a3⟩
 ·by_cases hb:b=d
  ·subst hb;rw[Qh]at q;cases q;obtain⟨_,ok⟩:=I.hok b _ h;exact ok
  ·rw[Qf hb]at q;refine(I.hok b u q).stay (λc v y r=>r) (λc r=>?_) λc xs r=>?_
   ·rw[Qf (λz=>by rw[z,h]at r;cases r)];exact r
   ·rw[Qf (λz=>by rw[z,h]at r;cases r)];exact r
end
noncomputable def Itk(a:Addr)(o:Obj)(kv:List (Key×V)):It :=
 ⟨λi H=>H a=some (.frz o (.dK kv))/\i<kv.length,λi H x H'=>H'=H/\∃p,kv[i]?=some p/\x=kV p.1,λi H=>H a=some (.frz o (.dK kv))/\kv.length<=i⟩
def Qjs{P:Program}{w:World}{k:Key}{u:Value}(h:(Ql P w).is k u=true):RelV (kV k) u:=by
 rcases Qx (show Qbx k u=true from h)with⟨i,t,rfl,rfl⟩|⟨x,t,rfl,rfl⟩
 ·exact⟨t,rfl⟩
 ·exact⟨t,rfl⟩
def Qmj{kv:List (Key×V)}{vs:List (Key×Value)}{i:Nat}{p:Key×V}{q:Key×Value}(h:KV kv vs)(h1:kv[i]?=some p)(h2:vs[i]?=some q):p.1=q.1:=by
 obtain⟨q',e,r⟩:=Jh h h1;rw[h2]at e;cases e;exact r.1
def Qdv{P:Program}{w:World}{K:W.Frag}{tg:Expr}(a it:Addr)(o:Obj)(kv:List (Key×V))(es:Array DictEntry)(ep:Nat)(hd:o.data=.dict es ep):
  Turn P w K tg (Itk a o kv) [it] it (λi h=>h.IsKeyIter it a i kv.length ep) where
 mem:=by simp
 obj:=λi h st b hb=>by
  have e:b=it:=by simpa using hb
  subst e;obtain⟨o,e,c,d⟩:=st
  exact⟨o,e,λv z=>by rw[d]at z;cases z⟩
 keep:=λi h h' st k=>by
  obtain⟨o,e,r⟩:=st
  exact⟨o,k it (by simp) o e,r⟩
 item:=by
  intro X hP hw hK hc i pins s Y H E I hf st hg;subst hP hw hK
  obtain⟨f0,f1,f2,f3,f4,f5⟩:=hf it (by simp)
  obtain⟨hg,hi⟩:=hg;obtain⟨eo,hz,hm,vs,rr,o',es',ep',e',c',dt',r'⟩:=I.hok a _ hg;rw[eo]at e';cases e';rw[hd]at dt';cases dt';have hl:=Wq rr
  have hi':i<vs.length:=by omega
  have D:s.heap.DictAt (Ql X.prog X.w) a vs ep:=⟨o,es,eo,c',hd,r'⟩;have st':=st;rw[hl]at st';refine wpAny_pyNext_dict_item st' D (k:=vs[i].1) (v:=vs[i].2) (Xe hi') λkey h' hk hit sb=>?_;have I1:Inv X pins Y H {s with heap:=h'}:=I.turned (t':=s.toks) (λb o hb e=>(sb.2 b hb).trans e) f0 f1 f3 f4 f5;obtain⟨oi,e,c,dd⟩:=id hit
  have ek:kv[i].1=vs[i].1:=by
   exact Qmj rr (Xe hi) (Xe hi')
  refine⟨key,rfl,QcV (s:={s with heap:=h'}) e c dd (by decide) ⟨kV kv[i].1,H,I1,by rw[ek];exact Qjs hk,⟨rfl,kv[i],Xe hi,rfl⟩,?_,λb hb=>(hf b hb).1⟩⟩
  rw[hl];exact hit
 done:=by
  intro X hP hw hK hc i pins s Y H E I hf st hg;subst hP hw hK
  obtain⟨f0,f1,f2,f3,f4,f5⟩:=hf it (by simp)
  obtain⟨hg,hi⟩:=hg;obtain⟨eo,hz,hm,vs,rr,o',es',ep',e',c',dt',r'⟩:=I.hok a _ hg;rw[eo]at e';cases e';rw[hd]at dt';cases dt';have hl:=Wq rr;have D:s.heap.DictAt (Ql X.prog X.w) a vs ep:=⟨o,es,eo,c',hd,r'⟩;have st':=st;rw[hl]at st'
  exact wpAny_pyNext_dict_end (I.ok.hd hc) st' D (Wx (by omega)) λh' eb=>⟨rfl,I.turned (t':=s.toks) (λb o hb e=>eb b o hb e) f0 f1 f3 f4 f5⟩
 self:=λy y y y y st h=>wpAny_pyIter_keyiter st h
section
variable {X:Cx}
def QoM(te:TE):TI:=λY H R=>te Y H λx H1=>∃a kv,x=.ref a/\H1 a=some (.dK kv)/\∀o,R (Itk a o kv) (upd H1 a (.frz o (.dK kv)))
def Qi3{tg e:Expr}{te:TE}(he:PE X e te):PI X tg e (QoM te):=by
 intro pins s Y H R I h;refine thn (he pins s Y H _ I h) λu s1 z=>?_;obtain⟨x,H1,I1,rx,q1⟩:=z;obtain⟨a,kv,rfl,hk,q⟩:=q1;cases rx;obtain⟨hz,hm,vs,r,dof⟩:=QbH I1.hok hk;obtain⟨o,es,ep,eo,hd,I2⟩:=I1.freeze hk;have hl:=Wq r;obtain⟨ep',D⟩:=dof.dictAt
 have ee:ep'=ep:=by
  obtain⟨o',es',e',c',dt',_⟩:=id D;rw[eo]at e';cases e';rw[hd]at dt';cases dt';rfl
 subst ee;refine wpAny_pyIter_dict hm D ?_
 refine⟨s1.heap.objs.size,[s1.heap.objs.size],_,Itk a o kv,_,rfl,I2.kept (t':=s1.toks) λb o e=>Xf _ e,Qdv a _ o kv es ep' hd,⟨_,Xy _ rfl,rfl,by rw[hl];rfl⟩,λb hb=>?_,q o⟩
 have e:b=s1.heap.objs.size:=by simpa using hb
 subst e;exact I2.fpOk (Xg _) (I2.hok.fresh (Xg _))
def QdC(d:Addr)(H:Hp)(P:Hp->Prop)(H':Hp):Prop:=∃o kv,H' d=some (.frz o (.dK kv))/\P (upd H' d (.dK kv))
def Qn7(ts:TS):TS:=λD Y H=>∃d kv,H d=some (.dK kv)/\ts ⟨λY'=>QdC d H (D.nx Y'),λv=>QdC d H (D.rt v),λY'=>QdC d H (D.bk Y'),λY'=>QdC d H (D.ct Y')⟩ Y H
def QdV{st:Stmt}{ts:TS}(h:PS X st ts):PS X st (Qn7 ts):=by
 intro pins s Y H D I q;obtain⟨d,kv,hk,q⟩:=q
 have h0:∀o' u',X.H₀ d≠some (.frz o' u'):=λo' u' z=>by
  have:=I.base.frzs d o' u' z;rw[hk]at this;cases this
 refine thn (h pins s Y H _ I q) λf s' hf=>?_
 cases f with
 |next=>obtain⟨Y',H',I',o,kv',e,p⟩:=hf;exact⟨Y',_,I'.thaw e h0,p⟩
 |brk=>obtain⟨Y',H',I',o,kv',e,p⟩:=hf;exact⟨Y',_,I'.thaw e h0,p⟩
 |cont=>obtain⟨Y',H',I',o,kv',e,p⟩:=hf;exact⟨Y',_,I'.thaw e h0,p⟩
 |ret u=>obtain⟨v,Y',H',I',rv,o,kv',e,p⟩:=hf;exact⟨v,Y',_,I'.thaw e h0,rv,p⟩
end
end
section
variable {d:Addr}{es:Array DictEntry}{ep:Nat}{od:Obj}
section
variable {prog:Program}{w:World}{A:Around}{E:Value->Shared->Prop}{s:Shared}
def Qgs{it:Addr}{i:Nat}{Q:Option Value->Shared->Prop}(hit:s.heap.IsKeyIter it d i es.size ep)(hod:s.heap.get? d=some od)(hdd:od.data=.dict es ep)(hlt:i<es.size)
  (hQ:∀h',h'.IsKeyIter it d (i+1) es.size ep->Heap.SameBut it s.heap h'->Q (some es[i].key) {s with heap:=h'}):wpAny (model prog w) A (pyNext (.ref it)) Q E s:=by
 obtain⟨o,ho,hc,hd⟩:=id hit;have ty:=hit.typeIs;have sl:=Ud
 have own:Builtin.Dict_items.ownsTuple "dict_keyiterator"=false:=by decide
 have nn:¬((Value.ref d==Value.none)=true):=X3;unfold pyNext;refine Xa (wpAny_attempt (Th (name:=Str.ofString "__next__") ty sl (U1 sl ty Te ?_ (Td _))));refine Xa (Xi (Xa (Xa ?_)))
 first
  |refine Xa (V1 ty (Xi ?_))
  |refine Xa (Uk ty (Xi ?_))
 refine Xa (wpAny_fieldsOf ho hd ?_);simp only[own,X9,Ww];show wpAny _ _ (if(Value.ref d==Value.none)=true then _ else _) _ _ s;rw[if_neg nn];refine Xa (Xi (Xa (Tp hod hdd ?_)))
 rw[if_neg (by simp)]
 refine Xa (Xi (Xa (wpAny_dictEpoch hod hdd ?_)))
 rw[if_neg (by simp)]
 refine Xi ?_
 have i0:¬((i:Int) < 0):=by omega
 simp only[i0,Ww,Tq,Array.getElem?_eq_getElem hlt];refine Xa ?_
 first
  |refine Xa (V1 ty (Xi ?_))
  |refine Xa (Uk ty (Xi ?_))
 refine Xa (wpAny_isOneOf_keyiter ty ?_);show wpAny _ _ (setField (.ref it) 1 (rawInt ((i:Int)+1)) >>= _) _ _ s
 refine Xa (wpAny_setField ho hd (by simp) ?_)
 have nx:(s.heap.update it (Obj.mapFields (·.setIfInBounds 1 (rawInt ((i:Int)+1))))).IsKeyIter it d (i+1) es.size ep:=by
  refine⟨_,Vw _ ho (Obj.isFreed_of_fields (Obj.data_mapFields hd _)),(Obj.cls_mapFields ..).trans hc,?_⟩;rw[Obj.data_mapFields hd];simp[rawInt]
 refine Xa (W8 (Xa ?_));refine wpAny_isOneOf_keyiter (s:={s with heap:=s.heap.update it (Obj.mapFields (·.setIfInBounds 1 (rawInt ((i:Int)+1))))}) nx.typeIs ?_;show wpAny _ _ (pure es[i].key) _ _ _;exact Xi (Xi ⟨_,rfl,Xi (hQ _ nx (Heap.SameBut.update ..))⟩)
def QjI{it:Addr}{i:Nat}{Q:Option Value->Shared->Prop}(hh:A.handled=none)(hit:s.heap.IsKeyIter it d i es.size ep)(hod:s.heap.get? d=some od)(hdd:od.data=.dict es ep)(hge:es.size<=i)
  (hQ:∀h',Heap.ExtBut it s.heap h'->Q none {s with heap:=h'}):wpAny (model prog w) A (pyNext (.ref it)) Q E s:=by
 obtain⟨o,ho,hc,hd⟩:=id hit;have ty:=hit.typeIs;have sl:=Ud
 have own:Builtin.Dict_items.ownsTuple "dict_keyiterator"=false:=by decide
 have nn:¬((Value.ref d==Value.none)=true):=X3;unfold pyNext;refine Xa (wpAny_attempt (Th (name:=Str.ofString "__next__") ty sl (U1 sl ty Te ?_ (Td _))));refine Xa (Xi (Xa (Xa ?_)))
 first
  |refine Xa (V1 ty (Xi ?_))
  |refine Xa (Uk ty (Xi ?_))
 refine Xa (wpAny_fieldsOf ho hd ?_);simp only[own,X9,Ww];show wpAny _ _ (if(Value.ref d==Value.none)=true then _ else _) _ _ s;rw[if_neg nn];refine Xa (Xi (Xa (Tp hod hdd ?_)))
 rw[if_neg (by simp)]
 refine Xa (Xi (Xa (wpAny_dictEpoch hod hdd ?_)))
 rw[if_neg (by simp)]
 refine Xi ?_
 have i0:¬((i:Int) < 0):=by omega
 simp only[i0,Ww,Tq,Array.getElem?_eq_none hge];refine Xa ?_
 first
  |refine Xa (V1 ty (Xi ?_))
  |refine Xa (Uk ty (Xi ?_))
 show wpAny _ _ (setField (.ref it) 0 .none >>= _) _ _ s
 refine Xa (wpAny_setField ho hd (by simp) ?_)
 show wpAny _ _ (newExc (.type "StopIteration") [] >>= _) _ _ _;refine Xa ?_;simp only[newExc,newTuple]
 refine Xa (Ux ?_ (by size_fits))
 refine Xa (m:=firstArgMember _ _) (Vz (a:=Value.none) (by first|rfl|(simp only[firstArgMember];rfl)) (Ux ?_ (by size_fits)))
 simp only[raiseNew];refine Xa (wpAny_handled ?_);rw[show A.in1.handled=none from hh];refine Xa (Xi (wpAny_throw ?_));refine Xa (wpAny_isInstance (T:="StopIteration") (b:=true) ⟨_,Xy _ rfl,rfl⟩ isSubtype_stop (Xi (hQ _ ?_)));exact((Heap.SameBut.update ..).extBut.push _).push _
def QgB{Q:Value->Shared->Prop}(hm:(d==sysModules)=false)(ho:s.heap.get? d=some od)(hc:od.ExactDict)(hdd:od.data=.dict es ep)
  (hQ:Q (.ref s.heap.objs.size) {s with heap:=s.heap.push {cls:=.type "dict_keyiterator",data:=.fields #[.ref d,.int 0 0,.int es.size 0,.int ep 0]} }):wpAny (model prog w) A (pyIter (.ref d)) Q E s:=by
 have hT:s.TypeIs (.ref d) "dict":=⟨od,ho,hc.1⟩;have sl:=PySem.F.slot_dict_iter;refine wpAny_pyIter_slot hT sl (U1 sl hT PySem.F.entry_dict_iter ?_ (PySem.F.args_dict_iter_1 _));unfold Builtin.«dict.__iter__» Builtin.Dict.dictSlotNone;refine Xa (Xa (wpAny_notOrdered_dict hT ?_));show wpAny _ _ (pure (Value.ref d)) _ _ s;refine Xi ?_;show wpAny _ _ (Builtin.Dict.showsAll d >>= _) _ _ s;unfold Builtin.Dict.showsAll
 rw[if_neg (by rw[hm];exact X3)]
 refine Xa (Xi (Xa (Tp ho hdd (Xa (wpAny_dictEpoch ho hdd ?_)))));have nxt:=Ud.lookup;refine Xa (Ux (Xi ⟨_,rfl,"dict_keyiterator",_,⟨_,Xy _ rfl,rfl⟩,nxt,?_⟩));simpa[rawInt]using hQ
end
end
section
section
variable {prog:Program}{w:World}{A:Around}{E:Value->Shared->Prop}{s:Shared}
def JO{d:Addr}(hd:(d==sysModules)=false):
  MeetsIn prog w (Builtin.«dict.__len__» ⟨[.ref d],[]⟩) (λz R s=>∃od es ep,s.heap.get? d=some od/\od.data=.dict es ep/\R (.ok (.ret (.int es.size s.toks))) {s with toks:=s.toks+1}):=
 .of_wp λA R s y=>by
  obtain⟨od,es,ep,ho,hdat,h⟩:=y
  show wpAny _ _ (dictSize d >>= _) _ _ s;unfold dictSize;refine Xa (Xa (Tp ho hdat (Xi ?_)));show wpAny _ _ (Builtin.Dict.pendingCount d >>= _) _ _ s;refine Xa (wpAny_pendingCount_other hd (wpAny_ret_mkInt ?_));rw[Nat.add_zero];exact h
def Qjp{d:Addr}{od:Obj}{es:Array DictEntry}{ep:Nat}{Q:Value->Shared->Prop}(hd:(d==sysModules)=false)(ho:s.heap.get? d=some od)(hc:od.ExactDict)(hdat:od.data=.dict es ep)(hfit:(es.size:Int) < 2 ^ 63)
  (h:Q (.int es.size (s.toks+1)) {s with toks:=s.toks+1+1}):wpAny (model prog w) A (call (.builtin "len") [.ref d]) Q E s:=by
 have hT:s.TypeIs (.ref d) "dict":=⟨od,ho,hc.1⟩;have sl:=PySem.F.slot_dict_len;refine Calls.call_function_entry kind_len plain_len entry_len (args_len1 _) ?_;unfold Builtin.«len»;refine Xa (m:=oneArg "len" _) (Xi (Xa (m:=callSpecial? (.ref d) (Str.ofString "__len__")) ?_));refine Th (name:=Str.ofString "__len__") hT sl (T6 sl hT PySem.F.entry_dict_len (PySem.F.args_dict_len_1 _) (JO hd) ⟨od,es,ep,ho,hdat,?_⟩);show wpAny _ _ _ _ _ {s with toks:=s.toks+1};refine Xa (W8 (Xi (Xa (wpAny_letGo ?_))));show wpAny _ _ (if((es.size:Nat):Int) < 0 then _ else _) _ _ _
 rw[if_neg (by omega)]
 show wpAny _ _ (if((es.size:Nat):Int)≥2 ^ 63 then _ else _) _ _ _
 rw[if_neg (by omega)]
 exact Xa (wpAny_mkInt (Xi ⟨_,rfl,h⟩))
end
def Qfl{X:Cx}: CallR X (.builtin "len") (λxs H Q=>∃a kvs,xs=[V.ref a]/\H a=some (.dT kvs)/\Q (.int kvs.length) H):= by
 intro pins s Y H xs us Q I r h;obtain⟨a,kvs,rfl,ha,q⟩:=h;obtain⟨u,rfl,ru⟩:=Ja r;cases ru;obtain⟨hz,hm,ys,rr,o,es,ep,e,c,dt,r',nd⟩:=(show ObjOk X.prog X.w H s.heap a (.dT kvs)from I.hok a _ ha)
 have ls:es.size=kvs.length:=by
  have:=congrArg List.length r';rw[X5,<-Wq rr]at this;simpa using this
 refine Qjp hm e c dt (by rw[ls];rw[Vy]at hz;omega) ⟨.int kvs.length,H,?_,⟨_,by rw[ls]⟩,q⟩
 exact I.tok _
end
section
variable {es:Array DictEntry}
section
variable {prog:Program}{w:World}{A:Around}{E:Value->Shared->Prop}{s:Shared}
def Qdn(hh:A.handled=none)(I d:Addr)(hne:d≠I)(od:Obj)(es:Array DictEntry)(ep:Nat)(hdd:od.data=.dict es ep):
  Walks prog w A I [I,d] [I] es.size (λi v=>∃e,es[i]?=some e/\v=e.key) (λi h=>h.IsKeyIter I d i es.size ep/\h.get? d=some od) where
 sub:=λb hb=>by simp at hb;simp[hb]
 frame:=λy y y st hk=>⟨st.1.at λo e=>hk I (by simp) o e,hk d (by simp) _ st.2⟩
 item:=λi s Q E hi st hQ=>by
  refine Qgs st.1 st.2 hdd hi λh' hit sb=>?_
  exact hQ _ h' s.toks ⟨es[i],by simp[hi],rfl⟩ ⟨hit,(sb.2 d hne).trans st.2⟩ λb o hb e=>(sb.2 b λz=>hb (by simp[z])).trans e
 done:=λs Q E st hQ=>QjI hh st.1 st.2 hdd (Xg _) λh' eb=>hQ h' s.toks λb o hb e=>eb b o (λz=>hb (by simp[z])) e
 self:=λy y y y st hQ=>wpAny_pyIter_keyiter st.1 hQ
def J0:typeLookup (.type "dict") "__len__"=pure (some (.builtin "dict.__len__")):=by rw[typeLookup_type,T1];kernel_rfl
def QcZ{R:Result->Shared->Prop}{d:Addr}{od:Obj}{ep:Nat}(hh:A.handled=none)(hm:(d==sysModules)=false)(ho:s.heap.get? d=some od)(hc:od.ExactDict)(hdd:od.data=.dict es ep)(hn:es.size<=sizeLine)(S:Addr)(res:Value)(c₀:Nat)
  (hS:s.heap.get? S=some {cls:=.type "list",data:=.seq #[] c₀}) (hSd:S≠d)
  (hR:∀h' tk acc' c',(∀b o,b≠S->s.heap.get? b=some o->h'.get? b=some o)->h'.get? S=some {cls:=.type "list",dict:=none,data:=.seq acc' c',slots:=#[]} ->
   ItemsOf (λi v=>∃e,es[i]?=some e/\v=e.key) acc' es.size->R (.ok (.ret res)) {s with heap:=h',toks:=tk}):
  wpAny (model prog w) A.in1 (Builtin.List.listExtendWith (.ref S) (.ref d) res)
   (λfin s'=>match fin with|.done f=>R (.ok f) s'|.again c'=>c'.quiet=true/\codeAny (model prog w) A c' R s') (λe s'=>R (.error e) s') s:=by
 have hTy:s.TypeIs (.ref d) "dict":=⟨od,ho,hc.1⟩;unfold Builtin.List.listExtendWith;refine Xa (wpAny_typeOf hTy ?_)
 have h1:Builtin.List.listSameRef (.ref S) (.ref d)=false:=by simp[Builtin.List.listSameRef,hSd]
 have h2:(Value.type "dict"==Value.type "list")=false:=by decide
 have h3:(Value.type "dict"==Value.type "tuple")=false:=by decide
 simp only[h1,h2,h3,Bool.or_false,X9,Ww];refine Xa (QgB hm ho hc hdd ?_);generalize hI:s.heap.objs.size=I;have ltS:=Xk hS;have ltd:=Xk ho
 have hSI:S≠I:=by rw[<-hI];exact Xp ltS
 have hne:d≠I:=by rw[<-hI];exact Xp ltd
 generalize hit0:({cls:=.type "dict_keyiterator",data:=.fields #[.ref d,.int 0 0,.int es.size 0,.int ep 0]}:Obj)=oI
 have hit:(s.heap.push oI).IsKeyIter I d 0 es.size ep:=by
  rw[<-hI,<-hit0];exact⟨_,Xy _ rfl,rfl,rfl⟩
 have kp:∀b o,s.heap.get? b=some o->(s.heap.push oI).get? b=some o:=λb o e=>Xf _ e;generalize s.heap.push oI=h2' at hit kp ⊢;have hTy2:Shared.TypeIs {s with heap:=h2'} (.ref d) "dict":=⟨od,kp _ _ ho,hc.1⟩;refine Xa (W8 ?_);unfold Builtin.List.listLengthHint;refine Xa (U9 hTy2 J0 ?_);generalize hid:("dict.__len__":String)=id0
 wp_delta
 rw[show splitId id0=some ("dict","__len__")from by subst hid;decide +kernel]
 subst hid
 refine Xa (wpAny_isInstance (T:="dict") (b:=true) hTy2 (by rw[isSubtype_type];kernel_rfl) ?_)
 refine Ta (λhab=>absurd hab (by decide)) (λz=>?_)
 refine Ta (λz=>?_) (λhab=>absurd (by decide +kernel) hab)
 refine Xa (wpAny_typeOf hTy2 ?_);refine Xi ?_
 rw[if_pos (by decide +kernel)]
 refine Xa (wpAny_rule ?_);have hS2:=kp _ _ hS;unfold Builtin.List.listTouch;refine Xa (Xa (T9 (a:=S) (f:=(·.push .none)) hS2 rfl ?_));have hS3:=Vw (Obj.mapSeq (·.push Value.none)) hS2 rfl;refine T9 (a:=S) (f:=(·.pop)) hS3 rfl ?_;have hS4:=Vw (Obj.mapSeq (·.pop)) hS3 rfl
 have oth:∀b o,b≠S->h2'.get? b=some o->((h2'.update S (Obj.mapSeq (·.push Value.none))).update S (Obj.mapSeq (·.pop))).get? b=some o :=
  λb o hb e=>(Vg _ _ (Wr hb)).trans ((Vg _ _ (Wr hb)).trans e)
 have W:=(Qdn (prog:=prog) (w:=w) (A:=A.in1) hh I d hne od es ep hdd).toS
 have hSf:S∉[I,d]:=λhm=>by
  rcases X7.mp hm with e|hm
  ·exact hSI e
  ·exact hSd (Wh.mp hm)
 refine Xi ⟨Tv F.plain_extend_loop _,codeAny_extend_loopS W hn S hSf res es.size 0 _ #[] _ rfl (W6 _) ⟨hit.at λo e=>oth _ _ (Wr hSI) e,oth _ _ (Wr hSd) (kp _ _ ho)⟩ hS4 (ItemsOf.nil _) λs' acc' c' hmv hS' hacc=>?_⟩;rw[Moved.eq_with hmv];refine hR s'.heap s'.toks acc' c' (λb o hb e=>hmv.heap b o (λhmem=>?_) (oth b o hb (kp b o e))) hS' hacc
 rcases X7.mp hmem with e'|hmem
 ·exact hb e'
 ·have:=Wh.mp hmem;exact Xp (Xk e) (this.trans hI.symm)
def Qae{Q:Value->Shared->Prop}{d:Addr}{od:Obj}{ep:Nat}(hh:A.handled=none)(hm:(d==sysModules)=false)(ho:s.heap.get? d=some od)(hc:od.ExactDict)(hdd:od.data=.dict es ep)(hn:es.size<=sizeLine)
  (hQ:∀h' tk acc' c',(∀b o,s.heap.get? b=some o->h'.get? b=some o) ->
   h'.get? s.heap.objs.size=some {cls:=.type "list",dict:=none,data:=.seq acc' c',slots:=#[]}->ItemsOf (λi v=>∃e,es[i]?=some e/\v=e.key) acc' es.size->Q (.ref s.heap.objs.size) {s with heap:=h',toks:=tk}):
  wpAny (model prog w) A (call (.type "list") [.ref d]) Q E s:=by
 refine callType_codes (Q₁:=λobj s₁=>obj=.ref s.heap.objs.size/\s₁={s with heap:=s.heap.push {cls:=.type "list",data:=.seq #[]} }) F.called_list (F.typeCall_list_1 _) F.entry_list_init
  (code_list_new _ ⟨rfl,rfl⟩) λobj s₁ h₁=>?_
 obtain⟨rfl,rfl⟩:=h₁;have hS:(s.heap.push {cls:=.type "list",data:=.seq #[]}).get? s.heap.objs.size=some {cls:=.type "list",data:=.seq #[]}:=Xy _ rfl;have hL:s.heap.objs.size≠d:=Wr (Xp (Xk ho));refine⟨⟨_,hS,rfl⟩,F.args_list_init_2 _ _,?_⟩
 show wpAny _ _ (do let old <-Builtin.List.listItems (.ref s.heap.objs.size);Builtin.List.listUpdate (.ref s.heap.objs.size) (λz=>#[]);letGo old.toList.reverse;Builtin.List.listExtendWith (.ref s.heap.objs.size) (.ref d) .none) _ _ _
 refine Xa ?_;unfold Builtin.List.listItems;refine Xa (wpAny_seqItems hS rfl (Xi ?_));show wpAny _ _ (updateSeq s.heap.objs.size (λz=>#[]) >>= λz=>letGo (#[]:Array Value).toList.reverse >>= λz=>Builtin.List.listExtendWith (.ref s.heap.objs.size) (.ref d) .none) _ _ _;refine Xa (T9 hS rfl ?_);have hS₂:=Vw (Obj.mapSeq (λz=>(#[]:Array Value))) hS rfl
 have oth:∀b o,s.heap.get? b=some o->((s.heap.push {cls:=.type "list",data:=.seq #[]}).update s.heap.objs.size (Obj.mapSeq (λz=>(#[]:Array Value)))).get? b=some o :=
  λb o e=>(Vg _ _ (Wr (Xp (Xk e)))).trans (Xf _ e)
 refine Xa (wpAny_letGo ?_);refine QcZ (A:=A.in1) hh hm (oth _ _ ho) hc hdd hn _ .none _ hS₂ hL λh' tk acc' c' hk hS' hacc=>?_;exact⟨rfl,hQ h' tk acc' c' (λb o e=>hk b o (Xp (Xk e)) (oth b o e)) hS' hacc⟩
end
theorem ZO:∀ys:List (List Key×Addr×Value),Vals ((ys.map (·.2.1)).map V.ref) (ys.map λy=>Value.ref y.2.1)
 |[]=>.nil
 |y::ys=>.cons rfl (ZO ys)
def Qpi{H:Hp}{kvs:List (List Key×V)}{ys:List (List Key×Addr×Value)}(h:Paired (λ(p:List Key×V) (q:List Key×Addr×Value)=>p.1=q.1/\H q.2.1=some (.tup (p.1.map kV))/\RelV p.2 q.2.2) kvs ys):Paired (λ(p:List Key×V) b=>H b=some (.tup (p.1.map kV))) kvs (ys.map (·.2.1)):=by
 induction h with
 |nil=>exact .nil
 |cons h _ ih=>exact .cons h.2.1 ih
def QcR{P:Program}{w:World}{ys:List (List Key×Addr×Value)}{acc:Array Value}(r:es.toList=ys.map (entryOfKey (tupleKind (Ql P w))))(h:ItemsOf (λi v=>∃e,es[i]?=some e/\v=e.key) acc es.size):acc.toList=ys.map λy=>Value.ref y.2.1:=by
 have ls:es.size=ys.length:=by
  have:=congrArg List.length r;simpa using this
 refine Uw λi=>?_;by_cases hi:i<ys.length
 ·have hs:acc.size=es.size:=h.1
  have hi':i<acc.size:=by omega
  obtain⟨e,he,ev⟩:=h.2 i acc[i] (by simp[hi'])
  have z:es.toList[i]?=(ys.map (entryOfKey (tupleKind (Ql P w))))[i]?:=by rw[r]
  rw[Wn,Xe hi,Array.getElem?_toList,he]at z;have ee:e=entryOfKey (tupleKind (Ql P w)) ys[i]:=X8 z;rw[Wn,Xe hi]
  have ea:acc.toList[i]?=some acc[i]:=by simp[hi']
  rw[ea,ev,ee];rfl
 ·have hs:acc.size=es.size:=h.1
  rw[Wx (by simp;omega),Wx (by simp;omega)]
def Qc7{X:Cx}(hc:X.calm=true): CallR X (.type "list") (λxs H Q=>∃a kvs,xs=[V.ref a]/\H a=some (.dT kvs)/\∀bs:List Addr,Paired (λ(p:List Key×V) b=>H b=some (.tup (p.1.map kV))) kvs bs->∀p,H p=none->Q (.ref p) (upd H p (.lst (bs.map V.ref)))):= by
 intro pins s Y H xs us Q I r h;obtain⟨a,kvs,rfl,ha,q⟩:=h;obtain⟨u,rfl,ru⟩:=Ja r;cases ru;obtain⟨hz,hm,ys,rr,o,es,ep,e,c,dt,r',nd⟩:=(show ObjOk X.prog X.w H s.heap a (.dT kvs)from I.hok a _ ha);have lk:=Wq rr
 have ls:es.size=kvs.length:=by
  have:=congrArg List.length r';rw[X5,<-lk]at this;simpa using this
 refine Qae (I.ok.hd hc) hm e c dt (by rw[ls];exact hz) λh' tk acc c' kp hS hacc=>?_
 refine⟨.ref s.heap.objs.size,_,I.laid (t':=tk) (o:=.lst ((ys.map (·.2.1)).map V.ref)) (a:=s.heap.objs.size) kp (Xg _) ?_,rfl,q _ (Qpi rr) _ (I.hok.fresh (Xg _))⟩;have v:=ZO ys;rw[<-QcR r' hacc]at v
 exact⟨by simp only[X5];rw[<-lk];exact hz,acc.toList,c',v,by simpa using hS⟩
end
end L2
namespace Iv
open PySem
section
inductive U where
 |non|bl (b:Bool)|int (i:Int) (m:Nat)|str (x:List Nat)|ref (n:Nat)|con (k:Nat)|scr
 deriving DecidableEq,Inhabited
inductive O where
 |lst (xs:List U)|tup (xs:List U)|ins (C:Nat) (fs:List (Nat×U))|dic (kvs:List (U×U))|dct (kvs:List (List U×U))|fzd (kvs:List (U×U))|fzt (kvs:List (List U×U))|err (c:Nat)
 deriving DecidableEq,Inhabited
abbrev Hs:=List O
abbrev Rho:=List (Option U)
inductive Bi where
 |len|int|str|tuple|list|sum|any|all|max|min|abs|sorted|dict|dictS
 deriving DecidableEq,Inhabited
inductive Bm where
 |append|pop|clear|reverse|extend|setdef|get|update|join|split|find|insert|index
 deriving DecidableEq,Inhabited
inductive Ty where
 |non|bool|int|str|list|tuple|dict|cls (c:Nat)|vale
 deriving DecidableEq,Inhabited
mutual
inductive E where
 |c (u:U)|var (i:Nat)|con (k:Nat)
 |op (o:Operator) (a b:E)|neg (a:E)|cmp (o:CmpOp) (a b:E)
 |and (a b:E)|or (a b:E)|not (a:E)|ife (t a b:E)
 |tup (es:List E)|lst (es:List E)|dis (kvs:List (U×U)) (b:E)
 |ix (a b:E)|tab (k:Nat) (b:E)|sl (a:E) (lo hi:Option E)|rev (a:E)|tupR (es:List E)
 |fld (a:E) (f:Nat)
 |call (f:Nat) (es:List E)|meth (m:Nat) (o:E) (es:List E)|make (k:Nat) (es:List E)
 |bi (b:Bi) (es:List E)|isi (a:E) (t:Ty)|bm (b:Bm) (o:E) (es:List E)
 |comp (s:Src) (b:Bool) (t:Option E) (el:E)|dnew|dnewT|zap (e:E)|isiT (i:Nat) (cs:List Nat)|dsp (ks:List U) (es:List E)|thw (i:Nat) (e:E)|chain (o o':CmpOp) (a b c:E)
inductive Src where
 |seq (e:E)|rng (a:E)|rng2 (a b:E)|rngA (es:List E)|zip (a b:E)|revd (e:E)|enm (e:E)|rngR (a:E)|key (e:E)
inductive Tg where
 |name (i:Nat)|pair (i j:Nat)
end
inductive S where
 |pass|expr (e:E)|set (i:Nat) (e:E)|fld (o:E) (f:Nat) (e:E)|ret (e:E)|retN
 |ite (t:E) (a b:List S)|loop (t:Tg) (s:Src) (body:List S)|loopC (i:Nat) (e:E) (body:List S)|loopK (i:Nat) (e:E) (body:List S)|loopD (i:Nat) (e:E) (body:List S)|while (t:E) (body:List S)
 |brk|cont
 |aug (i:Nat) (o:Operator) (e:E)|bad
 |put (o i e:E)|unp (i j:Nat) (e:E)|par (i j:Nat) (a b:E)|unpN (is:List Nat) (e:E)
 |rse (c:Nat) (es:List E)|tryS (j:Option Nat) (f:Nat) (es:List E) (c:Nat) (body:List S)|cal (n:S) (f:Nat) (es:List E)
inductive Fl where
 |next|brk|cont|ret (u:U)
structure Fn where
 name:Str
 qual:Str
 st:Stmt
 ps:List Str
 N:List Str
 np:Nat
 nN:Nat
 lc:Bool
 body:List S
structure Cl where
 name:Str
 init:Option Nat
 meths:List (Nat×Nat)
 subs:List Nat
inductive Co where
 |tup (xs:List U)|lst (xs:List U)|tab (kvs:List (U×U))
 deriving Inhabited
structure Df where
 ps:List Str
 np:Nat
 last:Str
 ds:List U
structure Tbl where
 fns:List Fn
 cls:List Cl
 cons:List Co
 fns':List Str
 mns:List Str
 scr:List U
 isi:List ((Ty×Ty)×Bool)
 dfl:List (Nat×Df)
 dts:List Str:=[]
 zps:List Str:=[]
 ld:Bool:=false
 ers:List Nat:=[]
 esb:List (Nat×Nat):=[]
 pss:List Nat:=[]
 efl:List (Nat×Nat):=[]
 dks:List Str:=[]
 xf:Nat->List U->Hs->Option (Nat×Hs):=λ_ _ _=>none
noncomputable def bd{α β:Type}(o:Option (α×Hs))(f:α->Hs->Option β):Option β:=match o with
 |none=>none
 |some (a,h)=>f a h
def Qe{α β:Type}{o:Option (α×Hs)}{f:α->Hs->Option β}{r:β}(h:bd o f=some r):∃a h',o=some (a,h')/\f a h'=some r:=by
 unfold bd at h
 cases o with
 |none=>cases h
 |some p=>exact⟨p.1,p.2,rfl,h⟩
noncomputable def gz:Nat->Nat->Nat
 |0,n=>n
 |m+1,n=>Nat.gcd (m+1) n
noncomputable def Qk(i:Int):Bool:=decide (-(2 ^ 64) < i)&&decide (i<2 ^ 64)
noncomputable def Qfx(i:Int):Bool:=decide (i.natAbs<2 ^ 4096)
noncomputable def QnS:U->U->Option U
 |.int i m,.int j n=>some (.int (i-j) (gz m n))
 |_,_=>none
noncomputable def Qme:U->U->Option U
 |.int i 0,.int j 0=>if Qk i||Qk j||(Qfx i&&Qfx j)then some (.int (i*j) 0)else none
 |.int i (m+1),.int j 0=>if Qk j then some (.int (i*j) ((m+1)*j.natAbs))else none
 |_,_=>none
noncomputable def QmD:U->U->Option U
 |.int i 0,.int j 0=>if 0<j&&decide (j<1606938044258990275541962092341162602522202993782792835301376)then some (.int (i / j) 0)else none
 |.int i (m+1),.int j 0=>if 0<j&&decide (j<1606938044258990275541962092341162602522202993782792835301376)&&decide ((m+1) % j.toNat=0)then some (.int (i / j) ((m+1) / j.toNat))else none
 |_,_=>none
noncomputable def Qmf:U->U->Option U
 |.int i 0,.int j 0=>if 0<j then some (.int (i % j) 0)else none
 |.int i (m+1),.int j 0=>if 0<j&&decide ((m+1) % j.toNat=0)then some (.int (i % j) 0)else none
 |_,_=>none
noncomputable def Qpf(a b:Nat)(x y:O)(hs:Hs):Option (U×Hs):=match x,y with
 |.lst xs,.lst ys=>if xs.length+ys.length<=1000000 then some (.ref hs.length,hs++[.lst (xs++ys)])else none
 |_,_=>none
noncomputable def Qkd(u w:U)(hs:Hs):Option (U×Hs):=match u,w with
 |.int i m,.int j n=>some (.int (i+j) (gz m n),hs)
 |.ref a,.ref b=>match hs[a]?,hs[b]? with
  |some x,some y=>Qpf a b x y hs
  |_,_=>none
 |_,_=>none
noncomputable def opU(o:Operator)(u w:U)(hs:Hs):Option (U×Hs):=match o with
 |.Add=>Qkd u w hs
 |.Sub=>(QnS u w).map λr=>(r,hs)
 |.Mult=>(Qme u w).map λr=>(r,hs)
 |.FloorDiv=>(QmD u w).map λr=>(r,hs)
 |.Mod=>(Qmf u w).map λr=>(r,hs)
 |_=>none
noncomputable def eqS:U->U->Option Bool
 |.int i 0,.int j 0=>some (decide (i=j))
 |.str x,.str y=>some (decide (x=y))
 |.bl a,.bl b=>some (decide (a=b))
 |.non,.non=>some true
 |.non,.int _ _=>some false|.int _ _,.non=>some false|.non,.bl _=>some false|.bl _,.non=>some false|.non,.str _=>some false|.str _,.non=>some false
 |.int _ _,.str _=>some false|.str _,.int _ _=>some false|.bl _,.str _=>some false|.str _,.bl _=>some false
 |_,_=>none
noncomputable def ZF(T:Tbl)(u:U)(hs:Hs):Option (List U):=match u with
 |.ref n=>match hs[n]? with
  |some (.lst xs)=>some xs
  |some (.tup xs)=>some xs
  |_=>none
 |.con k=>match T.cons[k]? with
  |some (.lst xs)=>some xs
  |some (.tup xs)=>some xs
  |_=>none
 |.scr=>some T.scr
 |_=>none
noncomputable def QB(T:Tbl)(u:U)(hs:Hs):Option (List U):=match u with
 |.ref n=>match hs[n]? with
  |some (.lst xs)=>some xs
  |_=>none
 |.con k=>match T.cons[k]? with
  |some (.lst xs)=>some xs
  |_=>none
 |.scr=>some T.scr
 |_=>none
noncomputable def YA(T:Tbl)(u:U)(hs:Hs):Option (List U):=match u with
 |.ref n=>match hs[n]? with
  |some (.tup xs)=>some xs
  |_=>none
 |.con k=>match T.cons[k]? with
  |some (.tup xs)=>some xs
  |_=>none
 |_=>none
noncomputable def okW(T:Tbl):Nat->U->Hs->Bool
 |0,_,_=>false
 |n+1,u,hs=>match QB T u hs with
  |some xs=>xs.all λx=>okW T n x hs
  |none=>match YA T u hs with
   |some xs=>xs.all λx=>okW T n x hs
   |none=>match u with
    |.non=>true
    |.bl _=>true
    |.int _ m=>m==0
    |.str x=>x.all λc=>decide (c<128)
    |_=>false
noncomputable def eqB:U->U->Bool
 |.non,.non=>true
 |.bl a,.bl b=>a==b
 |.bl a,.int j _=>(if a then 1 else 0)==j
 |.int i _,.bl b=>i==(if b then 1 else 0)
 |.int i _,.int j _=>i==j
 |.str x,.str y=>x==y
 |_,_=>false
noncomputable def eqW(T:Tbl):Nat->U->U->Hs->Bool
 |0,_,_,_=>false
 |n+1,u,w,hs=>match QB T u hs with
  |some xs=>(match QB T w hs with
   |some ys=>(xs.length==ys.length)&&(xs.zip ys).all λp=>eqW T n p.1 p.2 hs
   |none=>false)
  |none=>match YA T u hs with
   |some xs=>(match QB T w hs with
    |some _=>false
    |none=>match YA T w hs with
     |some ys=>(xs.length==ys.length)&&(xs.zip ys).all λp=>eqW T n p.1 p.2 hs
     |none=>false)
   |none=>(match QB T w hs with
    |some _=>false
    |none=>match YA T w hs with
     |some _=>false
     |none=>eqB u w)
noncomputable def Jc(T:Tbl)(u w:U)(hs:Hs):Bool:=match QB T u hs,QB T w hs with
 |some xs,some ys=>decide (xs.length≠ys.length)
 |_,_=>false
noncomputable def Qbe(T:Tbl)(u w:U)(hs:Hs):Bool:=match QB T u hs,QB T w hs with
 |some xs,some ys=>decide (xs=ys)&&xs.all λx=>match x with|.ref _=>true|_=>false
 |_,_=>false
noncomputable def eqA(T:Tbl)(u w:U)(hs:Hs):Option Bool:=match eqS u w with
 |some b=>some b
 |none=>if Jc T u w hs=true then some false else if Qbe T u w hs=true then some true else if okW T 20 u hs&&okW T 20 w hs then some (eqW T 20 u w hs)else none
noncomputable def QcP(kvs:List (U×U))(k:U):Option U:=match kvs with
 |[]=>none
 | (x,v)::r=>if x=k then some v else QcP r k
noncomputable def Qa6:U->Bool
 |.int _ 0=>true
 |.str _=>true
 |_=>false
noncomputable def Qz{κ:Type}[DecidableEq κ](kvs:List (κ×U))(k:κ):Option U:=(kvs.find? λp=>decide (p.1=k)).map (·.2)
noncomputable def ZA{κ:Type}[DecidableEq κ](kvs:List (κ×U))(k:κ)(v:U):List (κ×U):=if(kvs.any λp=>decide (p.1=k))=true then kvs.map (λp=>if p.1=k then(p.1,v)else p)else kvs++[(k,v)]
noncomputable def tkU(w:U)(hs:Hs):Option (List U):=match w with
 |.ref m=>(match hs[m]? with
  |some (.tup ks)=>if ks.all Qa6=true then some ks else none
  |_=>none)
 |_=>none
noncomputable def ZI(o:O)(w:U)(hs:Hs):Option (Option U):=match o with
 |.dic kvs=>if Qa6 w=true then some (Qz kvs w)else none
 |.fzd kvs=>if Qa6 w=true then some (Qz kvs w)else none
 |.dct kvs=>(tkU w hs).map λk=>Qz kvs k
 |.fzt kvs=>(tkU w hs).map λk=>Qz kvs k
 |_=>none
noncomputable def JZ(n:Nat)(o:O)(k u:U)(hs:Hs):Option Hs:=match o with
 |.dic kvs=>if Qa6 k=true/\kvs.length<1000000 then some (hs.set n (.dic (ZA kvs k u)))else none
 |.dct kvs=>if kvs.length<1000000 then(tkU k hs).map λt=>hs.set n (.dct (ZA kvs t u))else none
 |_=>none
noncomputable def Jk(kvs more:List (U×U)):List (U×U):=more.foldl (λacc p=>ZA acc p.1 p.2) kvs
noncomputable def JV:List U->Option (List Int)
 |[]=>some []
 |.int i 0::r=>(JV r).map (i::·)
 |_=>none
noncomputable def itU(hs:Hs)(u:U):Option (List Int):=match u with
 |.ref m=>(match hs[m]? with
  |some (.tup (k::ks))=>JV (k::ks)
  |_=>none)
 |_=>none
noncomputable def QhW(hs:Hs):List U->Option (List (List Int))
 |[]=>some []
 |u::us=>(itU hs u).bind λk=>(QhW hs us).map λks=>k::ks
noncomputable def inX(x:U)(ys:List U)(hs:Hs):Option Bool:=(itU hs x).bind λk=>(QhW hs ys).map λks=>ks.any λk'=>decide (k'=k)
noncomputable def inD(T:Tbl)(w u:U)(hs:Hs):Option Bool:=match w with
 |.ref n=>(match hs[n]? with
  |some o=>(ZI o u hs).map Option.isSome
  |none=>none)
 |_=>none
noncomputable def ZC(T:Tbl)(o:CmpOp)(u w:U)(hs:Hs):Option Bool:=match o with
 |.Eq=>eqA T u w hs
 |.NotEq=>(eqA T u w hs).map (!·)
 |.Lt=>match u,w with|.int i 0,.int j 0=>some (decide (i<j))|_,_=>none
 |.LtE=>match u,w with|.int i 0,.int j 0=>some (decide (i<=j))|_,_=>none
 |.Gt=>match u,w with|.int i 0,.int j 0=>some (decide (j<i))|_,_=>none
 |.GtE=>match u,w with|.int i 0,.int j 0=>some (decide (j<=i))|_,_=>none
 |.In=>match ZF T w hs with|some xs=>inX u xs hs|none=>inD T w u hs
 |.NotIn=>(inD T w u hs).map (!·)
 |.Is=>match w with|.non=>some (decide (u=.non))|_=>none
 |.IsNot=>match w with|.non=>some (!decide (u=.non))|_=>none
noncomputable def YB(T:Tbl)(u:U)(hs:Hs):Option Bool:=match u with
 |.non=>some false
 |.bl b=>some b
 |.int i 0=>some (decide (i≠0))
 |.str x=>if x.length<=1000000 then some (!x.isEmpty)else none
 |u=>(ZF T u hs).map λxs=>!xs.isEmpty
noncomputable def ixU(n:Nat)(i:Int):Option Nat:=if 0<=i then(if i<n then some i.toNat else none)else if -(n:Int)<=i then some (i+n).toNat else none
noncomputable def atU{α:Type}(xs:List α)(i:Int):Option α:=match ixU xs.length i with
 |some j=>xs[j]?
 |none=>none
noncomputable def QH(T:Tbl)(u w:U)(hs:Hs):Option U:=match u,w with
 |.str x,.int i 0=>if x.length<=1000000 then(atU x i).map λc=>.str [c]else none
 |.ref n,w=>match hs[n]?,w with
  |some (.lst xs),.int i 0=>atU xs i
  |some (.tup xs),.int i 0=>atU xs i
  |some o,w=>(ZI o w hs).bind id
  |none,_=>none
 |u,.int i 0=>match ZF T u hs with
  |some xs=>atU xs i
  |none=>none
 |_,_=>none
noncomputable def Qc2(n d:Nat):Option Int->Nat
 |none=>d
 |some v=>if v<0 then(v+(n:Int)).toNat else min v.toNat n
noncomputable def QZ{α:Type}(xs:List α)(lo hi:Option Int):List α:=(xs.drop (Qc2 xs.length 0 lo)).take (Qc2 xs.length xs.length hi-Qc2 xs.length 0 lo)
noncomputable def slU(T:Tbl)(u:U)(lo hi:Option Int)(hs:Hs):Option (U×Hs):=match u with
 |.scr=>some (.ref hs.length,hs++[.lst (QZ T.scr lo hi)])
 |.ref n=>match hs[n]? with
  |some (.lst xs)=>some (.ref hs.length,hs++[.lst (QZ xs lo hi)])
  |_=>none
 |_=>none
noncomputable def Qrg(n:Nat):List Nat:=(Nat.toDigits 10 n).map Char.toNat
noncomputable def Qrh(x:List Nat):Bool:=x.all (λc=>decide (48<=c)&&decide (c<=57))&&!x.isEmpty&&decide (x.length<=640)
noncomputable def Qo5(x:List Nat):Nat:=x.foldl (λacc c=>acc*10+(c-48)) 0
noncomputable def Y5:List U->Option (List Bool)
 |[]=>some []
 |.bl b::r=>(Y5 r).map (b::·)
 |_=>none
noncomputable def QfE:List Int->Int->Int
 |[],z=>z
 |a::r,z=>QfE r (if a>z then a else z)
noncomputable def Qox:List Int->Option Int
 |[]=>none
 |z::r=>some (QfE r z)
theorem Qel:∀(r:List Int) (z:Int),z<=QfE r z/\∀a∈r,a<=QfE r z
 |[],z=>⟨Int.le_refl _,λa h=>by cases h⟩
 |a::r,z=>by
  have ih:=Qel r (if a>z then a else z);unfold QfE;refine⟨?_,λb hb=>?_⟩
  ·have:=ih.1;split at this<;>rename_i c<;>simp only[c,Wm,Ww]<;>omega
  ·rcases X7.mp hb with rfl|hb
   ·have:=ih.1;split at this<;>rename_i c<;>simp only[c,Wm,Ww]<;>omega
   ·exact ih.2 b hb
theorem Qce:∀(r:List Int) (z:Int),QfE r z=z\/QfE r z∈r
 |[],z=>.inl rfl
 |a::r,z=>by
  have ih:=Qce r (if a>z then a else z);unfold QfE
  rcases ih with e|m
  ·rw[e];split
   ·exact .inr Xn
   ·exact .inl rfl
  ·exact .inr (Xl _ m)
def Qjn{ns:List Int}{m M:Int}(h:Qox ns=some m)(h1:M∈ns)(h2:∀a∈ns,a<=M):M=m:=by
 cases ns with
 |nil=>cases h
 |cons z r=>
  simp only[Qox,W7]at h;subst h;have g:=Qel r z
  have a:M<=QfE r z:=by
   rcases X7.mp h1 with rfl|hb
   ·exact g.1
   ·exact g.2 M hb
  have b:QfE r z<=M:=by
   rcases Qce r z with e|e
   ·rw[e];exact h2 z Xn
   ·exact h2 _ (Xl _ e)
  omega
noncomputable def QcJ(ks:List (List Int))(xs:List U):List U:=(L2.permK ks xs.length).map λi=>xs.getD i .non
noncomputable def QhD(hs:Hs):List U->Option (List (List U×U))
 |[]=>some []
 |u::r=>match u with
  |.ref p=>(match hs[p]? with
   |some (.tup [k,v])=>(tkU k hs).bind λt=>(QhD hs r).map λl=>(t,v)::l
   |_=>none)
  |_=>none
noncomputable def QbC(kvs:List (List U×U)):List (List U×U):=kvs.foldl (λacc p=>ZA acc p.1 p.2) []
noncomputable def QaE(u:U)(hs:Hs):Option (List U):=match u with
 |.ref p=>(match hs[p]? with
  |some (.lst xs)=>some xs
  |_=>none)
 |_=>none
noncomputable def biL(T:Tbl)(b:Bi)(us:List U)(hs:Hs):Option (U×Hs):=match b,us with
 |.all,[u]=>(QB T u hs).bind λxs=>(Y5 xs).map λbs=>(.bl (bs.all id),hs)
 |.max,[u]=>(QB T u hs).bind λxs=>(JV xs).bind λns=>(Qox ns).map λm=>(.int m 0,hs)
 |.max,[.int i 0,.int j 0]=>some (.int (if j>i then j else i) 0,hs)
 |.sorted,[u]=>(QB T u hs).bind λxs=>if xs.length<64 then(if xs.length<2 then some []else QhW hs xs).map λks=>(.ref hs.length,hs++[.lst (QcJ ks xs)])else none
 |.dict,[u]=>(QaE u hs).bind λxs=>(QhD hs xs).map λkvs=>(.ref hs.length,hs++[.dct (QbC kvs)])
 |_,_=>none
noncomputable def QjP(u:U)(hs:Hs):Option (List (List U×U)):=match u with
 |.ref p=>(match hs[p]? with
  |some (.dct kvs)=>some kvs
  |_=>none)
 |_=>none
noncomputable def Qav:Nat->Nat->List U
 |_,0=>[]
 |i,n+1=>.ref i::Qav (i+1) n
noncomputable def biU(T:Tbl)(b:Bi)(us:List U)(hs:Hs):Option (U×Hs):=match b,us with
 |.len,[.str x]=>if x.length<=1000000 then some (.int x.length 0,hs)else none
 |.len,[u]=>match ZF T u hs with
  |some xs=>some (.int xs.length 0,hs)
  |none=>(QjP u hs).map λkvs=>(.int kvs.length 0,hs)
 |.int,[.int i m]=>some (.int i m,hs)
 |.int,[.bl b]=>some (.int (if b then 1 else 0) 0,hs)
 |.int,[.str x]=>if Qrh x then some (.int (Qo5 x:Nat) 0,hs)else none
 |.str,[.int i 0]=>if 0<=i&&decide (i.natAbs.log2<1920)then some (.str (Qrg i.toNat),hs)else none
 |.tuple,[.ref n]=>match hs[n]? with
  |some (.lst xs)=>some (.ref hs.length,hs++[.tup xs])
  |some (.tup _)=>some (.ref n,hs)
  |_=>none
 |.list,[u]=>match ZF T u hs with
  |some xs=>some (.ref hs.length,hs++[.lst xs])
  |none=>(QjP u hs).map λkvs=>(.ref (hs++kvs.map λp=>O.tup p.1).length,(hs++kvs.map λp=>O.tup p.1)++[.lst (Qav hs.length kvs.length)])
 |.len,_=>none
 |.int,_=>none
 |.str,_=>none
 |.tuple,_=>none
 |.list,_=>none
 |b,us=>biL T b us hs
noncomputable def QaH(u:U)(hs:Hs):Option Ty:=match u with
 |.non=>some .non
 |.bl _=>some .bool
 |.int _ _=>some .int
 |.str _=>some .str
 |.ref n=>match hs[n]? with
  |some (.lst _)=>some .list
  |some (.tup _)=>some .tuple
  |some (.dic _)=>some .dict
  |some (.dct _)=>some .dict
  |some (.ins c _)=>some (.cls c)
  |some (.err c)=>some (.cls c)
  |_=>none
 |_=>none
noncomputable def QoF(k t:Ty):Option Bool:=match k,t with
 |.cls _,_=>none
 |_,.cls _=>none
 |.bool,.int=>some true
 |k,t=>some (decide (k=t))
noncomputable def QbA(T:Tbl)(t:Ty)(u:U)(hs:Hs):Option Bool:=match QaH u hs with
 |none=>none
 |some k=>match QoF k t with
  |some b=>some b
  |none=>T.isi.lookup (k,t)
noncomputable def Qnq(T:Tbl)(c:Nat):List Nat->Option Bool
 |[]=>some false
 |t::r=>match T.isi.lookup (.cls c,.cls t)with
  |some true=>some true
  |some false=>Qnq T c r
  |none=>none
noncomputable def QcS(T:Tbl)(u:Option (Option U))(cs:List Nat)(hs:Hs):Option Bool:=match u with
 |some (some (.ref n))=>(match hs[n]? with
  |some (.err c)=>Qnq T c cs
  |_=>none)
 |_=>none
noncomputable def bmL(b:Bm)(n:Nat)(xs:List U)(us:List U)(hs:Hs):Option (U×Hs):=match b,us with
 |.append,[u]=>if xs.length<1000000 then some (.non,hs.set n (.lst (xs++[u])))else none
 |.extend,[.ref m]=>(match hs[m]? with
  |some (.lst ys)=>if xs.length+ys.length<=1000000 then some (.non,hs.set n (.lst (xs++ys)))else none
  |_=>none)
 |_,_=>none
noncomputable def bmS(T:Tbl)(b:Bm)(x:List Nat)(us:List U)(hs:Hs):Option (U×Hs):=match b,us with
 |_,_=>none
noncomputable def bmD(b:Bm)(n:Nat)(kvs:List (U×U))(us:List U)(hs:Hs):Option (U×Hs):=match b with
 |.setdef=>(match us with
  |[k,v]=>if Qa6 k=true/\kvs.length<1000000 then(match QcP kvs k with
   |some x=>some (x,hs)
   |none=>some (v,hs.set n (.dic (kvs++[(k,v)]))))else none
  |_=>none)
 |.get=>(match us with
  |[k,v]=>if Qa6 k=true then some ((Qz kvs k).getD v,hs)else none
  |_=>none)
 |.update=>(match us with
  |[.ref m]=>(match hs[m]? with
   |some (.dic more)=>if n≠m/\kvs.length+more.length<=1000000 then some (.non,hs.set n (.dic (Jk kvs more)))else none
   |_=>none)
  |_=>none)
 |_=>none
noncomputable def bmU(T:Tbl)(b:Bm)(o:U)(us:List U)(hs:Hs):Option (U×Hs):=match o with
 |.ref n=>match hs[n]? with
  |some (.lst xs)=>bmL b n xs us hs
  |some (.dic kvs)=>bmD b n kvs us hs
  |_=>none
 |.str x=>bmS T b x us hs
 |_=>none
noncomputable def bL:Bm->Bool
 |.setdef=>false|.get=>false|.update=>false|.join=>false|.split=>false|.find=>false|.index=>false|_=>true
noncomputable def bS:Bm->Bool
 |.join=>true|.split=>true|.find=>true|.index=>true|_=>false
noncomputable def bD:Bm->Bool
 |.setdef=>true|.get=>true|.update=>true|_=>false
noncomputable def Qdf(b:Bm)(u:U)(hs:Hs):Bool:=match u with
 |.ref n=>match hs[n]? with
  |some (.lst _)=>bL b
  |some (.dic _)=>bD b
  |_=>false
 |.str _=>bS b
 |_=>false
inductive Wk where
 |seqL (u:U)|seqT (u:U)|rng (lo:Int) (n:Nat)|zipB (b c:Bool) (x y:U)|revL (u:U) (n:Nat)|rngC (lo c:Int) (n:Nat)|enmL (u:U)|strW (x:List Nat)|keyD (n:Nat)
inductive Im where
 |one (u:U)|two (u w:U)
noncomputable def two(xs ys:List U)(i:Nat):Option Im:=match xs[i]?,ys[i]? with
 |some x,some y=>some (.two x y)
 |_,_=>none
noncomputable def itm(T:Tbl)(k:Wk)(i:Nat)(hs:Hs):Option (Option Im):=match k with
 |.seqL u=>(QB T u hs).map λxs=>(xs[i]?).map .one
 |.seqT u=>(YA T u hs).map λxs=>(xs[i]?).map .one
 |.rng lo n=>some (if i<n then some (.one (.int (lo+i) 0))else none)
 |.zipB _ _ _ _=>none
 |.revL _ _=>none
 |.rngC lo c n=>some (if i<n then some (.one (.int (lo+i*c) 0))else none)
 |.enmL u=>(QB T u hs).map λxs=>(xs[i]?).map λx=>.two (.int i 0) x
 |.strW x=>some ((x[i]?).map λc=>.one (.str [c]))
 |.keyD _=>none
noncomputable def Qn8(a b c:Int):Nat:=if a<b then((b-a-1) / c+1).toNat else 0
noncomputable def Q2(T:Tbl)(k:Wk)(hs:Hs):Nat:=match k with
 |.seqL u=>((QB T u hs).getD []).length+1
 |.seqT u=>((YA T u hs).getD []).length+1
 |.rng _ n=>n+1
 |.zipB _ _ _ _=>0
 |.revL _ _=>0
 |.rngC _ _ n=>n+1
 |.enmL u=>((QB T u hs).getD []).length+1
 |.strW x=>x.length+1
 |.keyD _=>0
noncomputable def tgt(t:Tg)(x:Im)(Z:Rho)(hs:Hs):Option Rho:=match t,x with
 |.name i,.one u=>some (Z.set i (some u))
 |.pair i j,.two u w=>some ((Z.set i (some u)).set j (some w))
 |.pair i j,.one (.ref n)=>match hs[n]? with
  |some (.tup [u,w])=>some ((Z.set i (some u)).set j (some w))
  |_=>none
 |_,_=>none
abbrev Cf:=Nat->List U->Hs->Option (U×Hs)
abbrev Ev:=E->Rho->Hs->Option (U×Hs)
noncomputable def evs(f:Ev)(Z:Rho):List E->Hs->Option (List U×Hs)
 |[],hs=>some ([],hs)
 |e::es,hs=>bd (f e Z hs) λu h1=>bd (evs f Z es h1) λus h2=>some (u::us,h2)
noncomputable def evO(f:Ev)(Z:Rho):Option E->Hs->Option (Option Int×Hs)
 |none,hs=>some (none,hs)
 |some e,hs=>bd (f e Z hs) λu h1=>match u with|.int i 0=>some (some i,h1)|_=>none
noncomputable def wkS(T:Tbl)(u:U)(hs:Hs):Option Wk:=match QB T u hs with
 |some _=>some (.seqL u)
 |none=>match YA T u hs with
  |some _=>some (.seqT u)
  |none=>match u with
   |.str x=>some (.strW x)
   |_=>none
noncomputable def Qe3(u:U)(hs h1:Hs):Option (Nat×List (U×U)):=match u with
 |.ref n=>(match hs[n]? with
  |some (.dic _)=>(match h1[n]? with
   |some (.dic kvs)=>some (n,kvs)
   |_=>none)
  |_=>none)
 |_=>none
noncomputable def Za(T:Tbl)(f:Ev)(Z:Rho):Src->Hs->Option (Wk×Hs)
 |.seq e,hs=>bd (f e Z hs) λu h1=>(wkS T u h1).map λk=>(k,h1)
 |.rng a,hs=>bd (f a Z hs) λu h1=>match u with|.int i 0=>if Qk (i*4)then some (.rng 0 i.toNat,h1)else none|_=>none
 |.rng2 _ _,_=>none
 |.rngA es,hs=>bd (evs f Z es hs) λus h1=>match us with
  |[.int i 0,.int j 0,.int c 0]=>if Qk (i*16)&&Qk (j*16)&&decide (0<c)&&decide (c<1073741824)then some (.rngC i c (Qn8 i j c),h1)else if Qk (i*16)&&Qk (j*16)&&decide (c=-1)then some (.rngC i (-1) (i-j).toNat,h1)else none
  |_=>none
 |.zip _ _,_=>none
 |.revd _,_=>none
 |.enm e,hs=>bd (f e Z hs) λu h1=>match QB T u h1 with|some _=>some (.enmL u,h1)|none=>none
 |.rngR a,hs=>bd (f a Z hs) λu h1=>match u with|.int i 0=>if Qk (i*16)&&decide (0<=i)then some (.rngC (i-1) (-1) i.toNat,h1)else none|_=>none
 |.key _,_=>none
noncomputable def tgN(b:Bool)(n:Nat):Tg:=if b then .pair n (n+1)else .name n
noncomputable def Qdh(b:Bool):Rho:=if b then [none,none]else [none]
noncomputable def QS(T:Tbl)(f:Ev)(ft:Rho->Hs->Option (Bool×Hs))(w:Wk)(b:Bool)(el:E)(Z:Rho):Nat->Nat->List U->Hs->Option (List U×Hs)
 |0,_,_,_=>none
 |k+1,i,acc,hs=>match itm T w i hs with
  |none=>none
  |some none=>some (acc,hs)
  |some (some x)=>match tgt (tgN b Z.length) x (Z++Qdh b) hs with
   |none=>none
   |some ρ'=>if acc.length<1000000 then bd (ft ρ' hs) λc h1=>if c=true then bd (f el ρ' h1) λu h2=>QS T f ft w b el Z k (i+1) (acc++[u]) h2 else QS T f ft w b el Z k (i+1) acc h1 else none
noncomputable def Z4(ft:E->Rho->Hs->Option (Bool×Hs))(t:Option E)(Z:Rho)(hs:Hs):Option (Bool×Hs):=match t with
 |none=>some (true,hs)
 |some e=>ft e Z hs
noncomputable def Qk9:U->Bool
 |.ref _=>false
 |_=>true
mutual
noncomputable def ev(T:Tbl)(cf:Cf):Nat->Ev
 |0,_,_,_=>none
 |d+1,e,Z,hs=>match e with
  |.c u=>some (u,hs)
  |.con k=>some (.con k,hs)
  |.var i=>match Z[i]? with
   |some (some u)=>some (u,hs)
   |_=>none
  |.op o a b=>bd (ev T cf d a Z hs) λu h1=>bd (ev T cf d b Z h1) λw h2=>opU o u w h2
  |.neg a=>bd (ev T cf d a Z hs) λu h1=>match u with|.int i m=>some (.int (-i) m,h1)|_=>none
  |.cmp o a b=>bd (ev T cf d a Z hs) λu h1=>bd (ev T cf d b Z h1) λw h2=>(ZC T o u w h2).map λc=>(.bl c,h2)
  |.and a b=>bd (ev T cf d a Z hs) λu h1=>match u with|.bl true=>ev T cf d b Z h1|.bl false=>some (.bl false,h1)|_=>none
  |.or a b=>bd (ev T cf d a Z hs) λu h1=>match u with|.bl true=>some (.bl true,h1)|.bl false=>ev T cf d b Z h1|_=>none
  |.not a=>bd (ev T cf d a Z hs) λu h1=>(YB T u h1).map λc=>(.bl (!c),h1)
  |.ife _ _ _=>none
  |.tup es=>bd (evs (ev T cf d) Z es hs) λus h1=>some (.ref h1.length,h1++[.tup us])
  |.lst es=>bd (evs (ev T cf d) Z es hs) λus h1=>some (.ref h1.length,h1++[.lst us])
  |.dis _ _=>none
  |.ix a b=>bd (ev T cf d a Z hs) λu h1=>bd (ev T cf d b Z h1) λw h2=>(QH T u w h2).map λx=>(x,h2)
  |.tab _ _=>none
  |.sl a lo hi=>bd (ev T cf d a Z hs) λu h1=>bd (evO (ev T cf d) Z lo h1) λl h2=>bd (evO (ev T cf d) Z hi h2) λr h3=>slU T u l r h3
  |.rev a=>bd (ev T cf d a Z hs) λu h1=>match QB T u h1 with|some xs=>some (.ref h1.length,h1++[.lst xs.reverse])|none=>none
  |.tupR _=>none
  |.fld _ _=>none
  |.call f es=>bd (evs (ev T cf d) Z es hs) λus h1=>cf f us h1
  |.meth _ _ _=>none
  |.make _ _=>none
  |.bi b es=>bd (evs (ev T cf d) Z es hs) λus h1=>biU T b us h1
  |.isi a t=>bd (ev T cf d a Z hs) λu h1=>(QbA T t u h1).map λb=>(.bl b,h1)
  |.isiT i cs=>(QcS T Z[i]? cs hs).map λb=>(.bl b,hs)
  |.bm b o es=>bd (ev T cf d o Z hs) λu h1=>if Qdf b u h1=true then bd (evs (ev T cf d) Z es h1) λus h2=>bmU T b u us h2 else none
  |.comp s b t el=>bd (Za T (ev T cf d) Z s hs) λw h1=>bd (QS T (ev T cf d) (Z4 (evT T cf d) t) w b el Z (Q2 T w h1) 0 [] h1) λus h2=>some (.ref h2.length,h2++[.lst us])
  |.dnew=>some (.ref hs.length,hs++[.dic []])
  |.dnewT=>some (.ref hs.length,hs++[.dct []])
  |.zap _=>none
  |.thw _ _=>none
  |.dsp ks es=>bd (evs (ev T cf d) Z es (hs++[.dic []])) λus h1=>match h1[hs.length]? with
   |some (.dic [])=>some (.ref hs.length,h1.set hs.length (.dic (Jk [] (ks.zip us))))
   |_=>none
  |.chain _ _ _ _ _=>none
noncomputable def evT(T:Tbl)(cf:Cf):Nat->E->Rho->Hs->Option (Bool×Hs)
 |0,_,_,_=>none
 |d+1,e,Z,hs=>match e with
  |.not a=>bd (evT T cf d a Z hs) λc h1=>some (!c,h1)
  |.and a b=>bd (evT T cf d a Z hs) λc h1=>if c=true then evT T cf d b Z h1 else some (false,h1)
  |.or a b=>bd (evT T cf d a Z hs) λc h1=>if c=true then some (true,h1)else evT T cf d b Z h1
  |e=>bd (ev T cf d e Z hs) λu h1=>(YB T u h1).map λb=>(b,h1)
end
abbrev Ex:=Rho->Hs->Option (Fl×Rho×Hs)
noncomputable def ZN(T:Tbl)(w:Wk)(t:Tg)(body:Ex):Nat->Nat->Ex
 |0,_,_,_=>none
 |k+1,i,Z,hs=>match itm T w i hs with
  |none=>none
  |some none=>some (.next,Z,hs)
  |some (some x)=>match tgt t x Z hs with
   |none=>none
   |some ρ'=>match body ρ' hs with
    |some (.next,ρ2,h2)=>ZN T w t body k (i+1) ρ2 h2
    |some (.cont,ρ2,h2)=>ZN T w t body k (i+1) ρ2 h2
    |some (.brk,ρ2,h2)=>some (.next,ρ2,h2)
    |r=>r
noncomputable def QoR(n:Nat):Option U->Option U
 |some (.ref k)=>if k<n then some (.ref k)else none
 |o=>o
noncomputable def Qnj(n:Nat)(Z:Rho):Rho:=Z.map (QoR n)
noncomputable def QoS(hs:Hs)(i:Nat)(body:Ex):List U->Rho->Option (Fl×Rho)
 |[],Z=>some (.next,Z)
 |x::xs,Z=>match body (Z.set i (some x)) hs with
  |some (fl,ρ2,h2)=>if h2.take hs.length=hs then(match fl with
   |.next=>QoS hs i body xs (Qnj hs.length ρ2)
   |.cont=>QoS hs i body xs (Qnj hs.length ρ2)
   |.brk=>some (.next,Qnj hs.length ρ2)
   |.ret u=>if Qk9 u=true then some (.ret u,Qnj hs.length ρ2)else none)else none
  |none=>none
noncomputable def QeO(i:Nat)(body:Ex):List U->Ex
 |[],Z,hs=>some (.next,Z,hs)
 |k::ks,Z,hs=>match body (Z.set i (some k)) hs with
  |some (.next,ρ2,h2)=>QeO i body ks ρ2 h2
  |some (.cont,ρ2,h2)=>QeO i body ks ρ2 h2
  |some (.brk,ρ2,h2)=>some (.next,ρ2,h2)
  |r=>r
noncomputable def Qik(n:Nat)(r:Option (Fl×Rho×Hs)):Option (Fl×Rho×Hs):=match r with
 |some (fl,Z,hs)=>(match hs[n]? with
  |some (.fzd kvs)=>some (fl,Z,hs.set n (.dic kvs))
  |_=>none)
 |none=>none
noncomputable def Qdm(test:Rho->Hs->Option (Bool×Hs))(body:Ex):Nat->Ex
 |0,_,_=>none
 |k+1,Z,hs=>match test Z hs with
  |none=>none
  |some (false,h1)=>some (.next,Z,h1)
  |some (true,h1)=>match body Z h1 with
   |some (.next,ρ2,h2)=>Qdm test body k ρ2 h2
   |some (.cont,ρ2,h2)=>Qdm test body k ρ2 h2
   |some (.brk,ρ2,h2)=>some (.next,ρ2,h2)
   |r=>r
noncomputable def QrX(o:Operator)(u w:U):Option U:=match o with
 |.Add=>(match u,w with|.int i 0,.int j 0=>some (.int (i+j) 0)|_,_=>none)
 |.Sub=>(match u,w with|.int i 0,.int j 0=>some (.int (i-j) 0)|_,_=>none)
 |_=>none
noncomputable def JI(x k u:U)(hs:Hs):Option Hs:=match x with
 |.ref n=>(match hs[n]? with
  |some o=>JZ n o k u hs
  |none=>none)
 |_=>none
noncomputable def QnW(j:Option Nat)(u:U)(Z:Rho):Rho:=match j with
 |some j=>Z.set j (some u)
 |none=>Z
noncomputable def Qjz(j:Option Nat)(Z:Rho):Rho:=match j with
 |some j=>Z.set j none
 |none=>Z
noncomputable def QoV(j:Option Nat)(c:Nat)(hs:Hs):Hs:=match j with
 |some _=>hs++[.err c]
 |none=>hs
mutual
noncomputable def ex(T:Tbl)(cf:Cf):Nat->S->Ex
 |0,_,_,_=>none
 |d+1,s,Z,hs=>match s with
  |.pass=>some (.next,Z,hs)
  |.bad=>none
  |.aug _ _ _=>none
  |.brk=>some (.brk,Z,hs)
  |.cont=>some (.cont,Z,hs)
  |.expr e=>bd (ev T cf d e Z hs) λz h1=>some (.next,Z,h1)
  |.set i e=>bd (ev T cf d e Z hs) λu h1=>some (.next,Z.set i (some u),h1)
  |.fld _ _ _=>none
  |.ret e=>bd (ev T cf d e Z hs) λu h1=>some (.ret u,Z,h1)
  |.retN=>some (.ret .non,Z,hs)
  |.ite t a b=>match evT T cf d t Z hs with
   |some (true,h1)=>exs T cf d a Z h1
   |some (false,h1)=>exs T cf d b Z h1
   |none=>none
  |.loop t s body=>bd (Za T (ev T cf d) Z s hs) λw h1=>ZN T w t (exs T cf d body) (Q2 T w h1) 0 Z h1
  |.loopC _ _ _=>none
  |.loopD i e body=>bd (ev T cf d e Z hs) λu h1=>match u with
   |.ref n=>(match h1[n]? with
    |some (.lst xs)=>if n=hs.length/\h1.take hs.length=hs/\xs.all Qk9=true then(match QoS hs i (exs T cf d body) xs Z with
     |some (fl,ρ')=>some (fl,ρ',hs)
     |none=>none)else none
    |_=>none)
   |_=>none
  |.loopK i e body=>bd (ev T cf d e Z hs) λu h1=>match Qe3 u hs h1 with
   |some (n,kvs)=>Qik n (QeO i (exs T cf d body) (kvs.map (·.1)) Z (h1.set n (.fzd kvs)))
   |none=>none
  |.while t body=>Qdm (evT T cf d t) (exs T cf d body) 1000000 Z hs
  |.put o i e=>bd (ev T cf d e Z hs) λu h1=>bd (ev T cf d o Z h1) λx h2=>bd (ev T cf d i Z h2) λk h3=>(JI x k u h3).map λh4=>(.next,Z,h4)
  |.unp _ _ _=>none
  |.par _ _ _ _=>none
  |.unpN _ _=>none
  |.rse _ _=>none
  |.tryS j f es c body=>bd (evs (ev T cf d) Z es hs) λus h1=>match cf f us h1 with
   |some (_,h2)=>some (.next,Z,h2)
   |none=>match T.xf f us h1 with
    |some (c',h2)=>if T.ers.contains c'=true/\T.esb.contains (c',c)=true/\(match T.fns[f]? with|some F=>decide (us.length=F.np)|none=>false)=true then(match exs T cf d body (QnW j (.ref h2.length) Z) (QoV j c' h2)with
     |some (.next,ρ2,h3)=>some (.next,Qjz j ρ2,h3)
     |_=>none)else none
    |none=>none
  |.cal n _ _=>ex T cf d n Z hs
noncomputable def exs(T:Tbl)(cf:Cf):Nat->List S->Ex
 |0,_,_,_=>none
 |d+1,ss,Z,hs=>match ss with
  |[]=>some (.next,Z,hs)
  |s::r=>match ex T cf d s Z hs with
   |some (.next,ρ1,h1)=>exs T cf d r ρ1 h1
   |x=>x
end
noncomputable def dd:Nat:=100
noncomputable def fin:Option (Fl×Rho×Hs)->Option (U×Hs)
 |some (.ret u,_,h)=>some (u,h)
 |some (.next,_,h)=>some (.non,h)
 |_=>none
noncomputable def Qne(us:List U)(n:Nat):Rho:=us.map some++List.replicate (n-us.length) none
noncomputable def Qa(T:Tbl):Nat->Cf
 |0,_,_,_=>none
 |n+1,f,us,hs=>match T.fns[f]? with
  |none=>none
  |some F=>if us.length=F.np then fin (exs T (Qa T n) dd F.body (Qne us F.nN) hs)else none
noncomputable def QfG(T:Tbl)(w:Wk)(t:Tg)(body:Ex)(bx:Rho->Hs->Option (Nat×Hs)):Nat->Nat->Rho->Hs->Option (Nat×Hs)
 |0,_,_,_=>none
 |k+1,i,Z,hs=>match itm T w i hs with
  |none=>none
  |some none=>none
  |some (some x)=>match tgt t x Z hs with
   |none=>none
   |some ρ'=>match body ρ' hs with
    |some (.next,ρ2,h2)=>QfG T w t body bx k (i+1) ρ2 h2
    |some (.cont,ρ2,h2)=>QfG T w t body bx k (i+1) ρ2 h2
    |some _=>none
    |none=>bx ρ' hs
mutual
noncomputable def exX(T:Tbl)(cf:Cf):Nat->S->Rho->Hs->Option (Nat×Hs)
 |0,_,_,_=>none
 |d+1,s,Z,hs=>match s with
  |.rse c es=>bd (evs (ev T cf d) Z es hs) λz h1=>if T.ers.contains c=true/\es.length<=1000/\(es.isEmpty||!(T.efl.any λp=>p.1==c))=true then some (c,h1)else none
  |.ite t a b=>match evT T cf d t Z hs with
   |some (true,h1)=>exsX T cf d a Z h1
   |some (false,h1)=>exsX T cf d b Z h1
   |none=>none
  |.loop t s body=>bd (Za T (ev T cf d) Z s hs) λw h1=>QfG T w t (exs T cf d body) (exsX T cf d body) (Q2 T w h1) 0 Z h1
  |.cal _ f es=>bd (evs (ev T cf d) Z es hs) λus h1=>if(match T.fns[f]? with|some F=>decide (us.length=F.np)|none=>false)=true then T.xf f us h1 else none
  |_=>none
noncomputable def exsX(T:Tbl)(cf:Cf):Nat->List S->Rho->Hs->Option (Nat×Hs)
 |0,_,_,_=>none
 |d+1,ss,Z,hs=>match ss with
  |[]=>none
  |s::r=>match ex T cf d s Z hs with
   |some (.next,ρ1,h1)=>exsX T cf d r ρ1 h1
   |some _=>none
   |none=>exX T cf d s Z hs
end
noncomputable def Z8(T:Tbl):Nat->Nat->List U->Hs->Option (Nat×Hs)
 |0,_,_,_=>none
 |n+1,f,us,hs=>match T.fns[f]? with
  |none=>none
  |some F=>if us.length=F.np then exsX T (Qa T n) dd F.body (Qne us F.nN) hs else none
end
section
variable {m:Nat}
inductive G where
 |fn (i:Nat)|cls (i:Nat)|con (k:Nat)|txt (x:List Nat)
structure Ctx where
 T:Tbl
 N:List Str
 names:List (Str×NameKind)
 gl:List (Str×G)
 bl:List Str
 lc:Bool:=false
noncomputable def idx(x:Str):List Str->Option Nat
 |[]=>none
 |y::r=>if y=x then some 0 else(idx x r).map (· + 1)
noncomputable def QgC(C:Ctx)(x:Str):Bool:=match C.names.lookup x with
 |some .local=>true|some .cell=>true|some .free=>true|_=>false
noncomputable def QaL(C:Ctx)(x:Str):Bool:=match C.names.lookup x with
 |some .local=>true|some .cell=>true|_=>false
noncomputable def Zr(C:Ctx)(x:Str):Bool:=match C.names.lookup x with
 |some .globalImplicit=>true|_=>false
noncomputable def YT:Expr->Bool
 |.Call (.Name _ _) [] [] _=>false
 |_=>true
noncomputable def ZV:Expr->Bool
 |.Slice ..=>false
 |_=>true
noncomputable def QkU(C:Ctx)(x:Str):Option Ty:=match C.gl.lookup x with
 |some (.cls i)=>some (.cls i)
 |some _=>none
 |none=>if C.bl.contains x=false then none else if x="int" then some .int else if x="str" then some .str else if x="bool" then some .bool else if x="list" then some .list else if x="tuple" then some .tuple else if x="dict" then some .dict else if x="ValueError" then some .vale else none
noncomputable def QmP(b:Bool)(x:Str):Option Bi:=if x="sorted" then some .sorted else if x="dict" then(if b=true then none else some .dict)else none
noncomputable def Qnp(C:Ctx)(x:Str):Option Bi:=match C.gl.lookup x with
 |some _=>none
 |none=>if C.bl.contains x=false then none else if x="len" then some .len else if x="tuple" then some .tuple else if x="list" then some .list else if x="all" then some .all else if x="max" then some .max else QmP C.T.dts.isEmpty x
noncomputable def QmO(x:Str):Option Bm:=if x="get" then some .get else if x="update" then some .update else none
noncomputable def Qnn(x:Str):Option Bm:=if x="append" then some .append else if x="setdefault" then some .setdef else if x="extend" then some .extend else QmO x
noncomputable def QhH:E->Bool
 |.and _ _=>false
 |.or _ _=>false
 |.not _=>false
 |_=>true
noncomputable def okT:Expr->E->Bool
 |.BoolOp ..,_=>true
 |.UnaryOp .Not ..,_=>true
 |.Compare ..,_=>true
 |_,ir=>QhH ir
noncomputable def QdQ(C:Ctx)(f:Str)(args:List Expr):Option (List Expr):=none
noncomputable def JQ(C:Ctx)(f:Str)(args:List Expr):Option Expr:=if f="list" then(match args with
 |[.Call (.Name r _) [a] [] _]=>if r="reversed"&&Zr C r&&(C.gl.lookup r).isNone&&C.bl.contains r then some a else none
 |_=>none)else none
noncomputable def QiE(C:Ctx)(f:Str)(args:List Expr):Option Expr:=if f="reversed" then(match args with
 |[.Call (.Name r _) [a] [] _]=>if r="range"&&Zr C r&&(C.gl.lookup r).isNone&&C.bl.contains r then some a else none
 |_=>none)else none
noncomputable def Qfb:Expr->Option U
 |.Constant (.int i) _ _=>some (.int i 0)
 |.Constant (.str x) _ _=>some (.str x.cps.toList)
 |_=>none
noncomputable def QhQ{α β:Type}(f:α->Option β):List α->Option (List β)
 |[]=>some []
 |a::r=>(f a).bind λb=>(QhQ f r).bind λbs=>some (b::bs)
noncomputable def J1:List (Option Expr)->Option (List U)
 |[]=>some []
 |some k::ks=>(Qfb k).bind λk'=>(J1 ks).bind λr=>some (k'::r)
 |none::_=>none
noncomputable def Qo4:List (Option Expr)->List Expr->Option (List (U×U))
 |[],[]=>some []
 |some k::ks,v::vs=>(Qfb k).bind λk'=>(Qfb v).bind λv'=>(Qo4 ks vs).bind λr=>if r.any (λp=>decide (p.1=k'))then none else some ((k',v')::r)
 |_,_=>none
noncomputable def Ctx.inner(C:Ctx)(xs:List Str)(scope:Scope):Ctx:={C with N:=L2.hideN xs C.N++xs,names:=L2.relN C.names scope.names,lc:=false}
noncomputable def hdC(C:Ctx):Bool:=decide (C.bl.head?=some ("isinstance":Str))
noncomputable def Jx(C:Ctx)(xs:List Str)(scope:Scope):Bool:=(scope.kind==.function)&&xs.all (λx=>(scope.names.lookup x==some .local)&&(scope.names.lookup (L2.mang x)==none))&&decide (L2.hideN xs C.N++xs).Nodup&&scope.names.all (λy=>match y.2 with
  |.local=>(xs.contains y.1||decide (y.1=".0"))&&(scope.names.lookup y.1==some .local)
  |.free=>(C.names.lookup y.1==some .cell)||(C.names.lookup y.1==some .free)
  |.cell=>false
  |_=>true)&&!(C.N.contains ".0")
noncomputable def Qni:Src->Bool
 |.zip _ _=>true
 |.enm _=>true
 |_=>false
noncomputable def Qbs:Src->Tg->Bool
 |.zip _ _,.name _=>false
 |.enm _,.name _=>false
 |.revd _,.pair _ _=>false
 |_,_=>true
noncomputable def QnH:Expr->Option (Bool×List Str)
 |.Name x _=>some (false,[x])
 |.Tuple es _ _=>(match es with
  |[a,b]=>(match a,b with
   |.Name x _,.Name y _=>some (true,[x,y])
   |_,_=>none)
  |_=>none)
 |_=>none
noncomputable def Qqb:List Expr->Option (Option Expr)
 |[]=>some none
 |[t]=>some (some t)
 |_=>none
structure Gn where
 b:Bool
 xs:List Str
 iter:Expr
 tl:Option Expr
noncomputable def QgK:List Comprehension->Option Gn
 |[g]=>if g.is_async=0 then(QnH g.target).bind λt=>(Qqb g.ifs).map λtl=>⟨t.1,t.2,g.iter,tl⟩else none
 |_=>none
def Qnr(tg:Expr)(b:Bool)(xs:List Str):Prop:=(b=false/\∃x p,tg=.Name x p/\xs=[x])\/(b=true/\∃x p y q k pt,tg=.Tuple [.Name x p,.Name y q] k pt/\xs=[x,y])
def Qil{tg:Expr}{b:Bool}{xs:List Str}(h:QnH tg=some (b,xs)):Qnr tg b xs:=by
 unfold QnH at h;split at h
 ·cases h;exact .inl ⟨rfl,_,_,rfl,rfl⟩
 ·split at h
  ·split at h
   ·cases h;exact .inr ⟨rfl,_,_,_,_,_,_,rfl,rfl⟩
   ·cases h
  ·cases h
 ·cases h
def QcW{gens:List Comprehension}{g:Gn}(h:QgK gens=some g):∃tg,gens=[⟨tg,g.iter,g.tl.toList,0⟩]/\Qnr tg g.b g.xs:=by
 unfold QgK at h;split at h
 ·rename_i c;split at h
  ·rename_i e;simp only[Xb,Xd]at h;obtain⟨⟨b,xs⟩,h1,tl,h2,rfl⟩:=h;obtain⟨tg,iter,ifs,ia⟩:=c;simp only at e h1 h2;subst e;refine⟨tg,?_,Qil h1⟩
   have:ifs=tl.toList:=by
    unfold Qqb at h2;split at h2<;>cases h2<;>rfl
   rw[this]
  ·cases h
 ·cases h
inductive Sl where
 |cut (lo hi:Option Expr)|rev|bad
noncomputable def QoG:Expr->Bool
 |.UnaryOp .USub (.Constant (.int 1) _ _) _=>true
 |_=>false
noncomputable def Qhs:Expr->Option Sl
 |.Slice lo hi st _=>(match st with
  |none=>some (.cut lo hi)
  |some e=>if QoG e&&lo.isNone&&hi.isNone then some .rev else some .bad)
 |_=>none
inductive He where
 |tab (ks:List (Option Expr)) (vs:List Expr)|nm (x:Str)|any
noncomputable def QoP:Expr->He
 |.Name x _=>.nm x
 |_=>.any
noncomputable def Qk1(C:Ctx)(x:Str):Option Nat:=none
noncomputable def Qnf(C:Ctx)(i:Nat)(es:List E):Option E:=match C.T.dfl.lookup i with
 |none=>some (.call i es)
 |some _=>none
noncomputable def Qif:E->Option Nat
 |.var i=>some i
 |_=>none
noncomputable def Qpd(C:Ctx)(e:Expr):Option Nat:=match e with
 |.Name x _=>if Zr C x&&decide (x≠"__debug__")then(match C.gl.lookup x with|some (.cls c)=>some c|_=>none)else none
 |_=>none
noncomputable def Qc4(C:Ctx):List Expr->Option (List Nat)
 |[]=>some []
 |e::es=>(Qpd C e).bind λc=>(Qc4 C es).map λcs=>c::cs
mutual
noncomputable def Qg:Nat->Ctx->Expr->Option E
 |0,_,_=>none
 |m+1,C,e=>match e with
  |.Constant (.int i) _ _=>some (.c (.int i 0))
  |.Constant (.bool b) _ _=>some (.c (.bl b))
  |.Constant .none _ _=>some (.c .non)
  |.Constant (.str x) _ _=>some (.c (.str x.cps.toList))
  |.Name x _=>if x="__debug__"\/x="__classdict__" then none else if QgC C x then(idx x C.N).map .var else if Zr C x then(match C.gl.lookup x with|some (.con k)=> some (.con k)|some (.txt t)=> some (.c (.str t))|_=>none)else none
  |.BinOp a o b _=>(Qg m C a).bind λa'=>(Qg m C b).bind λb'=>some (.op o a' b')
  |.UnaryOp .USub a _=>(Qg m C a).bind λa'=>some (.neg a')
  |.UnaryOp .Not a _=>(compT m C a).bind λa'=>some (.not a')
  |.BoolOp .And (a::r) p=>compAnd m C a r p
  |.BoolOp .Or (a::r) p=>compOr m C a r p
  |.Compare a [o] [b] _=>(Qg m C a).bind λa'=>(Qg m C b).bind λb'=>some (.cmp o a' b')
  |.Tuple es _ _=>if es.length<=1000000 then(compA m C es).bind λes'=>some (.tup es')else none
  |.List es _=>if es.length<=1000000 then(compA m C es).bind λes'=>some (.lst es')else none
  |.Subscript a b _=>match Qhs b with
   |some (.cut lo hi)=>(Qg m C a).bind λa'=>(compO m C lo).bind λl=>(compO m C hi).bind λh=>some (.sl a' l h)
   |some .rev=>(Qg m C a).bind λa'=>some (.rev a')
   |some .bad=>none
   |none=>(Qg m C b).bind λb'=>match QoP a with
    |.tab ks vs=>if decide (ks.length<=15)&&!ks.isEmpty then(Qo4 ks vs).bind λkvs=>some (.dis kvs b')else none
    |.nm x=>(match Qk1 C x with|some k=>some (.tab k b')|none=>(Qg m C a).bind λa'=>some (.ix a' b'))
    |.any=>(Qg m C a).bind λa'=>some (.ix a' b')
  |.Call (.Name f _) args [] _=>if f="__debug__"\/f="__name__"\/Zr C f=false then none else match C.gl.lookup f with
   |some (.fn i)=>if hdC C=true then none else(compA m C args).bind λes=>Qnf C i es
   |some (.cls _)=>none
   |some (.con _)=>none
   |some (.txt _)=>none
   |none=>if C.bl.contains f=false then none else if f="isinstance" then(match args with
     |[a,.Name t _]=> if Zr C t/\t≠"__debug__"/\t≠"__name__" then(Qg m C a).bind λa'=>(QkU C t).bind λty=>some (.isi a' ty)else none
     |[a,.Tuple es _ _]=>(Qg m C a).bind λa'=>(Qif a').bind λi=>(Qc4 C es).bind λcs=>if cs.length<=9 then some (.isiT i cs)else none
     |_=>none)
    else if hdC C=true then none else match QdQ C f args with
     |some ra=>(compA m C ra).bind λes=>some (.tupR es)
     |none=>match JQ C f args with
      |some a=>(Qg m C a).bind λa'=>some (.rev a')
      |none=>(Qnp C f).bind λb=>(compA m C args).bind λes=>some (.bi b es)
  |.Call (.Attribute o x p) args [] q=>if YT o&&(p.endLine==q.line)&&decide (args.length<29)then match idx x C.T.mns with
   |some _=>none
   |none=>(Qnn x).bind λb=>(Qg m C o).bind λo'=>(compA m C args).bind λes=>some (.bm b o' es)else none
  |.ListComp elt gens scope _=>(match QgK gens with
   |some g=>if Jx C g.xs scope&&!hdC C then(compSrc m C g.iter).bind λsrc=>if Qbs src (tgN g.b 0)then(compTO m (C.inner g.xs scope) g.tl).bind λt=>(Qg m (C.inner g.xs scope) elt).bind λel=>some (.comp src g.b t el)else none else none
   |none=>none)
  |.Dict [] [] _=>some .dnew
  |.Dict ks vs _=>(J1 ks).bind λkk=>if kk.length=vs.length/\kk.length<=15/\kk≠[]then(QhQ (Qg m C) vs).bind λes=>some (.dsp kk es)else none
  |_=>none
noncomputable def compT:Nat->Ctx->Expr->Option E
 |0,_,_=>none
 |m+1,C,e=>match e with
  |.IfExp ..=>none
  |.NamedExpr ..=>none
  |e=>(Qg m C e).bind λir=>if okT e ir then some ir else none
noncomputable def compTO:Nat->Ctx->Option Expr->Option (Option E)
 |0,_,_=>none
 |m+1,C,none=>some none
 |m+1,C,some e=>(compT m C e).bind λe'=>some (some e')
noncomputable def compAnd:Nat->Ctx->Expr->List Expr->Pos->Option E
 |0,_,_,_,_=>none
 |m+1,C,a,r,p=>match r with
  |[]=>compT m C a
  |b::r=>(compT m C a).bind λa'=>(compAnd m C b r p).bind λb'=>some (.and a' b')
noncomputable def compOr:Nat->Ctx->Expr->List Expr->Pos->Option E
 |0,_,_,_,_=>none
 |m+1,C,a,r,p=>match r with
  |[]=>compT m C a
  |b::r=>(compT m C a).bind λa'=>(compOr m C b r p).bind λb'=>some (.or a' b')
noncomputable def compA:Nat->Ctx->List Expr->Option (List E)
 |0,_,_=>none
 |m+1,C,es=>match es with
  |[]=>some []
  |e::r=>(Qg m C e).bind λe'=>(compA m C r).bind λr'=>some (e'::r')
noncomputable def compO:Nat->Ctx->Option Expr->Option (Option E)
 |0,_,_=>none
 |m+1,C,none=>some none
 |m+1,C,some e=>(Qg m C e).bind λe'=>some (some e')
noncomputable def compSrc:Nat->Ctx->Expr->Option Src
 |0,_,_=>none
 |m+1,C,e=>match e with
  |.Call (.Name f p) args [] q=>if Zr C f then(match C.gl.lookup f with
   |some _=>(Qg m C (.Call (.Name f p) args [] q)).map .seq
   |none=>if C.bl.contains f=false then none else match QiE C f args with
    |some b=>(Qg m C b).map .rngR
    |none=>if f="range" then(match args with
     |[a]=>(Qg m C a).map .rng
     |[a,b,c]=>(compA m C [a,b,c]).map .rngA
     |_=>none)
    else if f="enumerate" then(match args with
     |[a]=>(Qg m C a).map .enm
     |_=>none)
    else(Qg m C (.Call (.Name f p) args [] q)).map .seq)else none
  |e=>(Qg m C e).map .seq
end
def cE4{C:Ctx}{x w1}: Qg (m+1) C (.Name x w1)= (if x="__debug__"\/x="__classdict__" then none else if QgC C x then(idx x C.N).map .var else if Zr C x then(match C.gl.lookup x with|some (.con k)=> some (.con k)|some (.txt t)=> some (.c (.str t))|_=>none)else none):= rfl
def cE5{C:Ctx}{a o b w1}:Qg (m+1) C (.BinOp a o b w1)=((Qg m C a).bind λa'=>(Qg m C b).bind λb'=>some (.op o a' b')):=rfl
def cE6{C:Ctx}{a w1}:Qg (m+1) C (.UnaryOp .USub a w1)=((Qg m C a).bind λa'=>some (.neg a')):=rfl
def cE7{C:Ctx}{a w1}:Qg (m+1) C (.UnaryOp .Not a w1)=((compT m C a).bind λa'=>some (.not a')):=rfl
def QrQ{C:Ctx}{a o b w1}:Qg (m+1) C (.Compare a [o] [b] w1)=((Qg m C a).bind λa'=>(Qg m C b).bind λb'=>some (.cmp o a' b')):=rfl
def QrP{C:Ctx}{es w1 w2}:Qg (m+1) C (.Tuple es w1 w2)=(if es.length<=1000000 then(compA m C es).bind λes'=>some (.tup es')else none):=rfl
def QrO{C:Ctx}{es w1}:Qg (m+1) C (.List es w1)=(if es.length<=1000000 then(compA m C es).bind λes'=>some (.lst es')else none):=rfl
def QrN{C:Ctx}{a b w1}:Qg (m+1) C (.Subscript a b w1)=(match Qhs b with
   |some (.cut lo hi)=>(Qg m C a).bind λa'=>(compO m C lo).bind λl=>(compO m C hi).bind λh=>some (.sl a' l h)
   |some .rev=>(Qg m C a).bind λa'=>some (.rev a')
   |some .bad=>none
   |none=>(Qg m C b).bind λb'=>match QoP a with
    |.tab ks vs=>if decide (ks.length<=15)&&!ks.isEmpty then(Qo4 ks vs).bind λkvs=>some (.dis kvs b')else none
    |.nm x=>(match Qk1 C x with|some k=>some (.tab k b')|none=>(Qg m C a).bind λa'=>some (.ix a' b'))
    |.any=>(Qg m C a).bind λa'=>some (.ix a' b')):=rfl
def QrM{C:Ctx}{f w1 args w2}: Qg (m+1) C (.Call (.Name f w1) args [] w2)= (if f="__debug__"\/f="__name__"\/Zr C f=false then none else match C.gl.lookup f with
   |some (.fn i)=>if hdC C=true then none else(compA m C args).bind λes=>Qnf C i es
   |some (.cls _)=>none
   |some (.con _)=>none
   |some (.txt _)=>none
   |none=>if C.bl.contains f=false then none else if f="isinstance" then(match args with
     |[a,.Name t _]=> if Zr C t/\t≠"__debug__"/\t≠"__name__" then(Qg m C a).bind λa'=>(QkU C t).bind λty=>some (.isi a' ty)else none
     |[a,.Tuple es _ _]=>(Qg m C a).bind λa'=>(Qif a').bind λi=>(Qc4 C es).bind λcs=>if cs.length<=9 then some (.isiT i cs)else none
     |_=>none)
    else if hdC C=true then none else match QdQ C f args with
     |some ra=>(compA m C ra).bind λes=>some (.tupR es)
     |none=>match JQ C f args with
      |some a=>(Qg m C a).bind λa'=>some (.rev a')
      |none=>(Qnp C f).bind λb=>(compA m C args).bind λes=>some (.bi b es)):=rfl
def QrL{C:Ctx}{o x p args q}:Qg (m+1) C (.Call (.Attribute o x p) args [] q)=(if YT o&&(p.endLine==q.line)&&decide (args.length<29)then match idx x C.T.mns with
   |some _=>none
   |none=>(Qnn x).bind λb=>(Qg m C o).bind λo'=>(compA m C args).bind λes=>some (.bm b o' es)else none):=rfl
def Qql{C:Ctx}{elt gens scope w1}:Qg (m+1) C (.ListComp elt gens scope w1)=((match QgK gens with
   |some g=>if Jx C g.xs scope&&!hdC C then(compSrc m C g.iter).bind λsrc=>if Qbs src (tgN g.b 0)then(compTO m (C.inner g.xs scope) g.tl).bind λt=>(Qg m (C.inner g.xs scope) elt).bind λel=>some (.comp src g.b t el)else none else none
   |none=>none)):=rfl
def QrK{C:Ctx}{w1}:Qg (m+1) C (.Dict [] [] w1)=(some .dnew):=rfl
def QrJ{C:Ctx}{k0 ks vs w1}:Qg (m+1) C (.Dict (k0::ks) vs w1)=((J1 (k0::ks)).bind λkk=>if kk.length=vs.length/\kk.length<=15/\kk≠[]then(QhQ (Qg m C) vs).bind λes=>some (.dsp kk es)else none):=rfl
noncomputable def Yt(C:Ctx):Expr->Option Tg
 |.Name x _=>if QaL C x then(idx x C.N).map .name else none
 |.Tuple [.Name x _,.Name y _] _ _=>if QaL C x&&QaL C y&&decide (x≠y)then(idx x C.N).bind λi=>(idx y C.N).map λj=>.pair i j else none
 |_=>none
noncomputable def QoU:Expr->Option Bool
 |.Constant c _ _=>(match c with|.str _=>some true|_=>none)
 |.ListComp ..=>some false
 |_=>none
inductive As where
 |nm (x:Str)|at (o:Expr) (f:Str)|sub (o i:Expr)|two (x:Str) (p:Pos) (y:Str) (q:Pos)|many (es:List Expr)
noncomputable def Qij:Expr->Expr->Option As
 |.Name x p,.Name y q=>some (.two x p y q)
 |_,_=>none
noncomputable def as1:Expr->Option As
 |.Name x _=>some (.nm x)
 |.Attribute o f _=>some (.at o f)
 |.Subscript o i _=>some (.sub o i)
 |.Tuple es _ _=>(match es with|[a,b]=>Qij a b|[a,b,c]=>some (.many [a,b,c])|[a,b,c,d]=>some (.many [a,b,c,d])|_=>none)
 |_=>none
noncomputable def Qkb:List Expr->Option As
 |[t]=>as1 t
 |_=>none
noncomputable def Qrk(C:Ctx)(it:Expr):Bool:=match it with
 |.Name y _=>C.T.dks.contains y
 |_=>false
noncomputable def Qp9(C:Ctx)(tg it:Expr)(t:Tg):Option Nat:=match tg with
 |.Name x _=>(match t with|.name i=>if C.T.dts.contains x||Qrk C it then some i else none|_=>none)
 |_=>none
noncomputable def Jr(C:Ctx)(x:Str):Bool:=match C.names.lookup x with
 |some .local=>true|_=>false
noncomputable def QeE:Expr->Bool
 |.Dict [] [] _=>true
 |_=>false
noncomputable def Qf5(C:Ctx)(e f:Option Expr):Option (Nat×List Expr):=match e,f with
 |some (.Call (.Name x _) args [] _),none=>if Zr C x&&decide (x≠"__debug__")then(match C.gl.lookup x with
  |some (.cls c)=>if C.T.ers.contains c then some (c,args)else none
  |_=>none)else none
 |_,_=>none
structure Tr where
 j:Option Nat
 f:Nat
 args:List Expr
 c:Nat
 body:List Stmt
noncomputable def QfU(C:Ctx)(n:Option Str):Option (Option Nat):=match n with
 |none=>some none
 |some n=>if Jr C n&&decide (n≠"__debug__")then(idx n C.N).map some else none
noncomputable def QfW(C:Ctx)(x:Str):Option Nat:=if Zr C x&&decide (x≠"__debug__")then(match C.gl.lookup x with|some (.cls c)=>some c|_=>none)else none
noncomputable def Qdy(C:Ctx)(x:Str):Option Nat:=if Zr C x&&decide (x≠"__debug__")then(match C.gl.lookup x with|some (.fn i)=>some i|_=>none)else none
noncomputable def QfS(C:Ctx)(b:List Stmt)(hs:List ExceptHandler)(o fn:List Stmt):Option Tr:=match b,hs,o,fn with
 |[.Expr (.Call (.Name f _) (a::args) [] _) _],[.ExceptHandler (some (.Name x _)) n (b0::body) _],[],[]=>
   (QfU C n).bind λj=>(QfW C x).bind λc=>(Qdy C f).bind λk=>some ⟨j,k,a::args,c,b0::body⟩
 |_,_,_,_=>none
noncomputable def hdX(C:Ctx):Ctx:={C with bl:=("isinstance":Str)::C.bl.filter λx=>decide (x="ValueError")}
noncomputable def Qka(C:Ctx):Stmt->Option (Nat×Expr)
 |.Assign ts e _=>(match Qkb ts with
  |some (.nm y)=>if Jr C y then(idx y C.N).map λi=>(i,e)else none
  |_=>none)
 |_=>none
noncomputable def Qfi(m:Nat)(C:Ctx):List Stmt->Option (List S)
 |[]=>some []
 |s::r=>(Qka C s).bind λp=>(Qg m (hdX C) p.2).bind λe'=>(Qfi m C r).bind λr'=>some (.set p.1 e'::r')
noncomputable def QgZ(C:Ctx)(f:Str)(as:List Expr):Option (Nat×List Expr):=(Qdy C f).bind λk=>if C.T.pss.contains k then some (k,as)else none
noncomputable def QrI(C:Ctx)(f:Str)(as:List Expr)(ks:List Keyword):Option (Nat×List Expr):=match as with
 |[]=>none
 |a::r=>(match ks with|[]=>QgZ C f (a::r)|_::_=>none)
noncomputable def QrG(C:Ctx)(g:Expr)(as:List Expr)(ks:List Keyword):Option (Nat×List Expr):=match g with
 |.Name f _=>QrI C f as ks
 |_=>none
noncomputable def Qg0(C:Ctx)(e:Expr):Option (Nat×List Expr):=match e with
 |.Call g as ks _=>QrG C g as ks
 |_=>none
noncomputable def Qpg(C:Ctx)(ts:List Expr)(e:Expr):Option (Nat×List Expr):=match Qkb ts with
 |some (.nm x)=>if QaL C x&&(idx x C.N).isSome then Qg0 C e else none
 |_=>none
noncomputable def QrH(C:Ctx)(g:Expr)(as:List Expr)(ks:List Keyword):Option (Nat×List Expr):=match g with
 |.Name x _=>if x="list"&&Zr C x&&(C.gl.lookup x).isNone&&C.bl.contains x then(match as with
  |[e]=>(match ks with|[]=>Qg0 C e|_::_=>none)
  |_=>none)else none
 |_=>none
noncomputable def Qnm(C:Ctx)(e:Expr):Option (Nat×List Expr):=match Qg0 C e with
 |some t=>some t
 |none=>(match e with
  |.Call g as ks _=>QrH C g as ks
  |_=>none)
noncomputable def QmK(C:Ctx)(s:Stmt):Option (Nat×List Expr):=match s with
 |.Assign ts e _=>Qpg C ts e
 |.Return v _=>v.bind (Qnm C)
 |.Expr e _=>Qg0 C e
 |_=>none
noncomputable def Qnl(m:Nat)(C:Ctx)(s:Stmt)(s0:S):Option S:=match QmK C s with
 |some t=>(compA m C t.2).map λes=>.cal s0 t.1 es
 |none=>some s0
mutual
noncomputable def QR:Nat->Ctx->Stmt->Option S
 |0,_,_=>none
 |m+1,C,s=>match s with
  |.Pass _=>some .pass
  |.Break _=>some .brk
  |.Continue _=>some .cont
  |.Expr e _=>(match QoU e with
   |some true=>some .pass
   |some false=>none
   |none=>(Qg m C e).map .expr)
  |.Return v _=>(match v with
   |none=>some .retN
   |some e=>(Qg m C e).map .ret)
  |.Assign ts e _=>(match Qkb ts with
   |some (.nm x)=>if QaL C x then(idx x C.N).bind λi=>if QeE e&&C.T.dts.contains x then some (.set i .dnewT)else(Qg m C e).bind λe'=>some (.set i e')else none
   |some (.at _ _)=>none
   |some (.sub o i)=>if ZV i then(Qg m C e).bind λe'=>(Qg m C o).bind λo'=>(Qg m C i).bind λi'=>some (.put o' i' e')else none
   |some (.two _ _ _ _)=>none
   |some (.many _)=>none
   |none=>none)
  |.Raise e f _=>(match Qf5 C e f with
   |some (c,args)=>(compA m C args).bind λes=>some (.rse c es)
   |none=>some .bad)
  |.Try b hs o fn _=>if C.bl.contains ("isinstance":Str)then(QfS C b hs o fn).bind λt=>(compA m C t.args).bind λes=>(Qfi m C t.body).bind λbd=>some (.tryS t.j t.f es t.c bd)else none
  |.If t a b _=>(compT m C t).bind λt'=>(compSs m C a).bind λa'=>(compSs m C b).bind λb'=>some (.ite t' a' b')
  |.For tg it a [] _=>(Yt C tg).bind λtg'=>(compSrc m C it).bind λit'=>match Qp9 C tg it tg' with
   |some i=>(Qg m C it).bind λe=>(compSs m C a).bind λa'=>some (.loopK i e a')
   |none=>if Qbs it' tg' then(compSs m C a).bind λa'=>some (.loop tg' it' a')else none
  |_=>none
noncomputable def compSs:Nat->Ctx->List Stmt->Option (List S)
 |0,_,_=>none
 |m+1,C,ss=>match ss with
  |[]=>some []
  |s::r=>(QR m C s).bind λs0=>(Qnl m C s s0).bind λs'=>(compSs m C r).bind λr'=>some (s'::r')
end
end
end Iv
namespace L2
open PySem PySem.Spec PyProof.Rows
section
variable {X:Cx}
noncomputable def Qpc:V->Option Value
 |.ty n=>some (.type n)
 |.ref a=>some (.ref a)
 |_=>none
def TyE(K:W.Frag)(H:Hp)(x:V)(t:Value):Prop:=TyOf K H x t\/∃a C dd,x=.ref a/\t=.ref C/\H a=some (QeX a C dd)/\ErrCls K C
def QgX:CallR X (.builtin "isinstance") (λxs H Q=>∃x c cv t b,xs=[x,c]/\Qpc c=some cv/\TyE X.K H x t/\W.kitOne X.K t cv=some b/\Q (.bl b) H):= by
 intro pins s Y H xs us Q I r h;obtain⟨x,c,cv,t,b,rfl,hc,ty,e,q⟩:=h
 rcases ty with ty|⟨a,C,dd,rfl,rfl,ha,Yyy⟩
 case inr=>exact Qfn pins s Y H _ us Q I r ⟨a,c,cv,C,dd,b,rfl,by unfold Qpc at hc;exact hc,ha,Yyy,e,q⟩
 obtain⟨u,w',rfl,rx,rc⟩:=Qa9 r
 have ec:w'=cv:=by
  cases c with
  |ty n=>cases(show w'=Value.type n from rc);exact X8 hc
  |ref a=>cases(show w'=Value.ref a from rc);exact X8 hc
  |_=>cases hc
 subst ec;exact QeC I rx ty e λtk=>⟨.bl b,H,I.tok tk,rfl,q⟩
def Qpb{K:W.Frag}{cs:List Addr}{its:List Value}(r:Vals (cs.map V.ref) its):its=cs.map Value.ref:=by
 induction cs generalizing its with
 |nil=>cases r;rfl
 |cons c cs ih=>
  rw[Xo]at r
  cases r with
  |cons h t=>rw[Xo,<-ih t,show _=Value.ref c from h]
def Qfm:CallR X (.builtin "isinstance") (λxs H Q=>∃a tp,∃cs:List Addr,∃C dd b,xs=[.ref a,.ref tp]/\H tp=some (.tup (cs.map V.ref))/\H a=some (QeX a C dd)/\ErrCls X.K C/\W.kitAny X.K (.ref C) (cs.map Value.ref)= some b/\Q (.bl b) H):= by
 intro pins s Y H xs us Q I r h;obtain⟨a,tp,cs,C,dd,b,rfl,ht,ha,Yyy,e,q⟩:=h;obtain⟨u,w',rfl,rx,rc⟩:=Qa9 r;cases(show u=Value.ref a from rx);cases(show w'=Value.ref tp from rc);obtain⟨its,r,pl,_⟩:=I.tuple (SqT.of (K:=X.K) ht);cases Qpb (K:=X.K) r;obtain⟨⟨cls,dd',data,sl⟩,ho,hc,n,hd⟩:=id pl;simp only at hc hd;subst hc hd;exact W.kia_tup (Qci Yyy) I.kIn (Qcr I ha) ho e (λz=>nomatch z) λtk=>⟨.bl b,H,I.tok tk,rfl,q⟩
end
end L2
namespace Iv
open PySem PySem.Spec PyProof.Rows L2
section
variable {a p:Addr}{e:Expr}{ho:HO}{H:Hp}{n:Nat}{o:O}{T:Tbl}
abbrev St:=L2.St
structure Adr where
 f:Nat->Addr
 c:Nat->Addr
 k:Nat->Addr
 s:Addr
def Cg(i r:Int)(m:Nat):Prop:=∃q:Int,i=r+m*q
def Cg.exact{i r:Int}(h:Cg i r 0):i=r:=by obtain⟨q,e⟩:=h;simpa using e
def Cg.refl(i:Int)(m:Nat):Cg i i m:=⟨0,by simp⟩
def RU(A:Adr)(α:List Addr):U->V->Prop
 |.non,v=>v=.non
 |.bl b,v=>v=.bl b
 |.int r m,v=>∃i,v=.int i/\Cg i r m
 |.str x,v=>v=.str ⟨x.toArray⟩
 |.ref n,v=>∃a,α[n]?=some a/\v=.ref a
 |.con k,v=>v=.ref (A.k k)
 |.scr,v=>v=.ref A.s
abbrev RUs(A:Adr)(α:List Addr):List U->List V->Prop:=Paired (RU A α)
def RF(T:Tbl)(A:Adr)(α:List Addr):List (Nat×U)->List (Str×V)->Prop:=Paired λp q=>T.fns'[p.1]?=some q.1/\RU A α p.2 q.2
def RK:U->Key->Prop
 |.int i m,k=>m=0/\k=Sum.inl i
 |.str x,k=>k=Sum.inr ⟨x.toArray⟩
 |_,_=>False
def RD(A:Adr)(α:List Addr):List (U×U)->List (Key×V)->Prop:=Paired λp q=>RK p.1 q.1/\RU A α p.2 q.2
abbrev RKs:List U->List Key->Prop:=Paired RK
def RT(A:Adr)(α:List Addr):List (List U×U)->List (List Key×V)->Prop:=Paired λp q=>RKs p.1 q.1/\RU A α p.2 q.2
def EF(T:Tbl)(H:Hp)(c:Nat)(dd:Option Addr):Prop:=∀f,T.efl.contains (c,f)=true->∃d od x,dd=some d/\T.fns'[f]?=some x/\H d=some (.frz od (.xd [(x,.non)]))
def EF.fz{H':Hp}{c:Nat}{dd:Option Addr}(h:EF T H c dd)(k:∀b o fs,H b=some (.frz o (.xd fs))->H' b=some (.frz o (.xd fs))):EF T H' c dd:=λf q=>by
 obtain⟨d,od,x,e1,e2,e3⟩:=h f q;exact⟨d,od,x,e1,e2,k _ _ _ e3⟩
def RO(T:Tbl)(A:Adr)(α:List Addr)(H:Hp)(a:Addr):O->Prop
 |.lst xs=>∃vs,H a=some (.lst vs)/\RUs A α xs vs
 |.tup xs=>∃vs,H a=some (.tup vs)/\RUs A α xs vs
 |.ins c fs=>∃dx fv,H a=some (.ins (A.c c) dx fv)/\RF T A α fs fv/\c<T.cls.length
 |.dic kvs=>∃kv,H a=some (.dK kv)/\RD A α kvs kv
 |.dct kvs=>∃kv,H a=some (.dT kv)/\RT A α kvs kv
 |.fzd kvs=>∃kv ob,H a=some (.frz ob (.dK kv))/\RD A α kvs kv
 |.fzt kvs=>∃kv ob,H a=some (.frz ob (.dT kv))/\RT A α kvs kv
 |.err c=>∃dd,H a=some (QeX a (A.c c) dd)/\T.ers.contains c=true/\EF T H c dd
structure RH(T:Tbl)(A:Adr)(α:List Addr)(hs:Hs)(H:Hp):Prop where
 len:α.length=hs.length
 nd:∀(i j:Nat) a,α[i]?=some a->α[j]?=some a->i=j\/∃vs,H a=some (.tup vs)
 ob:∀(n:Nat) a o,α[n]?=some a->hs[n]?=some o->RO T A α H a o
def Qpx(K:W.Frag)(H:Hp)(a:Addr)(xs:List V):Prop:=(∃o,H a=some (.frz o (.lst xs))) \/
 ∃(o:Obj) (its:Array Value) (n:Nat),K.lookup a=some o/\o.cls=.type "list"/\o.dict=none/\o.data=.seq its n/\its.size<=sizeLine/\Vals xs its.toList
def Scr(T:Tbl)(A:Adr)(K:W.Frag)(H:Hp):Prop:=∃vs,RUs A [] T.scr vs/\Qpx K H A.s vs
structure Rep(T:Tbl)(A:Adr)(K:W.Frag)(α:List Addr)(hs:Hs)(H:Hp):Prop where
 h:RH T A α hs H
 s:Scr T A K H
structure Ext(α α':List Addr)(H H':Hp):Prop where
 pre:∀(n:Nat) a,α[n]?=some a->α'[n]?=some a
 new:∀(n:Nat) a,α'[n]?=some a->α.length<=n->H a=none\/∃vs,H a=some (.tup vs)
 keep:∀b o,H b=some o->b∉α->H' b=some o
 fz:∀b o u,H b=some (.frz o u)->H' b=some (.frz o u)
 tr:∀b o,H b=some o->∃o',H' b=some o'/\∀vs,o=.tup vs↔o'=.tup vs
structure RS(A:Adr)(α:List Addr)(Z:Rho)(Y:St):Prop where
 len:Z.length=Y.length
 val:∀(i:Nat) u,Z[i]?=some (some u)->∃v,Y[i]?=some (some v)/\RU A α u v
section
variable {A:Adr}{K:W.Frag}{α α' α1 α2:List Addr}{hs h2:Hs}{H' H1 H2:Hp}{u:U}{v:V}{us:List U}{vs:List V}{Z:Rho}{Y:St}
def RU.mono(p:∀(n:Nat) a,α[n]?=some a->α'[n]?=some a)(h:RU A α u v):RU A α' u v:=by
 cases u with
 |ref n=>obtain⟨a,e,r⟩:=h;exact⟨a,p _ _ e,r⟩
 |_=>exact h
theorem RUs.mono(p:∀(n:Nat) a,α[n]?=some a->α'[n]?=some a)(h:RUs A α us vs):RUs A α' us vs:=Paired.mapP h λz z r=>RU.mono p r
theorem RF.mono{fs:List (Nat×U)}{fv:List (Str×V)}(p:∀(n:Nat) a,α[n]?=some a->α'[n]?=some a)(h:RF T A α fs fv):RF T A α' fs fv:=Paired.mapP h λz z r=>⟨r.1,r.2.mono p⟩
theorem RD.mono{fs:List (U×U)}{fv:List (Key×V)}(p:∀(n:Nat) a,α[n]?=some a->α'[n]?=some a)(h:RD A α fs fv):RD A α' fs fv:=Paired.mapP h λz z r=>⟨r.1,r.2.mono p⟩
theorem RT.mono{fs:List (List U×U)}{fv:List (List Key×V)}(p:∀(n:Nat) a,α[n]?=some a->α'[n]?=some a)(h:RT A α fs fv):RT A α' fs fv:=Paired.mapP h λz z r=>⟨r.1,r.2.mono p⟩
theorem RS.mono(p:∀(n:Nat) a,α[n]?=some a->α'[n]?=some a)(h:RS A α Z Y):RS A α' Z Y:=⟨h.len,λi u e=>by obtain⟨v,e1,r⟩:=h.val i u e;exact⟨v,e1,r.mono p⟩⟩
def Ext.refl:Ext α α H H:=⟨λz z e=>e,λn a e l=>by
 have:=(Xc.mp e).1
 omega,λz z e z=>e,λz z z e=>e,λz o e=>⟨o,e,λz=>U7⟩⟩
def getElem?_lt(e:α[n]?=some a):n < α.length:=(Xc.mp e).1
theorem Ext.trans(a:Ext α α1 H H1)(b:Ext α1 α2 H1 H2)(R:RH T A α2 h2 H2):Ext α α2 H H2 where
 fz:=λc o kv e=>b.fz c o kv (a.fz c o kv e)
 pre:=λn x e=>b.pre n x (a.pre n x e)
 tr:=λc o e=>by
  obtain⟨o1,e1,q1⟩:=a.tr c o e;obtain⟨o2,e2,q2⟩:=b.tr c o1 e1;exact⟨o2,e2,λvs=>(q1 vs).trans (q2 vs)⟩
 new:=λn x e l=>by
  by_cases hn:n < α1.length
  ·have e1:α1[n]?=some α1[n]:=Xe hn;have e2:=b.pre n _ e1;rw[e]at e2;cases e2;exact a.new n _ e1 l
  ·cases q:H x with
   |none=>exact .inl rfl
   |some o=>
    obtain⟨o1,e1,q1⟩:=a.tr x o q
    rcases b.new n x e (by omega)with z|⟨vs,z⟩
    ·rw[e1]at z;cases z
    ·rw[e1]at z;cases z;exact .inr ⟨vs,congrArg some ((q1 vs).mpr rfl)⟩
 keep:=λc o e hc=>by
  by_cases hm:c∈α1
  ·obtain⟨n,hn⟩:=Vf hm;by_cases l:n < α.length
   ·have e1:α[n]?=some α[n]:=Xe l;have:=a.pre n _ e1;rw[hn]at this;cases this;exact absurd (List.getElem_mem l) hc
   ·rcases a.new n c hn (by omega)with z|⟨vs,z⟩
    ·rw[z]at e;cases e
    ·rw[e]at z;cases z;obtain⟨o1,e1,q1⟩:=a.tr c _ e;obtain⟨o2,e2,q2⟩:=b.tr c o1 e1;rw[e2,((q1 vs).trans (q2 vs)).mp rfl]
  ·exact b.keep c o (a.keep c o e hc) hm
def RO.trk(h:RO T A α H a o):∃x,H a=some x/\(∀ob u,x≠.frz ob (.lst u))/\∀ob u,x≠.frz ob (.xd u):=by
 cases o with
 |lst xs=>obtain⟨vs,e,_⟩:=h;exact⟨_,e,(λy y z=>nomatch z),λy y z=>nomatch z⟩
 |tup xs=>obtain⟨vs,e,_⟩:=h;exact⟨_,e,(λy y z=>nomatch z),λy y z=>nomatch z⟩
 |ins c fs=>obtain⟨dx,fv,e,_⟩:=h;exact⟨_,e,(λy y z=>nomatch z),λy y z=>nomatch z⟩
 |dic _=>obtain⟨kv,e,_⟩:=h;exact⟨_,e,(λy y z=>nomatch z),λy y z=>nomatch z⟩
 |dct _=>obtain⟨kv,e,_⟩:=h;exact⟨_,e,(λy y z=>nomatch z),λy y z=>nomatch z⟩
 |fzd _=>obtain⟨kv,ob,e,_⟩:=h;exact⟨_,e,(λy y z=>nomatch z),λy y z=>nomatch z⟩
 |fzt _=>obtain⟨kv,ob,e,_⟩:=h;exact⟨_,e,(λy y z=>nomatch z),λy y z=>nomatch z⟩
 |err _=>obtain⟨dd,e,_⟩:=h;exact⟨_,e,(λy y z=>nomatch z),λy y z=>nomatch z⟩
def RH.trk(R:RH T A α hs H)(e:α[n]?=some a):∃o,hs[n]?=some o/\RO T A α H a o:=by
 have l:=getElem?_lt e;rw[R.len]at l;exact⟨hs[n],Xe l,R.ob n a _ e (Xe l)⟩
def RH.adr(R:RH T A α hs H)(e:hs[n]?=some o):∃a,α[n]?=some a/\RO T A α H a o:=by
 have l:n<hs.length:=(Xc.mp e).1;rw[<-R.len]at l;exact⟨α[n],Xe l,R.ob n _ _ (Xe l) e⟩
def RH.notIn(R:RH T A α hs H)(h:H p=none):p∉α:=λm=>by
 obtain⟨n,e⟩:=Vf m;obtain⟨o,_,r⟩:=R.trk e;obtain⟨x,e,_⟩:=r.trk;rw[h]at e;cases e
def RH.nd_keep(R:RH T A α hs H)(k:∀b x,b∈α->H b=some x->H' b=some x):∀(i j:Nat) a,α[i]?=some a->α[j]?=some a->i=j\/∃vs,H' a=some (.tup vs):=λi j a e1 e2=>
 (R.nd i j a e1 e2).imp id λz=>by obtain⟨vs,q⟩:=z;exact⟨vs,k a _ (X0 e1) q⟩
def Qed(h:∀(i j:Nat) a,α[i]?=some a->α[j]?=some a->i=j\/∃vs,H a=some (.tup vs))(n:p∉α):∀(i j:Nat) a,(α++[p])[i]?=some a->(α++[p])[j]?=some a->i=j\/∃vs,H a=some (.tup vs):=λi j a e1 e2=>by
 have cs:∀{k:Nat},(α++[p])[k]?=some a->α[k]?=some a\/(k=α.length/\a=p):=λ{k} e=>by
  by_cases l:k < α.length
  ·rw[Xv l]at e;exact .inl e
  ·rw[Wg (by omega)]at e
   have:=(Xc.mp e).1;simp at this
   have hk:k=α.length:=by omega
   subst hk;simp at e;exact .inr ⟨rfl,e.symm⟩
 rcases cs e1 with q1|⟨q1,w1⟩
 ·rcases cs e2 with q2|⟨q2,w2⟩
  ·exact h i j a q1 q2
  ·exact absurd (w2▸X0 q1) n
 ·rcases cs e2 with q2|⟨q2,w2⟩
  ·exact absurd (w1▸X0 q2) n
  ·exact .inl (q1.trans q2.symm)
def RO.keep(h:RO T A α H a o)(p:∀(n:Nat) a,α[n]?=some a->α'[n]?=some a)(k:∀b x,H b=some x->(b=a\/∃o fs,x=.frz o (.xd fs))->H' b=some x):RO T A α' H' a o:=by
 have kx:=k;have k:=λx e=>kx a x e (.inl rfl)
 cases o with
 |lst xs=>obtain⟨vs,e,r⟩:=h;exact⟨vs,k _ e,RUs.mono p r⟩
 |tup xs=>obtain⟨vs,e,r⟩:=h;exact⟨vs,k _ e,RUs.mono p r⟩
 |ins c fs=>obtain⟨dx,fv,e,r,l⟩:=h;exact⟨dx,fv,k _ e,RF.mono p r,l⟩
 |dic _=>obtain⟨kv,e,r⟩:=h;exact⟨kv,k _ e,RD.mono p r⟩
 |dct _=>obtain⟨kv,e,r⟩:=h;exact⟨kv,k _ e,RT.mono p r⟩
 |fzd _=>obtain⟨kv,ob,e,r⟩:=h;exact⟨kv,ob,k _ e,RD.mono p r⟩
 |fzt _=>obtain⟨kv,ob,e,r⟩:=h;exact⟨kv,ob,k _ e,RT.mono p r⟩
 |err _=>obtain⟨dd,e,l,q⟩:=h;exact⟨dd,k _ e,l,q.fz λb o fs e=>kx b _ e (.inr ⟨o,fs,rfl⟩)⟩
def Scr.keep(h:Scr T A K H)(k:∀x,H A.s=some x->(∃o u,x=.frz o (.lst u))->H' A.s=some x):Scr T A K H':=by
 obtain⟨vs,r,q|q⟩:=h
 ·obtain⟨o,e⟩:=q;exact⟨vs,r,.inl ⟨o,k _ e ⟨_,_,rfl⟩⟩⟩
 ·exact⟨vs,r,.inr q⟩
def Scr.sq(h:Scr T A K H):∃vs,RUs A α T.scr vs/\SqL K H A.s vs:=by
 obtain⟨vs,r,q⟩:=h
 refine⟨vs,RUs.mono (λn a e=>by simp at e) r,?_⟩
 rcases q with⟨o,e⟩|q
 ·exact .inl (.inr ⟨o,e⟩)
 ·exact .inr q
def QD:(α++[p])[α.length]?=some p:=by simp
def Qq:∀(n:Nat) a,α[n]?=some a->(α++[p])[n]?=some a:=λn a e=>by
 rw[Xv (getElem?_lt e)];exact e
def Qo{β:Type}{l:List β}{p a:β}(e:(l++[p])[n]?=some a):l[n]?=some a\/(n=l.length/\a=p):=by
 by_cases h:n<l.length
 ·rw[Xv h]at e;exact .inl e
 ·rw[Wg (by omega)]at e
  have:n-l.length=0:=by
   cases q:n-l.length with
   |zero=>rfl
   |succ k=>rw[q]at e;simp at e
  rw[this]at e;simp at e
  exact .inr ⟨by omega,e.symm⟩
def Rep.new(R:Rep T A K α hs H)(hp:H p=none)(r:RO T A (α++[p]) (upd H p ho) p o):Rep T A K (α++[p]) (hs++[o]) (upd H p ho)/\Ext α (α++[p]) H (upd H p ho):=by
 have ne:∀b x,H b=some x->b≠p:=λb x e z=>by rw[z,hp]at e;cases e
 refine⟨⟨⟨by simp[R.h.len],Qed (R.h.nd_keep λb x y e=>by rw[Qf (ne _ _ e)];exact e) (R.h.notIn hp),λn a ob e1 e2=>?_⟩,R.s.keep λx e y=>by rw[Qf (ne _ _ e)];exact e⟩,⟨Qq,λn a e l=>?_,λb x e y=>by rw[Qf (ne _ _ e)];exact e,λb x kv e=>by rw[Qf (ne _ _ e)];exact e,λb x e=>⟨x,by rw[Qf (ne _ _ e)];exact e,λy=>U7⟩⟩⟩
 ·rcases Qo e1 with q|⟨q1,q2⟩
  ·rcases Qo e2 with z|⟨z,_⟩
   ·exact RO.keep (R.h.ob n a ob q z) Qq λy x e y=>by rw[Qf (ne _ _ e)];exact e
   ·have:=getElem?_lt q;rw[R.h.len]at this;omega
  ·subst q2
   rcases Qo e2 with z|⟨_,z⟩
   ·have:=(Xc.mp z).1;rw[<-R.h.len]at this;omega
   ·subst z;exact r
 ·rcases Qo e with q|⟨_,q⟩
  ·have:=getElem?_lt q;omega
  ·rw[q];exact .inl hp
def Rep.side(R:Rep T A K α hs H)(hp:H p=none):Rep T A K α hs (upd H p ho)/\Ext α α H (upd H p ho):=by
 have k:∀b x,H b=some x->upd H p ho b=some x:=λb x e=>by rw[Qf (λz=>by rw[z,hp]at e;cases e)];exact e
 exact⟨⟨⟨R.h.len,R.h.nd_keep λb x y e=>k b x e,λn a o e1 e2=>RO.keep (R.h.ob n a o e1 e2) (λy y e=>e) λb x e y=>k b x e⟩,R.s.keep λx e y=>k _ x e⟩,⟨λy y e=>e,λn a e l=>absurd (getElem?_lt e) (Nat.not_lt.mpr l),λb x e y=>k b x e,λb x u e=>k b _ e,λb x e=>⟨x,k b x e,λy=>U7⟩⟩⟩
def Rep.put0(R:Rep T A K α hs H)(ha:α[n]?=some a)(r:RO T A α (upd H a ho) a o)(ht:∀vs,H a≠some (.tup vs):=by intro _ z;simp only[*,W7,reduceCtorEq]at z):Rep T A K α (hs.set n o) (upd H a ho):=by
 have ta:=R.h.trk ha;obtain⟨o0,_,r0⟩:=ta;obtain⟨x0,e0,nf,nx⟩:=r0.trk
 have nd:∀(i j:Nat) c,α[i]?=some c->α[j]?=some c->i=j\/∃vs,upd H a ho c=some (.tup vs):=λi j c e1 e2=>by
  rcases R.h.nd i j c e1 e2 with q|⟨vs,q⟩
  ·exact .inl q
  ·exact .inr ⟨vs,by rw[Qf (λ(z:c=a)=>ht vs (z▸q))];exact q⟩
 refine⟨⟨by simp[R.h.len],nd,λm b ob e1 e2=>?_⟩,R.s.keep λx e z=>?_⟩
 ·by_cases hm:m=n
  ·subst hm;rw[ha]at e1;cases e1
   have l:m<hs.length:=by rw[<-R.h.len];exact getElem?_lt ha
   rw[Xz l]at e2;cases e2;exact r
  ·rw[Xu (Wr hm)]at e2
   have hb:b≠a:=λz=>by
    rcases R.h.nd m n a (z▸e1) ha with q|⟨vs,q⟩
    ·exact hm q
    ·exact ht vs q
   refine RO.keep (R.h.ob m b ob e1 e2) (λy y e=>e) λc x e w=>?_
   rcases w with rfl|⟨oz,fs,rfl⟩
   ·rw[Qf hb];exact e
   ·rw[Qf (λz=>by rw[z,e0]at e;cases e;exact nx _ _ rfl)];exact e
 ·obtain⟨ob,u,z⟩:=z
  have hb:A.s≠a:=λq=>by rw[q,e0]at e;cases e;exact nf _ _ z
  rw[Qf hb];exact e
def Rep.put(R:Rep T A K α hs H)(ha:α[n]?=some a)(r:RO T A α (upd H a ho) a o)(hz:∀ob u,H a≠some (.frz ob u):=by intro _ _ z;simp only[*,W7,reduceCtorEq]at z)(ht:∀vs,H a≠some (.tup vs):=by intro _ z;simp only[*,W7,reduceCtorEq]at z)(hh:∀vs,ho≠.tup vs:=by intro _ z;cases z):Rep T A K α (hs.set n o) (upd H a ho)/\Ext α α H (upd H a ho):=by
 refine⟨R.put0 ha r ht,⟨λy y e=>e,λm b e l=>by have:=getElem?_lt e;omega,λb x e hb=>?_,λb ob kv e=>?_,λb x e=>?_⟩⟩
 ·have hb':b≠a:=λz=>hb (z▸X0 ha);rw[Qf hb'];exact e
 ·have hb':b≠a:=λz=>hz ob kv (z▸e);rw[Qf hb'];exact e
 ·by_cases hb':b=a
  ·subst hb';exact⟨ho,Qh,λvs=>⟨λz=>absurd (z▸e) (ht vs),λz=>absurd z (hh vs)⟩⟩
  ·exact⟨x,by rw[Qf hb'];exact e,λy=>U7⟩
def RS.get(R:RS A α Z Y){i:Nat}{u:U}(e:Z[i]?=some (some u)):∃v,Y[i]?=some (some v)/\RU A α u v:=R.val i u e
theorem RS.set(R:RS A α Z Y)(i:Nat)(r:RU A α u v):RS A α (Z.set i (some u)) (Y.set i (some v)):=by
 refine⟨by simp[R.len],λj w e=>?_⟩
 by_cases h:j=i
 ·subst h
  have l:j < Z.length:=by
   have:=(Xc.mp e).1;simpa using this
  rw[Xz l]at e;cases e
  exact⟨v,Xz (by rw[<-R.len];exact l),r⟩
 ·rw[Xu (Wr h)]at e;rw[Xu (Wr h)];exact R.val j w e
end
def flE(A:Adr)(α:List Addr)(D:Ends)(Y:St)(H:Hp):Fl->Prop
 |.next=>D.nx Y H
 |.brk=>D.bk Y H
 |.cont=>D.ct Y H
 |.ret u=>∀v,RU A α u v->D.rt v H
section
variable (T:Tbl)(A:Adr)(K:W.Frag)
def TI(f:Rho->Hs->Option (U×Hs)):TE:=λY H Q=>∃α Z hs u hs',RS A α Z Y/\Rep T A K α hs H/\f Z hs=some (u,hs') /\
 ∀α' v H',Ext α α' H H'->Rep T A K α' hs' H'->RU A α' u v->Q v H'
def TIT(f:Rho->Hs->Option (Bool×Hs)):TT:=λY H Q=>∃α Z hs u hs',RS A α Z Y/\Rep T A K α hs H/\f Z hs=some (u,hs') /\
 ∀α' H',Ext α α' H H'->Rep T A K α' hs' H'->Q u H'
def TIA(f:Rho->Hs->Option (List U×Hs)):TA:=λY H Q=>∃α Z hs us hs',RS A α Z Y/\Rep T A K α hs H/\f Z hs=some (us,hs') /\
 ∀α' vs H',Ext α α' H H'->Rep T A K α' hs' H'->RUs A α' us vs->Q vs H'
def TIS(f:Ex):TS:=λD Y H=>∃α Z hs fl ρ' hs',RS A α Z Y/\Rep T A K α hs H/\f Z hs=some (fl,ρ',hs') /\
 ∀α' Y' H',Ext α α' H H'->Rep T A K α' hs' H'->RS A α' ρ' Y'->flE A α' D Y' H' fl
end
section
variable {A:Adr}{K:W.Frag}{α:List Addr}{Z:Rho}{Y:St}{hs h1:Hs}
def TI.run{f:Rho->Hs->Option (U×Hs)}{u:U}{Q:VK}(rs:RS A α Z Y)(rp:Rep T A K α hs H)(h:f Z hs=some (u,h1))
  (k:∀α1 v H1,Ext α α1 H H1->Rep T A K α1 h1 H1->RU A α1 u v->RS A α1 Z Y->Q v H1):TI T A K f Y H Q :=
 ⟨α,Z,hs,u,h1,rs,rp,h,λα1 v H1 e r q=>k α1 v H1 e r q (rs.mono e.pre)⟩
def TIT.run{f:Rho->Hs->Option (Bool×Hs)}{u:Bool}{Q:Bool->Hp->Prop}(rs:RS A α Z Y)(rp:Rep T A K α hs H)(h:f Z hs=some (u,h1))
  (k:∀α1 H1,Ext α α1 H H1->Rep T A K α1 h1 H1->RS A α1 Z Y->Q u H1):TIT T A K f Y H Q :=
 ⟨α,Z,hs,u,h1,rs,rp,h,λα1 H1 e r=>k α1 H1 e r (rs.mono e.pre)⟩
def TIA.run{f:Rho->Hs->Option (List U×Hs)}{us:List U}{Q:List V->Hp->Prop}(rs:RS A α Z Y)(rp:Rep T A K α hs H)(h:f Z hs=some (us,h1))
  (k:∀α1 vs H1,Ext α α1 H H1->Rep T A K α1 h1 H1->RUs A α1 us vs->RS A α1 Z Y->Q vs H1):TIA T A K f Y H Q :=
 ⟨α,Z,hs,us,h1,rs,rp,h,λα1 v H1 e r q=>k α1 v H1 e r q (rs.mono e.pre)⟩
end
section
variable {X:Cx}
def Q0{t t':TE}(h:PE X e t)(i:∀Y H Q,t' Y H Q->t Y H Q):PE X e t':=λpins s Y H Q I q=>h pins s Y H Q I (i Y H Q q)
def Qkl{t t':TT}(h:PT X e t)(i:∀Y H Q,t' Y H Q->t Y H Q):PT X e t':=λpins s Y H Q I q=>h pins s Y H Q I (i Y H Q q)
def Qm3{t t':TT}(h:PW X e t)(i:∀Y H Q,t' Y H Q->t Y H Q):PW X e t':=λwh pins s Y H Q I q=>h wh pins s Y H Q I (i Y H Q q)
def Qhf{es:List Expr}{t t':TA}(h:PA X es t)(i:∀Y H Q,t' Y H Q->t Y H Q):PA X es t':=λpos pins s Y H Q I q=>h pos pins s Y H Q I (i Y H Q q)
def Q8{st:Stmt}{t t':TS}(h:PS X st t)(i:∀D Y H,t' D Y H->t D Y H):PS X st t':=λpins s Y H D I q=>h pins s Y H D I (i D Y H q)
def QcC{st:List Stmt}{t t':TS}(h:PSs X st t)(i:∀D Y H,t' D Y H->t D Y H):PSs X st t':=λpins s Y H D I q=>h pins s Y H D I (i D Y H q)
end
end
section
variable {A:Adr}{C:Ctx}{X:Cx}{us:List U}{vs:List V}{x:Str}{mg:Str->Option Value}{T:Tbl}
noncomputable def tyV:Ty->String
 |.non=>"NoneType"|.bool=>"bool"|.int=>"int"|.str=>"str"|.list=>"list"|.tuple=>"tuple"|.dict=>"dict"|.cls _=>"object"|.vale=>"ValueError"
noncomputable def tyW(A:Adr):Ty->Value
 |.cls c=>.ref (A.c c)
 |t=>.type (tyV t)
structure ClOk(T:Tbl)(A:Adr)(K:W.Frag)(i:Nat)(C:Cl):Prop where
 cls:Cls K (A.c i)
 nf:∀x∈T.fns',Qm7 K (A.c i) x
 me:∀m f,C.meths.lookup m=some f->∃x,T.mns[m]?=some x/\Meth K (A.c i) x (A.f f)
 mks:W.makesIn K (A.c i)=true
 kp:W.keepIn K (.ref (A.c i))=true
 ini:match C.init with
  |some f=>W.findIn K (.ref (A.c i)) "__init__"=some (some (.ref (A.f f)))/\W.isFn K (.ref (A.f f))= true
  |none=>W.findIn K (.ref (A.c i)) "__init__"=some (some (.builtin "object.__init__"))
 ty:∀(H:Hp) (a dx:Addr) (fs:List (Str×V)),H a=some (.ins (A.c i) dx fs)->TyOf K H (.ref a) (.ref (A.c i))
structure FunD(K:W.Frag)(x qual:Str)(st:Stmt)(f:Addr)(fd:FuncData):Prop where
 ex:∃(oc:Value) (od:Option Addr) (dV kV doc pm:Value) (an:Option Addr) (cdv ct:Value) (osl:Array (Option Value)),
  fd=W.fnOf x qual (QbK st) (Zy st) (Qp st) dV kV doc pm an cdv ct/\K.lookup f=some ⟨oc,od,.func fd,osl⟩/\W.codeIn K cdv qual=true
 kp:W.keepIn K (.ref f)=true
def FunD.ok{P:Program}{w:World}{K:W.Frag}{base:Heap}{qual:Str}{st:Stmt}{f:Addr}{fd:FuncData}{N ps:List Str}{k:Nat}{sp:Sp}(F:FunD K x qual st f fd)(S:FnScope N ps (Qp st))(len:∀vs H Q E,sp vs H Q E->vs.length=ps.length)
  (hbody:∀(cdv:Value) (A:Around) (outer:List Env) (s:Shared) (H:Hp) (vs:List V) (Q:VK) (E:XK),Room k (A.deeper (envOfC qual (Qp st) s.heap.objs.size f cdv))->sp vs H Q E ->
   ∃t,PSs (Qe9 CX0 P w K mg base N qual (Qp st) f cdv A outer s H E).nox (Zy st) t/\t {nx:=λz H'=>Q .non H',rt:=Q} (start N vs) H):FnOk P w K mg base CX0 (k+1) f fd ps sp:=by
 obtain⟨oc,od,dV,kV,doc,pm,an,cdv,ct,osl,rfl,lk,hcd⟩:=F.ex;refine Qmv lk hcd S len λA outer s H vs Q E hr hsp=>?_;obtain⟨t,h,q⟩:=hbody cdv A outer s H vs Q E hr hsp;exact⟨t,h.nox,q⟩
def FunD.same{K:W.Frag}{y q q':Str}{st st':Stmt}{f:Addr}{fd fd':FuncData}(a:FunD K x q st f fd)(b:FunD K y q' st' f fd'):fd=fd':=by
 obtain⟨_,_,_,_,_,_,_,_,_,_,_,l1,_⟩:=a.ex;obtain⟨_,_,_,_,_,_,_,_,_,_,_,l2,_⟩:=b.ex;rw[l1]at l2;cases l2;rfl
def Qkx(A:Adr)(K:W.Frag)(fd:FuncData)(D:Df):Prop:=∃(ds:List Value) (dvs:List V),RUs A [] D.ds dvs/\Vals dvs ds/\(∀n,Binds K fd D.ps (ds.drop n))
def QcD(K:W.Frag)(mg:Str->Option Value)(C:Addr)(x:Str):Prop:=False
structure Txt(T:Tbl)(A:Adr)(K:W.Frag)(mg:Str->Option Value):Prop where
 fn:∀i F,T.fns[i]?=some F->∃fd,FunD K F.name F.qual F.st (A.f i) fd/\Binds K fd F.ps []/\FnScope F.N F.ps (Qp F.st)/\F.ps.length=F.np/\F.N.length=F.nN
 df:∀i D,T.dfl.lookup i=some D->∃fd x q st,FunD K x q st (A.f i) fd/\Qkx A K fd D/\∀F,T.fns[i]?=some F->F.ps=D.ps/\F.np=D.np
 cl:∀i C,T.cls[i]?=some C->ClOk T A K i C
 fm:∀x∈T.fns',x∉T.mns
 fd:T.fns'.Nodup
 isi:∀k t b,T.isi.lookup (k,t)=some b->W.kitOne K (tyW A k) (tyW A t)=some b
 co:∀k c,T.cons[k]?=some c->match c with
  |Co.tup xs=>∃vs,RUs A [] xs vs/\∀H,SqT K H (A.k k) vs
  |Co.lst xs=>∃vs,RUs A [] xs vs/\∀H,SqL K H (A.k k) vs
  |Co.tab _=>True
 er:∀c,T.ers.contains c=true->ErrCls K (A.c c)/\((∀f,T.efl.contains (c,f)= false)/\W.excIn K (A.c c) Qa8 "ValueError.__new__"=true\/∃f x,T.efl.contains (c,f)= true/\(∀f',T.efl.contains (c,f')= true->f'=f)/\T.fns'[f]?=some x/\QcD K mg (A.c c) x)
 es:∀c c',T.esb.contains (c,c')=true->W.exmOne K (.ref (A.c c)) (.ref (A.c c'))=some true
def Qq0:U->Key->Prop
 |.int i 0,k=>k=.inl i
 |.str x,k=>k=.inr ⟨x.toArray⟩
 |_,_=>False
def Qaj(P:Program)(w:World)(T:Tbl)(A:Adr)(K:W.Frag):Prop:=∀k kvs,T.cons[k]?=some (.tab kvs) ->
 ∃vs:List (Key×Value),(A.k k==sysModules)=false/\(∀h:Heap,K.In h->h.DictOf (Ql P w) (A.k k) vs)/\Paired (λ(p:U×U) (q:Key×Value)=>Qq0 p.1 q.1/\∃v,RU A [] p.2 v/\RelV v q.2) kvs vs
structure GX(T:Tbl)(A:Adr)(C:Ctx)(X:Cx):Prop where
 CT:C.T=T
 N:X.N=C.N
 nd:X.N.Nodup
 sc:X.env.scope.names=C.names
 calm:hdC C=false->X.calm=true
 kind:X.env.scope.kind=.function
 xe:X.xe=λ_ _=>False
 gfn:∀x i,C.gl.lookup x=some (.fn i)->X.mg x=some (.ref (A.f i))
 gcl:∀x i,C.gl.lookup x=some (.cls i)->X.mg x=some (.ref (A.c i))
 gco:∀x k,C.gl.lookup x=some (.con k)->X.mg x=some (.ref (A.k k))
 gtx:∀x t,C.gl.lookup x=some (.txt t)->∃k,X.mg x=some (.str ⟨t.toArray⟩ k)
 blt:∀x,¬C.bl.contains x=false->X.mg x=none
 txt:Txt T A X.K X.mg
 tab:Qaj X.prog X.w T A X.K
def spC(T:Tbl)(A:Adr)(K:W.Frag)(cf:Cf)(f:Nat):Sp:=λvs H Q z=>∃α us hs u hs',RUs A α us vs/\Rep T A K α hs H/\cf f us hs=some (u,hs')/\(∃F,T.fns[f]?=some F/\us.length=F.np) /\
 ∀α' v H',Ext α α' H H'->Rep T A K α' hs' H'->RU A α' u v->Q v H'
def spX(T:Tbl)(A:Adr)(K:W.Frag)(xf:Nat->List U->Hs->Option (Nat×Hs))(f:Nat):Sp:=λvs H z E=>∃α us hs c hs',RUs A α us vs/\Rep T A K α hs H/\xf f us hs=some (c,hs')/\(∃F,T.fns[f]?=some F/\us.length=F.np) /\
 ∀α' H' dd,Ext α α' H H'->Rep T A K α' hs' H'->EF T H' c dd->E (.ref (A.c c)) dd H'
theorem Zg{x:Str}:∀{N:List Str} {i:Nat},idx x N=some i->N[i]?=some x
 |[],_,h=>by simp[idx]at h
 |y::r,i,h=>by
  unfold idx at h;split at h
  ·rename_i e;cases h;simp[e]
  ·cases q:idx x r with
   |none=>rw[q]at h;cases h
   |some j=>
    rw[q]at h;cases h;simpa using Zg q
def QkM(g:GX T A C X)(h:QgC C x=true):Vis X.env.scope x:=by
 unfold QgC at h;unfold Vis;rw[g.sc];split at h<;>simp_all
def Jm(g:GX T A C X)(h:QaL C x=true):L2.Loc X.env.scope x:=by
 unfold QaL at h;unfold L2.Loc;rw[g.sc];split at h<;>simp_all
def QN(g:GX T A C X)(h:Zr C x=true):Gl X x:=by
 unfold Zr at h;show X.env.scope.names.lookup x=some .globalImplicit;rw[g.sc];split at h
 ·assumption
 ·cases h
def QL{y:Str}(h:x≠y):(x==y)=false:=by simpa using h
def Yr{o:Expr}{f:Str}{env:Env}{w:Sem Value}(h:YT o=true):attributeBase o f env w=w:=by
 unfold attributeBase;split
 ·cases h
 ·rfl
def QcN{b:Expr}(h:ZV b=true):QfB b:=by
 intro o i
 cases b<;>first|rfl|cases h
def Qn{e:Expr}{es:List Expr}{env:Env}(h:∀x p,e≠.Starred x p):starEach (e::es) env=(false,eval e env)::starEach es env:=by
 cases e<;>first|rfl|exact absurd rfl (h _ _)
def Qa4(es:List Expr):Prop:=∀e∈es,∀x p,e≠.Starred x p
theorem Q9{env:Env}{pos:Pos}:∀{es:List Expr},Qa4 es->(backTo pos (starEach es env)).any (·.1)=false
 |[],_=>rfl
 |e::r,h=>by
  rw[Qn (h e (Xn ..))];have ih:=Q9 (env:=env) (pos:=pos) (es:=r) λx hx=>h x (Xl _ hx);unfold backTo at ih ⊢;rw[Xo,U5,ih];rfl
def QC{m:Nat}{e:Expr}{ir:E}(h:Qg m C e=some ir):∀x p,e≠.Starred x p:=by
 rintro x p rfl
 cases m<;>first|exact Znn h|simp[Qg]at h
theorem Qt{C:Ctx}:∀{m:Nat} {es:List Expr} {irs:List E},compA m C es=some irs->Qa4 es
 |0,_,_,h=>by simp[compA]at h
 |m+1,[],_,_=>λz h=>nomatch h
 |m+1,e::r,irs,h=>by
  simp only[compA,Xb]at h;obtain⟨e',he,r',hr,_⟩:=h;intro x hx
  rcases X7.mp hx with rfl|hx
  ·exact QC he
  ·exact Qt hr x hx
section
variable {K:W.Frag}{α:List Addr}{hs:Hs}{H:Hp}{u:U}{v:V}
theorem RUs.length(r:RUs A α us vs):us.length=vs.length:=Wq r
def RUs.get{i:Nat}{u:U}(h:RUs A α us vs)(e:us[i]?=some u):∃v,vs[i]?=some v/\RU A α u v:=Jh h e
def RUs.append{ws:List U}{ys:List V}(h:RUs A α us vs)(h':RUs A α ws ys):RUs A α (us++ws) (vs++ys):=Qb7 h h'
def YQ{xs:List U}{K':W.Frag}(tx:Txt T A K mg)(R:Rep T A K α hs H)(h:ZF T u hs=some xs)(r:RU A α u v):∃a vs,v=.ref a/\RUs A α xs vs/\(SqL K H a vs\/SqT K H a vs):=by
 cases u with
 |ref n=>
  obtain⟨a,ha,rfl⟩:=r;simp only[ZF]at h;split at h
  ·rename_i ys e;cases h;obtain⟨vs,q,rr⟩:=R.h.ob n a _ ha e;exact⟨a,vs,rfl,rr,.inl (SqL.of q)⟩
  ·rename_i ys e;cases h;obtain⟨vs,q,rr⟩:=R.h.ob n a _ ha e;exact⟨a,vs,rfl,rr,.inr (SqT.of q)⟩
  ·cases h
 |con k=>
  simp only[ZF]at h;split at h
  ·rename_i ys e;cases h;obtain⟨vs,rr,q⟩:=tx.co k _ e
   exact⟨_,vs,r,RUs.mono (λn a e=>by simp at e) rr,.inl (q H)⟩
  ·rename_i ys e;cases h;obtain⟨vs,rr,q⟩:=tx.co k _ e
   exact⟨_,vs,r,RUs.mono (λn a e=>by simp at e) rr,.inr (q H)⟩
  ·cases h
 |scr=>
  simp only[ZF]at h;cases h;obtain⟨vs,rr,q⟩:=R.s.sq (α:=α);exact⟨_,vs,r,rr,.inl q⟩
 |_=>simp[ZF]at h
def Y3(x:List Nat):({cps:=x.toArray}:Str).length=x.length:=by simp[Str.length]
def big:(1000000:Nat)<=sizeLine:=by decide
def Qdz{b:Bool}(tx:Txt T A K mg)(R:Rep T A K α hs H)(h:YB T u hs=some b)(r:RU A α u v):Qm2 K v H b:=by
 have sq:∀{xs:List U},ZF T u hs=some xs->b=!xs.isEmpty->Qm2 K v H b:=λ{xs} e1 e2=>by
  obtain⟨a,vs,rfl,rr,q⟩:=YQ (K':=K) tx R e1 r
  have e3:b=!vs.isEmpty:=by
   rw[e2];cases rr<;>rfl
  rcases q with q|q
  ·exact .inl ⟨vs,q,e3⟩
  ·exact .inr (.inl ⟨vs,q,e3⟩)
 cases u with
 |non=>simp only[YB]at h;cases h;cases r;rfl
 |bl c=>simp only[YB]at h;cases h;cases r;rfl
 |int i m=>
  cases m with
  |zero=>
   simp only[YB]at h;cases h;obtain⟨j,rfl,c⟩:=r;cases c.exact;show decide (i≠0)=(i != 0);by_cases q:i=0<;>simp[q]
  |succ m=>simp[YB,ZF]at h
 |str x=>
  simp only[YB]at h;split at h
  ·rename_i l;cases h;cases(show v=.str ⟨x.toArray⟩from r)
   refine⟨by rw[Y3];exact Wd l big,?_⟩
   rw[Y3];cases x<;>simp;omega
  ·cases h
 |ref n=>
  simp only[YB,Xd]at h;obtain⟨xs,e1,e2⟩:=h;exact sq e1 e2.symm
 |con n=>
  simp only[YB,Xd]at h;obtain⟨xs,e1,e2⟩:=h;exact sq e1 e2.symm
 |scr=>
  simp only[YB,Xd]at h;obtain⟨xs,e1,e2⟩:=h;exact sq e1 e2.symm
end
end
section
variable {i i' j:Int}{m:Nat}
def Qh6{j':Int}{n:Nat}(a:Cg i' i m)(b:Cg j' j n):Cg (i'+j') (i+j) (gz m n):=by
 obtain⟨p,rfl⟩:=a;obtain⟨q,rfl⟩:=b
 cases m with
 |zero=>exact⟨q,by simp[gz];omega⟩
 |succ m=>
  obtain⟨x,hx⟩:=Nat.gcd_dvd_left (m+1) n;obtain⟨y,hy⟩:=Nat.gcd_dvd_right (m+1) n;refine⟨x*p+y*q,?_⟩
  have e1:((m+1:Nat):Int)=(Nat.gcd (m+1) n:Int)*(x:Int):=by
   have:=congrArg (λz:Nat=>(z:Int)) hx;simpa using this
  have e2:(n:Int)=(Nat.gcd (m+1) n:Int)*(y:Int):=by
   have:=congrArg (λz:Nat=>(z:Int)) hy;simpa using this
  show i+((m+1:Nat):Int)*p+(j+(n:Int)*q)=i+j+(Nat.gcd (m+1) n:Int)*(x*p+y*q);rw[Int.mul_add,<-Sk,<-Sk,<-e1,<-e2];omega
def Qh5(a:Cg i' i m):Cg (-i') (-i) m:=by
 obtain⟨p,rfl⟩:=a
 exact⟨-p,by rw[Int.mul_neg];omega⟩
def QmG{j':Int}{n:Nat}(a:Cg i' i m)(b:Cg j' j n):Cg (i'-j') (i-j) (gz m n):=by
 have:=Qh6 a (Qh5 b);rw[Int.sub_eq_add_neg,Int.sub_eq_add_neg];exact this
def QmH(a:Cg i' i m):Cg (i'*j) (i*j) (m*j.natAbs):=by
 obtain⟨p,rfl⟩:=a
 rcases Int.natAbs_eq j with e|e
 ·refine⟨p,?_⟩;rw[Int.add_mul,Sa,<-e,Int.mul_right_comm]
 ·refine⟨-p,?_⟩
  have e':(j.natAbs:Int)=-j:=by omega
  rw[Int.add_mul,Sa,e',Int.mul_neg,Int.mul_neg,Int.neg_mul,Int.neg_neg,Int.mul_right_comm]
def QmJ(a:Cg i' i m)(hj:0<j)(hd:m % j.toNat=0):Cg (i' / j) (i / j) (m / j.toNat):=by
 obtain⟨p,rfl⟩:=a
 have e:(m:Int)=j*((m / j.toNat:Nat):Int):=by
  have h:=Nat.div_add_mod m j.toNat;rw[hd,Nat.add_zero]at h;have h2:=congrArg (λz:Nat=>(z:Int)) h
  have h3:((j.toNat:Nat):Int)=j:=by omega
  simp only[Sa,h3]at h2;exact h2.symm
 refine⟨p,?_⟩
 rw[e,Sk,Int.add_mul_ediv_left _ _ (by omega)]
def QmI(a:Cg i' i m)(hj:0<j)(hd:m % j.toNat=0):i' % j=i % j:=by
 obtain⟨p,rfl⟩:=a
 have e:(m:Int)=j*((m / j.toNat:Nat):Int):=by
  have h:=Nat.div_add_mod m j.toNat;rw[hd,Nat.add_zero]at h;have h2:=congrArg (λz:Nat=>(z:Int)) h
  have h3:((j.toNat:Nat):Int)=j:=by omega
  simp only[Sa,h3]at h2;exact h2.symm
 rw[e,Sk,Int.add_mul_emod_self_left]
def QW(h:Qk i=true):-(2 ^ 64) < i/\i<2 ^ 64:=by
 unfold Qk at h;rw[Xj,Xq,Xq]at h;exact h
def OpS(X:Cx)(T:Tbl)(A:Adr)(o:Operator):Prop:=∃r,OpR X (binaryOp o) r/\∀{α:List Addr} {u w u':U} {hs hs':Hs} {v y:V} {H:Hp} {Q:VK},opU o u w hs=some (u',hs')->RU A α u v->RU A α w y->Rep T A X.K α hs H ->
 (∀α' v' H',Ext α α' H H'->Rep T A X.K α' hs' H'->RU A α' u' v'->Q v' H')->r v y H Q
section
variable {X:Cx}{T:Tbl}{A:Adr}
def Qgm{o:Operator}(h:∀u w hs,opU o u w hs=none):OpS X T A o:=⟨λz z z z=>False,λz z z z z z z z z z z z h=>h.elim,λe=>by rw[h]at e;cases e⟩
def Qd9{o:Operator}{f:U->U->Option U}{r:R2}(ho:OpR X (binaryOp o) r)(hf:∀u w hs,opU o u w hs=(f u w).map λz=>(z,hs))
  (h:∀{α:List Addr} {u w z:U} {v y:V} {H:Hp} {Q:VK},f u w=some z->RU A α u v->RU A α w y->(∀v',RU A α z v'->Q v' H)->r v y H Q):OpS X T A o:=by
 refine⟨r,ho,?_⟩;intro α u w u' hs hs' v y H Q e ru rw R k;rw[hf,Xd]at e;obtain⟨z,e,q⟩:=e;cases q;exact h e ru rw λv' r'=>k α v' H Ext.refl R r'
def Zc{α:List Addr}{v:V}(r:RU A α (.int i 0) v):v=.int i:=by
 obtain⟨j,rfl,c⟩:=r;cases c.exact;rfl
def Qje:OpS X T A .Sub:=Qd9 QlU (λx x x=>rfl) λ{α u w z v y H Q} h ru rw k=>by
 unfold QnS at h;split at h
 ·cases h;obtain⟨i',rfl,a⟩:=ru;obtain⟨j',rfl,b⟩:=rw;exact⟨i',j',rfl,rfl,k _ ⟨_,rfl,QmG a b⟩⟩
 ·cases h
def Qjd:OpR X (binaryOp .Mult) (rI IntMulOk λi j=>.int (i*j)):=opI λz z z z z z z hc q=>mul_int q hc
def Qfw(h:Qfx i=true):Builtin.Int.intBits i<=4096:=by
 have h:=V0 h;unfold Builtin.Int.intBits;split
 ·omega
 ·rename_i z
  have n0:i.natAbs≠0:=by simpa using z
  exact Nat.succ_le_of_lt ((Nat.log2_lt n0).mpr h)
def Qmd(h:(Qk i||Qk j||(Qfx i&&Qfx j))=true):IntMulOk i j:=by
 rw[Uq,Uq,Xj]at h
 rcases h with(h|h)|h
 ·exact CMul.ok (.inl (QW h))
 ·exact CMul.ok (.inr (QW h))
 ·have h1:=Qfw h.1;have h2:=Qfw h.2;unfold IntMulOk
  have:Builtin.Int.intTooBig (Builtin.Int.intBits i+Builtin.Int.intBits j)=false:=by
   unfold Builtin.Int.intTooBig;rw[bitsLine_eq]
   exact Wf (by omega)
  rw[this];simp
def Qjg:OpS X T A .Mult:=by
 refine⟨_,Qjd,?_⟩;intro α u w u' hs hs' v y H Q e ru rw R k;have e:(Qme u w).map (λr=>(r,hs))=some (u',hs'):=e;rw[Xd]at e;obtain⟨z,h,q⟩:=e;cases q;have k:∀v',RU A α u' v'->Q v' H:=λv' r'=>k α v' H Ext.refl R r';unfold Qme at h;split at h
 ·split at h
  ·rename_i c;cases h;cases Zc ru;cases Zc rw;exact⟨_,_,rfl,rfl,Qmd c,k _ ⟨_,rfl,Cg.refl _ _⟩⟩
  ·cases h
 ·split at h
  ·rename_i c;cases h;obtain⟨i',rfl,a⟩:=ru;cases Zc rw;exact⟨i',_,rfl,rfl,CMul.ok (.inr (QW c)),k _ ⟨_,rfl,QmH a⟩⟩
  ·cases h
 ·cases h
def QpB(i j:Int):Prop:=0<j/\j<1606938044258990275541962092341162602522202993782792835301376
def Qgl{X:Cx}:OpR X (binaryOp .FloorDiv) (rI QpB λi j=>.int (i / j)):=opI λi j y y y y y hc q=>by
 have h1:(0:Int) < j:=hc.1;have h2:j<1606938044258990275541962092341162602522202993782792835301376:=hc.2
 have h3:j.natAbs.log2<9000:=by
  have h4:j.natAbs<2 ^ 9000:=Xr (show j.natAbs<2 ^ 200 by omega) (Nat.pow_le_pow_right (by decide) (by decide))
  rcases Nat.eq_zero_or_pos j.natAbs with z|z
  ·rw[z];decide
  ·exact(Nat.log2_lt (by omega)).mpr h4
 exact floordiv_int (by omega) (by rw[Int.fdiv_eq_ediv_of_nonneg i (by omega)];exact q) (.inl (PyProof.noPylong_of_log2 h3))
def Qgn:OpS X T A .FloorDiv:=Qd9 Qgl (λx x x=>rfl) λ{α u w z v y H Q} h ru rw k=>by
 unfold QmD at h;split at h
 ·split at h
  ·rename_i c;cases h;cases Zc ru;cases Zc rw;simp only[Xj,Xq]at c;exact⟨_,_,rfl,rfl,c,k _ ⟨_,rfl,Cg.refl _ _⟩⟩
  ·cases h
 ·split at h
  ·rename_i c;cases h;obtain⟨i',rfl,a⟩:=ru;cases Zc rw;simp only[Xj,Xq]at c;exact⟨i',_,rfl,rfl,c.1,k _ ⟨_,rfl,QmJ a c.1.1 c.2⟩⟩
  ·cases h
 ·cases h
def Qjh:OpS X T A .Mod:=Qd9 QlY (λx x x=>rfl) λ{α u w z v y H Q} h ru rw k=>by
 unfold Qmf at h;split at h
 ·split at h
  ·rename_i c;cases h;cases Zc ru;cases Zc rw;exact⟨_,_,rfl,rfl,c,k _ ⟨_,rfl,Cg.refl _ _⟩⟩
  ·cases h
 ·split at h
  ·rename_i c;cases h;obtain⟨i',rfl,a⟩:=ru;cases Zc rw;simp only[Xj,Xq]at c
   exact⟨i',_,rfl,rfl,c.1,k _ ⟨_,rfl,by rw[QmI a c.1 c.2];exact Cg.refl _ _⟩⟩
  ·cases h
 ·cases h
def Qjf:OpS X T A .Pow:=⟨λz z z z=>False,λpins s Y H x y v u Q I rx ry h=>h.elim,λ{α u w u' hs hs' v y H Q} e=>Znn e⟩
def Qji:OpS X T A .Add:=by
 refine⟨_,OpR.or Ql6 Ql5,?_⟩;intro α u w u' hs hs' v y H Q h ru rw R k;have h:Qkd u w hs=some (u',hs'):=h;unfold Qkd at h;split at h
 ·cases h;obtain⟨i',rfl,a⟩:=ru;obtain⟨j',rfl,b⟩:=rw;exact .inl ⟨i',j',rfl,rfl,k α _ H Ext.refl R ⟨_,rfl,Qh6 a b⟩⟩
 ·rename_i a b;obtain⟨pa,ha,rfl⟩:=ru;obtain⟨pb,hb,rfl⟩:=rw;split at h
  ·rename_i ox oy e1 e2;have o1:=R.h.ob _ pa _ ha e1;have o2:=R.h.ob _ pb _ hb e2;unfold Qpf at h;split at h
   ·rename_i xs ys;split at h
    ·rename_i c;cases h;obtain⟨vs,q1,r1⟩:=o1;obtain⟨ws,q2,r2⟩:=o2;refine .inr ⟨pa,pb,vs,ws,rfl,rfl,q1,q2,?_,λp hp=>?_⟩
     ·rw[<-r1.length,<-r2.length];exact Wd c big
     ·obtain⟨R',E'⟩:=R.new (o:=.lst (xs++ys)) hp ⟨_,Qh,RUs.mono Qq (r1.append r2)⟩
      exact k _ _ _ E' R' ⟨p,by rw[<-R.h.len];exact QD,rfl⟩
    ·cases h
   ·cases h
  ·cases h
 ·cases h
def opS(o:Operator):OpS X T A o:=by
 cases o with
 |Add=>exact Qji
 |Sub=>exact Qje
 |Mult=>exact Qjg
 |FloorDiv=>exact Qgn
 |Mod=>exact Qjh
 |Pow=>exact Qjf
 |_=>exact Qgm λu w hs=>rfl
end
end
section
variable {xs:List U}
section
variable {X:Cx}{T:Tbl}{A:Adr}{α:List Addr}{hs:Hs}{H:Hp}{u w:U}{v y:V}
def QG(tx:Txt T A X.K X.mg)(R:Rep T A X.K α hs H)(h:QB T u hs=some xs)(r:RU A α u v):∃a vs,v=.ref a/\RUs A α xs vs/\SqL X.K H a vs:=by
 cases u with
 |ref n=>
  obtain⟨a,ha,rfl⟩:=r;simp only[QB]at h;split at h
  ·rename_i ys e;cases h;obtain⟨vs,q,rr⟩:=R.h.ob n a _ ha e;exact⟨a,vs,rfl,rr,SqL.of q⟩
  ·cases h
 |con k=>
  simp only[QB]at h;split at h
  ·rename_i ys e;cases h;obtain⟨vs,rr,q⟩:=tx.co k _ e
   exact⟨_,vs,r,RUs.mono (λn a e=>by simp at e) rr,q H⟩
  ·cases h
 |scr=>
  simp only[QB]at h;cases h;obtain⟨vs,rr,q⟩:=R.s.sq (α:=α);exact⟨_,vs,r,rr,q⟩
 |_=>simp[QB]at h
def JE(tx:Txt T A X.K X.mg)(R:Rep T A X.K α hs H)(h:YA T u hs=some xs)(r:RU A α u v):∃a vs,v=.ref a/\RUs A α xs vs/\SqT X.K H a vs:=by
 cases u with
 |ref n=>
  obtain⟨a,ha,rfl⟩:=r;simp only[YA]at h;split at h
  ·rename_i ys e;cases h;obtain⟨vs,q,rr⟩:=R.h.ob n a _ ha e;exact⟨a,vs,rfl,rr,SqT.of q⟩
  ·cases h
 |con k=>
  simp only[YA]at h;split at h
  ·rename_i ys e;cases h;obtain⟨vs,rr,q⟩:=tx.co k _ e
   exact⟨_,vs,r,RUs.mono (λn a e=>by simp at e) rr,q H⟩
  ·cases h
 |_=>simp[YA]at h
noncomputable def scP:U->PyData
 |.bl b=>.bool b
 |.int i _=>.int i
 |.str x=>.str ⟨x.toArray⟩
 |_=>.none
noncomputable def toP(T:Tbl):Nat->U->Hs->PyData
 |0,_,_=>.none
 |n+1,u,hs=>match QB T u hs with
  |some xs=>.list (xs.map λx=>toP T n x hs)
  |none=>match YA T u hs with
   |some xs=>.tuple (xs.map λx=>toP T n x hs)
   |none=>scP u
def Qaw{h:Heap}{f:U->PyData}{vs:List V}{its:List Value}(r:RUs A α xs vs)(q:Vals vs its)(k:∀x∈xs,∀v u,RU A α x v->RelV v u->∃as,Reads h u (f x) as):∃as,ReadsAll h its (xs.map f) as:=by
 induction r generalizing its with
 |nil=>cases q;exact⟨[],.nil⟩
 |cons r _ ih=>
  cases q with
  |cons q p=>
   obtain⟨as,h1⟩:=k _ Xn _ _ r q;obtain⟨bs,h2⟩:=ih p λx m=>k x (Xl _ m);exact⟨as++bs,.cons h1 h2⟩
theorem ZS{pins:List (Addr×Obj)}{s:Shared}{Y:L2.St}(tx:Txt T A X.K X.mg)(I:Inv X pins Y H s)(R:Rep T A X.K α hs H):∀(n:Nat) {u:U} {v:V} {z:Value},okW T n u hs=true->RU A α u v->RelV v z->∃as,Reads s.heap z (toP T n u hs) as
 |0,_,_,_,h,_,_=>by cases h
 |n+1,u,v,z,h,r,q=>by
  have ih:=λ{u:U} {v:V} {z:Value}=>ZS tx I R n (u:=u) (v:=v) (z:=z);simp only[okW,toP]at h ⊢
  cases el:QB T u hs with
  |some xs=>
   rw[el]at h;have h:=Wj.mp h;obtain⟨a,vs,rfl,rr,sq⟩:=QG tx R el r;cases q;obtain⟨its,rv,pl,_⟩:=I.list sq;obtain⟨o,ho,hc,m,hd⟩:=pl.isList;obtain⟨as,ra⟩:=Qaw (h:=s.heap) (f:=λx=>toP T n x hs) rr rv λx m v u h1 h2=>ih (h x m) h1 h2;exact⟨_,.list ho hc hd ra⟩
  |none=>
   rw[el]at h
   cases et:YA T u hs with
   |some xs=>
    rw[et]at h;have h:=Wj.mp h;obtain⟨a,vs,rfl,rr,sq⟩:=JE tx R et r;cases q;obtain⟨its,rv,pl,_⟩:=I.tuple sq;obtain⟨o,ho,hc,m,hd⟩:=pl;obtain⟨as,ra⟩:=Qaw (h:=s.heap) (f:=λx=>toP T n x hs) rr rv λx m v u h1 h2=>ih (h x m) h1 h2;exact⟨_,.tuple ho hc hd ra⟩
   |none=>
    rw[et]at h
    cases u with
    |non=>cases(show v=_ from r);cases q;exact⟨[],.none⟩
    |bl b=>cases(show v=_ from r);cases q;exact⟨[],.bool b⟩
    |int i m=>
     have h:(m==0)=true:=h;have h:=eq_of_beq h;subst h;cases Zc r;obtain⟨t,rfl⟩:=q;exact⟨[],.int i t⟩
    |str x=>cases(show v=_ from r);obtain⟨t,rfl⟩:=q;exact⟨[],.str _ t⟩
    |_=>cases h
theorem Qbw{f:U->PyData}{n:Nat}:∀{xs:List U},(∀x∈xs,(f x).canLay0=true/\(f x).depth<=n)->PyData.canLayAll0 (xs.map f)=true/\PyData.depthAll (xs.map f)<=n
 |[],_=>⟨rfl,W6 _⟩
 |x::r,h=>by
  obtain⟨h1,h2⟩:=h x Xn;obtain⟨h3,h4⟩:=Qbw (xs:=r) λy m=>h y (Xl _ m);refine⟨?_,?_⟩
  ·show((f x).canLay0&&PyData.canLayAll0 (r.map f))=true;rw[h1,h3];rfl
  ·show max (f x).depth (PyData.depthAll (r.map f))<=n;omega
theorem QaG:∀(n:Nat) {u:U},okW T n u hs=true->(toP T n u hs).canLay0=true/\(toP T n u hs).depth<=n
 |0,_,h=>by cases h
 |n+1,u,h=>by
  have ih:=λ(u:U)=>QaG n (u:=u);simp only[okW,toP]at h ⊢
  cases el:QB T u hs with
  |some xs=>
   rw[el]at h;obtain⟨h1,h2⟩:=Qbw (f:=λx=>toP T n x hs) (n:=n) λx m=>ih x (Wj.mp h x m);exact⟨h1,Nat.succ_le_succ h2⟩
  |none=>
   rw[el]at h
   cases et:YA T u hs with
   |some xs=>
    rw[et]at h;obtain⟨h1,h2⟩:=Qbw (f:=λx=>toP T n x hs) (n:=n) λx m=>ih x (Wj.mp h x m);exact⟨h1,Nat.succ_le_succ h2⟩
   |none=>
    rw[et]at h
    cases u with
    |str x=>
     refine⟨?_,W6 _⟩;show PyData.strOk ⟨x.toArray⟩=true;unfold PyData.strOk;have h:=Wj.mp h;rw[Array.all_eq_true'];intro c hc
     have:=V0 (h c (by simpa using hc))
     exact Wz (by omega)
    |non=>exact⟨rfl,W6 _⟩
    |bl b=>exact⟨rfl,W6 _⟩
    |int i m=>exact⟨rfl,W6 _⟩
    |_=>cases h
theorem QbG{f:U->PyData}{g:U->U->Bool}:∀{xs ys:List U},(∀x∈xs,∀y∈ys,PyData.eqv (f x) (f y)=g x y)->PyData.eqvAll (xs.map f) (ys.map f)=((xs.length==ys.length)&&(xs.zip ys).all λp=>g p.1 p.2)
 |[],[],_=>rfl
 |[],_::_,_=>rfl
 |_::_,[],_=>rfl
 |x::r,y::t,h=>by
  have h1:=h x Xn y Xn;have h2:=QbG (xs:=r) (ys:=t) λa ma b mb=>h a (Xl _ ma) b (Xl _ mb);show(PyData.eqv (f x) (f y)&&PyData.eqvAll (r.map f) (t.map f))=_;rw[h1,h2];simp only[Wa,Vu,Vb]
  have e:(r.length+1==t.length+1)=(r.length==t.length):=by simp
  rw[e];cases g x y<;>cases(r.length==t.length)<;>simp
def Qiu{x y:List Nat}:((⟨x.toArray⟩:Str)==⟨y.toArray⟩)=(x==y):=by
 by_cases h:x=y
 ·subst h;simp
 ·have:(⟨x.toArray⟩:Str)≠⟨y.toArray⟩:=λz=>h (by
   have:=congrArg (λs:Str=>s.cps.toList) z
   simpa using this)
  rw[V2.mpr this,V2.mpr h]
theorem QeY:∀(n:Nat) {u w:U},okW T n u hs=true->okW T n w hs=true->PyData.eqv (toP T n u hs) (toP T n w hs)=eqW T n u w hs
 |0,_,_,h,_=>by cases h
 |n+1,u,w,h,h'=>by
  have ih:=λ(u w:U)=>QeY n (u:=u) (w:=w);simp only[okW,toP,eqW]at h h' ⊢
  cases el:QB T u hs with
  |some xs=>
   rw[el]at h
   cases el':QB T w hs with
   |some ys=>
    rw[el']at h';exact QbG (g:=λa b=>eqW T n a b hs) λx mx y my=>ih x y (Wj.mp h x mx) (Wj.mp h' y my)
   |none=>
    rw[el']at h'
    cases et':YA T w hs with
    |some ys=>rfl
    |none=>rw[et']at h';cases w<;>first|rfl|(cases h';done)
  |none=>
   rw[el]at h
   cases et:YA T u hs with
   |some xs=>
    rw[et]at h
    cases el':QB T w hs with
    |some ys=>rfl
    |none=>
     rw[el']at h'
     cases et':YA T w hs with
     |some ys=>
      rw[et']at h';exact QbG (g:=λa b=>eqW T n a b hs) λx mx y my=>ih x y (Wj.mp h x mx) (Wj.mp h' y my)
     |none=>rw[et']at h';cases w<;>first|rfl|(cases h';done)
   |none=>
    rw[et]at h
    cases el':QB T w hs with
    |some ys=>cases u<;>first|rfl|(cases h;done)
    |none=>
     rw[el']at h'
     cases et':YA T w hs with
     |some ys=>cases u<;>first|rfl|(cases h;done)
     |none=>
      rw[et']at h'
      cases u<;>first|(cases h;done)|(cases w<;>first|(cases h';done)|rfl|exact Qiu)
def Qp4(T:Tbl)(A:Adr)(K:W.Frag)(neg:Bool):R2:=λx y H Q=>∃α u w hs,RU A α u x/\RU A α w y/\Rep T A K α hs H/\okW T 20 u hs=true/\okW T 20 w hs=true/\Q (.bl (if neg then !(eqW T 20 u w hs)else eqW T 20 u w hs)) H
def ZR{d:PyData}{n:Nat}(h:d.canLay0=true/\d.depth<=n)(hn:n<=64):SeqAt.shaped d=true:=by
 unfold SeqAt.shaped;rw[h.1,Bool.true_and];exact Wz (Wd h.2 hn)
def Ql4(tx:Txt T A X.K X.mg)(hu:X.A.units+64<cLine):OpR X (compareOp .Eq) (Qp4 T A X.K false):=by
 intro pins s Y H x y v u Q I rx ry h;obtain⟨α,u1,w1,hs,r1,r2,R,o1,o2,q⟩:=h;obtain⟨as,ra⟩:=ZS tx I R 20 o1 r1 rx;obtain⟨bs,rb⟩:=ZS tx I R 20 o2 r2 ry
 refine eq_dataH ra rb (ZR (QaG 20 o1) (by decide)) (ZR (QaG 20 o2) (by decide)) hu ?_
 rw[QeY 20 o1 o2];exact⟨.bl _,H,I,rfl,q⟩
def Qp0(T:Tbl)(A:Adr)(K:W.Frag)(b:Bool):R2:=λx y H Q=>∃α u w hs,RU A α u x/\RU A α w y/\Rep T A K α hs H/\Jc T u w hs=true/\Q (.bl b) H
def Qcg{pins:List (Addr×Obj)}{s:Shared}{Y:L2.St}{H:Hp}{α:List Addr}{hs:Hs}{u w:U}{x y:V}{v z:Value}(tx:Txt T A X.K X.mg)(I:Inv X pins Y H s)(R:Rep T A X.K α hs H)(h:Jc T u w hs=true)(r1:RU A α u x)(r2:RU A α w y)(rx:RelV x v)(ry:RelV y z):
  ∃(a b:Addr) (i1 i2:List Value),v=.ref a/\z=.ref b/\s.heap.IsList a i1.toArray/\s.heap.IsList b i2.toArray/\(i1.toArray.size != i2.toArray.size)=true:=by
 unfold Jc at h;split at h
 ·rename_i xs ys e1 e2;obtain⟨a,vs,rfl,rr,sq⟩:=QG tx R e1 r1;obtain⟨b,ws,rfl,rr',sq'⟩:=QG tx R e2 r2;obtain⟨i1,q1,p1,_⟩:=I.list sq;obtain⟨i2,q2,p2,_⟩:=I.list sq';cases rx;cases ry;have l1:=rr.length;have l2:=rr'.length;have l3:=q1.length;have l4:=q2.length;have h:=V0 h;refine⟨a,b,i1,i2,rfl,rfl,p1.isList,p2.isList,?_⟩;simp only[Xw,bne_iff_ne,ne_eq];omega
 ·cases h
def Ql3(tx:Txt T A X.K X.mg)(hu:X.A.units+64<cLine):OpR X (compareOp .Eq) (Qp0 T A X.K false):=by
 intro pins s Y H x y v u Q I rx ry h;obtain⟨α,u1,w1,hs,r1,r2,R,o1,q⟩:=h;obtain⟨a,b,i1,i2,rfl,rfl,p1,p2,z⟩:=Qcg tx I R o1 r1 r2 rx ry
 exact SeqAt.RcAt.lists_lengths p1 p2 z (by omega) _ _ _ _ ⟨.bl _,H,I,rfl,q⟩
def QlW(tx:Txt T A X.K X.mg)(hu:X.A.units+64<cLine):OpR X (compareOp .NotEq) (Qp0 T A X.K true):=by
 intro pins s Y H x y v u Q I rx ry h;obtain⟨α,u1,w1,hs,r1,r2,R,o1,q⟩:=h;obtain⟨a,b,i1,i2,rfl,rfl,p1,p2,z⟩:=Qcg tx I R o1 r1 r2 rx ry
 exact SeqAt.RcNeAt.lists_lengths p1 p2 z (by omega) _ _ _ _ ⟨.bl _,H,I,rfl,q⟩
def Qlw(T:Tbl)(A:Adr)(K:W.Frag)(b:Bool):R2:=λx y H Q=>∃α u w hs,RU A α u x/\RU A α w y/\Rep T A K α hs H/\Qbe T u w hs=true/\Q (.bl b) H
def ZO{α:List Addr}{vs ws:List V}{i1 i2:List Value}(h:(xs.all λx=>match x with|.ref _=>true|_=>false)=true)(r1:RUs A α xs vs)(r2:RUs A α xs ws)(q1:Vals vs i1)(q2:Vals ws i2):i1=i2:=by
 induction xs generalizing vs ws i1 i2 with
 |nil=>cases r1;cases r2;cases q1;cases q2;rfl
 |cons x xs ih=>
  rw[Vb,Xj]at h
  cases r1 with
  |cons a r1=>
   cases r2 with
   |cons b r2=>
    cases q1 with
    |cons c q1=>
     cases q2 with
     |cons d q2=>
      rw[ih h.2 r1 r2 q1 q2]
      cases x with
      |ref n=>
       obtain⟨p,hp,rfl⟩:=a;obtain⟨p',hp',rfl⟩:=b;rw[hp]at hp';cases hp';cases c;cases d;rfl
      |_=>exact absurd h.1 (by simp)
def Qb0{pins:List (Addr×Obj)}{s:Shared}{Y:L2.St}{H:Hp}{α:List Addr}{hs:Hs}{u w:U}{x y:V}{v z:Value}(tx:Txt T A X.K X.mg)(I:Inv X pins Y H s)(R:Rep T A X.K α hs H)(h:Qbe T u w hs=true)(r1:RU A α u x)(r2:RU A α w y)(rx:RelV x v)(ry:RelV y z):
  ∃(a b:Addr) (i1:List Value),v=.ref a/\z=.ref b/\s.heap.IsList a i1.toArray/\s.heap.IsList b i1.toArray:=by
 unfold Qbe at h;split at h
 ·rename_i xs ys e1 e2;rw[Xj]at h;obtain⟨h0,h⟩:=h;have h0:=V0 h0;subst h0;obtain⟨a,vs,rfl,rr,sq⟩:=QG tx R e1 r1;obtain⟨b,ws,rfl,rr',sq'⟩:=QG tx R e2 r2;obtain⟨i1,q1,p1,_⟩:=I.list sq;obtain⟨i2,q2,p2,_⟩:=I.list sq';cases rx;cases ry;cases ZO h rr rr' q1 q2;exact⟨a,b,i1,rfl,rfl,p1.isList,p2.isList⟩
 ·cases h
def Ql2(tx:Txt T A X.K X.mg)(hu:X.A.units+64<cLine):OpR X (compareOp .Eq) (Qlw T A X.K true):=by
 intro pins s Y H x y v u Q I rx ry h;obtain⟨α,u1,w1,hs,r1,r2,R,o1,q⟩:=h;obtain⟨a,b,i1,rfl,rfl,p1,p2⟩:=Qb0 tx I R o1 r1 r2 rx ry
 have rc:=SeqAt.RcAt.lists (A:=X.A) (e:=λz=>true) p1 p2 rfl (by omega) λj h1 h2=>SeqAt.EqAt.same _
 have al:(List.range i1.toArray.size).all (λz=>true)=true:=by simp
 rw[al]at rc;exact rc _ _ _ _ ⟨.bl _,H,I,rfl,q⟩
def QlV(tx:Txt T A X.K X.mg)(hu:X.A.units+64<cLine):OpR X (compareOp .NotEq) (Qlw T A X.K false):=by
 intro pins s Y H x y v u Q I rx ry h;obtain⟨α,u1,w1,hs,r1,r2,R,o1,q⟩:=h;obtain⟨a,b,i1,rfl,rfl,p1,p2⟩:=Qb0 tx I R o1 r1 r2 rx ry
 have rc:=SeqAt.RcNeAt.lists (A:=X.A) (e:=λz=>true) p1 p2 rfl (by omega) λj h1 h2=>SeqAt.EqAt.same _
 have al:(!(List.range i1.toArray.size).all (λz=>true))=false:=by simp
 rw[al]at rc;exact rc _ _ _ _ ⟨.bl _,H,I,rfl,q⟩
def QlX(tx:Txt T A X.K X.mg)(hu:X.A.units+64<cLine):OpR X (compareOp .NotEq) (Qp4 T A X.K true):=by
 intro pins s Y H x y v u Q I rx ry h;obtain⟨α,u1,w1,hs,r1,r2,R,o1,o2,q⟩:=h;obtain⟨as,ra⟩:=ZS tx I R 20 o1 r1 rx;obtain⟨bs,rb⟩:=ZS tx I R 20 o2 r2 ry
 refine ne_dataH ra rb (ZR (QaG 20 o1) (by decide)) (ZR (QaG 20 o2) (by decide)) hu ?_
 rw[QeY 20 o1 o2];exact⟨.bl _,H,I,rfl,q⟩
end
end
section
variable {u:U}{v:V}
section
variable {κ κ':Type}[DecidableEq κ][DecidableEq κ']{P:κ->κ'->Prop}{A:Adr}{α:List Addr}{w:κ}{k:κ'}
abbrev RG(P:κ->κ'->Prop)(A:Adr)(α:List Addr):List (κ×U)->List (κ'×V)->Prop:=Paired λp q=>P p.1 q.1/\RU A α p.2 q.2
def Inj(P:κ->κ'->Prop):Prop:=∀a b k l,P a k->P b l->(a=b↔k=l)
def RG.look(inj:Inj P)(hk:P w k){kvs:List (κ×U)}{kv:List (κ'×V)}(h:RG P A α kvs kv):(Qz kvs w=none/\ZP kv k=none)\/∃u v,Qz kvs w=some u/\ZP kv k=some v/\RU A α u v:=by
 induction h with
 |nil=>exact .inl ⟨rfl,rfl⟩
 | @cons p q _ _ r t ih=>
  by_cases h:p.1=w
  ·have h':q.1=k:=(inj _ _ _ _ r.1 hk).mp h
   exact .inr ⟨p.2,q.2,by simp[Qz,Vi,h],by simp[ZP,Vi,h'],r.2⟩
  ·have h':¬q.1=k:=λz=>h ((inj _ _ _ _ r.1 hk).mpr z)
   have e1:∀l,Qz (p::l) w=Qz l w:=λl=>by simp[Qz,Vi,h]
   have e2:∀l,ZP (q::l) k=ZP l k:=λl=>by simp[ZP,Vi,h']
   rw[e1,e2];exact ih
theorem RG.any(inj:Inj P)(hk:P w k){kvs:List (κ×U)}{kv:List (κ'×V)}(h:RG P A α kvs kv):(kvs.any λp=>decide (p.1=w))=(kv.any λp=>decide (p.1=k)):=by
 induction h with
 |nil=>rfl
 |cons r t ih=>rw[U5,U5,ih,decide_eq_decide.mpr (inj _ _ _ _ r.1 hk)]
def RG.repl(inj:Inj P)(hk:P w k)(ru:RU A α u v){kvs:List (κ×U)}{kv:List (κ'×V)}(h:RG P A α kvs kv):RG P A α (kvs.map λp=>if p.1=w then(p.1,u)else p) (kv.map λp=>if p.1=k then(p.1,v)else p):=by
 induction h with
 |nil=>exact .nil
 | @cons p q _ _ r t ih=>
  refine .cons ?_ ih;by_cases h:p.1=w
  ·have h':=(inj _ _ _ _ r.1 hk).mp h;simp only[h,h',Wm];exact⟨hk,ru⟩
  ·have h':¬q.1=k:=λz=>h ((inj _ _ _ _ r.1 hk).mpr z);simp only[h,h',Ww];exact r
def RG.put(inj:Inj P)(hk:P w k)(ru:RU A α u v){kvs:List (κ×U)}{kv:List (κ'×V)}(r:RG P A α kvs kv):RG P A α (ZA kvs w u) (ZT kv k v):=by
 unfold ZA ZT;rw[RG.any inj hk r];split
 ·exact RG.repl inj hk ru r
 ·exact Paired.snoc r ⟨hk,ru⟩
def RG.merge(inj:Inj P){more:List (κ×U)}{mv:List (κ'×V)}(m:RG P A α more mv):∀{kvs:List (κ×U)} {kv:List (κ'×V)},RG P A α kvs kv->RG P A α (more.foldl (λacc p=>ZA acc p.1 p.2) kvs) (mv.foldl (λacc p=>ZT acc p.1 p.2) kv):=by
 induction m with
 |nil=>intro _ _ r;exact r
 |cons q _ ih=>intro _ _ r;exact ih (RG.put inj q.1 q.2 r)
end
def Jt:Inj RK:=λa b k l h h'=>by
 cases a<;>cases b<;>simp only[RK]at h h'<;>first|exact h.elim|exact h'.elim|skip
 ·obtain⟨rfl,rfl⟩:=h;obtain⟨rfl,rfl⟩:=h';simp
 ·obtain⟨rfl,rfl⟩:=h;subst h';simp
 ·subst h;obtain⟨rfl,rfl⟩:=h';simp
 ·subst h h';simp
def JW:Inj RKs:=λa b k l h=>by
 induction h generalizing b l with
 |nil=>
  intro h'
  cases h' with
  |nil=>simp
  |cons=>simp
 |cons p t ih=>
  intro h'
  cases h' with
  |nil=>simp
  |cons q t'=>
   have i1:=Jt _ _ _ _ p q;have i2:=ih _ _ t';simp only[T7,i1,i2]
section
variable {X:Cx}{T:Tbl}{A:Adr}{K:W.Frag}{α:List Addr}{hs:Hs}{H:Hp}{n:Nat}{a:Addr}{o:O}{w:U}{y:V}
def Qcj(hk:Qa6 w=true)(r:RU A α w y):∃k,RK w k/\y=kV k:=by
 cases w with
 |int i m=>
  cases m with
  |zero=>obtain⟨j,rfl,c⟩:=r;cases c.exact;exact⟨Sum.inl i,⟨rfl,rfl⟩,rfl⟩
  |succ m=>cases hk
 |str x=>cases(show y=_ from r);exact⟨Sum.inr _,rfl,rfl⟩
 |_=>cases hk
def Qjr{ks:List U}{vs:List V}(h:ks.all Qa6=true)(r:RUs A α ks vs):∃k,RKs ks k/\vs=k.map kV:=by
 induction r with
 |nil=>exact⟨[],.nil,rfl⟩
 |cons r _ ih=>
  rw[Vb,Xj]at h;obtain⟨k,h1,rfl⟩:=Qcj h.1 r;obtain⟨ks,h2,rfl⟩:=ih h.2;exact⟨k::ks,.cons h1 h2,rfl⟩
def QfX{t:List U}(R:Rep T A K α hs H)(h:tkU w hs=some t)(r:RU A α w y):∃b k,y=.ref b/\RKs t k/\H b=some (.tup (k.map kV)):=by
 cases w with
 |ref m=>
  obtain⟨b,hb,rfl⟩:=r;simp only[tkU]at h;split at h
  ·rename_i ks e;split at h
   ·rename_i c;cases h;obtain⟨vs,e1,rr⟩:=R.h.ob m b _ hb e;obtain⟨k,rk,rfl⟩:=Qjr c rr;exact⟨b,k,rfl,rk,e1⟩
   ·cases h
  ·cases h
 |_=>cases h
def QbJ{r:Option U}(R:Rep T A K α hs H)(ho:hs[n]?=some o)(ha:α[n]?=some a)(h:ZI o w hs=some r)(rw':RU A α w y):(r=none/\DGet H a y none)\/∃u v,r=some u/\DGet H a y (some v)/\RU A α u v:=by
 cases o with
 |dic kvs=>
  obtain⟨kv,e,rd⟩:=R.h.ob n a _ ha ho;simp only[ZI]at h;split at h
  ·rename_i c;cases h;obtain⟨k,rk,rfl⟩:=Qcj c rw';have g:=DGet.k (k:=k) e
   rcases RG.look Jt rk rd with⟨h1,h2⟩|⟨u,v,h1,h2,h3⟩
   ·rw[h2]at g;exact .inl ⟨h1,g⟩
   ·rw[h2]at g;exact .inr ⟨u,v,h1,g,h3⟩
  ·cases h
 |fzd kvs=>
  obtain⟨kv,ob,e,rd⟩:=R.h.ob n a _ ha ho;simp only[ZI]at h;split at h
  ·rename_i c;cases h;obtain⟨k,rk,rfl⟩:=Qcj c rw';have g:DGet H a (kV k) (ZP kv k):=.inl ⟨kv,k,.inr ⟨ob,e⟩,rfl,rfl⟩
   rcases RG.look Jt rk rd with⟨h1,h2⟩|⟨u,v,h1,h2,h3⟩
   ·rw[h2]at g;exact .inl ⟨h1,g⟩
   ·rw[h2]at g;exact .inr ⟨u,v,h1,g,h3⟩
  ·cases h
 |dct kvs=>
  obtain⟨kv,e,rd⟩:=R.h.ob n a _ ha ho;simp only[ZI,Xd]at h;obtain⟨t,ht,rfl⟩:=h;obtain⟨b,k,rfl,rk,hb⟩:=QfX R ht rw';have g:=DGet.t e hb
  rcases RG.look JW rk rd with⟨h1,h2⟩|⟨u,v,h1,h2,h3⟩
  ·rw[h2]at g;exact .inl ⟨h1,g⟩
  ·rw[h2]at g;exact .inr ⟨u,v,h1,g,h3⟩
 |fzt kvs=>
  obtain⟨kv,ob,e,rd⟩:=R.h.ob n a _ ha ho;simp only[ZI,Xd]at h;obtain⟨t,ht,rfl⟩:=h;obtain⟨b,k,rfl,rk,hb⟩:=QfX R ht rw';have g:DGet H a (.ref b) (ZP kv k):=.inr ⟨kv,k,b,.inr ⟨ob,e⟩,rfl,hb,rfl⟩
  rcases RG.look JW rk rd with⟨h1,h2⟩|⟨u,v,h1,h2,h3⟩
  ·rw[h2]at g;exact .inl ⟨h1,g⟩
  ·rw[h2]at g;exact .inr ⟨u,v,h1,g,h3⟩
 |_=>cases h
theorem RG.length{κ κ':Type}{P:κ->κ'->Prop}{kvs:List (κ×U)}{kv:List (κ'×V)}(r:RG P A α kvs kv):kvs.length=kv.length:=Wq r
def QjM{hs':Hs}(R:Rep T A K α hs H)(ho:hs[n]?=some o)(ha:α[n]?=some a)(h:JZ n o w u hs=some hs')(rw':RU A α w y)(ru:RU A α u v):∃H',DPut H a y v H'/\Rep T A K α hs' H'/\Ext α α H H':=by
 cases o with
 |dic kvs=>
  obtain⟨kv,e,rd⟩:=R.h.ob n a _ ha ho;simp only[JZ]at h;split at h
  ·rename_i c;cases h;obtain⟨k,rk,rfl⟩:=Qcj c.1 rw';have l:=RG.length rd;obtain⟨R',E'⟩:=R.put (o:=.dic (ZA kvs w u)) (ho:=.dK (ZT kv k v)) ha ⟨_,Qh,RG.put Jt rk ru rd⟩
   exact⟨_,DPut.k e (Xr (by omega:kv.length<1000000) big),R',E'⟩
  ·cases h
 |dct kvs=>
  obtain⟨kv,e,rd⟩:=R.h.ob n a _ ha ho;simp only[JZ]at h;split at h
  ·rename_i c;simp only[Xd]at h;obtain⟨t,ht,rfl⟩:=h;obtain⟨b,k,rfl,rk,hb⟩:=QfX R ht rw';have l:=RG.length rd;obtain⟨R',E'⟩:=R.put (o:=.dct (ZA kvs t u)) (ho:=.dT (ZT kv k v)) ha ⟨_,Qh,RG.put JW rk ru rd⟩
   exact⟨_,DPut.t e hb (Xr (by omega:kv.length<1000000) big),R',E'⟩
  ·cases h
 |_=>cases h
def Qoc:R2:=λx y H Q=>∃a v,x=.ref a/\DGet H a y (some v)/\Q v H
def Qju(hu:X.A.units+1<cLine):IxR X Qoc:=by
 intro value slice pins s Y H x y v u Q I rx ry h hs;obtain⟨a,z,rfl,g,q⟩:=h;obtain rfl:v=Value.ref a:=rx;have hT:=QbI I g;unfold subscriptTail;refine Xa ?_;rw[getitemInPython_of_ne hT.not_modules];refine Xa (U9 hT PySem.F.slot_dict_getitem.lookup ?_)
 have fin:wpAny (model X.prog X.w) X.A (subscripted slice false (.ref a) u) (λr s₃=>wpAny (model X.prog X.w) X.A (letTemporaryGo value (.ref a) r >>= λt=>pure r) (EP X pins Y Q) X.xe s₃) X.xe s:=by
  rw[hs];exact wpAny_operating (Qe8 hu I g ry λw' s3 I3 rw'=>Xa (wpAny_letTemporaryGo (Xi ⟨z,H,I3,rw',q⟩)))
 first
  |exact Xi (Xa fin)
  |exact Xa (Xi (Xa fin))
  |exact Xa fin
def Qod(neg:Bool):R2:=λx y H Q=>∃a o,y=.ref a/\DGet H a x o/\Q (.bl (if neg then !o.isSome else o.isSome)) H
def Ql1(hu:X.A.units+1<cLine):OpR X (compareOp .In) (Qod false):=by
 intro pins s Y H x y v u Q I rx ry h;obtain⟨a,o,rfl,g,q⟩:=h;obtain rfl:u=Value.ref a:=ry;exact Qrl hu I g rx λs3 I3=>⟨.bl o.isSome,H,I3,rfl,q⟩
def Qd8(hu:X.A.units+1<cLine):OpR X (compareOp .NotIn) (Qod true):=by
 intro pins s Y H x y v u Q I rx ry h;obtain⟨a,o,rfl,g,q⟩:=h;obtain rfl:u=Value.ref a:=ry;exact QjQ hu I g rx λs3 I3=>⟨.bl (!o.isSome),H,I3,rfl,q⟩
def QhZ{w:U}{y:V}{c neg:Bool}{Q:VK}(R:Rep T A K α hs H)(h:inD T w u hs=some c)(ru:RU A α u v)(rw':RU A α w y)(q:Q (.bl (if neg then !c else c)) H):Qod neg v y H Q:=by
 unfold inD at h;split at h
 ·rename_i n;split at h
  ·rename_i o e;simp only[Xd]at h;obtain⟨r,h1,rfl⟩:=h;obtain⟨a,ha,rfl⟩:=rw'
   rcases QbJ R e ha h1 ru with⟨rfl,g⟩|⟨u',v',rfl,g,_⟩
   ·exact⟨a,none,rfl,g,q⟩
   ·exact⟨a,some v',rfl,g,q⟩
  ·cases h
 ·cases h
def Qob:V->V->V->Hp->(Hp->Prop)->Prop:=λo i v H Q=>∃a H',o=.ref a/\DPut H a i v H'/\Q H'
def Qf3(hu:X.A.units+1<cLine):Qqm X Qob:=by
 intro pins s Y H o i v ov iv u Q I ro ri rv h;obtain⟨a,H',rfl,g,q⟩:=h;obtain rfl:ov=Value.ref a:=ro;exact Qe7 hu I g ri rv λs4 I4=>⟨H',I4,q⟩
def Qoe:V->List V->Hp->VK->Prop:=λx vs H Q=>∃a y z o,x=.ref a/\vs=[y,z]/\DGet H a y o/\Q (o.getD z) H
def Qjm(hu:X.A.units+1<cLine):MtR X "dict.get" Qoe:=by
 intro pins s Y H x vs v us Q I rx rv h;obtain⟨a,y,z,o,rfl,rfl,g,q⟩:=h;cases rx;obtain⟨uk,uy,rfl,rk,ry⟩:=Qa9 rv;exact QmE hu I g rk ry λw' s' I' rw'=>⟨o.getD z,H,I',rw',q⟩
def QiJ:V->List V->Hp->VK->Prop:=λx vs H Q=>∃a b kvs more,x=.ref a/\vs=[.ref b]/\H a=some (.dK kvs)/\H b=some (.dK more)/\a≠b/\kvs.length+more.length<=sizeLine/\Q .non (upd H a (.dK (ZW kvs more)))
def Qeg:MtR X "dict.update" QiJ:=by
 intro pins s Y H x vs v us Q I rx rv h;obtain⟨a,b,kvs,more,rfl,rfl,hA,hB,ne,hz,q⟩:=h;cases rx;obtain⟨u,rfl,ru⟩:=rv.one;cases ru;obtain⟨z,hd,ws,rel,dd⟩:=QbH I.hok hA;obtain⟨z2,hd2,ws2,rel2,dd2⟩:=QbH I.hok hB
 refine T6 PySem.F.slot_dict_update dd.typeIs PySem.F.entry_dict_update (PySem.F.args_dict_update_2 _ _) (meets_dict_update (Ql X.prog X.w) a b ne hd2) ⟨ws,ws2,dd,dd2,by rw[<-rel.length,<-rel2.length];exact hz,λh' dd' y hs=>?_⟩
 have he:∃q,h'.get? a=some q:=(by obtain⟨q,_,_,hq,_⟩:=dd';exact⟨q,hq⟩);have hl:(ZW kvs more).length<=sizeLine:=Wd (Zm more kvs) hz
 have I2:=Y2 (t':=s.toks) I (by rw[hA];exact True.intro) hs he (Qcs hl hd (KV.merge rel2 rel) dd')
 exact⟨.non,_,I2,rfl,q⟩
end
end
section
variable {H:Hp}{hs:Hs}{i:Int}{α:List Addr}{us:List U}{vs:List V}{u:U}{v:V}
section
variable {X:Cx}{T:Tbl}{A:Adr}
def Qo7{j:Int}:decide (V.int i=V.int j)=decide (i=j):=by
 by_cases e:i=j
 ·subst e;simp
 ·have:¬V.int i=V.int j:=λq=>e (V.int.inj q);rw[Wf this,Wf e]
def Qo6{x y:List Nat}:decide (V.str ⟨x.toArray⟩=V.str ⟨y.toArray⟩)=decide (x=y):=by
 by_cases e:x=y
 ·subst e;simp
 ·have:¬V.str ⟨x.toArray⟩=V.str ⟨y.toArray⟩:=λq=>e (by
   have q1:=V.str.inj q;have q2:=congrArg (λs:Str=>s.cps.toList) q1
   simpa using q2)
  rw[Wf this,Wf e]
def Qo8{x y:Bool}:decide (V.bl x=V.bl y)=decide (x=y):=by cases x<;>cases y<;>rfl
def Qh2{w:U}{y:V}{c:Bool}(h:eqS u w=some c)(ru:RU A α u v)(rw':RU A α w y):QnY v y=true/\decide (v=y)=c:=by
 cases u with
 |non=>
  cases(show v=_ from ru)
  cases w with
  |non=>cases(show y=_ from rw');cases h;exact⟨rfl,rfl⟩
  |bl b=>cases(show y=_ from rw');cases h;exact⟨rfl,rfl⟩
  |int j n=>obtain⟨_,rfl,_⟩:=rw';cases h;exact⟨rfl,rfl⟩
  |str x=>cases(show y=_ from rw');cases h;exact⟨rfl,rfl⟩
  |_=>exact Znn h
 |bl b=>
  cases(show v=_ from ru)
  cases w with
  |non=>cases(show y=_ from rw');cases h;exact⟨rfl,rfl⟩
  |bl b=>cases(show y=_ from rw');cases h;exact⟨rfl,Qo8⟩
  |str x=>cases(show y=_ from rw');cases h;exact⟨rfl,rfl⟩
  |_=>exact Znn h
 |str x=>
  cases(show v=_ from ru)
  cases w with
  |non=>cases(show y=_ from rw');cases h;exact⟨rfl,rfl⟩
  |bl b=>cases(show y=_ from rw');cases h;exact⟨rfl,rfl⟩
  |int j n=>obtain⟨_,rfl,_⟩:=rw';cases h;exact⟨rfl,rfl⟩
  |str z=>cases(show y=_ from rw');cases h;exact⟨rfl,Qo6⟩
  |_=>exact Znn h
 |int i m=>
  obtain⟨i',rfl,a⟩:=ru
  cases w with
  |non=>cases(show y=_ from rw');cases m<;>cases h<;>exact⟨rfl,rfl⟩
  |str x=>cases(show y=_ from rw');cases m<;>cases h<;>exact⟨rfl,rfl⟩
  |int j n=>
   obtain⟨j',rfl,b⟩:=rw'
   cases m with
   |succ m=>exact Znn h
   |zero=>
    cases n with
    |succ n=>exact Znn h
    |zero=>cases a.exact;cases b.exact;cases h;exact⟨rfl,Qo7⟩
  |_=>cases m<;>exact Znn h
 |_=>cases w<;>exact Znn h
def Qol{f:Value->Value->Sem Value}{r r':R2}(h:OpR X f r)(h':OpR X f r'):OpR X f (λx y H Q=>r x y H Q\/r' x y H Q):=λpins s Y H x y v u Q I rx ry q=>q.elim (h pins s Y H x y v u Q I rx ry) (h' pins s Y H x y v u Q I rx ry)
def Qqr(X:Cx)(T:Tbl)(A:Adr)(o:CmpOp):Prop:=∃r,OpR X (compareOp o) r/\∀{α:List Addr} {u w:U} {hs:Hs} {v y:V} {H:Hp} {Q:VK} {c:Bool},ZC T o u w hs=some c->RU A α u v->RU A α w y->Rep T A X.K α hs H->Q (.bl c) H->r v y H Q
def Qcw{o:CmpOp}{p:Int->Int->Bool}(ho:OpR X (compareOp o) (rI0 λi j=>.bl (p i j)))(hc:∀u w hs,ZC T o u w hs=match u,w with|.int i 0,.int j 0=>some (p i j)|_,_=>none):Qqr X T A o:=by
 refine⟨_,ho,?_⟩;intro α u w hs v y H Q c h ru rw' R q;rw[hc]at h;split at h
 ·cases h;obtain⟨i',rfl,a⟩:=ru;obtain⟨j',rfl,b⟩:=rw';cases a.exact;cases b.exact;exact⟨_,_,rfl,rfl,q⟩
 ·cases h
def Qj(r:RUs A α (u::us) vs):∃v ws,vs=v::ws/\RU A α u v/\RUs A α us ws:=by cases r with|cons a b=>exact⟨_,_,rfl,a,b⟩
def Qm(r:RUs A α [] vs):vs=[]:=by cases r;rfl
theorem JU{α:List Addr}:∀{ys:List U} {ns:List Int} {vs:List V},JV ys=some ns->RUs A α ys vs->vs=ns.map V.int
 |[],_,_,h,r=>by cases h;cases Qm r;rfl
 |u::ys,ns,vs,h,r=>by
  cases u with
  |int i m=>
   cases m with
   |succ m=>simp[JV]at h
   |zero=>
    simp only[JV,Xd]at h;obtain⟨ns',h,rfl⟩:=h;obtain⟨v,ws,rfl,ru,rn⟩:=Qj r;obtain⟨j,rfl,c⟩:=ru;cases c.exact;rw[JU h rn];rfl
  |_=>simp[JV]at h
def QhX{k:List Int}(R:Rep T A X.K α hs H)(r:RU A α u v)(h:itU hs u=some k):k≠[]/\∃b,v=.ref b/\SqT X.K H b (k.map V.int):=by
 unfold itU at h;split at h
 case h_2=>cases h
 obtain⟨a,ha,rfl⟩:=r;split at h
 case h_2=>cases h
 rename_i k0 ks e;obtain⟨vs,q,rr⟩:=R.h.ob _ a _ ha e;have hl:=rr.length;cases JU h rr;refine⟨λz=>?_,a,rfl,SqT.of q⟩;subst z;simp at hl
theorem Qbz{hs:Hs}{H:Hp}(R:Rep T A X.K α hs H):∀{xs:List U} {ys:List V} {ks:List (List Int)},RUs A α xs ys->QhW hs xs=some ks->Qkj X.K H ys ks
 |[],ys,ks,rr,h=>by
  cases h;cases rr
  exact⟨rfl,λi y k e=>by simp at e⟩
 |u::us,ys,ks,rr,h=>by
  simp only[QhW,Xb,Xd]at h;obtain⟨k,hk,ks',hks,rfl⟩:=h;obtain⟨v,ws,rfl,ru,rn⟩:=Qj rr;obtain⟨l,f⟩:=Qbz R rn hks
  refine⟨by simp[l],λi y k' e1 e2=>?_⟩
  cases i with
  |zero=>
   simp at e1 e2;subst e1 e2;exact QhX R ru hk
  |succ i=>exact f i y k' (by simpa using e1) (by simpa using e2)
def Qrn(tx:Txt T A X.K X.mg)(tab:Qaj X.prog X.w T A X.K)(hu:X.A.units+64<cLine)(o:CmpOp):Qqr X T A o:=by
 cases o with
 |Eq=>
  refine⟨_,OpR.or Qor (OpR.or (Ql3 tx hu) (OpR.or (Ql2 tx hu) (Ql4 tx hu))),?_⟩;intro α u w hs v y H Q c h ru rw' R q;simp only[ZC,eqA]at h;split at h
  ·rename_i b e;cases h;obtain⟨h1,h2⟩:=Qh2 e ru rw'
   exact .inl ⟨h1,by rw[h2];exact q⟩
  ·split at h
   ·rename_i c;cases h;exact .inr (.inl ⟨α,u,w,hs,ru,rw',R,c,q⟩)
   ·split at h
    ·rename_i c;cases h;exact .inr (.inr (.inl ⟨α,u,w,hs,ru,rw',R,c,q⟩))
    ·split at h
     ·rename_i c;cases h;rw[Xj]at c;exact .inr (.inr (.inr ⟨α,u,w,hs,ru,rw',R,c.1,c.2,q⟩))
     ·cases h
 |NotEq=>
  refine⟨_,OpR.or Qom (OpR.or (QlW tx hu) (OpR.or (QlV tx hu) (QlX tx hu))),?_⟩;intro α u w hs v y H Q c h ru rw' R q;simp only[ZC,Xd,eqA]at h;obtain⟨d,h,e⟩:=h;split at h
  ·rename_i b eb;cases h;obtain⟨h1,h2⟩:=Qh2 eb ru rw'
   exact .inl ⟨h1,by rw[h2,e];exact q⟩
  ·split at h
   ·rename_i cc;cases h;refine .inr (.inl ⟨α,u,w,hs,ru,rw',R,cc,?_⟩);rw[show(true:Bool)=c from e];exact q
   ·split at h
    ·rename_i cc;cases h;refine .inr (.inr (.inl ⟨α,u,w,hs,ru,rw',R,cc,?_⟩));rw[show(false:Bool)=c from e];exact q
    ·split at h
     ·rename_i cc;cases h;rw[Xj]at cc;refine .inr (.inr (.inr ⟨α,u,w,hs,ru,rw',R,cc.1,cc.2,?_⟩));rw[if_pos rfl,e];exact q
     ·cases h
 |Lt=>exact Qcw Qon λz z z=>rfl
 |LtE=>exact Qcw Qoo λz z z=>rfl
 |Gt=>exact Qcw Qop λz z z=>rfl
 |GtE=>exact Qcw Qoq λz z z=>rfl
 |Is=>
  refine⟨_,QlZ,?_⟩;intro α u w hs v y H Q c h ru rw' R q;simp only[ZC]at h;split at h
  ·cases h;refine⟨rw',?_⟩
   have e:decide (v=.non)=decide (u=.non):=by
    cases u with
    |non=>cases(show v=_ from ru);rfl
    |bl b=>cases(show v=_ from ru);rfl
    |int i m=>obtain⟨_,rfl,_⟩:=ru;rfl
    |str x=>cases(show v=_ from ru);rfl
    |ref n=>obtain⟨_,_,rfl⟩:=ru;rfl
    |con k=>cases(show v=_ from ru);rfl
    |scr=>cases(show v=_ from ru);rfl
   rw[e];exact q
  ·cases h
 |IsNot=>
  refine⟨_,Qjc,?_⟩;intro α u w hs v y H Q c h ru rw' R q;simp only[ZC]at h;split at h
  ·cases h;refine⟨rw',?_⟩
   have e:decide (v=.non)=decide (u=.non):=by
    cases u with
    |non=>cases(show v=_ from ru);rfl
    |bl b=>cases(show v=_ from ru);rfl
    |int i m=>obtain⟨_,rfl,_⟩:=ru;rfl
    |str x=>cases(show v=_ from ru);rfl
    |ref n=>obtain⟨_,_,rfl⟩:=ru;rfl
    |con k=>cases(show v=_ from ru);rfl
    |scr=>cases(show v=_ from ru);rfl
   rw[e];exact q
  ·cases h
 |In=>
  refine⟨_,Qol (Ql0 (by omega)) (Ql1 (by omega)),?_⟩
  intro α u w hs v y H Q c h ru rw' R q;simp only[ZC]at h;split at h
  ·rename_i xs e;obtain⟨a,vs,rfl,rr,sq⟩:=YQ (K':=X.K) tx R e rw';simp only[inX,Xb,Xd]at h;obtain⟨k,hk,ks,hks,rfl⟩:=h;obtain⟨_,b,rfl,hb⟩:=QhX R ru hk;exact .inl ⟨a,vs,k,ks,b,rfl,sq,rfl,hb,Qbz R rr hks,q⟩
  ·exact .inr (QhZ (neg:=false) R h ru rw' q)
 |NotIn=>
  refine⟨_,Qd8 (by omega),?_⟩
  intro α u w hs v y H Q c h ru rw' R q;simp only[ZC,Xd]at h;obtain⟨d,h,e2⟩:=h
  have q':Q (.bl (if true=true then !d else d)) H:=by simp only[Wm];rw[e2];exact q
  exact QhZ (neg:=true) R h ru rw' q'
def QmX(r:RUs A α us vs)(h:atU us i=some u):∃v,atI vs i=some v/\RU A α u v:=by
 unfold atU at h;split at h
 ·rename_i j e;obtain⟨v,h1,h2⟩:=r.get h;refine⟨v,?_,h2⟩
  have e':ixN vs.length i=some j:=by rw[<-r.length];exact e
  unfold atI;rw[e'];exact h1
 ·cases h
def Qpu{xs:List Nat}{c:Nat}(h:atU xs i=some c):atI xs i=some c:=by
 unfold atU at h;split at h
 ·rename_i j e;have e':ixN xs.length i=some j:=e;unfold atI;rw[e'];exact h
 ·cases h
def Qit{w x:U}{y:V}{Q:VK}(tx:Txt T A X.K X.mg)(h:QH T u w hs=some x)(ru:RU A α u v)(rw':RU A α w y)(R:Rep T A X.K α hs H)(k:∀z,RU A α x z->Q z H):rIx X.K v y H Q\/Qoc v y H Q:=by
 have seq:∀{xs:List U} {i:Int},ZF T u hs=some xs->w=.int i 0->atU xs i=some x->rIx X.K v y H Q\/Qoc v y H Q:=λ{xs i} e1 e2 e3=>by
  subst e2;obtain⟨j,rfl,c⟩:=rw';cases c.exact;obtain⟨a,vs,rfl,rr,sq⟩:=YQ (K':=X.K) tx R e1 ru;obtain⟨z,h1,h2⟩:=QmX rr e3
  rcases sq with sq|sq
  ·exact .inl (.inl ⟨a,vs,i,z,rfl,rfl,sq,h1,k z h2⟩)
  ·exact .inl (.inr (.inl ⟨a,vs,i,z,rfl,rfl,sq,h1,k z h2⟩))
 cases u with
 |str z=>
  cases w with
  |int i m=>
   cases m with
   |succ m=>simp[QH,ZF]at h
   |zero=>
    simp only[QH]at h;split at h
    ·rename_i l;simp only[Xd]at h;obtain⟨c,e,rfl⟩:=h;cases(show v=_ from ru);obtain⟨j,rfl,q⟩:=rw';cases q.exact
     exact .inl (.inr (.inr ⟨_,i,c,rfl,rfl,by rw[Y3];exact Wd l big,by simpa using Qpu e,k _ (by show _=_;rfl)⟩))
    ·cases h
  |_=>simp[QH,ZF]at h
 |ref n=>
  simp only[QH]at h;split at h
  ·rename_i xs i e
   exact seq (by simp only[ZF,e]) rfl h
  ·rename_i xs i e
   exact seq (by simp only[ZF,e]) rfl h
  ·rename_i o e _ _;obtain⟨a,ha,rfl⟩:=ru;simp only[Xb,id_eq]at h;obtain⟨r,h1,h2⟩:=h
   rcases QbJ R e ha h1 rw' with⟨h3,_⟩|⟨u',v',h3,g,rv⟩
   ·rw[h3]at h2;cases h2
   ·rw[h3]at h2;cases h2;exact .inr ⟨a,v',rfl,g,k v' rv⟩
  ·cases h
 |con n=>
  cases w with
  |int i m=>
   cases m with
   |succ m=>simp[QH]at h
   |zero=>
    simp only[QH]at h;split at h
    ·rename_i xs e;exact seq e rfl h
    ·cases h
  |_=>simp[QH]at h
 |scr=>
  cases w with
  |int i m=>
   cases m with
   |succ m=>simp[QH]at h
   |zero=>
    simp only[QH]at h;split at h
    ·rename_i xs e;exact seq e rfl h
    ·cases h
  |_=>simp[QH]at h
 |_=>
  cases w with
  |int i m=>cases m<;>simp[QH,ZF]at h
  |_=>simp[QH]at h
theorem RUs.drop(n:Nat)(h:RUs A α us vs):RUs A α (us.drop n) (vs.drop n):=Qbp h n
theorem RUs.take(n:Nat)(h:RUs A α us vs):RUs A α (us.take n) (vs.take n):=Qbo h n
def Qcu(n d:Nat)(o:Option Int):Qc2 n d o=HT.sIx n d o:=by cases o<;>rfl
def RUs.cut(r:RUs A α us vs)(lo hi:Option Int):RUs A α (QZ us lo hi) (Qku vs lo hi):=by
 unfold QZ Qku;rw[Qcu,Qcu,r.length];exact RUs.take _ (RUs.drop _ r)
def Qk8{x:U}{hs':Hs}{Q:VK}{lo hi:Option Int}(h:slU T u lo hi hs=some (x,hs'))(ru:RU A α u v)(R:Rep T A X.K α hs H)(k:∀α' z H',Ext α α' H H'->Rep T A X.K α' hs' H'->RU A α' x z->Q z H'):QpZ X.K v lo hi H Q:=by
 cases u with
 |scr=>
  simp only[slU]at h;cases h;obtain⟨vs,rr,q⟩:=R.s.sq (α:=α);refine⟨_,vs,ru,q,λp hp=>?_⟩;obtain⟨R',E'⟩:=R.new (o:=.lst (QZ T.scr lo hi)) hp ⟨_,Qh,RUs.mono Qq (rr.cut lo hi)⟩
  exact k _ _ _ E' R' ⟨p,by rw[<-R.h.len];exact QD,rfl⟩
 |ref n=>
  simp only[slU]at h;split at h
  ·rename_i xs e;cases h;obtain⟨a,ha,rfl⟩:=ru;obtain⟨vs,q,rr⟩:=R.h.ob n a _ ha e;refine⟨_,vs,rfl,SqL.of q,λp hp=>?_⟩;obtain⟨R',E'⟩:=R.new (o:=.lst (QZ xs lo hi)) hp ⟨_,Qh,RUs.mono Qq (rr.cut lo hi)⟩
   exact k _ _ _ E' R' ⟨p,by rw[<-R.h.len];exact QD,rfl⟩
  ·cases h
 |_=>simp[slU]at h
end
end
section
variable {H:Hp}{hs:Hs}{α:List Addr}{u:U}{v:V}
section
variable {X:Cx}{T:Tbl}{A:Adr}
def QbR{e:Expr}{t:TE}(h:∀Y H Q,¬t Y H Q):PE X e t:=λz z Y H Q z q=>(h Y H Q q).elim
def QoA(K:W.Frag){k t:Ty}{b:Bool}(h:QoF k t=some b)(A:Adr):W.kitOne K (tyW A k) (tyW A t)=some b:=by
 cases k<;>cases t<;>simp only[QoF]at h<;>first|(cases h;done)|(cases h;rfl)|(cases h;kernel_rfl)
def Qjq{k:Ty}(tx:Txt T A X.K X.mg)(h:QaH u hs=some k)(r:RU A α u v)(R:Rep T A X.K α hs H):TyE X.K H v (tyW A k):=by
 cases u with
 |non=>cases h;cases(show v=_ from r);exact .inl .non
 |bl b=>cases h;cases(show v=_ from r);exact .inl (.bl b)
 |int i m=>cases h;obtain⟨j,rfl,_⟩:=r;exact .inl (.int j)
 |str x=>cases h;cases(show v=_ from r);exact .inl (.str _)
 |ref n=>
  obtain⟨a,ha,rfl⟩:=r;simp only[QaH]at h;split at h
  ·rename_i xs e;cases h;obtain⟨vs,q,_⟩:=R.h.ob n a _ ha e;exact .inl (.lst q)
  ·rename_i xs e;cases h;obtain⟨vs,q,_⟩:=R.h.ob n a _ ha e;exact .inl (.tup q)
  ·rename_i kvs e;cases h;obtain⟨kv,q,_⟩:=R.h.ob n a _ ha e;exact .inl (.dK q)
  ·rename_i kvs e;cases h;obtain⟨kv,q,_⟩:=R.h.ob n a _ ha e;exact .inl (.dT q)
  ·rename_i c fs e;cases h;obtain⟨dx,fv,q,_,l⟩:=R.h.ob n a _ ha e;exact .inl ((tx.cl c _ (Xe l)).ty H a dx fv q)
  ·rename_i c e;cases h;obtain⟨dd,q,l,_⟩:=R.h.ob n a _ ha e;exact .inr ⟨a,A.c c,dd,rfl,rfl,q,(tx.er c l).1⟩
  ·cases h
 |_=>simp[QaH]at h
def Qms{t:Ty}{b:Bool}(tx:Txt T A X.K X.mg)(h:QbA T t u hs=some b)(r:RU A α u v)(R:Rep T A X.K α hs H):∃tv,TyE X.K H v tv/\W.kitOne X.K tv (tyW A t)=some b:=by
 unfold QbA at h;split at h
 ·cases h
 ·rename_i k e;refine⟨tyW A k,Qjq tx e r R,?_⟩;split at h
  ·rename_i b' e';cases h;exact QoA X.K e' A
  ·exact tx.isi k t b h
def BiS(X:Cx)(T:Tbl)(A:Adr)(b:Bi)(f:Value):Prop:=∃r,CallR X f r/\∀{α:List Addr} {us:List U} {u':U} {hs hs':Hs} {vs:List V} {H:Hp} {Q:VK},biU T b us hs=some (u',hs')->RUs A α us vs->Rep T A X.K α hs H ->
 (∀α' v' H',Ext α α' H H'->Rep T A X.K α' hs' H'->RU A α' u' v'->Q v' H')->r vs H Q
def Qj7(tx:Txt T A X.K X.mg):BiS X T A .len (.builtin "len"):=by
 refine⟨_,CallR.or (CallR.or QaW QaV) Qfl,?_⟩;intro α us u' hs hs' vs H Q h r R k
 have seq:∀{u:U} {xs:List U},us=[u]->ZF T u hs=some xs->(u',hs')=(U.int xs.length 0,hs)->(∃p ys,vs=[V.ref p]/\(SqL X.K H p ys\/SqT X.K H p ys)/\Q (.int ys.length) H):=λ{u xs} e1 e2 e3=>by
  subst e1;cases e3;obtain⟨v,ws,rfl,ru,rn⟩:=Qj r;cases Qm rn;obtain⟨a,ys,rfl,rr,sq⟩:=YQ (K':=X.K) tx R e2 ru
  exact⟨a,ys,rfl,sq,k α _ H Ext.refl R ⟨_,rfl,by rw[rr.length];exact Cg.refl _ _⟩⟩
 cases us with
 |nil=>first|exact Znn h|simp[biU]at h
 |cons u t=>
  cases t with
  |cons _ _=>cases u<;>first|exact Znn h|simp[biU]at h
  |nil=>
   cases u with
   |str x=>
    unfold biU at h;try dsimp only at h;split at h
    ·rename_i l;cases h;obtain⟨v,ws,rfl,ru,rn⟩:=Qj r;cases Qm rn;cases(show v=_ from ru)
     refine .inl (.inr ⟨_,rfl,by rw[Y3];exact Wd l big,k α _ H Ext.refl R ⟨_,rfl,?_⟩⟩)
     rw[Y3];exact Cg.refl _ _
    ·cases h
   |ref n=>
    unfold biU at h;try dsimp only at h;split at h
    ·rename_i xs e;exact .inl (.inl (seq rfl e (X8 h).symm))
    ·simp only[QjP]at h;split at h
     ·rename_i kvs hp;cases h;obtain⟨v,ws,rfl,ru,rn⟩:=Qj r;cases Qm rn;obtain⟨a,ha,rfl⟩:=ru;obtain⟨kv,hH,rd⟩:=R.h.ob n a _ ha hp
      exact .inr ⟨a,kv,rfl,hH,k α _ H Ext.refl R ⟨_,rfl,by rw[Wq rd];exact Cg.refl _ _⟩⟩
     ·cases h
   |con n=>
    unfold biU at h;try dsimp only at h;split at h
    ·rename_i xs e;exact .inl (.inl (seq rfl e (X8 h).symm))
    ·cases h
   |scr=>
    unfold biU at h;try dsimp only at h;split at h
    ·rename_i xs e;exact .inl (.inl (seq rfl e (X8 h).symm))
    ·cases h
   |_=>unfold biU at h;simp[ZF,QjP]at h
def Qfy:BiS X T A .tuple (.type "tuple"):=by
 refine⟨_,Qad,?_⟩;intro α us u' hs hs' vs H Q h r R k
 cases us with
 |nil=>first|exact Znn h|simp[biU]at h
 |cons u t=>
  cases t with
  |cons _ _=>cases u<;>first|exact Znn h|simp[biU]at h
  |nil=>
   obtain⟨v,ws,rfl,ru,rn⟩:=Qj r;cases Qm rn
   cases u with
   |ref n=>
    obtain⟨a,ha,rfl⟩:=ru;unfold biU at h;try dsimp only at h;split at h
    ·rename_i xs e;cases h;obtain⟨ys,q,rr⟩:=R.h.ob n a _ ha e;refine⟨a,ys,rfl,.inl ⟨SqL.of q,λp hp=>?_⟩⟩;obtain⟨R',E'⟩:=R.new (o:=.tup xs) hp ⟨_,Qh,RUs.mono Qq rr⟩
     exact k _ _ _ E' R' ⟨p,by rw[<-R.h.len];exact QD,rfl⟩
    ·rename_i xs e;cases h;obtain⟨ys,q,rr⟩:=R.h.ob n a _ ha e;exact⟨a,ys,rfl,.inr ⟨SqT.of q,k α _ H Ext.refl R ⟨a,ha,rfl⟩⟩⟩
    ·cases h
   |_=>first|exact Znn h|simp[biU]at h
def Qlr{k:Key}(h:RK u k):RU A α u (kV k):=by
 cases u<;>simp only[RK]at h<;>first|exact h.elim|skip
 ·obtain⟨rfl,rfl⟩:=h;exact⟨_,rfl,Cg.refl _ _⟩
 ·subst h;rfl
def QiG{ks:List U}{keys:List Key}(h:RKs ks keys):RUs A α ks (keys.map kV):=by
 induction h with
 |nil=>exact .nil
 |cons r _ ih=>exact .cons (Qlr r) ih
def Rep.alias{K:W.Frag}{b:Addr}{ks:List U}{keys:List Key}(R:Rep T A K α hs H)(hb:H b=some (.tup (keys.map kV)))(rk:RKs ks keys):Rep T A K (α++[b]) (hs++[.tup ks]) H/\Ext α (α++[b]) H H:=by
 have nd:∀(i j:Nat) a,(α++[b])[i]?=some a->(α++[b])[j]?=some a->i=j\/∃vs,H a=some (.tup vs):=λi j a e1 e2=>by
  rcases Qo e1 with q1|⟨_,q1⟩
  ·rcases Qo e2 with q2|⟨_,q2⟩
   ·exact R.h.nd i j a q1 q2
   ·exact .inr ⟨_,by rw[q2];exact hb⟩
  ·exact .inr ⟨_,by rw[q1];exact hb⟩
 refine⟨⟨⟨by simp[R.h.len],nd,λn a ob e1 e2=>?_⟩,R.s⟩,⟨Qq,λn a e l=>?_,λy y e y=>e,λy y y e=>e,λy o e=>⟨o,e,λy=>U7⟩⟩⟩
 ·rcases Qo e1 with q|⟨q1,q2⟩
  ·rcases Qo e2 with z|⟨z,_⟩
   ·exact RO.keep (R.h.ob n a ob q z) Qq λy y e y=>e
   ·have:=getElem?_lt q;rw[R.h.len]at this;omega
  ·subst q2
   rcases Qo e2 with z|⟨_,z⟩
   ·have:=(Xc.mp z).1;rw[<-R.h.len]at this;omega
   ·subst z;exact⟨_,hb,QiG rk⟩
 ·rcases Qo e with q|⟨_,q⟩
  ·have:=getElem?_lt q;omega
  ·exact .inr ⟨_,by rw[q];exact hb⟩
def Qbh{K:W.Frag}{kvs:List (List U×U)}{kv:List (List Key×V)}{bs:List Addr}{β:List Addr}(r:RT A β kvs kv)(h:Paired (λ(p:List Key×V) b=>H b=some (.tup (p.1.map kV))) kv bs)(R:Rep T A K α hs H):
  Rep T A K (α++bs) (hs++kvs.map λp=>O.tup p.1) H/\Ext α (α++bs) H H/\∀(i:Nat) (γ:List Addr),(∀(n:Nat) a,(α++bs)[n]?=some a->γ[n]?=some a)->i=α.length->RUs A γ (Qav i kvs.length) (bs.map V.ref):=by
 unfold RT at r
 induction r generalizing bs α hs with
 |nil=>
  cases h;simp only[W9,Ui];exact⟨R,Ext.refl,λz z z z=>.nil⟩
 | @cons p _ _ _ r t ih=>
  cases h with
  | @cons _ b _ bs h tb=>
   obtain⟨R1,E1⟩:=R.alias h r.1;obtain⟨R2,E2,l2⟩:=ih tb R1
   have ea:∀l:List Addr,α++b::l=α++[b]++l:=λl=>by simp
   have eh:∀l:Hs,hs++O.tup p.1::l=hs++[O.tup p.1]++l:=λl=>by simp
   rw[Xo,ea,eh];refine⟨R2,E1.trans E2 R2.h,λi γ hg hi=>?_⟩;rw[Xo,Wa,Qav]
   refine .cons ⟨b,hg i b ?_,rfl⟩ (l2 (i+1) γ hg (by simp[hi]))
   rw[hi,Xv (by simp)]
   exact QD
def Qg6(tx:Txt T A X.K X.mg)(hc:X.calm=true):BiS X T A .list (.type "list"):=by
 refine⟨_,CallR.or QaU (Qc7 hc),?_⟩;intro α us u' hs hs' vs H Q h r R k
 cases us with
 |nil=>first|exact Znn h|simp[biU]at h
 |cons u t=>
  cases t with
  |cons _ _=>cases u<;>first|exact Znn h|simp[biU]at h
  |nil=>
   obtain⟨v,ws,rfl,ru,rn⟩:=Qj r;cases Qm rn
   have h:(match ZF T u hs with
    |some xs=>some (U.ref hs.length,hs++[O.lst xs])
    |none=>(QjP u hs).map λkvs=>(U.ref (hs++kvs.map λp=>O.tup p.1).length,(hs++kvs.map λp=>O.tup p.1)++[O.lst (Qav hs.length kvs.length)]))=some (u',hs'):=by
    cases u<;>exact h
   split at h
   ·rename_i xs e;cases h;obtain⟨a,ys,rfl,rr,sq⟩:=YQ (K':=X.K) tx R e ru;refine .inl ⟨a,ys,rfl,sq,λp hp=>?_⟩;obtain⟨R',E'⟩:=R.new (o:=.lst xs) hp ⟨_,Qh,RUs.mono Qq rr⟩
    exact k _ _ _ E' R' ⟨p,by rw[<-R.h.len];exact QD,rfl⟩
   ·rename_i hno;clear hno;simp only[Xd]at h;obtain⟨kvs,hd,h⟩:=h;cases h;unfold QjP at hd;split at hd
    ·rename_i n;split at hd
     ·rename_i kvs' hp;cases hd;obtain⟨a,ha,rfl⟩:=ru;obtain⟨kv,hH,rd⟩:=R.h.ob n a _ ha hp;refine .inr ⟨a,kv,rfl,hH,λbs pb p hp=>?_⟩;obtain⟨R1,E1,l1⟩:=Qbh rd pb R;obtain⟨R',E'⟩:=R1.new (p:=p) (o:=.lst (Qav hs.length kvs.length)) (ho:=.lst (bs.map V.ref)) hp ⟨_,Qh,l1 hs.length _ Qq R.h.len.symm⟩
      exact k _ _ _ (E1.trans E' R'.h) R' ⟨p,by rw[<-R1.h.len];exact QD,rfl⟩
     ·cases hd
    ·cases hd
theorem QaY{α:List Addr}:∀{ys:List U} {bs:List Bool} {vs:List V},Y5 ys=some bs->RUs A α ys vs->vs=bs.map V.bl
 |[],_,_,h,r=>by cases h;cases Qm r;rfl
 |u::ys,bs,vs,h,r=>by
  cases u with
  |bl b=>
   simp only[Y5,Xd]at h;obtain⟨bs',h,rfl⟩:=h;obtain⟨v,ws,rfl,ru,rn⟩:=Qj r;cases(show v=_ from ru);rw[QaY h rn];rfl
  |_=>simp[Y5]at h
def Qh0{i:Int}(r:RU A α (.int i 0) v):v=.int i:=by
 obtain⟨j,rfl,c⟩:=r;cases c.exact;rfl
def Qj8(tx:Txt T A X.K X.mg)(hc:X.calm=true):BiS X T A .all (.builtin "all"):=by
 refine⟨_,Qfo hc,?_⟩;intro α us u' hs hs' vs H Q h r R k;have h:biL T .all us hs=some (u',hs'):=h;unfold biL at h;split at h<;>try contradiction
 ·simp only[Xb,Xd]at h;obtain⟨xs,el,ns,en,h⟩:=h;cases h;obtain⟨v,ws,rfl,ru,rn⟩:=Qj r;cases Qm rn;obtain⟨a,vs,rfl,rr,sq⟩:=QG tx R el ru;cases QaY en rr;exact⟨a,ns,rfl,sq,k α _ H Ext.refl R rfl⟩
def CallR.or{f:Value}{r1 r2:List V->Hp->VK->Prop}(h1:CallR X f r1)(h2:CallR X f r2):CallR X f (λxs H Q=>r1 xs H Q\/r2 xs H Q):=by
 intro pins s Y H xs us Q I r h
 rcases h with h|h
 ·exact h1 pins s Y H xs us Q I r h
 ·exact h2 pins s Y H xs us Q I r h
def Qj6(tx:Txt T A X.K X.mg)(hc:X.calm=true):BiS X T A .max (.builtin "max"):=by
 refine⟨_,CallR.or (Qfj hc) (Qfk hc),?_⟩;intro α us u' hs hs' vs H Q h r R k;have h:biL T .max us hs=some (u',hs'):=h;unfold biL at h;split at h<;>try contradiction
 ·simp only[Xb,Xd]at h;obtain⟨xs,el,ns,en,m,em,h⟩:=h;cases h;obtain⟨v,ws,rfl,ru,rn⟩:=Qj r;cases Qm rn;obtain⟨a,vs,rfl,rr,sq⟩:=QG tx R el ru;cases JU en rr;refine .inl ⟨a,ns,rfl,sq,?_,λM h1 h2=>?_⟩
  ·cases ns with
   |nil=>cases em
   |cons _ _=>exact Nat.succ_pos _
  ·cases Qjn em h1 h2;exact k α _ H Ext.refl R ⟨_,rfl,Cg.refl _ _⟩
 ·refine .inr ?_;cases h;obtain⟨v,ws,rfl,ru,rn⟩:=Qj r;obtain⟨v2,ws,rfl,ru2,rn⟩:=Qj rn;cases Qm rn;cases Qh0 ru;cases Qh0 ru2;exact⟨_,_,rfl,k α _ H Ext.refl R ⟨_,rfl,Cg.refl _ _⟩⟩
def QfZ{α':List Addr}{ks:List (List Int)}{xs:List U}{ys:List V}(rr:RUs A α' xs ys):RUs A α' (QcJ ks xs) (Qbd ks ys):=by
 unfold QcJ Qbd;rw[rr.length];generalize permK ks ys.length=p
 induction p with
 |nil=>exact .nil
 |cons i p ih=>
  refine .cons ?_ ih
  cases e:xs[i]? with
  |none=>
   have e2:ys[i]?=none:=by
    rw[X6]at e ⊢;rw[<-rr.length];exact e
   simp[List.getD,e,e2,RU]
  |some u=>
   obtain⟨v,hv,rv⟩:=rr.get e;simpa[List.getD,e,hv]using rv
def Qdd(tx:Txt T A X.K X.mg):BiS X T A .sorted (.builtin "sorted"):=by
 refine⟨_,Qc6,?_⟩;intro α us u' hs hs' vs H Q h r R k;have h:biL T .sorted us hs=some (u',hs'):=h
 obtain⟨u,rfl⟩:∃u,us=[u]:=by
  match us,h with
  |[],h=>exact Znn h
  |_::_::_,h=>exact Znn h
  |[u],_=>exact⟨u,rfl⟩
 have h:Option.bind (QB T u hs) _=some (u',hs'):=h;simp only[Xb]at h;obtain⟨xs,el,h⟩:=h;split at h
 case isFalse=>cases h
 rename_i h64;simp only[Xd]at h;obtain⟨ks,hk,h⟩:=h;cases h;obtain⟨v,ws,rfl,ru,rn⟩:=Qj r;cases Qm rn;obtain⟨a,ys,rfl,rr,sq⟩:=QG tx R el ru;have hl:=rr.length
 refine⟨a,ys,ks,rfl,sq,by omega,λh2=>?_,λp hp=>?_⟩
 ·rw[if_neg (by omega)]at hk
  exact Qbz R rr hk
 ·obtain⟨R2,E2⟩:=R.new (p:=p) (o:=.lst (QcJ ks xs)) (ho:=.lst (Qbd ks ys)) hp ⟨_,Qh,RUs.mono Qq (QfZ rr)⟩
  exact k _ _ _ E2 R2 ⟨p,by rw[<-R.h.len];exact QD,rfl⟩
theorem QhC{α:List Addr}{hs:Hs}{H:Hp}{K:W.Frag}(R:Rep T A K α hs H):∀{xs:List U} {vs:List V} {kvs:List (List U×U)},QhD hs xs=some kvs->RUs A α xs vs ->
  ∃kv:List (List Key×V),RT A α kvs kv/\Paired (λ(v:V) (p:List Key×V)=>∃t kb,v=.ref t/\H t=some (.tup [.ref kb,p.2])/\H kb=some (.tup (p.1.map kV))) vs kv
 |[],vs,kvs,h,r=>by cases h;cases Qm r;exact⟨[],.nil,.nil⟩
 |u::xs,vs,kvs,h,r=>by
  cases u with
  |ref p=>
   simp only[QhD]at h;split at h
   ·rename_i k v hp;simp only[Xb,Xd]at h;obtain⟨t,ht,l,hl,rfl⟩:=h;obtain⟨y,ws,rfl,ru,rn⟩:=Qj r;obtain⟨kv,q1,q2⟩:=QhC R hl rn;obtain⟨a,ha,rfl⟩:=ru;obtain⟨zs,ez,rz⟩:=R.h.ob p a _ ha hp;obtain⟨y1,zs1,rfl,s1,rn1⟩:=Qj rz;obtain⟨y2,zs2,rfl,s2,rn2⟩:=Qj rn1;cases Qm rn2;obtain⟨b,kk,rfl,rk,hb⟩:=QfX R ht s1;exact⟨(kk,y2)::kv,.cons ⟨rk,s2⟩ q1,.cons ⟨a,b,rfl,ez,hb⟩ q2⟩
   ·cases h
  |_=>exact nomatch (show none=some _ from h)
def QjF{kvs:List (List U×U)}{kv:List (List Key×V)}{acc:List (List U×U)}{acc':List (List Key×V)}(h:RT A α kvs kv)(h':RT A α acc acc'):RT A α (kvs.foldl (λa p=>ZA a p.1 p.2) acc) (kv.foldl (λa p=>ZT a p.1 p.2) acc'):=by
 unfold RT at h
 induction h generalizing acc acc' with
 |nil=>exact h'
 |cons r _ ih=>exact ih (RG.put JW r.1 r.2 h')
def Qg7(hu:X.A.units+2<cLine)(hh:X.calm=true):BiS X T A .dict (.type "dict"):=by
 refine⟨_,Qc8 hu hh,?_⟩;intro α us u' hs hs' vs H Q h r R k;have h:biL T .dict us hs=some (u',hs'):=h
 obtain⟨u,rfl⟩:∃u,us=[u]:=by
  match us,h with
  |[],h=>exact Znn h
  |_::_::_,h=>exact Znn h
  |[u],_=>exact⟨u,rfl⟩
 have h:Option.bind (QaE u hs) _=some (u',hs'):=h;simp only[Xb,Xd]at h;obtain⟨xs,el,kvs,hk,h⟩:=h;cases h;obtain⟨v,ws,rfl,ru,rn⟩:=Qj r;cases Qm rn
 cases u with
 |ref p=>
  simp only[QaE]at el;split at el
  ·rename_i ys hp;cases el;obtain⟨a,ha,rfl⟩:=ru;obtain⟨zs,ez,rz⟩:=R.h.ob p a _ ha hp;obtain⟨kv,q1,q2⟩:=QhC R hk rz;refine⟨a,zs,kv,rfl,ez,q2,λd hd=>?_⟩;obtain⟨R2,E2⟩:=R.new (p:=d) (o:=.dct (QbC kvs)) (ho:=.dT (JY kv)) hd ⟨_,Qh,RT.mono Qq (QjF q1 .nil)⟩
   exact k _ _ _ E2 R2 ⟨d,by rw[<-R.h.len];exact QD,rfl⟩
  ·cases el
 |_=>exact nomatch (show none=some _ from el)
def BmS(X:Cx)(T:Tbl)(A:Adr)(b:Bm)(id:String):Prop:=∃r,MtR X id r/\∀{α:List Addr} {o u':U} {us:List U} {hs hs':Hs} {x:V} {vs:List V} {H:Hp} {Q:VK},bmU T b o us hs=some (u',hs')->RU A α o x->RUs A α us vs->Rep T A X.K α hs H ->
 (∀α' v' H',Ext α α' H H'->Rep T A X.K α' hs' H'->RU A α' u' v'->Q v' H')->r x vs H Q
def Qfv{b:Bm}{o u':U}{us:List U}{hs':Hs}(h:bmU T b o us hs=some (u',hs'))(hb:∀x,bmS T b x us hs=none)(hd:∀n kvs,bmD b n kvs us hs=none):∃n xs,o=.ref n/\hs[n]?=some (.lst xs):=by
 cases o with
 |ref n=>
  simp only[bmU]at h;split at h
  ·rename_i xs e;exact⟨n,xs,rfl,e⟩
  ·rw[hd]at h;cases h
  ·cases h
 |str x=>
  simp only[bmU]at h;rw[hb]at h;cases h
 |_=>simp[bmU]at h
def Qdc:BmS X T A .append "list.append":=by
 refine⟨_,QaD,?_⟩;intro α o u' us hs hs' x vs H Q h ro r R k;obtain⟨n,xs,rfl,e⟩:=Qfv h (λz=>rfl) (λz z=>rfl);obtain⟨a,ha,rfl⟩:=ro
 cases us with
 |nil=>simp[bmU,bmL,e]at h
 |cons u t=>
  cases t with
  |cons _ _=>simp[bmU,bmL,e]at h
  |nil=>
   simp only[bmU,bmL,e]at h;split at h
   ·rename_i l;cases h;obtain⟨v,ws,rfl,ru,rn⟩:=Qj r;cases Qm rn;obtain⟨ys,q,rr⟩:=R.h.ob n a _ ha e;refine⟨a,ys,v,rfl,rfl,q,?_,?_⟩
    ·rw[<-rr.length];exact Xr l big
    ·obtain⟨R',E'⟩:=R.put (o:=.lst (xs++[u])) ha ⟨_,Qh,rr.append (.cons ru .nil)⟩;exact k _ _ _ E' R' rfl
   ·cases h
theorem RUs.reverse{us:List U}{vs:List V}(h:RUs A α us vs):RUs A α us.reverse vs.reverse:=QhF h
def Qdb:BmS X T A .extend "list.extend":=by
 refine⟨_,Qei,?_⟩;intro α o u' us hs hs' x vs H Q h ro r R k;obtain⟨n,xs,rfl,e⟩:=Qfv h (λz=>rfl) (λz z=>rfl);obtain⟨a,ha,rfl⟩:=ro
 cases us with
 |nil=>simp[bmU,bmL,e]at h
 |cons u t=>
  cases t with
  |cons _ _=>cases u<;>simp[bmU,bmL,e]at h
  |nil=>
   cases u with
   |ref m=>
    simp only[bmU,bmL,e]at h;split at h
    ·rename_i ys e2;split at h
     ·rename_i l;cases h;obtain⟨v,ws,rfl,ru,rn⟩:=Qj r;cases Qm rn;obtain⟨b,hb,rfl⟩:=ru;obtain⟨zs,q,rr⟩:=R.h.ob n a _ ha e;obtain⟨zt,q2,rr2⟩:=R.h.ob m b _ hb e2;refine⟨a,b,zs,zt,rfl,rfl,q,q2,?_,?_⟩
      ·rw[<-rr.length,<-rr2.length];exact Wd l big
      ·obtain⟨R',E'⟩:=R.put (o:=.lst (xs++ys)) ha ⟨_,Qh,rr.append rr2⟩;exact k _ _ _ E' R' rfl
     ·cases h
    ·cases h
   |_=>simp[bmU,bmL,e]at h
def RK.eq{w:U}{a b:Key}(h:RK u a)(h':RK w b):u=w↔a=b:=by
 cases u with
 |int i m=>
  obtain⟨rfl,rfl⟩:=h
  cases w with
  |int j n=>obtain⟨rfl,rfl⟩:=h';simp
  |str y=>cases(show b=_ from h');simp
  |_=>exact h'.elim
 |str x=>
  cases(show a=_ from h)
  cases w with
  |int j n=>obtain⟨rfl,rfl⟩:=h';simp
  |str y=>
   cases(show b=_ from h');constructor
   ·intro e;cases e;rfl
   ·intro e;have e1:=Sum.inr.inj e;have e2:=congrArg (λt:Str=>t.cps.toList) e1;simp only at e2;rw[e2]
  |_=>exact h'.elim
 |_=>exact h.elim
def Qjt(h:Qa6 u=true)(r:RU A α u v):∃k,RK u k/\v=kV k:=by
 cases u with
 |int i m=>
  cases m with
  |zero=>obtain⟨j,rfl,c⟩:=r;cases c.exact;exact⟨.inl i,⟨rfl,rfl⟩,rfl⟩
  |succ m=>cases h
 |str x=>cases(show v=_ from r);exact⟨.inr _,rfl,rfl⟩
 |_=>cases h
def Qqo(A:Adr)(α:List Addr)(o:Option U)(v:Option V):Prop:=match o with
 |some x=>∃z,v=some z/\RU A α x z
 |none=>v=none
def Qgv{k:U}{k':Key}(hk:RK k k'){kvs:List (U×U)}{kv:List (Key×V)}(h:RD A α kvs kv):Qqo A α (QcP kvs k) (ZP kv k'):=by
 unfold RD at h
 induction h with
 |nil=>rfl
 | @cons p q ps qs h t ih=>
  obtain⟨p1,p2⟩:=p;obtain⟨h1,h2⟩:=h;have e:=RK.eq h1 hk;show Qqo A α (if p1=k then some p2 else QcP ps k) (ZP (q::qs) k');by_cases c:p1=k
  ·rw[if_pos c];exact⟨_,Yy (e.mp c),h2⟩
  ·rw[if_neg c,Yz λz=>c (e.mpr z)];exact ih
def Qda:BmS X T A .setdef "dict.setdefault":=by
 refine⟨_,Qeh,?_⟩;intro α o u' us hs hs' x vs H Q h ro r R k
 cases o with
 |ref n=>
  simp only[bmU]at h;split at h
  ·simp[bmL]at h
  case h_3=>cases h
  rename_i kvs e;obtain⟨a,ha,rfl⟩:=ro;simp only[bmD]at h;split at h
  case h_2=>cases h
  rename_i ku u;split at h
  case isFalse=>cases h
  rename_i ck;obtain⟨vk,ws,rfl,rk,rn⟩:=Qj r;obtain⟨vy,ws,rfl,ry,rn⟩:=Qj rn;cases Qm rn;obtain⟨k',hk',rfl⟩:=Qjt ck.1 rk;obtain⟨kv,q,rr⟩:=R.h.ob n a _ ha e;have lk:=Qgv hk' rr;split at h
  ·rename_i x' ex;cases h;rw[ex]at lk;obtain⟨z,ez,rz⟩:=lk;refine⟨a,k',vy,kv,rfl,rfl,q,?_,λz' ez'=>?_,λen=>?_⟩
   ·rw[<-Wq rr];exact Xr ck.2 big
   ·rw[ez]at ez';cases ez';exact k α _ H Ext.refl R rz
   ·rw[ez]at en;cases en
  ·rename_i ex;cases h;rw[ex]at lk;have lk:ZP kv k'=none:=lk;refine⟨a,k',vy,kv,rfl,rfl,q,?_,λz' ez'=>?_,λy=>?_⟩
   ·rw[<-Wq rr];exact Xr ck.2 big
   ·rw[lk]at ez';cases ez'
   ·obtain⟨R',E'⟩:=R.put (o:=.dic (kvs++[_])) ha ⟨_,Qh,Paired.snoc rr (show RK (Prod.fst (_,u')) (Prod.fst (k',vy))/\RU A α (Prod.snd (_,u')) (Prod.snd (k',vy))from⟨hk',ry⟩)⟩;exact k _ _ _ E' R' ry
 |_=>first|(simp[bmU,bmS]at h;done)|(simp[bmU]at h;done)
def Qj4(hu:X.A.units+1<cLine):BmS X T A .get "dict.get":=by
 refine⟨_,Qjm hu,?_⟩;intro α o u' us hs hs' x vs H Q h ro r R k
 cases o with
 |ref n=>
  simp only[bmU]at h;split at h
  ·simp[bmL]at h
  case h_3=>cases h
  rename_i kvs e;obtain⟨a,ha,rfl⟩:=ro;simp only[bmD]at h;split at h
  case h_2=>cases h
  rename_i ku u;split at h
  case isFalse=>cases h
  rename_i ck;cases h;obtain⟨vk,ws,rfl,rk,rn⟩:=Qj r;obtain⟨vy,ws,rfl,ry,rn⟩:=Qj rn;cases Qm rn
  have g:=QbJ (o:=.dic kvs) (w:=ku) (r:=Qz kvs ku) R e ha (by simp only[ZI];rw[if_pos ck]) rk
  rcases g with⟨h1,g⟩|⟨u1,v1,h1,g,rv⟩
  ·exact⟨a,vk,vy,none,rfl,rfl,g,k α vy H Ext.refl R (by rw[h1];exact ry)⟩
  ·exact⟨a,vk,vy,some v1,rfl,rfl,g,k α v1 H Ext.refl R (by rw[h1];exact rv)⟩
 |_=>first|(simp[bmU,bmS]at h;done)|(simp[bmU]at h;done)
def Qc9:BmS X T A .update "dict.update":=by
 refine⟨_,Qeg,?_⟩;intro α o u' us hs hs' x vs H Q h ro r R k
 cases o with
 |ref n=>
  simp only[bmU]at h;split at h
  ·simp[bmL]at h
  case h_3=>cases h
  rename_i kvs e;obtain⟨a,ha,rfl⟩:=ro;simp only[bmD]at h;split at h
  case h_2=>cases h
  rename_i m;split at h
  case h_2=>cases h
  rename_i more e2;split at h
  case isFalse=>cases h
  rename_i c;cases h;obtain⟨vy,ws,rfl,ry,rn⟩:=Qj r;cases Qm rn;obtain⟨b,hb,rfl⟩:=ry;obtain⟨kv,q,rr⟩:=R.h.ob n a _ ha e;obtain⟨mv,q2,rr2⟩:=R.h.ob m b _ hb e2;have l1:=RG.length rr;have l2:=RG.length rr2
  have ne:a≠b:=λz=>by
   rcases R.h.nd n m a ha (z▸hb)with w|⟨vs,w⟩
   ·exact c.1 w
   ·rw[q]at w;cases w
  refine⟨a,b,kv,mv,rfl,rfl,q,q2,ne,Wd (by omega) big,?_⟩
  obtain⟨R',E'⟩:=R.put (o:=.dic (Jk kvs more)) (ho:=.dK (ZW kv mv)) ha ⟨_,Qh,RG.merge Jt rr2 rr⟩;exact k α .non _ E' R' rfl
 |_=>first|(simp[bmU,bmS]at h;done)|(simp[bmU]at h;done)
end
end
section
variable {ir:E}{a e:Expr}{d:Nat}{p:Pos}
def TIO(T:Tbl)(A:Adr)(K:W.Frag)(f:Rho->Hs->Option (Option Int×Hs)):TO:=λY H Q=>∃α Z hs u hs',RS A α Z Y/\Rep T A K α hs H/\f Z hs=some (u,hs') /\
 ∀α' H',Ext α α' H H'->Rep T A K α' hs' H'->Q u H'
structure Fc(X:Cx)(T:Tbl)(A:Adr)(cf:Cf)(k:Nat):Prop where
 ok:∀f F,T.fns[f]?=some F->∃fd,FnOk X.prog X.w X.K X.mg X.base CX0 k (A.f f) fd F.ps (spC T A X.K cf f)/\Binds X.K fd F.ps []/\W.keepIn X.K (.ref (A.f f))=true
 some:∀f us hs r,cf f us hs=some r->∃F,T.fns[f]?=some F/\us.length=F.np
 df:∀i D F,T.dfl.lookup i=Option.some D->T.fns[i]?=Option.some F->∃fd,FnOk X.prog X.w X.K X.mg X.base CX0 k (A.f i) fd D.ps (spC T A X.K cf i)/\W.keepIn X.K (.ref (A.f i))=true/\Qkx A X.K fd D
 xf:∀f F,T.fns[f]?=Option.some F->∃fd,FnOk X.prog X.w X.K X.mg X.base (CXw X.prog X.w) k (A.f f) fd F.ps (spX T A X.K T.xf f)/\Binds X.K fd F.ps []/\W.keepIn X.K (.ref (A.f f))=true
structure Snd(T:Tbl)(A:Adr)(C:Ctx)(X:Cx)(cf:Cf)(m:Nat):Prop where
 e:∀d e ir,Qg m C e=some ir->PE X e (TI T A X.K (ev T cf d ir))
 t:∀d e ir,compT m C e=some ir->PT X e (TIT T A X.K (evT T cf d ir))/\PE X e (TI T A X.K (ev T cf d ir))
 an:∀d a r p ir,compAnd m C a r p=some ir->PW X (.BoolOp .And (a::r) p) (TIT T A X.K (evT T cf d ir))/\PE X (.BoolOp .And (a::r) p) (TI T A X.K (ev T cf d ir))
 orr:∀d a r p ir,compOr m C a r p=some ir->PW X (.BoolOp .Or (a::r) p) (TIT T A X.K (evT T cf d ir))/\PE X (.BoolOp .Or (a::r) p) (TI T A X.K (ev T cf d ir))
 a:∀d es irs,compA m C es=some irs->PA X es (TIA T A X.K (λZ hs=>evs (ev T cf d) Z irs hs))
 o:∀d e ir,compO m C e=some ir->PO X e (TIO T A X.K (λZ hs=>evO (ev T cf d) Z ir hs))
section
variable {X:Cx}{T:Tbl}{A:Adr}{C:Ctx}{cf:Cf}{m:Nat}
def QbQ{t:TT}(h:∀Y H Q,¬t Y H Q):PT X e t:=λz z Y H Q z q=>(h Y H Q q).elim
def Qkk{t:TT}(h:∀Y H Q,¬t Y H Q):PW X e t:=λz z z Y H Q z q=>(h Y H Q q).elim
def Qou{K:W.Frag}:∀Y H Q,¬TI T A K (ev T cf 0 ir) Y H Q:=λz z z y=>by obtain⟨_,_,_,_,_,_,_,h,_⟩:=y;exact nomatch h
def Qeb{K:W.Frag}:∀Y H Q,¬TIT T A K (evT T cf 0 ir) Y H Q:=λz z z y=>by obtain⟨_,_,_,_,_,_,_,h,_⟩:=y;exact nomatch h
def QA(h:∀d',PE X e (TI T A X.K (ev T cf (d'+1) ir))):PE X e (TI T A X.K (ev T cf d ir)):=by
 cases d with
 |zero=>exact QbR Qou
 |succ d=>exact h d
def QiC{c:Const}{k:Nat}(h:Qg (m+1) C (.Constant c k p)=some ir):PE X (.Constant c k p) (TI T A X.K (ev T cf d ir)):=by
 refine QA λd=>?_
 cases c with
 |int i=>cases h;exact Q0 Qd7 λY H Q z=>by obtain⟨α,Z,hs,u,hs',rs,R,e,q⟩:=z;cases e;exact q α _ H Ext.refl R ⟨i,rfl,Cg.refl _ _⟩
 |bool b=>cases h;exact Q0 Qok λY H Q y=>by obtain⟨α,Z,hs,u,hs',rs,R,e,q⟩:=y;cases e;exact q α _ H Ext.refl R rfl
 |none=>cases h;exact Q0 QlP λY H Q w=>by obtain⟨α,Z,hs,u,hs',rs,R,e,q⟩:=w;cases e;exact q α _ H Ext.refl R rfl
 |str x=>cases h;exact Q0 QhK λY H Q v=>by obtain⟨α,Z,hs,u,hs',rs,R,e,q⟩:=v;cases e;exact q α _ H Ext.refl R rfl
 |_=>first|exact Znn h|simp[Qg]at h
def Qlk{x:Str}(g:GX T A C X)(h:Qg (m+1) C (.Name x p)=some ir):PE X (.Name x p) (TI T A X.K (ev T cf d ir)):=by
 refine QA λd=>?_;simp only[cE4]at h;split at h
 ·cases h
 ·rename_i hn;have n1:(x==("__debug__":Str))=false:=QL λz=>hn (.inl z);have n2:(x==("__classdict__":Str))=false:=QL λz=>hn (.inr z);split at h
  ·rename_i hv;simp only[Xd]at h;obtain⟨i,hi,rfl⟩:=h
   refine Q0 (QlM (i:=i) (by rw[g.N];exact Zg hi) (QkM g hv) n1 n2) ?_
   rintro Y H Q ⟨α,Z,hs,u,hs',rs,R,e,q⟩;simp only[ev]at e;split at e
   ·rename_i w e';cases e;obtain⟨v,h1,h2⟩:=rs.get e';exact⟨v,h1,q α v H Ext.refl R h2⟩
   ·cases e
  ·split at h
   ·rename_i hg;split at h
    ·rename_i k hk;cases h;refine Q0 (JJ (QN g hg) (g.gco x k hk) (v:=.ref (A.k k)) rfl n1) ?_;rintro Y H Q ⟨α,Z,hs,u,hs',rs,R,e,q⟩;cases e;exact q α _ H Ext.refl R rfl
    ·rename_i t hk;cases h;obtain⟨k,hm⟩:=g.gtx x t hk;refine Q0 (JJ (QN g hg) hm (v:=.str ⟨t.toArray⟩) ⟨_,rfl⟩ n1) ?_;rintro Y H Q ⟨α,Z,hs,u,hs',rs,R,e,q⟩;simp only[ev]at e;cases e;exact q α _ H Ext.refl R rfl
    ·cases h
   ·cases h
def Qn6{b:Expr}{o:Operator}(S:Snd T A C X cf m)(h:Qg (m+1) C (.BinOp a o b p)=some ir):PE X (.BinOp a o b p) (TI T A X.K (ev T cf d ir)):=by
 refine QA λd=>?_;simp only[cE5,Xb]at h;obtain⟨a',ha,b',hb,h⟩:=h;cases h;obtain⟨r,ho,hr⟩:=opS (X:=X) (T:=T) (A:=A) o;refine Q0 (Qoh ho (S.e d a a' ha) (S.e d b b' hb)) ?_;rintro Y H Q ⟨α,Z,hs,u,hs',rs,R,e,q⟩;simp only[ev]at e;obtain⟨u1,h1,e1,e⟩:=Qe e;obtain⟨u2,h2,e2,e⟩:=Qe e;refine TI.run rs R e1 λα1 x H1 E1 R1 r1 rs1=>?_;refine TI.run rs1 R1 e2 λα2 y H2 E2 R2 r2 rs2=>?_;exact hr e (r1.mono E2.pre) r2 R2 λα3 v H3 E3 R3 r3=>q α3 v H3 ((E1.trans E2 R2.h).trans E3 R3.h) R3 r3
def Qn2(S:Snd T A C X cf m)(h:Qg (m+1) C (.UnaryOp .USub a p)=some ir):PE X (.UnaryOp .USub a p) (TI T A X.K (ev T cf d ir)):=by
 refine QA λd=>?_;simp only[cE6,Xb]at h;obtain⟨a',ha,h⟩:=h;cases h;refine Q0 (QlN Qhl (S.e d a a' ha)) ?_;rintro Y H Q ⟨α,Z,hs,u,hs',rs,R,e,q⟩;simp only[ev]at e;obtain⟨u1,h1,e1,e⟩:=Qe e;refine TI.run rs R e1 λα1 x H1 E1 R1 r1 rs1=>?_;split at e
 ·cases e;obtain⟨i,rfl,c⟩:=r1;exact⟨i,rfl,q α1 _ H1 E1 R1 ⟨_,rfl,Qh5 c⟩⟩
 ·cases e
def Qlj(tx:Txt T A X.K X.mg)(S:Snd T A C X cf m)(h:Qg (m+1) C (.UnaryOp .Not a p)=some ir):PE X (.UnaryOp .Not a p) (TI T A X.K (ev T cf d ir))/\PT X (.UnaryOp .Not a p) (TIT T A X.K (evT T cf d ir)):=by
 simp only[cE7,Xb]at h;obtain⟨a',ha,h⟩:=h;cases h;constructor
 ·refine QA λd=>?_;intro pins s Y H Q I hw;obtain⟨α,Z,hs,u,hs',rs,R,e,q⟩:=hw;simp only[ev]at e;obtain⟨u1,h1,e1,e⟩:=Qe e;simp only[Xd]at e;obtain⟨c,e2,e⟩:=e;cases e;refine UnaryOp_ (thn ((S.t d a a' ha).2 pins s Y H (λv H'=>Qm2 X.K v H' c/\Q (.bl (!c)) H') I ⟨α,Z,hs,u1,_,rs,R,e1,λα' v H' E' R' r'=>⟨Qdz tx R' e2 r',q α' _ H' E' R' rfl⟩⟩) λv s1 z=>?_);obtain⟨x,H1,I1,r1,q1,q2⟩:=z
  exact not_of (thn (Qhn pins s1 Y H1 x v (λb H'=>b=c/\H'=H1) I1 r1 ⟨c,q1,rfl,rfl⟩) λb s2 y=>by obtain⟨H2,I2,eb,eH⟩:=y;exact⟨.bl (!c),H2,I2,by rw[eb];rfl,by rw[eH];exact q2⟩)
 ·cases d with
  |zero=>exact QbQ Qeb
  |succ d=>
   refine Qkl (QlB (S.t d a a' ha).1) ?_;rintro Y H Q ⟨α,Z,hs,u,hs',rs,R,e,q⟩;simp only[evT]at e;obtain⟨c,h1,e1,e⟩:=Qe e;cases e;exact TIT.run rs R e1 λα1 H1 E1 R1 rs1=>q α1 H1 E1 R1
end
end
section
variable {ir:E}{a:Expr}{d:Nat}{p:Pos}
section
variable {X:Cx}{T:Tbl}{A:Adr}{C:Ctx}{cf:Cf}{m:Nat}
def Qb5{e:Expr}(h:∀d',PT X e (TIT T A X.K (evT T cf (d'+1) ir))):PT X e (TIT T A X.K (evT T cf d ir)):=by
 cases d with
 |zero=>exact QbQ Qeb
 |succ d=>exact h d
def Qb3{e:Expr}(h:∀d',PW X e (TIT T A X.K (evT T cf (d'+1) ir))):PW X e (TIT T A X.K (evT T cf d ir)):=by
 cases d with
 |zero=>exact Qkk Qeb
 |succ d=>exact h d
def Qlp(S:Snd T A C X cf m)(d:Nat)(a:Expr)(r:List Expr)(p:Pos)(ir:E)(h:compAnd (m+1) C a r p=some ir):
  PW X (.BoolOp .And (a::r) p) (TIT T A X.K (evT T cf d ir))/\PE X (.BoolOp .And (a::r) p) (TI T A X.K (ev T cf d ir)):=by
 cases r with
 |nil=>exact⟨QiQ (S.t d a ir h).1,QhL (S.t d a ir h).2⟩
 |cons b r=>
  simp only[compAnd,Xb]at h;obtain⟨a',ha,b',hb,h⟩:=h;cases h;constructor
  ·refine Qb3 λd=>?_;refine Qm3 (Qlz (S.t d a a' ha).1 (S.an d b r p b' hb).1) ?_;rintro Y H Q ⟨α,Z,hs,u,hs',rs,R,e,q⟩;simp only[evT]at e;obtain⟨c,h1,e1,e⟩:=Qe e;refine TIT.run rs R e1 λα1 H1 E1 R1 rs1=>?_
   cases c with
   |true=>exact TIT.run rs1 R1 e λα2 H2 E2 R2 rs2=>q α2 H2 (E1.trans E2 R2.h) R2
   |false=>cases e;exact q α1 H1 E1 R1
  ·refine QA λd=>?_;refine Q0 (QlS (S.t d a a' ha).2 (S.an d b r p b' hb).2) ?_;rintro Y H Q ⟨α,Z,hs,u,hs',rs,R,e,q⟩;simp only[ev]at e;obtain⟨u1,h1,e1,e⟩:=Qe e;refine TI.run rs R e1 λα1 x H1 E1 R1 r1 rs1=>?_;split at e
   ·cases(show x=_ from r1);exact⟨true,rfl,TI.run rs1 R1 e λα2 v H2 E2 R2 r2 rs2=>q α2 v H2 (E1.trans E2 R2.h) R2 r2⟩
   ·cases(show x=_ from r1);cases e;exact⟨false,rfl,q α1 _ H1 E1 R1 rfl⟩
   ·cases e
def QpX(S:Snd T A C X cf m)(d:Nat)(a:Expr)(r:List Expr)(p:Pos)(ir:E)(h:compOr (m+1) C a r p=some ir):
  PW X (.BoolOp .Or (a::r) p) (TIT T A X.K (evT T cf d ir))/\PE X (.BoolOp .Or (a::r) p) (TI T A X.K (ev T cf d ir)):=by
 cases r with
 |nil=>exact⟨Qly (S.t d a ir h).1,QhL (S.t d a ir h).2⟩
 |cons b r=>
  simp only[compOr,Xb]at h;obtain⟨a',ha,b',hb,h⟩:=h;cases h;constructor
  ·refine Qb3 λd=>?_;refine Qm3 (Qof (S.t d a a' ha).1 (S.orr d b r p b' hb).1) ?_;rintro Y H Q ⟨α,Z,hs,u,hs',rs,R,e,q⟩;simp only[evT]at e;obtain⟨c,h1,e1,e⟩:=Qe e;refine TIT.run rs R e1 λα1 H1 E1 R1 rs1=>?_
   cases c with
   |false=>exact TIT.run rs1 R1 e λα2 H2 E2 R2 rs2=>q α2 H2 (E1.trans E2 R2.h) R2
   |true=>cases e;exact q α1 H1 E1 R1
  ·refine QA λd=>?_;refine Q0 (Qog (S.t d a a' ha).2 (S.orr d b r p b' hb).2) ?_;rintro Y H Q ⟨α,Z,hs,u,hs',rs,R,e,q⟩;simp only[ev]at e;obtain⟨u1,h1,e1,e⟩:=Qe e;refine TI.run rs R e1 λα1 x H1 E1 R1 r1 rs1=>?_;split at e
   ·cases(show x=_ from r1);cases e;exact⟨true,rfl,q α1 _ H1 E1 R1 rfl⟩
   ·cases(show x=_ from r1);exact⟨false,rfl,TI.run rs1 R1 e λα2 v H2 E2 R2 r2 rs2=>q α2 v H2 (E1.trans E2 R2.h) R2 r2⟩
   ·cases e
def Qma{b:Expr}{b':E}{o:CmpOp}(h:Qg m C b=some b'):behindInMarks o b=false:=by
 cases b<;>first|rfl|skip
 cases m<;>first|exact Znn h|simp[Qg]at h
def Qlo{b:Expr}{o:CmpOp}(tx:Txt T A X.K X.mg)(tab:Qaj X.prog X.w T A X.K)(hu:X.A.units+64<cLine)(S:Snd T A C X cf m)(h:Qg (m+1) C (.Compare a [o] [b] p)=some ir):
  PE X (.Compare a [o] [b] p) (TI T A X.K (ev T cf d ir))/\PT X (.Compare a [o] [b] p) (TIT T A X.K (evT T cf d ir)):=by
 simp only[QrQ,Xb]at h;obtain⟨a',ha,b',hb,h⟩:=h;cases h;obtain⟨r,ho,hr⟩:=Qrn (X:=X) (T:=T) (A:=A) tx tab hu o
 have key:∀(d:Nat) (Y:St) (H:Hp) (Q:VK) (α:List Addr) (Z:Rho) (hs hs':Hs) (u:U),RS A α Z Y->Rep T A X.K α hs H->ev T cf (d+1) (.cmp o a' b') Z hs=some (u,hs') ->
   (∀α' c H',u=.bl c->Ext α α' H H'->Rep T A X.K α' hs' H'->Q (.bl c) H')->tOp r (TI T A X.K (ev T cf d a')) (TI T A X.K (ev T cf d b')) Y H Q:=by
  intro d Y H Q α Z hs hs' u rs R e q;simp only[ev]at e;obtain⟨u1,h1,e1,e⟩:=Qe e;obtain⟨u2,h2,e2,e⟩:=Qe e;simp only[Xd]at e;obtain⟨c,e3,e⟩:=e;cases e;refine TI.run rs R e1 λα1 x H1 E1 R1 r1 rs1=>?_;refine TI.run rs1 R1 e2 λα2 y H2 E2 R2 r2 rs2=>?_;exact hr e3 (r1.mono E2.pre) r2 R2 (q α2 c H2 rfl (E1.trans E2 R2.h) R2)
 constructor
 ·refine QA λd=>?_;refine Q0 (Qi8 ho (S.e d a a' ha) (S.e d b b' hb) (Qma hb)) ?_;rintro Y H Q ⟨α,Z,hs,u,hs',rs,R,e,q⟩
  exact key d Y H Q α Z hs hs' u rs R e λα' c H' eu E' R'=>q α' _ H' E' R' (by rw[eu];rfl)
 ·refine Qb5 λd=>?_
  cases d with
  |zero=>exact QbQ λz z z v=>by obtain⟨_,_,_,_,_,_,_,h,_⟩:=v;simp[evT,ev,bd]at h
  |succ d=>
   refine Qkl (QiS ho (S.e d a a' ha) (S.e d b b' hb) (Qma hb)) ?_;rintro Y H Q ⟨α,Z,hs,u,hs',rs,R,e,q⟩;simp only[evT]at e;obtain⟨u1,h1,e1,e⟩:=Qe e;simp only[Xd]at e;obtain⟨c,e3,e⟩:=e;cases e;refine key d Y H _ α Z hs _ u1 rs R e1 λα' c' H' eu E' R'=>⟨c',rfl,?_⟩;rw[eu]at e3;cases e3;exact q α' H' E' R'
theorem YZ{f:Ev}{Z:Rho}:∀{es:List E} {hs hs':Hs} {us:List U},evs f Z es hs=some (us,hs')->us.length=es.length
 |[],_,_,_,h=>by cases h;rfl
 |e::r,hs,hs',us,h=>by
  simp only[evs]at h;obtain⟨u,h1,e1,h⟩:=Qe h;obtain⟨ws,h2,e2,h⟩:=Qe h;cases h;simp[YZ e2]
theorem Q7{C:Ctx}:∀{m:Nat} {es:List Expr} {irs:List E},compA m C es=some irs->irs.length=es.length
 |0,_,_,h=>by simp[compA]at h
 |m+1,[],_,h=>by cases h;rfl
 |m+1,e::r,irs,h=>by
  simp only[compA,Xb]at h;obtain⟨e',he,r',hr,h⟩:=h;cases h;simp[Q7 hr]
def Qhu(S:Snd T A C X cf m)(d:Nat)(es:List Expr)(irs:List E)(h:compA (m+1) C es=some irs):PA X es (TIA T A X.K (λZ hs=>evs (ev T cf d) Z irs hs)):=by
 cases es with
 |nil=>
  cases h;refine Qhf Ji ?_;rintro Y H Q ⟨α,Z,hs,u,hs',rs,R,e,q⟩;cases e;exact q α [] H Ext.refl R .nil
 |cons e r=>
  simp only[compA,Xb]at h;obtain⟨e',he,r',hr,h⟩:=h;cases h;refine Qhf (Zv (S.e d e e' he) (S.a d r r' hr) (Qn (QC he))) ?_;rintro Y H Q ⟨α,Z,hs,u,hs',rs,R,e,q⟩;simp only[evs]at e;obtain⟨u1,h1,e1,e⟩:=Qe e;obtain⟨us,h2,e2,e⟩:=Qe e;cases e;refine TI.run rs R e1 λα1 x H1 E1 R1 r1 rs1=>?_;exact TIA.run rs1 R1 e2 λα2 xs H2 E2 R2 r2 rs2=>q α2 _ H2 (E1.trans E2 R2.h) R2 (.cons (r1.mono E2.pre) r2)
def Qli(S:Snd T A C X cf m)(d:Nat)(e:Option Expr)(ir:Option E)(h:compO (m+1) C e=some ir):PO X e (TIO T A X.K (λZ hs=>evO (ev T cf d) Z ir hs)):=by
 cases e with
 |none=>
  cases h;intro pins s Y H Q I hw;refine QiZ pins s Y H Q I ?_;obtain⟨α,Z,hs,u,hs',rs,R,e,q⟩:=hw;cases e;exact q α H Ext.refl R
 |some e=>
  simp only[compO,Xb]at h;obtain⟨e',he,h⟩:=h;cases h;intro pins s Y H Q I hw;refine Qd2 (S.e d e e' he) pins s Y H Q I ?_;obtain⟨α,Z,hs,u,hs',rs,R,e,q⟩:=hw;simp only[evO]at e;obtain⟨u1,h1,e1,e⟩:=Qe e;refine TI.run rs R e1 λα1 x H1 E1 R1 r1 rs1=>?_;split at e
  ·cases e;obtain⟨i,rfl,c⟩:=r1;cases c.exact;exact⟨_,rfl,q α1 H1 E1 R1⟩
  ·cases e
def TIO.run{T:Tbl}{A:Adr}{K:W.Frag}{α:List Addr}{Z:Rho}{Y:St}{hs h1:Hs}{H:Hp}{f:Rho->Hs->Option (Option Int×Hs)}{u:Option Int}{Q:Option Int->Hp->Prop}(rs:RS A α Z Y)(rp:Rep T A K α hs H)(h:f Z hs=some (u,h1))
  (k:∀α1 H1,Ext α α1 H H1->Rep T A K α1 h1 H1->RS A α1 Z Y->Q u H1):TIO T A K f Y H Q :=
 ⟨α,Z,hs,u,h1,rs,rp,h,λα1 H1 e r=>k α1 H1 e r (rs.mono e.pre)⟩
def Qiz{es:List Expr}{k:Nat}(S:Snd T A C X cf m)(h:Qg (m+1) C (.Tuple es k p)=some ir):PE X (.Tuple es k p) (TI T A X.K (ev T cf d ir)):=by
 refine QA λd=>?_;simp only[QrP]at h;split at h
 case isFalse=>cases h
 rename_i hz;simp only[Xb]at h;obtain⟨es',he,h⟩:=h;cases h;refine Q0 (QhJ (S.a d es es' he)) ?_;rintro Y H Q ⟨α,Z,hs,u,hs',rs,R,e,q⟩;simp only[ev]at e;obtain⟨us,h1,e1,e⟩:=Qe e;cases e;refine TIA.run rs R e1 λα1 vs H1 E1 R1 r1 rs1=>⟨?_,λp hp=>?_⟩
 ·rw[<-r1.length,YZ e1,Q7 he];exact Wd hz big
 ·obtain⟨R',E'⟩:=R1.new (o:=.tup us) hp ⟨_,Qh,RUs.mono Qq r1⟩
  exact q _ _ _ (E1.trans E' R'.h) R' ⟨p,by rw[<-R1.h.len];exact QD,rfl⟩
def Qlm{es:List Expr}(S:Snd T A C X cf m)(h:Qg (m+1) C (.List es p)=some ir):PE X (.List es p) (TI T A X.K (ev T cf d ir)):=by
 refine QA λd=>?_;simp only[QrO]at h;split at h
 case isFalse=>cases h
 rename_i hz;simp only[Xb]at h;obtain⟨es',he,h⟩:=h;cases h;refine Q0 (QlQ (S.a d es es' he)) ?_;rintro Y H Q ⟨α,Z,hs,u,hs',rs,R,e,q⟩;simp only[ev]at e;obtain⟨us,h1,e1,e⟩:=Qe e;cases e;refine TIA.run rs R e1 λα1 vs H1 E1 R1 r1 rs1=>⟨?_,λp hp=>?_⟩
 ·rw[<-r1.length,YZ e1,Q7 he];exact Wd hz big
 ·obtain⟨R',E'⟩:=R1.new (o:=.lst us) hp ⟨_,Qh,RUs.mono Qq r1⟩
  exact q _ _ _ (E1.trans E' R'.h) R' ⟨p,by rw[<-R1.h.len];exact QD,rfl⟩
def QiB{lo hi:Option Expr}{p2:Pos}(S:Snd T A C X cf m)(h:((Qg m C a).bind λa'=>(compO m C lo).bind λl=>(compO m C hi).bind λh=>some (E.sl a' l h))=some ir):PE X (.Subscript a (.Slice lo hi none p2) p) (TI T A X.K (ev T cf d ir)):=by
 refine QA λd=>?_;simp only[Xb]at h;obtain⟨a',ha,l',hl,h',hh,h⟩:=h;cases h;refine Q0 (Qgh Qiy (S.e d a a' ha) (S.o d lo l' hl) (S.o d hi h' hh)) ?_;rintro Y H Q ⟨α,Z,hs,u,hs',rs,R,e,q⟩;simp only[ev]at e;obtain⟨u1,h1,e1,e⟩:=Qe e;obtain⟨u2,h2,e2,e⟩:=Qe e;obtain⟨u3,h3,e3,e⟩:=Qe e;refine TI.run rs R e1 λα1 x H1 E1 R1 r1 rs1=>?_;refine TIO.run rs1 R1 e2 λα2 H2 E2 R2 rs2=>?_;refine TIO.run rs2 R2 e3 λα3 H3 E3 R3 rs3=>?_;exact Qk8 e ((r1.mono E2.pre).mono E3.pre) R3 λα4 z H4 E4 R4 r4=>q α4 z H4 (((E1.trans E2 R2.h).trans E3 R3.h).trans E4 R4.h) R4 r4
def Qjv{b:Expr}{a' b':E}(hu:X.A.units+1<cLine)(tx:Txt T A X.K X.mg)(ha:PE X a (TI T A X.K (ev T cf d a')))(hb:PE X b (TI T A X.K (ev T cf d b')))(hs:ZV b=true):PE X (.Subscript a b p) (TI T A X.K (ev T cf (d+1) (.ix a' b'))):=by
 refine Q0 (Qoi (ix_seq.or (Qju hu)) ha hb (QcN hs)) ?_;rintro Y H Q ⟨α,Z,hs,u,hs',rs,R,e,q⟩;simp only[ev]at e;obtain⟨u1,h1,e1,e⟩:=Qe e;obtain⟨u2,h2,e2,e⟩:=Qe e;simp only[Xd]at e;obtain⟨x,e3,e⟩:=e;cases e;refine TI.run rs R e1 λα1 x H1 E1 R1 r1 rs1=>?_;refine TI.run rs1 R1 e2 λα2 y H2 E2 R2 r2 rs2=>?_;exact Qit tx e3 (r1.mono E2.pre) r2 R2 λz rz=>q α2 z H2 (E1.trans E2 R2.h) R2 rz
end
end
section
section
variable {X:Cx}{T:Tbl}{A:Adr}{C:Ctx}{cf:Cf}{m k:Nat}
def Qk7{α:List Addr}{us:List U}{vs:List V}{hs hs':Hs}{H:Hp}{u:U}{f:Nat}{Q:VK}{E:XK}(F:Fc X T A cf k)(r:RUs A α us vs)(R:Rep T A X.K α hs H)(e:cf f us hs=some (u,hs'))
  (q:∀α' v H',Ext α α' H H'->Rep T A X.K α' hs' H'->RU A α' u v->Q v H'):spC T A X.K cf f vs H Q E:=⟨α,us,hs,u,hs',r,R,e,F.some f us hs _ e,q⟩
def Qht{x:Str}{args:List Expr}{p pos:Pos}{i d:Nat}{es:List E}(g:GX T A C X)(F:Fc X T A cf k)(hr:Room k X.A)(S:Snd T A C X cf m)(hg:Zr C x=true)(hn:x≠"__debug__")(hx:C.gl.lookup x=some (.fn i))(ha:compA m C args=some es):
  PE X (.Call (.Name x p) args [] pos) (TI T A X.K (ev T cf (d+1) (.call i es))):=by
 cases hF:T.fns[i]? with
 |none=>
  refine QbR ?_;rintro Y H Q ⟨α,Z,hs,u,hs',rs,R,e,q⟩;simp only[ev]at e;obtain⟨us,h1,e1,e⟩:=Qe e;obtain⟨F',h,_⟩:=F.some _ _ _ _ e;rw[hF]at h;cases h
 |some Fn=>
  obtain⟨fd,G,b,kp⟩:=F.ok i Fn hF;have pa:=S.a d args es ha
  have key:∀Y H Q,TI T A X.K (ev T cf (d+1) (.call i es)) Y H Q->Qip (spC T A X.K cf i) [] E0 (TIA T A X.K (λZ hs=>evs (ev T cf d) Z es hs)) Y H Q:=by
   rintro Y H Q ⟨α,Z,hs,u,hs',rs,R,e,q⟩;simp only[ev]at e;obtain⟨us,h1,e1,e⟩:=Qe e;refine TIA.run rs R e1 λα1 vs H1 E1 R1 r1 rs1=>?_;rw[W9];exact Qk7 F r1 R1 e λα2 v H2 E2 R2 r2=>q α2 v H2 (E1.trans E2 R2.h) R2 r2
  cases args with
  |nil=>
   have ee:es=[]:=by
    have:=Q7 ha;simpa using this
   subst ee;refine Q0 (Qgk G hr (QN g hg) (g.gfn x i hx) kp b .nil QlT (QL hn)) λY H Q h=>?_;have h2:=key Y H Q h;obtain⟨α,Z,hs,us,hs',rs,R,e,q⟩:=h2;cases e;exact q α [] H Ext.refl R .nil
  |cons a r=>exact Q0 (Qi9 G hr (QN g hg) (g.gfn x i hx) kp b .nil QlT pa (QL hn) (Qn (Qt ha a (Xn ..))) (Q9 λz hz=>Qt ha z (Xl _ hz))) key
def QiD{x:Str}{args:List Expr}{p pos:Pos}{i d:Nat}{es:List E}{ir:E}(g:GX T A C X)(F:Fc X T A cf k)(hr:Room k X.A)(S:Snd T A C X cf m)(hg:Zr C x=true)(hn:x≠"__debug__")(hx:C.gl.lookup x=some (.fn i))(ha:compA m C args=some es)(h:Qnf C i es=some ir):
  PE X (.Call (.Name x p) args [] pos) (TI T A X.K (ev T cf (d+1) ir)):=by
 unfold Qnf at h;rw[g.CT]at h;split at h
 ·cases h;exact Qht g F hr S hg hn hx ha
 cases h
end
end
section
variable {es:List E}{args:List Expr}{d:Nat}{p pos:Pos}{x:Str}
section
variable {X:Cx}{T:Tbl}{A:Adr}{C:Ctx}{cf:Cf}{m:Nat}
theorem QbY{env:Env}{pos:Pos}:∀{es:List Expr},Qa4 es->(backTo pos (starEach es env)).all (λx=>!x.1)=true
 |[],_=>rfl
 |e::r,h=>by
  rw[Qn (h e (Xn ..))];have ih:=QbY (env:=env) (pos:=pos) (es:=r) λx hx=>h x (Xl _ hx);unfold backTo at ih ⊢;rw[Xo,Vb,ih];rfl
def Qmx{env:Env}{e:Expr}{es:List Expr}(hn:Qa4 (e::es))(hl:(e::es).length<29):((backTo pos (starEach (e::es) env)).all (λx=>!x.1)&&(backToKw pos (keywordEach [] env)).all (λx=>x.1.isSome)
   && decide ((e::es).length+([]:List Keyword).length+(if([]:List Keyword).isEmpty then 0 else 1) < 30))=true:=by
 rw[QbY hn]
 have:(e::es).length+([]:List Keyword).length+(if([]:List Keyword).isEmpty then 0 else 1) < 30:=by
  simp only[W5,List.isEmpty_nil,Wm];omega
 rw[Wz this];rfl
def Y6{o:Expr}{q:Pos}{o':E}{b:Bm}{id ty:String}(S:Snd T A C X cf m)(B:BmS X T A b id)(pa:PlainAttrs ty)(slot:Slot ty x id)(hty:typeOf (.builtin id)=pure (.type "method_descriptor"))
  (ty:∀{u:U} {hs:Hs} {α:List Addr} {v:V} {H:Hp},Qdf b u hs=true->RU A α u v->Rep T A X.K α hs H->L2.tyV X.K ty v H) (h1:YT o=true) (h2:(p.endLine==q.line)=true) (h3:args.length<29)
  (ho:Qg m C o=some o') (ha:compA m C args=some es):PE X (.Call (.Attribute o x p) args [] q) (TI T A X.K (ev T cf (d+1) (.bm b o' es))):=by
 obtain⟨r,hm,hB⟩:=B;have hns:=Qt ha
 cases args with
 |nil=>
  have ee:es=[]:=by
   have:=Q7 ha;simpa using this
  subst ee;refine Q0 (QlR pa slot hty hm (S.e d o o' ho) (Yr h1) h2) ?_;rintro Y H Q ⟨α,Z,hs,u,hs',rs,R,e,q⟩;simp only[ev,evs]at e;obtain⟨u1,h1',e1,e⟩:=Qe e;split at e
  case isFalse=>cases e
  rename_i il;obtain⟨us,h2',e2,e⟩:=Qe e;cases e2;exact TI.run rs R e1 λα1 v H1 E1 R1 r1 rs1=>⟨ty il r1 R1,hB e r1 .nil R1 λα2 v2 H2 E2 R2 r2=>q α2 v2 H2 (E1.trans E2 R2.h) R2 r2⟩
 |cons a t=>
  refine Q0 (Qoj pa slot hty hm (S.e d o o' ho) (S.a d (a::t) es ha) (Yr h1) (Qmx hns h3) h2 (Qn (hns a (Xn ..))) (Q9 λz hz=>hns z (Xl _ hz))) ?_;rintro Y H Q ⟨α,Z,hs,u,hs',rs,R,e,q⟩;simp only[ev]at e;obtain⟨u1,h1',e1,e⟩:=Qe e;split at e
  case isFalse=>cases e
  rename_i il;obtain⟨us,h2',e2,e⟩:=Qe e;exact TI.run rs R e1 λα1 v H1 E1 R1 r1 rs1=>⟨ty il r1 R1,TIA.run rs1 R1 e2 λα2 vs H2 E2 R2 r2 rs2=>hB e (r1.mono E2.pre) r2 R2 λα3 v2 H3 E3 R3 r3=>q α3 v2 H3 ((E1.trans E2 R2.h).trans E3 R3.h) R3 r3⟩
noncomputable def kdB:Bm->String
 |.setdef=>"dict"
 |.get=>"dict"
 |.update=>"dict"
 |.join=>"str"
 |.split=>"str"
 |.find=>"str"
 |.index=>"str"
 |_=>"list"
def Qax{b:Bm}{u:U}{hs:Hs}{α:List Addr}{v:V}{H:Hp}(e:Qdf b u hs=true)(r:RU A α u v)(R:Rep T A X.K α hs H):L2.tyV X.K (kdB b) v H:=by
 cases u with
 |ref n=>
  obtain⟨a,ha,rfl⟩:=r;simp only[Qdf]at e;split at e
  ·rename_i xs eo;obtain⟨vs,q,_⟩:=R.h.ob n a _ ha eo
   have:kdB b="list":=by cases b<;>first|rfl|cases e
   rw[this];exact .inl ⟨rfl,vs,SqL.of q⟩
  ·rename_i kvs eo;obtain⟨kv,q,_⟩:=R.h.ob n a _ ha eo
   have:kdB b="dict":=by cases b<;>first|rfl|cases e
   rw[this];exact .inr (.inr (.inl ⟨rfl,.inl ⟨kv,q⟩⟩))
  ·cases e
 |str x=>
  cases(show v=_ from r)
  have:kdB b="str":=by cases b<;>first|rfl|cases e
  exact this
 |_=>cases e
def QqN{o:Expr}{q:Pos}{o':E}{b:Bm}(hu:X.A.units+1<cLine)(tx:Txt T A X.K X.mg)(S:Snd T A C X cf m)(hb:Qnn x=some b)(h1:YT o=true)(h2:(p.endLine==q.line)=true)(h3:args.length<29)
  (ho:Qg m C o=some o') (ha:compA m C args=some es):PE X (.Call (.Attribute o x p) args [] q) (TI T A X.K (ev T cf (d+1) (.bm b o' es))):=by
 unfold Qnn at hb;split at hb
 ·rename_i e;subst e;cases hb;exact Y6 S Qdc PySem.F.plainAttrs_list PySem.F.slot_list_append PySem.F.type_list_append (λe r R=>Qax e r R) h1 h2 h3 ho ha
 split at hb
 ·rename_i e;subst e;cases hb;exact Y6 S Qda Ti PySem.F.slot_dict_setdefault PySem.F.type_dict_setdefault (λe r R=>Qax e r R) h1 h2 h3 ho ha
 split at hb
 ·rename_i e;subst e;cases hb;exact Y6 S Qdb PySem.F.plainAttrs_list PySem.F.slot_list_extend PySem.F.type_list_extend (λe r R=>Qax e r R) h1 h2 h3 ho ha
 unfold QmO at hb;split at hb
 ·rename_i e;subst e;cases hb;exact Y6 S (Qj4 hu) Ti Tz PySem.F.type_dict_get (λe r R=>Qax e r R) h1 h2 h3 ho ha
 split at hb
 ·rename_i e;subst e;cases hb;exact Y6 S Qc9 Ti PySem.F.slot_dict_update PySem.F.type_dict_update (λe r R=>Qax e r R) h1 h2 h3 ho ha
 ·cases hb
def ZK{args:List Expr}{b:Bi}{fv:Value}{r:List V->Hp->VK->Prop}{e0:Expr}(hB:∀{α:List Addr} {us:List U} {u':U} {hs hs':Hs} {vs:List V} {H:Hp} {Q:VK},biU T b us hs=some (u',hs')->RUs A α us vs->Rep T A X.K α hs H ->
   (∀α' v' H',Ext α α' H H'->Rep T A X.K α' hs' H'->RU A α' u' v'->Q v' H')->r vs H Q)
  (h:PE X e0 (tCB r (TIA T A X.K (λZ hs=>evs (ev T cf d) Z es hs)))):PE X e0 (TI T A X.K (ev T cf (d+1) (.bi b es))):=by
 refine Q0 h ?_;rintro Y H Q ⟨α,Z,hs,u,hs',rs,R,e,q⟩;simp only[ev]at e;obtain⟨us,h1,e1,e⟩:=Qe e;exact TIA.run rs R e1 λα1 vs H1 E1 R1 r1 rs1=>hB e r1 R1 λα2 v2 H2 E2 R2 r2=>q α2 v2 H2 (E1.trans E2 R2.h) R2 r2
def Qj5{b:Bi}{hs:Hs}:biU T b [] hs=none:=by cases b<;>rfl
def QqO{b:Bi}(g:GX T A C X)(hh:hdC C=false)(hu:X.A.units+2<cLine)(S:Snd T A C X cf m)(hg:Zr C x=true)(hn:x≠"__debug__")(hn2:x≠"__name__")(hx:Qnp C x=some b)(ha:compA m C args=some es):
  PE X (.Call (.Name x p) args [] pos) (TI T A X.K (ev T cf (d+1) (.bi b es))):=by
 have hns:=Qt ha
 cases args with
 |nil=>
  refine QbR ?_;rintro Y H Q ⟨α,Z,hs,u,hs',rs,R,e,q⟩
  have ee:es=[]:=by
   have:=Q7 ha;simpa using this
  subst ee;simp[ev,evs,bd,Qj5]at e
 |cons a t=>
  unfold Qnp at hx;split at hx
  ·cases hx
  split at hx
  ·cases hx
  rename_i hl;have hm:X.mg x=none:=g.blt x hl;have pa:=S.a d (a::t) es ha;have st:=Qn (env:=X.env) (es:=t) (hns a (Xn ..));have sa:=Q9 (env:=X.env) (pos:=pos) (es:=t) λz hz=>hns z (Xl _ hz);split at hx
  ·rename_i e;subst e;cases hx;obtain⟨r,hc,hB⟩:=Qj7 (X:=X) (A:=A) g.txt
   exact ZK (fv:=.builtin "len") (args:=[]) hB (ZB hc (QN g hg) hm (by decide +kernel) pa hn2 (QL hn) st sa)
  split at hx
  ·rename_i e;subst e;cases hx;obtain⟨r,hc,hB⟩:=Qfy (X:=X) (A:=A) (T:=T)
   exact ZK (fv:=.none) (args:=[]) hB (ZU hc (QN g hg) hm (by decide +kernel) pa hn2 (QL hn) st sa)
  split at hx
  ·rename_i e;subst e;cases hx;obtain⟨r,hc,hB⟩:=Qg6 (X:=X) (A:=A) g.txt (g.calm hh)
   exact ZK (fv:=.none) (args:=[]) hB (ZU hc (QN g hg) hm (by decide +kernel) pa hn2 (QL hn) st sa)
  split at hx
  ·rename_i e;subst e;cases hx;obtain⟨r,hc,hB⟩:=Qj8 (X:=X) (A:=A) g.txt (g.calm hh)
   exact ZK (fv:=.builtin "all") (args:=[]) hB (ZB hc (QN g hg) hm (by decide +kernel) pa hn2 (QL hn) st sa)
  split at hx
  ·rename_i e;subst e;cases hx;obtain⟨r,hc,hB⟩:=Qj6 (X:=X) (A:=A) g.txt (g.calm hh)
   exact ZK (fv:=.builtin "max") (args:=[]) hB (ZB hc (QN g hg) hm (by decide +kernel) pa hn2 (QL hn) st sa)
  unfold QmP at hx;split at hx
  ·rename_i e;subst e;cases hx;obtain⟨r,hc,hB⟩:=Qdd (X:=X) (A:=A) g.txt
   exact ZK (fv:=.builtin "sorted") (args:=[]) hB (ZB hc (QN g hg) hm (by decide +kernel) pa hn2 (QL hn) st sa)
  split at hx
  ·rename_i e;subst e;split at hx
   ·cases hx
   cases hx;obtain⟨r,hc,hB⟩:=Qg7 (X:=X) (A:=A) (T:=T) hu (g.calm hh)
   exact ZK (fv:=.none) (args:=[]) hB (ZU hc (QN g hg) hm (by decide +kernel) pa hn2 (QL hn) st sa)
  ·cases hx
def QqM{t:Str}{ty:Ty}(g:GX T A C X)(hg:Zr C t=true)(hn:t≠"__debug__")(hn2:t≠"__name__")(h:QkU C t=some ty): ∃v,PE X (.Name t p) (tC v)/\Qpc v=some (tyW A ty):= by
 unfold QkU at h;split at h
 ·rename_i i e;cases h;exact⟨.ref (A.c i),JJ (QN g hg) (g.gcl t i e) rfl (QL hn),rfl⟩
 ·cases h
 ·split at h
  ·cases h
  rename_i e;have hm:X.mg t=none:=g.blt t e;have fin:∀n:String,bootBuiltins t=some (.type n)->PE X (.Name t p) (tC (.ty n)):=λn hb=>Qja (QN g hg) hm hb rfl hn2 (QL hn);split at h
  ·rename_i e;subst e;cases h;exact⟨_,fin "int" (by decide +kernel),rfl⟩
  split at h
  ·rename_i e;subst e;cases h;exact⟨_,fin "str" (by decide +kernel),rfl⟩
  split at h
  ·rename_i e;subst e;cases h;exact⟨_,fin "bool" (by decide +kernel),rfl⟩
  split at h
  ·rename_i e;subst e;cases h;exact⟨_,fin "list" (by decide +kernel),rfl⟩
  split at h
  ·rename_i e;subst e;cases h;exact⟨_,fin "tuple" (by decide +kernel),rfl⟩
  split at h
  ·rename_i e;subst e;cases h;exact⟨_,fin "dict" (by decide +kernel),rfl⟩
  split at h
  ·rename_i e;subst e;cases h;exact⟨_,fin "ValueError" (by decide +kernel),rfl⟩
  ·cases h
def Qn3{a:Expr}{t:Str}{ty:Ty}{a':E}{p1:Pos}(g:GX T A C X)(S:Snd T A C X cf m)(hi:Zr C "isinstance"=true)(hl:¬C.bl.contains ("isinstance":Str)=false)(hg:Zr C t=true)(hn:t≠"__debug__")(hn2:t≠"__name__")(h:QkU C t=some ty)(ha:Qg m C a=some a'):
  PE X (.Call (.Name "isinstance" p) [a,.Name t p1] [] pos) (TI T A X.K (ev T cf (d+1) (.isi a' ty))):=by
 obtain⟨v,hv,hc⟩:=QqM (p:=p1) g hg hn hn2 h;have s1:starEach [a,.Name t p1] X.env=(false,eval a X.env)::starEach [.Name t p1] X.env:=Qn (QC ha)
 refine Q0 (ZB QgX (QN g hi) (g.blt _ hl) (by decide +kernel) (Zv (S.e d a a' ha) (Zv hv Ji) s1) (by decide) (by decide) s1 rfl) ?_
 rintro Y H Q ⟨α,Z,hs,u,hs',rs,R,e,q⟩;simp only[ev]at e;obtain⟨u1,h1,e1,e⟩:=Qe e;simp only[Xd]at e;obtain⟨b,e2,e⟩:=e;cases e;refine TI.run rs R e1 λα1 x H1 E1 R1 r1 rs1=>?_;obtain⟨tv,h1,h2⟩:=Qms g.txt e2 r1 R1;exact⟨x,v,_,tv,b,rfl,hc,h1,h2,q α1 _ H1 E1 R1 rfl⟩
def QjV{e:Expr}{c:Nat}(h:Qpd C e=some c): ∃x p,e=.Name x p/\Zr C x=true/\x≠"__debug__"/\C.gl.lookup x=some (.cls c):= by
 unfold Qpd at h;split at h
 ·rename_i x p;split at h
  ·rename_i q;rw[Xj,Xq]at q;split at h
   ·rename_i z;cases h;exact⟨x,p,rfl,q.1,q.2,z⟩
   ·cases h
  ·cases h
 ·cases h
theorem Qcx(g:GX T A C X):∀{es:List Expr} {cs:List Nat},Qc4 C es=some cs->PA X es (λy H Q=>Q ((cs.map A.c).map V.ref) H)/\cs.length=es.length
 |[],cs,h=>by
  cases h;exact⟨Qhf Ji λy y y z=>z,rfl⟩
 |e::es,cs,h=>by
  simp only[Qc4,Xb,Xd]at h;obtain⟨c,hc,cs',hs,rfl⟩:=h;obtain⟨x,p,rfl,gl,nd,lk⟩:=QjV hc;obtain⟨ih,l⟩:=Qcx g hs
  exact⟨Qhf (Zv (JJ (v:=.ref (A.c c)) (QN g gl) (g.gcl x c lk) rfl (QL nd)) ih rfl) λy y y z=>z,by simp[l]⟩
theorem Qfz(tx:Txt T A X.K X.mg){c:Nat}:∀{cs:List Nat} {b:Bool},Qnq T c cs=some b->W.kitAny X.K (.ref (A.c c)) ((cs.map A.c).map Value.ref)=some b
 |[],b,h=>h
 |t::r,b,h=>by
  unfold Qnq at h;rw[Xo,Xo];unfold W.kitAny;split at h
  ·rename_i e;rw[show W.kitOne X.K (.ref (A.c c)) (.ref (A.c t))=some true from tx.isi _ _ _ e];exact h
  ·rename_i e;rw[show W.kitOne X.K (.ref (A.c c)) (.ref (A.c t))=some false from tx.isi _ _ _ e];exact Qfz tx h
  ·cases h
def Qln{a:Expr}{es:List Expr}{i:Nat}{cs:List Nat}{p1:Pos}{kt:Nat}(g:GX T A C X)(S:Snd T A C X cf m)(hi:Zr C "isinstance"=true)(hl:¬C.bl.contains ("isinstance":Str)=false)(hc:Qc4 C es=some cs)(hz:cs.length<=9)(ha:Qg m C a=some (.var i)):
  PE X (.Call (.Name "isinstance" p) [a,.Tuple es kt p1] [] pos) (TI T A X.K (ev T cf (d+1) (.isiT i cs))):=by
 obtain⟨pc,_⟩:=Qcx g hc;have s1:starEach [a,.Tuple es kt p1] X.env=(false,eval a X.env)::starEach [.Tuple es kt p1] X.env:=Qn (QC ha)
 refine Q0 (ZB Qfm (QN g hi) (g.blt _ hl) (by decide +kernel) (Zv (S.e 1 a (.var i) ha) (Zv (QhJ pc) Ji) s1) (by decide) (by decide) s1 rfl) ?_
 rintro Y H Q ⟨α,Z,hs,u,hs',rs,R,e,q⟩;simp only[ev,Xd]at e;obtain⟨b,e2,e⟩:=e;cases e;unfold QcS at e2;split at e2
 case h_2=>cases e2
 rename_i n er;split at e2
 case h_2=>cases e2
 rename_i c en
 have e1:ev T cf 1 (.var i) Z hs=some (.ref n,hs):=by simp only[ev,er]
 refine TI.run rs R e1 λα1 x H1 E1 R1 r1 rs1=>?_;obtain⟨a1,h1,rfl⟩:=r1;obtain⟨dd,qe,l,_⟩:=R1.h.ob n a1 _ h1 en;refine⟨?_,λtp ht=>?_⟩
 ·rw[X5,X5]
  exact Wd hz (by decide)
 ·obtain⟨R2,E2⟩:=R1.side (ho:=.tup ((cs.map A.c).map V.ref)) ht
  have na:a1≠tp:=λz=>by rw[z,ht]at qe;cases qe
  exact⟨a1,tp,cs.map A.c,A.c c,dd,b,rfl,by simp[upd],by simp[upd,na,qe],(g.txt.er c l).1,Qfz g.txt e2,q α1 _ _ (E1.trans E2 R2.h) R2 rfl⟩
end
end
end Iv
namespace L2
open PySem PySem.Spec PyProof.Rows
section
open Sem (wp)
end
section
section
variable {X:Cx}{pins:List (Addr×Obj)}{Y:St}{H:Hp}{s:Shared}{h':Heap}
def Inv.turnedLay{t':Nat}{ch:List Addr}{p:Addr}{vs:List V}{its:List Value}(I:Inv X pins Y H s)(hf:∀b∈ch,QcE X pins H b)(k:∀b o,b∉ch->s.heap.get? b=some o->h'.get? b=some o)
  (there:∀b o,b∈ch->s.heap.get? b=some o->∃o',h'.get? b=some o')
  (hp:s.heap.objs.size<=p) (hv:Vals vs its) (ht:IsTup h' p its.toArray) (hz:vs.length<=sizeLine):Inv X pins Y (upd H p (.tup vs)) {s with heap:=h',toks:=t'}:=by
 have hn:H p=none:=I.hok.fresh hp
 have ne:∀b o,s.heap.get? b=some o->b≠p:=λb o e z=>by
  have:=Xk e;rw[z]at this;exact absurd (Xr this hp) (W4 _)
 have nch:∀b u,H b=some u->b∉ch:=λb u e z=>by rw[(hf b z).1]at e;cases e
 have up:∀b u,H b=some u->upd H p (.tup vs) b=some u:=λb u e=>by rw[Qf (QY e hn)];exact e
 refine I.step (g':=s.gens) (d':=s.drawn) (ch:=ch) (λb hb=>?_) (λb o y y hc e y=>k b o hc e) (λb o y y hc e y=>⟨o.slots,k b o hc e⟩) (λb o y e n=>by rw[Qf (ne b o e)];exact n)
  (λb o hc e=>⟨o,k b o hc e⟩) (λb xs e=>up b _ e) (λb o u e=>up b _ e) (λb ps e=>⟨#[],by rw[up b _ e];simp⟩) (λm hm=>?_) (λb u e=>?_) I.bare
 ·obtain⟨_,f1,_,f3,f4,f5⟩:=hf b hb;exact⟨f3,f1,f4,f5⟩
 ·obtain⟨o,es,ep,ho,r⟩:=hm;refine⟨o,es,ep,k _ o (λz=>(hf _ z).2.1 rfl) ho,r⟩
 ·by_cases hb:b=p
  ·subst hb;rw[Qh]at e;cases e;exact⟨hz,its,hv,ht⟩
  ·rw[Qf hb]at e;refine(I.hok b u e).stay (λc v hc q=>k c v ?_ q) (λc q=>up c _ q) λc xs q=>up c _ q
   rcases hc with z|z
   ·rw[z];exact nch b u e
   ·exact nch c _ z
def Inv.turnedL{t':Nat}{ch:List Addr}(I:Inv X pins Y H s)(hf:∀b∈ch,QcE X pins H b)(k:∀b o,b∉ch->s.heap.get? b=some o->h'.get? b=some o):Inv X pins Y H {s with heap:=h',toks:=t'}:=by
 have nch:∀b u,H b=some u->b∉ch:=λb u e z=>by rw[(hf b z).1]at e;cases e
 refine I.step (g':=s.gens) (d':=s.drawn) (ch:=ch) (λb hb=>?_) (λb o y y hc e y=>k b o hc e) (λb o y y hc e y=>⟨o.slots,k b o hc e⟩) (λb o y e n=>n)
  (λb o hc e=>⟨o,k b o hc e⟩) (λb xs e=>e) (λb o u e=>e) (λb ps e=>⟨#[],by rw[e];simp⟩) (λm hm=>?_) (λb u e=>?_) I.bare
 ·obtain⟨_,f1,_,f3,f4,f5⟩:=hf b hb;exact⟨f3,f1,f4,f5⟩
 ·obtain⟨o,es,ep,ho,r⟩:=hm;exact⟨o,es,ep,k _ o (λz=>(hf _ z).2.1 rfl) ho,r⟩
 ·refine(I.hok b u e).stay (λc v hc q=>k c v ?_ q) (λc q=>q) λc xs q=>q
  rcases hc with z|z
  ·rw[z];exact nch b u e
  ·exact nch c _ z
end
noncomputable abbrev Qmr(b:Bool)(l:Addr):Obj:={cls:=.type (if b then "list_iterator" else "tuple_iterator"),data:=.fields #[.ref l,.int 0 0]}
noncomputable abbrev zH1(b:Bool)(h:Heap)(l1:Addr):Heap:=h.push (Qmr b l1)
noncomputable abbrev zH2(b b':Bool)(h:Heap)(l1 l2:Addr):Heap:=(zH1 b h l1).push (Qmr b' l2)
noncomputable abbrev zH3(b b':Bool)(h:Heap)(l1 l2:Addr):Heap:=(zH2 b b' h l1 l2).push {cls:=.type "tuple",data:=.seq #[.ref h.objs.size,.ref (zH1 b h l1).objs.size]}
noncomputable abbrev zH4(b b':Bool)(h:Heap)(l1 l2:Addr):Heap:=(zH3 b b' h l1 l2).push {cls:=.type "tuple",data:=.seq #[.none,.none]}
noncomputable abbrev zH5(b b':Bool)(h:Heap)(l1 l2:Addr):Heap:=(zH4 b b' h l1 l2).push {cls:=.type "zip",data:=.fields #[.none,.bool false,.bool false,.ref (zH2 b b' h l1 l2).objs.size,.ref (zH3 b b' h l1 l2).objs.size]}
end
section
noncomputable def Ite(K:W.Frag)(a:Addr):It :=
 ⟨λi H=>∃xs x,SqL K H a xs/\xs[i]?=some x,
   λi H x H'=>∃p v,H p=none/\x=.ref p/\H'=upd H p (.tup [.int i,v])/\∀xs,SqL K H a xs->xs[i]?=some v,
   λi H=>∃xs,SqL K H a xs/\xs.length<=i⟩
def Qdw{P:Program}{w:World}{K:W.Frag}{elts:List Expr}{kt:Nat}{pt:Pos}(a e it:Addr)(hne:e≠it):
  Turn P w K (.Tuple elts kt pt) (Ite K a) [e,it] e (λi h=>(∃old,IsEnum h e it (i:Nat) old)/\h.IsListIter it a i) where
 mem:=by simp
 obj:=λi h st c hc=>by
  obtain⟨⟨old,he⟩,o,hi,_,hd⟩:=st
  have hc':c=e\/c=it:=by simpa using hc
  rcases hc' with rfl|rfl
  ·exact⟨_,he,λv q=>nomatch q⟩
  ·exact⟨o,hi,λv q=>by rw[hd]at q;cases q⟩
 keep:=λi h h' st k=>by
  obtain⟨⟨old,he⟩,hi⟩:=st
  exact⟨⟨old,k e (by simp) _ he⟩,hi.at λo q=>k it (by simp) o q⟩
 item:=by
  intro X hP hw hK hc i pins s Y H E I hf st hg;subst hP hw hK;obtain⟨⟨old,he⟩,hi⟩:=st;obtain⟨xs,x,q1,ex⟩:=hg;obtain⟨its,r1,pl,_⟩:=I.list q1;obtain⟨u,hu,ru⟩:=r1.get ex;have lte:e<s.heap.objs.size:=Xk he
  have lti:it<s.heap.objs.size:=by obtain⟨o,q,_⟩:=hi;exact Xk q
  refine wpAny_pyNext_enum_item he hi pl.isList (x:=u) (by simpa using hu) hne λh' b1 b2 b3 b4 b5=>?_
  refine⟨_,rfl,?_⟩;refine wpAny_letOwnedTupleGo_enum (s:={s with heap:=h',toks:=s.toks+1}) b1 λh2 c1 c2=>?_;have up:∀c o,c≠e->h'.get? c=some o->h2.get? c=some o:=λc o hc q=>c2.extBut _ _ hc q
  have kp:∀c o,c∉[e,it]->s.heap.get? c=some o->h2.get? c=some o:=λc o hc q=>by
   have hc':¬(c=e\/c=it):=by simpa using hc
   exact up c o (λz=>hc' (.inl z)) (b5 c o (λz=>hc' (.inl z)) (λz=>hc' (.inr z)) q)
  have hT:h2.get? s.heap.objs.size=some {cls:=.type "tuple",data:=.seq #[.int i s.toks,u]}:=up _ _ (Nat.ne_of_gt lte) b3;have hi2:h2.IsListIter it a (i+1):=b2.at λo q=>up it o hne.symm q
  have I2:Inv X pins Y (upd H s.heap.objs.size (.tup [.int i,x])) {s with heap:=h2,toks:=s.toks+1}:=I.turnedLay (t':=s.toks+1) (its:=[.int i s.toks,u]) hf kp (λc o hc q=>by
   have hc':c=e\/c=it:=by simpa using hc
   rcases hc' with rfl|rfl
   ·exact⟨_,c1⟩
   ·obtain⟨o2,q2,_⟩:=hi2;exact⟨o2,q2⟩) (Xg _) (.cons ⟨_,rfl⟩ (.cons ru .nil)) ⟨_,hT,rfl,_,rfl⟩ (by show 2<=sizeLine;decide)
  have hn:H s.heap.objs.size=none:=I.hok.fresh (Xg _)
  have cast:((i+1:Nat):Int)=(i:Int)+1:=by push_cast;rfl
  refine⟨.ref s.heap.objs.size,_,I2,rfl,⟨_,x,hn,rfl,rfl,λws hw=>by rw[I.list_inj hw q1];exact ex⟩,⟨⟨_,by rw[cast];exact c1⟩,hi2⟩,λc hc=>?_⟩
  have hc':c=e\/c=it:=by simpa using hc
  have ne:c≠s.heap.objs.size:=by
   rcases hc' with rfl|rfl
   ·exact Xp lte
   ·exact Xp lti
  rw[Qf ne];exact(hf c hc).1
 done:=by
  intro X hP hw hK hc i pins s Y H E I hf st hg;subst hP hw hK;obtain⟨⟨old,he⟩,hi⟩:=st;obtain⟨xs,q1,hl⟩:=hg;obtain⟨its,r1,pl,_⟩:=I.list q1;have e1:=r1.length
  refine wpAny_pyNext_enum_end (I.ok.hd hc) he hi pl.isList (by simp;omega) λh' kp=>⟨rfl,I.turnedL (t':=s.toks) (ch:=[e,it]) hf λc o hc q=>?_⟩
  have hc':¬(c=e\/c=it):=by simpa using hc
  exact kp c o (λz=>hc' (.inr z)) q
 self:=λA i s Q E st h=>by
  obtain⟨⟨old,he⟩,_⟩:=st;exact wpAny_pyIter_enum he h
section
variable {X:Cx}
def QoN(K:W.Frag)(tl:TE):TI:=λY H R=>tl Y H λx H1=>∃a xs,x=.ref a/\SqL K H1 a xs/\R (Ite K a) H1
def Qi4{e:Expr}{te:TE}{elts:List Expr}{kt:Nat}{pt p pos:Pos}(hg:Gl X "enumerate")(hm:X.mg "enumerate"=none)(he:PE X e te)(hs:starEach [e] X.env=[(false,eval e X.env)]):
  PI X (.Tuple elts kt pt) (.Call (.Name "enumerate" p) [e] [] pos) (QoN X.K te):=by
 intro pins s Y H R I h;refine Call_ (ZD I hg hm PyProof.Rows.boot_enumerate (Wv (e:=e) (rest:=[]) ?_ hs rfl));rw[hs];show wpAny _ _ (spliced ((false,eval e X.env)::backTo pos (starEach [] X.env))) _ _ s;refine V7 (thn (he pins s Y H _ I h) λu s1 z=>?_);obtain⟨x,H1,I1,rx,q1⟩:=z;refine Ub ?_;obtain⟨a,xs,ev,hq,q⟩:=q1;subst ev;cases rx;obtain⟨its,rv,pl,hz⟩:=I1.list hq;refine call_enumerate_list pl.isList λh' b1 b2 b3 b4=>?_;refine wpAny_pyIter_enum b1 ?_;have I2:Inv X pins Y H1 {s1 with heap:=h'}:=I1.kept (t':=s1.toks) b4;refine⟨_,[s1.heap.objs.size+1,s1.heap.objs.size],_,_,H1,rfl,I2,Qdw a _ _ (Nat.succ_ne_self _),⟨⟨_,b1⟩,b2⟩,λc hc=>?_,q⟩
 have hc':c=s1.heap.objs.size+1\/c=s1.heap.objs.size:=by simpa using hc
 have le:s1.heap.objs.size<=c:=by rcases hc' with rfl|rfl<;>omega
 exact I1.fpOk le (I1.hok.fresh le)
end
end
section
variable {elt iter tg:Expr}{n:Nat}{tl:Option Expr}{pos:Pos}{y:Str}{te:TE}{g:TG}{tt:TT}
noncomputable def Cx.block(X:Cx)(xs:List Str)(scope:Scope)(C:Addr)(s:Shared)(H:Hp)(fp:List Addr):Cx :=
 {X with N:=hideN xs X.N++xs,s₀:=s,H₀:=H,env:=compEnvC scope (Qc5 X.env.cells scope.names []) C X.env,outer:=X.stack,ex:=fp,fn:=λz=>false,pn:=[],xe:=λz z=>False}
structure CompOk(X:Cx)(xs:List Str)(scope:Scope):Prop where
 kind:scope.kind=.function
 loc:∀x∈xs,scope.names.lookup x=some .local
 all:∀y∈scope.names,(y.2=.local->(y.1∈xs\/y.1=".0")/\scope.names.lookup y.1=some .local)/\y.2≠.cell/\(y.2=.free->X.env.scope.names.lookup y.1=some .cell\/X.env.scope.names.lookup y.1=some .free)
 hid:∀x∈xs,scope.names.lookup (mang x)=none
 nd:xs.Nodup
 dot:(".0":Str)∉X.N
section
variable {X:Cx}{xs:List Str}{scope:Scope}{pins:List (Addr×Obj)}{Y:St}{H:Hp}{s:Shared}{fp:List Addr}
def CompOk.free_of(k:CompOk X xs scope)(hk:X.env.scope.kind=.function)(h:(relabel scope X.env).names.lookup y=some .cell\/(relabel scope X.env).names.lookup y=some .free):(y,NameKind.free)∈scope.names:=by
 rw[QP hk,Zs]at h
 cases q:scope.names.lookup y with
 |none=>rw[q]at h;simp at h
 |some kd=>
  rw[q]at h;have m:=Ye q
  cases kd with
  |free=>exact m
  |cell=>exact absurd rfl (k.all _ m).2.1
  |_=>simp at h
def CompOk.local_of(k:CompOk X xs scope)(hk:X.env.scope.kind=.function)(h:(relabel scope X.env).names.lookup y=some .local): y∈xs\/y=".0":=by
 rw[QP hk,Zs]at h
 cases q:scope.names.lookup y with
 |none=>rw[q]at h;simp at h
 |some kd=>
  rw[q]at h;have m:=Ye q
  cases kd with
  | «local»=>exact((k.all _ m).1 rfl).1
  |free=>
   simp only[Wy]at h;split at h<;>cases h
  |_=>simp at h
def Q4{cells:List (Str×Addr)}{l:List (Str×NameKind)}{c:Addr}(e:(Qc5 cells l []).lookup y=some c):cells.lookup y=some c:=by
 rcases QaT e with z|z
 ·simp at z
 ·exact z
def Qjb{Y:St}{i:Nat}{v:V}(e:(Y++List.replicate n none)[i]?=some (some v)):Y[i]?=some (some v):=by
 by_cases h:i < Y.length
 ·rw[Xv h]at e;exact e
 ·rw[Wg (by omega),Tf]at e
  split at e<;>cases e
theorem Inv.block{h₁:Heap}{m:Str->Option Value}{tk:Nat}(I:Inv X pins Y H s)(k:CompOk X xs scope)(hf:∀b∈fp,QcE X pins H b)(hfs:∀b∈fp,b<s.heap.objs.size)
  (hn:h₁.Ns s.heap.objs.size m) (kp:∀b o,s.heap.get? b=some o->h₁.get? b=some o):Inv (X.block xs scope s.heap.objs.size s H fp) [] (Y++List.replicate xs.length none) H {s with heap:=h₁,toks:=tk}:=by
 have hk:X.env.scope.kind=.function:=I.ok.kind
 have fsub:∀b∈fp,b∉frs X.stack:=λb hb z=>by
  rcases X7.mp (I.stkSub b z)with e|e
  ·exact(hf b hb).2.1 e
  ·exact(hf b hb).2.2.1 e
 have okB:(X.block xs scope s.heap.objs.size s H fp).Ok:={
  mod:=I.ok.mod
  kind:=k.kind
  glob:=I.ok.glob
  blt:=I.ok.blt
  above:=Xg _
  inj:=λy z c e1 e2=>I.ok.inj y z c (Q4 e1) (Q4 e2)
  has:=λy h=>by
   have m:=k.free_of hk h;obtain⟨c,hc⟩:=I.ok.has y ((k.all _ m).2.2 rfl);exact⟨c,Qac hc (.inl m)⟩
  cab:=λy c h=>nomatch h
  hd:=I.ok.hd
  frames:=I.ok.frames
  stk:=.inl rfl
  exf:=λb hb=>⟨Xp (hfs b hb),λy c e=>(hf b hb).2.2.2.2.1 y c (Q4 e)⟩
  bs:=I.bs
  bsz:=Wd I.ok.bsz I.sz
  noex:=λb o e hb=>by
   rcases (hf b hb).2.2.2.1 with z|z
   ·exact I.ok.noex b o e z
   ·exact absurd (Xr (Xk e) (Wd I.ok.bsz z)) (W4 _)
  exfs:=λb hb z=>fsub b hb z
  funs:=I.stack
  frf:=λb hb=>I.stkFree b hb}
 refine⟨okB,rfl,I.bare,Un.kept kp,⟨m,hn,λi y v e1 e2 e3=>?_⟩,λy c e=>?_,I.hok.fresh (Xg _),λy c e=>I.freeC y c (Q4 e),(λp hp=>by cases hp),I.hok.kept kp,?_⟩
 ·have e1:(hideN xs X.N++xs)[i]?=some y:=e1;have e3:Vis (relabel scope X.env) y:=e3;have q2:Y[i]?=some (some v):=Qjb e2
  have q0:(hideN xs X.N)[i]?=some y:=by
   have:=(Xc.mp q2).1;rw[I.len,<-ZY (xs:=xs)]at this;rw[Xv this]at e1;exact e1
  obtain⟨z,q1,⟨zm,rfl⟩|⟨zn,rfl⟩⟩:=QgF q0
  ·have no:=k.hid z zm
   have no':(relabel scope X.env).names.lookup (mang z)=none:=by rw[QP hk,Zs,no];rfl
   rcases e3 with w|w|w<;>(rw[no']at w;cases w)
  have ym:y∈X.N:=X0 q1
  have hcf:(relabel scope X.env).names.lookup y=some .cell\/(relabel scope X.env).names.lookup y=some .free:=by
   rcases e3 with z|z
   ·rcases k.local_of hk z with q|q
    ·exact absurd q zn
    ·exact absurd (q▸ym) k.dot
   ·exact z
  have m':=k.free_of hk hcf;have xk:=(k.all _ m').2.2 rfl;obtain⟨mm,hnn,hl⟩:=I.loc;obtain⟨u,r,l⟩:=hl i y v q1 q2 (.inr xk);refine⟨u,r,.inr ⟨hcf,?_⟩⟩
  rcases l with⟨l,_⟩|⟨_,c,e,o,ho,hd⟩
  ·have l:X.env.scope.names.lookup y=some .local:=l
   rcases xk with z|z<;>(rw[l]at z;cases z)
  ·exact⟨c,Qac e (.inl m'),o,kp c o ho,hd⟩
 ·obtain⟨v,o,ho,hd⟩:=I.cell y c (Q4 e);exact⟨v,o,kp c o ho,hd⟩
 ·show(Y++List.replicate xs.length none).length=(hideN xs X.N++xs).length;simp[I.len,ZY]
def PTO(X:Cx)(tl:Option Expr)(tt:TT):Prop:=match tl with
 |none=>∀Y H Q,tt Y H Q->Q true H
 |some c=>PT X c tt
def QdD(wi:TI)(n:Nat)(g:TG)(tt:TT)(te:TE):TE:=λY H Q=>wi Y H λJ H1=>∀D,H1 D=none->∃W:Nat->Nat->List V->Hp->Prop,(∃m,W 0 m [] (upd H1 D (.lst [])))/\∀i m ys H2,W i m ys H2->H2 D=some (.lst ys) /\
 ((J.stop i H2/\Q (.ref D) H2)\/(J.go i H2/\ys.length<sizeLine/\∀x H3 os,os.length=n->J.yld i H2 x H3->g x (Y++os) H3 λY' H4=>(∃os',os'.length=n/\Y'=Y++os')/\tt Y' H4 λb H5=>if b=true then te Y' H5 λy H6=>H6 D=some (.lst ys)/\∃m',m'<m/\W (i+1) m' (ys++[y]) (upd H6 D (.lst (ys++[y])))else ∃m',m'<m/\W (i+1) m' ys H5))
def Jw{Q:VK}{it:Addr}{tn:Nat->Heap->Prop}{J:It}{E:Value->Shared->Prop}{RR:Value->Addr->Result->Shared->Prop}(hc:X.calm=true)(k:CompOk X xs scope)
  (hn:xs.length=n) (hg:∀C s H fp,PG (X.block xs scope C s H fp) tg g) (ht:∀C s H fp,PTO (X.block xs scope C s H fp) tl tt) (he:∀C s H fp,PE (X.block xs scope C s H fp) elt te)
  (I2:Inv X pins Y H s) (T:Turn X.prog X.w X.K tg J fp it tn) (st2:tn 0 s.heap) (f2:∀b∈fp,QcE X pins H b)
  (q:∀D,H D=none->∃W:Nat->Nat->List V->Hp->Prop,(∃m,W 0 m [] (upd H D (.lst [])))/\∀i m ys H2,W i m ys H2->H2 D=some (.lst ys) /\
   ((J.stop i H2/\Q (.ref D) H2)\/(J.go i H2/\ys.length<sizeLine/\∀x H3 os,os.length=n->J.yld i H2 x H3->g x (Y++os) H3 λY' H4=>(∃os',os'.length=n/\Y'=Y++os')/\tt Y' H4 λb H5=>if b=true then te Y' H5 λy H6=>H6 D=some (.lst ys)/\∃m',m'<m/\W (i+1) m' (ys++[y]) (upd H6 D (.lst (ys++[y])))else ∃m',m'<m/\W (i+1) m' ys H5)))
  (hRR:∀D C s' H' m,Inv X pins Y H' s'->s'.heap.Ns C m->QcE X pins H' C->Q (.ref D) H'->RR (.ref D) C (.ok .next) s'):
  wpAny (model X.prog X.w) X.A (newList []) (λacc s₃=>wpAny (model X.prog X.w) X.A (newFunctionEnv scope X.env.globals (Qc5 X.env.cells scope.names []) [] X.env.qual none .none (some X.env)) (λcenv s₄=>
   codeAny (model X.prog X.w) X.A (.compStart (.ListComp elt [⟨tg,iter,tl.toList,0⟩] scope pos) 0 (.ref it) acc {cenv with scope:=relabel scope X.env}) (RR acc cenv.locals) s₄) E s₃) E s:=by
 have hk:X.env.scope.kind=.function:=I2.ok.kind
 refine Ux (wpAny_newFunctionEnv (λy hy=>(k.all y hy).2.1) (by intro y hy;simp at hy) (λh₁ hns₁ hsb₁=>?_) k.kind)
 dsimp only at hns₁ hsb₁ ⊢;have hD:H s.heap.objs.size=none:=I2.hok.fresh (Xg _);obtain⟨W,⟨m0,w0⟩,turn⟩:=q s.heap.objs.size hD
 have I3:Inv X pins Y (upd H s.heap.objs.size (.lst [])) {s with heap:=s.heap.push {cls:=.type "list",dict:=none,data:=.seq ([]:List Value).toArray} }:=
  I2.laid (t':=s.toks) (λb o e=>Xf _ e) (Xg _) (show ObjOk X.prog X.w _ _ _ (.lst [])from⟨W6 _,[],_,.nil,Xy _ rfl⟩)
 have lt2:∀b∈fp,b<s.heap.objs.size:=λb hb=>by
  obtain⟨o,e,_⟩:=T.obj 0 _ st2 b hb;exact Xk e
 have f3:∀b∈fp,QcE X pins (upd H s.heap.objs.size (.lst [])) b:=λb hb=>⟨by rw[Qf (Xp (lt2 b hb))];exact(f2 b hb).1,(f2 b hb).2⟩
 have lt3:∀b∈fp,b<(s.heap.push {cls:=.type "list",dict:=none,data:=.seq ([]:List Value).toArray}).objs.size:=λb hb=>by
  rw[Heap.size_push];exact Nat.lt_succ_of_lt (lt2 b hb)
 generalize hs3:({s with heap:=s.heap.push {cls:=.type "list",dict:=none,data:=.seq ([]:List Value).toArray} }:Shared)=s3 at I3
 have e3:s3.heap=s.heap.push {cls:=.type "list",dict:=none,data:=.seq ([]:List Value).toArray}:=by rw[<-hs3]
 rw[<-e3]at hns₁ hsb₁ lt3 ⊢;have kp:∀b o,s3.heap.get? b=some o->h₁.get? b=some o:=λb o e=>hsb₁.extBut b o (Xp (Xk e)) (Xf _ e);have IB:=I3.block (tk:=s.toks+([]:List (Str×Value)).length) k f3 lt3 hns₁ kp
 have es:({s3 with heap:=h₁,toks:=s.toks+([]:List (Str×Value)).length}:Shared)={s with heap:=h₁,toks:=s.toks+([]:List (Str×Value)).length}:=by rw[<-hs3]
 rw[es]at IB;generalize hX:X.block xs scope s3.heap.objs.size s3 (upd H s.heap.objs.size (.lst [])) fp=Yyy at IB;have HE:PE Yyy elt te:=hX▸he _ _ _ _;have HT:PTO Yyy tl tt:=hX▸ht _ _ _ _;have HG:PG Yyy tg g:=hX▸hg _ _ _ _
 have hP:Yyy.prog=X.prog:=by rw[<-hX];rfl
 have hw:Yyy.w=X.w:=by rw[<-hX];rfl
 have hK:Yyy.K=X.K:=by rw[<-hX];rfl
 have hA:Yyy.A=X.A:=by rw[<-hX];rfl
 have hcY:Yyy.calm=true:=by rw[<-hX];exact hc
 have hxe:Yyy.xe=λt t=>False:=by rw[<-hX];rfl
 have henv:Yyy.env=compEnvC scope (Qc5 X.env.cells scope.names []) s3.heap.objs.size X.env:=by rw[<-hX];rfl
 have fpY:∀{H':Hp},(∀b∈fp,H' b=none)->∀b∈fp,QcE Yyy [] H' b:=λhn b hb=>by
  have hb1:=(f2 b hb).2;rw[<-hX]
  refine⟨hn b hb,?_,λz=>?_,.inl hb,λy c e=>hb1.2.2.2.1 y c (Q4 e),(λp hp=>by cases hp)⟩
  ·exact Xp (lt3 b hb)
  ·rcases X7.mp (I3.stkSub b z)with e|e
   ·exact hb1.1 e
   ·exact hb1.2.1 e
 have back:∀{Y':St} {H':Hp} {s':Shared},Inv Yyy [] Y' H' s'->Inv X pins Y H' s'/\(∃m,s'.heap.Ns s3.heap.objs.size m)/\QcE X pins H' s3.heap.objs.size:=λ{Y' H' s'} J'=>by
  have u:=J'.base;have os:=J'.os;have hok:=J'.hok;have bare:=J'.bare;obtain⟨mm,hnn,_⟩:=J'.loc;have fr:=J'.free;rw[henv]at hnn fr;rw[<-hX]at u os hok;refine⟨I3.call' os u hok bare λb hb=>?_,⟨mm,hnn⟩,I3.fpOk (Xg _) fr⟩;exact⟨(f2 b hb).2.2.2.1,(f2 b hb).2.1,(f2 b hb).2.2.2.2.1,(f2 b hb).2.2.2.2.2⟩
 have loop:∀s₃:Shared,Inv Yyy [] (Y++List.replicate xs.length none) (upd H s.heap.objs.size (.lst [])) s₃->tn 0 s₃.heap ->
   codeAny (model X.prog X.w) X.A (.compLoop (.ListComp elt [⟨tg,iter,tl.toList,0⟩] scope pos) 0 (.ref it) (.ref s.heap.objs.size) Yyy.env) (RR (.ref s.heap.objs.size) s3.heap.objs.size) s₃:=by
  intro s₃ J3 t3
  refine QbM (λm s'=>∃i os H' ys,os.length=n/\Inv Yyy [] (Y++os) H' s'/\tn i s'.heap/\(∀b∈fp,H' b=none)/\W i m ys H') ?_ m0 ⟨0,_,_,[],by rw[List.length_replicate];exact hn,J3,t3,λb hb=>(f3 b hb).1,w0⟩
  rintro m s4 ⟨i,os,H4,ys,lo,J4,st4,fr4,w4⟩;obtain⟨hDl,tr⟩:=turn i m ys H4 w4
  rcases tr with⟨stop,qn⟩|⟨go,hz,step⟩
  ·have dn:=T.done Yyy hP hw hK hcY i [] s4 (Y++os) H4 (notedBy (model X.prog X.w) X.A Yyy.env λe s'=>RR (.ref s.heap.objs.size) s3.heap.objs.size (.error e) s') J4 (fpY fr4) st4 stop;rw[hA]at dn;refine thn dn λr s5 l=>?_;obtain⟨hr,J5⟩:=l;subst hr;obtain⟨I5,⟨m5,n5⟩,f5⟩:=back J5;exact hRR _ _ _ _ _ I5 n5 f5 qn
  ·have im:=T.item Yyy hP hw hK hcY i [] s4 (Y++os) H4 (notedBy (model X.prog X.w) X.A Yyy.env λe s'=>RR (.ref s.heap.objs.size) s3.heap.objs.size (.error e) s') J4 (fpY fr4) st4 go;rw[hA]at im;refine thn im λr s5 j=>?_;obtain⟨u,hr,h5⟩:=j;subst hr;refine thn h5 λt s6 f=>?_;obtain⟨v,H6,J6,rv,y6,st6,fr6⟩:=f;have J6':=J6.pinned (fpY fr6) (T.obj _ _ st6)
   have noE:∀{EE:Value->Shared->Prop},∀e s',Yyy.xe e s'->EE e s':=λ{EE} e s' z=>by rw[hxe]at z;exact z.elim
   have asg:=HG _ s6 (Y++os) H6 v u _ J6' rv (step v H6 os lo y6);rw[hP,hw,hA]at asg;refine X4 asg (λt s7 a=>?_) noE;obtain⟨σ7,H7,J7,⟨os',lo',e7⟩,q7⟩:=a;subst e7
   have fin:∀{s9:Shared} {H9:Hp} {m':Nat} {zs:List V},Inv Yyy ([]++YS fp s6.heap) (Y++os') H9 s9->m'<m->W (i+1) m' zs H9->∃m',m'<m/\∃i os H' ys,os.length=n/\Inv Yyy [] (Y++os) H' s9/\tn i s9.heap/\(∀b∈fp,H' b=none)/\W i m' ys H':=λ{s9 H9 m' zs} J9 hm' w9=>by
    refine⟨m',hm',i+1,os',H9,zs,lo',J9.unpinned,T.keep _ _ _ st6 λb hb ob e=>(J9.pin (b,ob) (Wp _ (Wp _ (Zj hb e)))).1,λb hb=>?_,w9⟩;obtain⟨ob,e,d⟩:=T.obj _ _ st6 b hb;exact(J9.pin (b,ob) (Wp _ (Wp _ (Zj hb e)))).2.1
   have tst:wpAny (model X.prog X.w) X.A (forIn tl.toList true λc r=>if r=true then do let ok <-isTrue c Yyy.env (eval c Yyy.env);pure (ForInStep.yield ok)else pure (ForInStep.yield r)) (TP Yyy ([]++YS fp s6.heap) (Y++os') λb H5=>if b=true then te (Y++os') H5 λy H6=>H6 s.heap.objs.size=some (.lst ys)/\∃m',m'<m/\W (i+1) m' (ys++[y]) (upd H6 s.heap.objs.size (.lst (ys++[y])))else ∃m',m'<m/\W (i+1) m' ys H5) (notedBy (model X.prog X.w) X.A Yyy.env λe s'=>RR (.ref s.heap.objs.size) s3.heap.objs.size (.error e) s') s7:=by
    refine QfL ?_
    cases tl with
    |none=>exact⟨H7,J7,HT _ _ _ q7⟩
    |some c=>
     have z:=(show PT Yyy c tt from HT) _ s7 _ _ _ J7 q7;rw[hP,hw,hA]at z;exact X4 z (λt t h=>h) noE
   refine X4 tst (λb s8 Z=>?_) λt t e=>e;obtain⟨H8,J8,q8⟩:=Z
   cases b with
   |false=>
    rw[if_neg X3]at q8 ⊢;obtain⟨m',hm',w8⟩:=q8;exact fin J8 hm' w8
   |true=>
    rw[if_pos rfl]at q8 ⊢;have ev:=HE _ s8 _ _ _ J8 q8;rw[hP,hw,hA]at ev;refine X4 ev (λy s8 U=>?_) noE;obtain⟨yv,H8,J8,ry,hD8,m',hm',w8⟩:=U;have ap:=QaD (X:=Yyy) _ s8 _ H8 (.ref s.heap.objs.size) [yv] (.ref s.heap.objs.size) [y] (λt H'=>H'=upd H8 s.heap.objs.size (.lst (ys++[yv]))) J8 rfl (.cons ry .nil) ⟨_,ys,yv,rfl,rfl,hD8,hz,rfl⟩;rw[hP,hw,hA]at ap;refine X4 ap (λt s9 S=>?_) noE;obtain⟨_,H9,J9,_,e9⟩:=S;subst e9;exact fin J9 hm' w8
 have t1:tn 0 h₁:=T.keep 0 _ _ st2 λb hb o e=>kp b o (by rw[e3];exact Xf _ e)
 have go:=loop _ IB t1;rw[henv]at go;refine codeAny_compStart_list ?_ ?_
 ·exact go
 ·exact T.self X.A 0 _ _ _ t1 go
def Qbr{wi:TI}(hc:X.calm=true)(k:CompOk X xs scope)(hi:PI X tg iter wi)(hn:xs.length=n)(hg:∀C s H fp,PG (X.block xs scope C s H fp) tg g)(ht:∀C s H fp,PTO (X.block xs scope C s H fp) tl tt)(he:∀C s H fp,PE (X.block xs scope C s H fp) elt te)
  (hs:∀v,foldedSetIterable iter X.env v=pure v):PE X (.ListComp elt [⟨tg,iter,tl.toList,0⟩] scope pos) (QdD wi n g tt te):=by
 intro pins s Y H Q I h;rw[eval_ListComp];refine wpAny_comprehension_free (use:=none) rfl hs (Jy λy hy hf=>I.ok.has y.1 ((k.all y hy).2.2 hf)) k.kind (λy hy hl=>((k.all y hy).1 hl).2) ?_;refine thn (hi pins s Y H _ I h) λv s1 h1=>thn h1 λitv s2 h2=>?_;obtain⟨it,fp,tn,J,H2,e,I2,T,st2,f2,q⟩:=h2;subst e;refine Jw (RR:=λacc C=>compPost (model X.prog X.w) X.A X.xe none (EP X pins Y Q) acc C) hc k hn hg ht he I2 T st2 f2 q ?_;intro D C s' H' m I' n' f' q';refine⟨m,n',λh' sb=>?_⟩;exact⟨.ref D,H',I'.turned (t':=s'.toks) (λb o hb e=>sb.extBut b o hb e) f'.1 f'.2.1 f'.2.2.2.1 f'.2.2.2.2.1 f'.2.2.2.2.2,rfl,q'⟩
def QdZ{py spos:Pos}{wi:TI}{j:Nat}(hc:X.calm=true)(hN:X.N.Nodup)(k:CompOk X xs scope)(hi:PI X tg iter wi)(hn:xs.length=n)(hg:∀C s H fp,PG (X.block xs scope C s H fp) tg g)(ht:∀C s H fp,PTO (X.block xs scope C s H fp) tl tt)(he:∀C s H fp,PE (X.block xs scope C s H fp) elt te)
  (hs:∀v,foldedSetIterable iter X.env v=pure v) (hj:X.N[j]?=some y) (hy:Loc X.env.scope y) (hfn:X.fn y=true\/X.env.scope.names.lookup y=some .local):
  PS X (.Assign [.Name y py] (.ListComp elt [⟨tg,iter,tl.toList,0⟩] scope pos) spos) (λD Y H=>QdD wi n g tt te Y H λv H1=>D.nx (Y.set j (some v)) H1):=by
 have hsw:∃b,swapsWith (.ListComp elt [⟨tg,iter,tl.toList,0⟩] scope pos) (some (.Name y py)) spos.line X.env=pure b:=⟨_,rfl⟩;obtain⟨b,hsw⟩:=hsw
 cases b with
 |false=>exact Qaz hN hj hy (Qbr hc k hi hn hg ht he hs) hsw hfn
 |true=>
  intro pins s Y H D I h;rw[exec_Assign_Name_used _ _ _ _ hsw];refine Xa (wpAny_standAt (Xa ?_))
  show wpAny _ _ (do let _ <-comprehension (.ListComp elt [⟨tg,iter,tl.toList,0⟩] scope pos) scope X.env _ (newList []) false (eval iter X.env) (some (assign (.Name y py) X.env))) _ _ s
  refine Xa (X4 (wpAny_comprehension_free (use:=some (assign (.Name y py) X.env)) (Q:=λx s'=>SP X pins D .next s') rfl hs (Jy λy hy hf=>I.ok.has y.1 ((k.all y hy).2.2 hf)) k.kind (λy hy hl=>((k.all y hy).1 hl).2) ?_)
   (λx s' hq=>Xi (Xi hq)) λx x e=>e)
  refine thn (hi pins s Y H _ I h) λv s1 h1=>thn h1 λitv s2 h2=>?_;obtain⟨it,fp,tn,J,H2,e,I2,T,st2,f2,q⟩:=h2;subst e;refine Jw (Q:=λv H1=>D.nx (Y.set j (some v)) H1) (RR:=λacc C=>compPost (model X.prog X.w) X.A X.xe (some (assign (.Name y py) X.env)) (λx s'=>SP X pins D .next s') acc C) hc k hn hg ht he I2 T st2 f2 q ?_;intro Da C s' H' m I' n' f' q';obtain⟨o,es,ep,ho,hd,r⟩:=id n'
  have Ip:Inv X (pins++YS [C] s'.heap) Y H' s':=I'.pinned (λb hb=>by
   have e:b=C:=by simpa using hb
   subst e
   exact f') λb hb=>by
    have e:b=C:=by simpa using hb
    subst e
    exact⟨o,ho,λv z=>by rw[hd]at z;cases z⟩
  refine thn (Qbq (i:=j) hN hj hy hfn _ s' Y H' (.ref Da) (.ref Da) _ Ip rfl q') λx s'' u=>?_;obtain⟨σ2,H2',J2,q2⟩:=u
  have pc:=J2.pin (C,o) (Wp _ (Wp _ (Zj (by simp) ho)))
  refine⟨m,⟨o,es,ep,pc.1,hd,r⟩,λh' sb=>?_⟩;exact⟨σ2,H2',J2.unpinned.turned (t':=s''.toks) (λb ob hb e=>sb.extBut b ob hb e) pc.2.1 f'.2.1 f'.2.2.2.1 f'.2.2.2.2.1 f'.2.2.2.2.2,q2⟩
end
end
section
variable {a c:Int}
section
variable {X:Cx}
noncomputable def Itc(lo c:Int)(n:Nat):It:=⟨λi z=>i<n,λi H x H'=>H'=H/\x=.int (lo+i*c),λi z=>n<=i⟩
def YM{P:Program}{w:World}{K:PySem.W.Frag}{tg:Expr}(it:Addr)(lo c:Int)(n:Nat):Turn P w K tg (Itc lo c n) [it] it (λi h=>IsRangeIter h it (lo+(i:Nat)*c) ((n:Int) - (i:Nat)) c) where
 mem:=by simp
 obj:=λi h st b hb=>by
  have e:b=it:=by simpa using hb
  subst e
  exact⟨_,st,λv z=>by
   have z':Data.fields _=Data.cell v:=z
   cases z'⟩
 keep:=λi h h' st k=>k it (by simp) _ st
 item:=by
  intro X hP hw hK hc i pins s Y H E I hf st hg;subst hP hw hK
  obtain⟨f0,f1,f2,f3,f4,f5⟩:=hf it (by simp)
  have W:=Walks.range (prog:=X.prog) (w:=X.w) (I.ok.hd hc) it lo c n;refine W.item i s _ _ hg st λv h' tk hv st' kk=>?_;obtain⟨t,rfl⟩:=hv
  have I1:Inv X pins Y H {s with heap:=h',toks:=tk}:=I.turned (λb o hb e=>kk b o (by simpa using hb) e) f0 f1 f3 f4 f5
  exact⟨_,rfl,QcV (s:={s with heap:=h',toks:=tk}) (n:="range_iterator") st' rfl rfl (by decide) ⟨.int (lo+i*c),H,I1,⟨t,rfl⟩,⟨rfl,rfl⟩,st',λb hb=>(hf b hb).1⟩⟩
 done:=by
  intro X hP hw hK hc i pins s Y H E I hf st hg;subst hP hw hK
  obtain⟨f0,f1,f2,f3,f4,f5⟩:=hf it (by simp)
  exact wpAny_pyNext_range_end (I.ok.hd hc) st (by have:n<=i:=hg;omega) λh' eb=>⟨rfl,I.turned (t':=s.toks) (λb o hb e=>eb b o hb e) f0 f1 f3 f4 f5⟩
 self:=λy y y y y st h=>Ts st h
noncomputable def rngC(a b c:Int):Nat:=if a<b then((b-a-1) / c+1).toNat else 0
def QiF{b:Int}(h:0<c):Builtin.Range.rangeSize a b c=(rngC a b c:Nat):=by
 unfold rngC Builtin.Range.rangeSize;rw[if_pos (show c>0 from h)];split
 ·have:=Int.ediv_nonneg (a:=b-a-1) (b:=c) (by omega) (by omega)
  omega
 ·rfl
def QdI{b:Int}(ha:-(2 ^ 60)<=a)(ha':a<2 ^ 60)(hb:-(2 ^ 60)<=b)(hb':b<2 ^ 60)(h0:0<c)(h1:c<2 ^ 60):Builtin.Range.small a b c=true:=by
 have e:Builtin.Range.rangeSize a b c=if a<b then(b-a-1) / c+1 else 0:=by
  unfold Builtin.Range.rangeSize;rw[if_pos (show c>0 from h0)]
 have q1:a<b->(b-a-1) / c<=b-a-1:=λh=>Int.ediv_le_self _ (by omega)
 have q0:a<b->0<=(b-a-1) / c:=λh=>Int.ediv_nonneg (by omega) (by omega)
 have q2:a<b->c*((b-a-1) / c)<=b-a-1:=λh=>Int.mul_ediv_self_le (by omega)
 unfold Builtin.Range.small;rw[e];simp only[Builtin.Range.rangeFitsLong,Xj,Uq,Xq,V4,show(c>0)from h0,Wm];generalize (b-a-1) / c=d at q0 q1 ⊢;clear q2;split
 ·rename_i h;have:=q0 h;have:=q1 h;omega
 ·omega
def QdK{b:Int}(ha:-(2 ^ 60)<=a)(ha':a<2 ^ 60)(hb:-(2 ^ 60)<=b)(hb':b<2 ^ 60):Builtin.Range.small a b (-1)=true/\Builtin.Range.rangeSize a b (-1)=((a-b).toNat:Nat):=by
 have e:Builtin.Range.rangeSize a b (-1)=((a-b).toNat:Nat):=by
  unfold Builtin.Range.rangeSize;simp;omega
 refine⟨?_,e⟩;unfold Builtin.Range.small;rw[e];simp only[Builtin.Range.rangeFitsLong,Xj,Uq,Xq,V4];simp;omega
def QfA(i j c:Int)(n:Nat):Prop:=(0<c/\c<1073741824/\n=rngC i j c)\/(c=-1/\n=(i-j).toNat)
def Qiv{i j:Int}{n:Nat}(b1:-(2 ^ 60)<=i)(b2:i<2 ^ 60)(b3:-(2 ^ 60)<=j)(b4:j<2 ^ 60)(h:QfA i j c n):Builtin.Range.small i j c=true/\Builtin.Range.rangeSize i j c=(n:Nat)/\c≠0/\-1073741824<c/\c<1073741824:=by
 rcases h with⟨c0,c1,rfl⟩|⟨rfl,rfl⟩
 ·exact⟨QdI b1 b2 b3 b4 c0 (by omega),QiF c0,by omega,by omega,c1⟩
 ·obtain⟨z1,z2⟩:=QdK b1 b2 b3 b4
  exact⟨z1,z2,by omega,by omega,by omega⟩
def QoI(ta:TA):TI:=λY H R=>ta Y H λvs H1=>∃(i j c:Int) (n:Nat),vs=[.int i,.int j,.int c]/\(-(2 ^ 60)<=i/\i<2 ^ 60/\-(2 ^ 60)<=j/\j<2 ^ 60)/\QfA i j c n/\R (Itc i c n) H1
def Qd4{tg a:Expr}{args:List Expr}{ta:TA}{p pos:Pos}(hg:Gl X "range")(hm:X.mg "range"=none)(ha:PA X (a::args) ta)(he:starEach (a::args) X.env=(false,eval a X.env)::starEach args X.env)
  (hpl:(backTo pos (starEach args X.env)).any (·.1)=false):PI X tg (.Call (.Name "range" p) (a::args) [] pos) (QoI ta):=by
 intro pins s Y H R I h;refine Call_ (ZD I hg hm boot_range (Wv (thn (ha pos pins s Y H _ I h) λus s1 z=>?_) he hpl));obtain⟨vs,H1,I1,r1,q1⟩:=z;obtain⟨i,j,c,n,e,⟨b1,b2,b3,b4⟩,so,q⟩:=q1;obtain⟨sm,sz,cz,c0,c1⟩:=Qiv b1 b2 b3 b4 so;subst e
 cases r1 with
 |cons r rr=>
  obtain⟨x,y,rfl,⟨t',rfl⟩,u',rfl⟩:=Vals.two rr;obtain⟨t,rfl⟩:=r
  refine call_range_3 (by omega) ?_ (.inl (PyProof.noPylong_small (by omega)))
  have I2:Inv X pins Y H1 {s1 with heap:=s1.heap.push {cls:=.type "range",data:=.fields #[.int i t,.int j t',.int c u']},toks:=s1.toks}:=I1.kept λb o e=>Xf _ e;refine wpAny_pyIter_range (IsRange.new ..) sm ?_
  refine⟨(s1.heap.push {cls:=.type "range",data:=.fields #[.int i t,.int j t',.int c u']}).objs.size,[(s1.heap.push {cls:=.type "range",data:=.fields #[.int i t,.int j t',.int c u']}).objs.size],_,_,H1,rfl,
   I2.kept (t':=s1.toks) λb o e=>Xf _ e,YM _ i c n,?_,λb hb=>?_,q⟩
  ·show IsRangeIter _ _ (i+((0:Nat):Int)*c) (((n:Nat):Int) - ((0:Nat):Int)) c;rw[<-sz]
   have e1:i+((0:Nat):Int)*c=i:=by simp
   have e2:Builtin.Range.rangeSize i j c-((0:Nat):Int)=Builtin.Range.rangeSize i j c:=by simp
   rw[e1,e2];exact Xy _ rfl
  ·have e:b=(s1.heap.push {cls:=.type "range",data:=.fields #[.int i t,.int j t',.int c u']}).objs.size:=by simpa using hb
   subst e;exact I2.fpOk (Xg _) (I2.hok.fresh (Xg _))
end
end
section
variable {r:Addr}{n:Int}{u v:Tok}
def Qbc:isSubtype (.type "range_iterator") (.type "reversed")=pure false:=by rw[isSubtype_type];kernel_rfl
section
variable {prog:Program}{w:World}{A:Around}{E:Value->Shared->Prop}{s:Shared}
def Qbi{a b c:Int}{t:Tok}{Q:Int×Int×Int->Shared->Prop}{M:Model}(h:IsRange s.heap r a b c t u v)(q:Q (a,b,c) s):wpAny M A (Builtin.Range.rangeFields (.ref r)) Q E s:=by
 unfold Builtin.Range.rangeFields;refine Xa (wpAny_field h rfl (x:=.int a t) rfl ?_);refine Xa (Vz (a:=some a) rfl ?_);refine Xa (wpAny_field h rfl (x:=.int b u) rfl ?_);refine Xa (Vz (a:=some b) rfl ?_);refine Xa (wpAny_field h rfl (x:=.int c v) rfl ?_);refine Xa (Vz (a:=some c) rfl ?_);exact Xi q
noncomputable def Qks(n:Int):Obj:={cls:=.type "range_iterator",data:=.fields #[rawInt (n-1),rawInt n,rawInt (-1)]}
def QjY{t:Tok}{Q:Value->Shared->Prop}(h:IsRange s.heap r 0 n 1 t u v)(h0:0<=n)(h1:n<2 ^ 60)
  (q:Q (.ref s.heap.objs.size) {s with heap:=s.heap.push (Qks n)}):wpAny (model prog w) A (call (.builtin "range.__reversed__") [.ref r]) Q E s:=by
 have ty:s.TypeIs (.ref r) "range":=⟨_,h,rfl⟩;refine U1 T2 ty F.entry_range_reversed ?_ (F.args_range_reversed_1 _);unfold Builtin.«range.__reversed__»;refine Xa (Vz (a:=Value.ref r) rfl ?_);refine Xa (Qbi h ?_)
 have sz:Builtin.Range.rangeSize 0 n 1=n:=by rw[rangeSize_one];split<;>omega
 have sm:(Builtin.Range.rangeFitsLong 0&&Builtin.Range.rangeFitsLong n&&Builtin.Range.rangeFitsLong 1&&Builtin.Range.rangeFitsLong (-1)&&Builtin.Range.rangeFitsLong (0-1)&&Builtin.Range.rangeFitsLong n)=true:=by
  simp only[Builtin.Range.rangeFitsLong,Xj,Xq];omega
 dsimp only;rw[sz,sm];simp only[U6,X9,Ww,Wm];refine Xa (Ux (Xi ⟨_,rfl,?_⟩))
 have e:(0:Int)+(n-1)*1=n-1:=by omega
 rw[e];exact q
def QjU{t:Tok}{Q₁:Value->Shared->Prop}(hl:IsRange s.heap r 0 n 1 t u v)(h0:0<=n)(h1:n<2 ^ 60)
  (h:Q₁ (.ref s.heap.objs.size) {s with heap:=s.heap.push (Qks n)}):codeAny (model prog w) A (.call (.builtin "reversed.__new__") ⟨[.type "reversed",.ref r],[]⟩) (wants Q₁ E) s:=by
 have ty:s.TypeIs (.ref r) "range":=⟨_,hl,rfl⟩;refine codeAny_of_tree ?_
 show wpAny _ A.in1 (do checkBuiltinCall "reversed.__new__" ⟨[.type "reversed",.ref r],[]⟩;again (.builtin "reversed.__new__" ⟨[.type "reversed",.ref r],[]⟩)) _ _ s
 refine Xa (Vz (F.newCall_reversed_1 _) (Xi ⟨Tv F.plain_reversed_new _,T8 F.entry_reversed_new ?_⟩));rw[Around.under_plainId F.plain_reversed_new _];unfold Builtin.«reversed.__new__»;refine Xa (Vz (newClass_reversed _) ?_)
 try dsimp only
 refine Xa (Vz (a:=()) (by first|rfl|kernel_rfl) ?_)
 refine Xa (Vz (a:=()) (by first|rfl|kernel_rfl) ?_)
 try dsimp only
 refine Xa (U9 ty T2.lookup ?_)
 try dsimp only
 refine Xa (Vz (T2.bind _) ?_)
 try dsimp only
 have nn:¬((Value.builtin "range.__reversed__"==Value.none)=true):=X3
 first
 |rw[if_neg nn]
 | (show wpAny _ _ (if(Value.builtin "range.__reversed__"==Value.none)=true then _ else _) _ _ _;rw[if_neg nn])
 refine Xa (wpAny_rule ?_);refine Xa (m:=runValue (.call (.builtin "range.__reversed__") ⟨[.ref r],[]⟩)) (show wpAny _ _ (call (.builtin "range.__reversed__") [.ref r]) _ _ _ from QjY hl h0 h1 ?_)
 first
 |exact Xi h
 |exact Xa (Xi (Xi h))
def ZJ{t:Tok}{Q:Value->Shared->Prop}(hl:IsRange s.heap r 0 n 1 t u v)(h0:0<=n)(h1:n<2 ^ 60)
  (h:Q (.ref s.heap.objs.size) {s with heap:=s.heap.push (Qks n)}):wpAny (model prog w) A (call (.type "reversed") [.ref r]) Q E s:=by
 refine callType_other (U:="range_iterator") (Q₁:=λobj s₁=>obj=.ref s.heap.objs.size/\s₁={s with heap:=s.heap.push (Qks n)}) (by decide +kernel) F.create_reversed ⟨_,_,F.mro_reversed⟩ F.made_reversed Qbc (F.typeCall_reversed_1 _) (QjU hl h0 h1 ⟨rfl,rfl⟩) ?_
 rintro obj s₁ ⟨rfl,rfl⟩;exact⟨⟨_,Xy _ rfl,rfl⟩,h⟩
end
section
variable {X:Cx}
def QoK(te:TE):TI:=λY H R=>te Y H λx H1=>∃n:Int,x=.int n/\0<=n/\n<2 ^ 60/\R (Itc (n-1) (-1) n.toNat) H1
def Qi1{tg e:Expr}{te:TE}{p q pos pos2:Pos}(hg:Gl X "reversed")(hm:X.mg "reversed"=none)(hg2:Gl X "range")(hm2:X.mg "range"=none)(he:PE X e te)(hs:starEach [e] X.env=[(false,eval e X.env)]):
  PI X tg (.Call (.Name "reversed" p) [.Call (.Name "range" q) [e] [] pos2] [] pos) (QoK te):=by
 intro pins s Y H R I h;refine Call_ (ZD I hg hm boot_reversed ?_);refine Wv (e:=.Call (.Name "range" q) [e] [] pos2) (rest:=[]) ?_ rfl rfl;show wpAny _ _ (spliced ((false,eval (.Call (.Name "range" q) [e] [] pos2) X.env)::backTo pos (starEach [] X.env))) _ _ s;refine V7 ?_;refine Vd (ZD I hg2 hm2 boot_range ?_);refine Wv (e:=e) (rest:=[]) ?_ hs rfl;rw[hs];show wpAny _ _ (spliced ((false,eval e X.env)::backTo pos2 (starEach [] X.env))) _ _ s;refine V7 (thn (he pins s Y H _ I h) λu s1 z=>?_);obtain⟨x,H1,I1,rx,q1⟩:=z;refine Ub ?_;obtain⟨n,rfl,h0,h1,q⟩:=q1;obtain⟨t,rfl⟩:=rx;refine call_range_1 ?_;refine Ub ?_;have I2:Inv X pins Y H1 {s1 with heap:=s1.heap.push {cls:=.type "range",data:=.fields #[.int 0 s1.toks,.int n t,.int 1 (s1.toks+1)]},toks:=s1.toks+1+1}:=I1.kept λb o e=>Xf _ e;refine ZJ (IsRange.new ..) h0 h1 ?_;generalize e2:s1.heap.push {cls:=.type "range",data:=.fields #[.int 0 s1.toks,.int n t,.int 1 (s1.toks+1)]}=h2 at I2 ⊢;have I3:Inv X pins Y H1 {s1 with heap:=h2.push (Qks n),toks:=s1.toks+1+1}:=I2.kept (t':=s1.toks+1+1) λb o e=>Xf _ e
 have st:IsRangeIter (h2.push (Qks n)) h2.objs.size ((n-1)+((0:Nat):Int)*(-1)) ((n.toNat:Int) - ((0:Nat):Int)) (-1):=by
  have e3:(n-1)+((0:Nat):Int)*(-1)=n-1:=by omega
  have e4:(n.toNat:Int) - ((0:Nat):Int)=n:=by omega
  rw[e3,e4];exact Xy _ rfl
 refine Ts st ?_;refine⟨h2.objs.size,[h2.objs.size],_,_,H1,rfl,I3,YM _ (n-1) (-1) n.toNat,st,λb hb=>?_,q⟩
 have e:b=h2.objs.size:=by simpa using hb
 subst e;exact I2.fpOk (Xg _) (I2.hok.fresh (Xg _))
end
end
end L2
namespace Iv
open PySem PySem.Spec PyProof.Rows L2
section
variable {a it tg:Expr}{J:It}{d:Nat}{p q:Pos}{w:Wk}
section
variable {X:Cx}{T:Tbl}{A:Adr}{cf:Cf}{m k:Nat}{α:List Addr}{hs:Hs}{H:Hp}{u:U}{v:V}{Z:Rho}{Y:St}
def WJ(A:Adr)(K:W.Frag)(α:List Addr)(J:It)(H:Hp):Wk->Prop
 |.seqL u=>∃a,RU A α u (.ref a)/\J=Itl K a
 |.seqT u=>∃a,RU A α u (.ref a)/\J=Itt K a
 |.rng lo n=>J=Itr lo n
 |.zipB _ _ _ _=>False
 |.revL _ _=>False
 |.rngC lo c n=>J=Itc lo c n
 |.enmL u=>∃a,RU A α u (.ref a)/\J=Ite K a
 |.strW x=>J=Its ⟨x.toArray⟩
 |.keyD _=>False
theorem WJ.mono{K:W.Frag}{α':List Addr}{H':Hp}(p:∀(n:Nat) a,α[n]?=some a->α'[n]?=some a)(f:∀b o u,H b=some (.frz o u)->H' b=some (.frz o u))(h:WJ A K α J H w):WJ A K α' J H' w:=by
 cases w with
 |seqL u=>obtain⟨a,r,e⟩:=h;exact⟨a,r.mono p,e⟩
 |seqT u=>obtain⟨a,r,e⟩:=h;exact⟨a,r.mono p,e⟩
 |rng lo n=>exact h
 |zipB b c x y=>exact False.elim h
 |revL u n=>exact False.elim h
 |rngC lo c n=>exact h
 |enmL u=>obtain⟨a,r,e⟩:=h;exact⟨a,r.mono p,e⟩
 |strW x=>exact h
 |keyD n=>exact False.elim h
noncomputable def gT(K:W.Frag):Tg->TG
 |.name i=>QbB i
 |.pair i j=>Qqd K 2 (QjC (QbB i) (QjC (QbB j) Qqe))
def Qcn{i:Nat}(tx:Txt T A X.K X.mg)(R:Rep T A X.K α hs H)(W:WJ A X.K α J H w)(h:itm T w i hs=some none):J.stop i H:=by
 cases w with
 |seqL u=>
  obtain⟨a,r,rfl⟩:=W;simp only[itm,Xd,Uu]at h;obtain⟨xs,e,h⟩:=h;obtain⟨a',vs,ea,rr,q⟩:=QG tx R e r;cases ea
  exact⟨vs,q,by rw[<-rr.length];exact X6.mp h⟩
 |seqT u=>
  obtain⟨a,r,rfl⟩:=W;simp only[itm,Xd,Uu]at h;obtain⟨xs,e,h⟩:=h;obtain⟨a',vs,ea,rr,q⟩:=JE tx R e r;cases ea
  exact⟨vs,q,by rw[<-rr.length];exact X6.mp h⟩
 |rng lo n=>
  cases(show J=_ from W);simp only[itm,W7]at h;split at h
  ·cases h
  ·rename_i l;show n<=i;omega
 |zipB p q x y=>exact False.elim W
 |revL u n=>exact False.elim W
 |rngC lo c n=>
  cases(show J=_ from W);simp only[itm,W7]at h;split at h
  ·cases h
  ·rename_i l;show n<=i;omega
 |enmL u=>
  obtain⟨a,r,rfl⟩:=W;simp only[itm,Xd,Uu]at h;obtain⟨xs,e,h⟩:=h;obtain⟨a',vs,ea,rr,q⟩:=QG tx R e r;cases ea
  exact⟨vs,q,by rw[<-rr.length];exact X6.mp h⟩
 |strW x=>
  cases(show J=_ from W);simp only[itm,W7,Uu]at h;show(x.toArray).size<=i;rw[Xw];exact X6.mp h
 |keyD n=>exact False.elim W
def YO{t:Tg}{ρ':Rho}{Q:St->Hp->Prop}(R:Rep T A X.K α hs H)(rs:RS A α Z Y)(r:RU A α u v)(h:tgt t (.one u) Z hs=some ρ')(k:∀σ2,RS A α ρ' σ2->Q σ2 H):gT X.K t v Y H Q:=by
 cases t with
 |name i=>cases h;exact k _ (rs.set i r)
 |pair i j=>
  cases u with
  |ref n=>
   obtain⟨a,ha,rfl⟩:=r;simp only[tgt]at h;split at h
   case h_2=>cases h
   rename_i x y e;cases h;obtain⟨vs,q,rr⟩:=R.h.ob n a _ ha e;obtain⟨v1,ws,rfl,r1,rr⟩:=Qj rr;obtain⟨v2,ws,rfl,r2,rr⟩:=Qj rr;cases Qm rr;exact⟨a,[v1,v2],rfl,SqT.of q,rfl,v1,[v2],rfl,v2,[],rfl,rfl,k _ ((rs.set i r1).set j r2)⟩
  |_=>simp[tgt]at h
def Qco{i:Nat}{x:Im}{t:Tg}{ρ':Rho}(tx:Txt T A X.K X.mg)(R:Rep T A X.K α hs H)(W:WJ A X.K α J H w)(rs:RS A α Z Y)(h:itm T w i hs=some (some x))(ht:tgt t x Z hs=some ρ'):
  J.go i H/\∀v H' (Q:St->Hp->Prop),J.yld i H v H'->(∀σ2,RS A α ρ' σ2->Rep T A X.K α hs H'->Ext α α H H'->Q σ2 H')->gT X.K t v Y H' Q:=by
 cases w with
 |seqL u=>
  obtain⟨a,r,rfl⟩:=W;simp only[itm,Xd]at h;obtain⟨xs,e,y,h,rfl⟩:=h;obtain⟨a',vs,ea,rr,q⟩:=QG tx R e r;cases ea;obtain⟨v1,f1,g1⟩:=rr.get h;refine⟨⟨vs,v1,q,f1⟩,?_⟩;rintro v H' Q ⟨rfl,k1⟩ k;have n1:v=v1:=X8 ((k1 vs q).symm.trans f1);subst n1;exact YO R rs g1 ht λσ2 r2=>k σ2 r2 R Ext.refl
 |seqT u=>
  obtain⟨a,r,rfl⟩:=W;simp only[itm,Xd]at h;obtain⟨xs,e,y,h,rfl⟩:=h;obtain⟨a',vs,ea,rr,q⟩:=JE tx R e r;cases ea;obtain⟨v1,f1,g1⟩:=rr.get h;refine⟨⟨vs,v1,q,f1⟩,?_⟩;rintro v H' Q ⟨rfl,k1⟩ k;have n1:v=v1:=X8 ((k1 vs q).symm.trans f1);subst n1;exact YO R rs g1 ht λσ2 r2=>k σ2 r2 R Ext.refl
 |rng lo n=>
  cases(show J=_ from W);simp only[itm,W7]at h;split at h
  case isFalse=>cases h
  rename_i l;cases h;refine⟨l,?_⟩;rintro v H' Q ⟨rfl,rfl⟩ k;exact YO (u:=.int (lo+i) 0) R rs ⟨_,rfl,Cg.refl _ _⟩ ht λσ2 r2=>k σ2 r2 R Ext.refl
 |zipB p q x1 y1=>exact False.elim W
 |revL u n=>exact False.elim W
 |rngC lo c n=>
  cases(show J=_ from W);simp only[itm,W7]at h;split at h
  case isFalse=>cases h
  rename_i l;cases h;refine⟨l,?_⟩;rintro v H' Q ⟨rfl,rfl⟩ k;exact YO (u:=.int (lo+i*c) 0) R rs ⟨_,rfl,Cg.refl _ _⟩ ht λσ2 r2=>k σ2 r2 R Ext.refl
 |enmL u=>
  obtain⟨a,r,rfl⟩:=W;simp only[itm,Xd]at h;obtain⟨xs,e,y,h,rfl⟩:=h;obtain⟨a',vs,ea,rr,q⟩:=QG tx R e r;cases ea;obtain⟨v1,f1,g1⟩:=rr.get h;refine⟨⟨vs,v1,q,f1⟩,?_⟩;rintro v H' Q ⟨p,w1,hp,rfl,rfl,k1⟩ k;have n1:w1=v1:=X8 ((k1 vs q).symm.trans f1);subst n1
  have ne:∀b y,H b=some y->b≠p:=λb y e z=>by rw[z,hp]at e;cases e
  have R':Rep T A X.K α hs (upd H p (.tup [.int i,w1])):=⟨⟨R.h.len,R.h.nd_keep λb x m e=>by rw[Qf (ne _ _ e)];exact e,λn a o e1 e2=>RO.keep (R.h.ob n a o e1 e2) (λm m e=>e) λm y e m=>by rw[Qf (ne _ _ e)];exact e⟩,R.s.keep λy e m=>by rw[Qf (ne _ _ e)];exact e⟩
  have E':Ext α α H (upd H p (.tup [.int i,w1])):=⟨λm m e=>e,λn a e l=>by have:=getElem?_lt e;omega,λb o e m=>by rw[Qf (ne _ _ e)];exact e,λb o kv e=>by rw[Qf (ne _ _ e)];exact e,λb o e=>⟨o,by rw[Qf (ne _ _ e)];exact e,λm=>U7⟩⟩
  cases t with
  |name i=>simp[tgt]at ht
  |pair i' j'=>
   cases ht;have g0:RU A α (.int i 0) (.int i):=⟨_,rfl,Cg.refl _ _⟩;exact⟨p,[.int i,w1],rfl,SqT.of Qh,rfl,.int i,[w1],rfl,w1,[],rfl,rfl,k _ ((rs.set i' g0).set j' g1) R' E'⟩
 |strW y=>
  cases(show J=_ from W);simp only[itm,W7,Xd]at h;obtain⟨c,hc,rfl⟩:=h
  refine⟨by show i<y.toArray.size;rw[Xw];exact(Xc.mp hc).1,?_⟩
  rintro v H' Q ⟨rfl,c',hc',rfl⟩ k
  have e:c'=c:=by
   have:y[i]?=some c':=by simpa using hc'
   rw[hc]at this;exact(X8 this).symm
  subst e;exact YO (u:=.str [c']) R rs rfl ht λσ2 r2=>k σ2 r2 R Ext.refl
 |keyD n=>exact False.elim W
noncomputable def TIW(T:Tbl)(A:Adr)(K:W.Frag)(f:Rho->Hs->Option (Wk×Hs)):L2.TI:=λY H R=>∃α Z hs w hs',RS A α Z Y/\Rep T A K α hs H/\f Z hs=some (w,hs') /\
 ∀α' J H',Ext α α' H H'->Rep T A K α' hs' H'->WJ A K α' J H' w->R J H'
def QfC{t t':L2.TI}(h:PI X tg it t)(i:∀Y H R,t' Y H R->t Y H R):PI X tg it t':=λpins s Y H R I q=>h pins s Y H R I (i Y H R q)
def Qqn{t t':L2.TI}(h:PI X tg it t)(h':PI X tg it t'):PI X tg it (λY H R=>t Y H R\/t' Y H R):=λpins s Y H R I q=>q.elim (h pins s Y H R I) (h' pins s Y H R I)
def QgS{u:U}{hs h1:Hs}{n:Nat}{kvs:List (U×U)}(h:Qe3 u hs h1=some (n,kvs)):u=.ref n/\(∃k0,hs[n]?=some (.dic k0))/\h1[n]?=some (.dic kvs):=by
 unfold Qe3 at h;split at h
 ·split at h
  ·rename_i k0 e0;split at h
   ·rename_i e1;cases h;exact⟨rfl,⟨_,e0⟩,e1⟩
   ·cases h
  ·cases h
 ·cases h
def QlJ{ir:E}(tx:Txt T A X.K X.mg)(h:PE X it (Iv.TI T A X.K (ev T cf d ir))):PI X tg it (TIW T A X.K (λZ hs=>Za T (ev T cf d) Z (.seq ir) hs)):=by
 refine QfC (Qqn (Qqn (Qi2 h) (QlH h)) (QlI h)) ?_;rintro Y H R ⟨α,Z,hs,w,hs',rs,Rp,e,q⟩;simp only[Za]at e;obtain⟨u,h1,e1,e⟩:=Qe e;simp only[Xd]at e;obtain⟨w',e2,e⟩:=e;cases e;unfold wkS at e2;split at e2
 ·rename_i xs el;cases e2;refine .inl (.inl (TI.run rs Rp e1 λα1 x H1 E1 R1 r1 rs1=>?_));obtain⟨a,vs,rfl,rr,sq⟩:=QG tx R1 el r1;exact⟨a,rfl,⟨vs,sq⟩,q α1 _ H1 E1 R1 ⟨a,r1,rfl⟩⟩
 ·split at e2
  ·rename_i xs el;cases e2;refine .inl (.inr (TI.run rs Rp e1 λα1 x H1 E1 R1 r1 rs1=>?_));obtain⟨a,vs,rfl,rr,sq⟩:=JE tx R1 el r1;exact⟨a,rfl,⟨vs,sq⟩,q α1 _ H1 E1 R1 ⟨a,r1,rfl⟩⟩
  ·split at e2
   ·cases e2;refine .inr (TI.run rs Rp e1 λα1 x H1 E1 R1 r1 rs1=>?_);exact⟨_,r1,q α1 _ H1 E1 R1 rfl⟩
   ·cases e2
def Qix{i:Int}(h:Qk (i*4)=true):-(2 ^ 62)<=i/\i<2 ^ 62:=by
 obtain⟨h1,h2⟩:=QW h;constructor<;>omega
def QlK{a':E}(hg:Gl X "range")(hm:X.mg "range"=none)(hns:∀x p,a≠.Starred x p)(h:PE X a (Iv.TI T A X.K (ev T cf d a'))):PI X tg (.Call (.Name "range" p) [a] [] q) (TIW T A X.K (λZ hs=>Za T (ev T cf d) Z (.rng a') hs)):=by
 refine QfC (Qd5 hg hm (Zv h Ji (Qn hns)) (Qn hns)) ?_;rintro Y H R ⟨α,Z,hs,w,hs',rs,Rp,e,q⟩;simp only[Za]at e;obtain⟨u,h1,e1,e⟩:=Qe e;split at e
 case h_2=>cases e
 split at e
 case isFalse=>cases e
 rename_i i c;cases e;refine TI.run rs Rp e1 λα1 x H1 E1 R1 r1 rs1=>?_;obtain⟨j,rfl,cg⟩:=r1;cases cg.exact;obtain⟨b1,b2⟩:=Qix c;exact⟨_,rfl,b1,b2,q α1 _ H1 E1 R1 rfl⟩
def Qi0{args:List Expr}{es:List E}(hg:Gl X "range")(hm:X.mg "range"=none)(hns:Qa4 (a::args))(h:PA X (a::args) (TIA T A X.K (λZ hs=>evs (ev T cf d) Z es hs))):
  PI X tg (.Call (.Name "range" p) (a::args) [] q) (TIW T A X.K (λZ hs=>Za T (ev T cf d) Z (.rngA es) hs)):=by
 refine QfC (Qd4 hg hm h (Qn (hns a (Xn ..))) (Q9 λz hz=>hns z (Xl _ hz))) ?_;rintro Y H R ⟨α,Z,hs,w,hs',rs,Rp,e,q⟩;simp only[Za]at e;obtain⟨us,h1,e1,e⟩:=Qe e;split at e
 case h_2=>cases e
 rename_i i j c
 obtain⟨n,so,ew,c1,c2⟩:∃n,QfA i j c n/\some (Wk.rngC i c n,h1)=some (w,hs')/\Qk (i*16)=true/\Qk (j*16)=true:=by
  split at e
  ·rename_i cc;simp only[Xj,Xq]at cc;obtain⟨⟨⟨c1,c2⟩,c3⟩,c4⟩:=cc;exact⟨_,.inl ⟨c3,c4,rfl⟩,e,c1,c2⟩
  ·split at e
   ·rename_i cc;simp only[Xj,Xq]at cc;obtain⟨⟨c1,c2⟩,rfl⟩:=cc;exact⟨_,.inr ⟨rfl,rfl⟩,e,c1,c2⟩
   ·cases e
 cases ew;obtain⟨d1,d2⟩:=QW c1;obtain⟨d3,d4⟩:=QW c2;refine TIA.run rs Rp e1 λα1 vs H1 E1 R1 r1 rs1=>?_;obtain⟨v1,ws,rfl,x1,rr⟩:=Qj r1;obtain⟨v2,ws,rfl,x2,rr⟩:=Qj rr;obtain⟨v3,ws,rfl,x3,rr⟩:=Qj rr;cases Qm rr;cases Zc x1;cases Zc x2;cases Zc x3
 exact⟨i,j,c,n,rfl,⟨by omega,by omega,by omega,by omega⟩,so,q α1 _ H1 E1 R1 rfl⟩
def Qi5{elts:List Expr}{kt:Nat}{pt:Pos}{a':E}(tx:Txt T A X.K X.mg)(hg:Gl X "enumerate")(hm:X.mg "enumerate"=none)(hns:∀x p,a≠.Starred x p)(h:PE X a (Iv.TI T A X.K (ev T cf d a'))):
  PI X (.Tuple elts kt pt) (.Call (.Name "enumerate" p) [a] [] q) (TIW T A X.K (λZ hs=>Za T (ev T cf d) Z (.enm a') hs)):=by
 refine QfC (Qi4 hg hm h (Qn hns)) ?_;rintro Y H R ⟨α,Z,hs,w,hs',rs,Rp,e,q⟩;simp only[Za]at e;obtain⟨u,h1,e1,e⟩:=Qe e;split at e
 case h_2=>cases e
 rename_i xs el;cases e;refine TI.run rs Rp e1 λα1 x H1 E1 R1 r1 rs1=>?_;obtain⟨a,vs,rfl,rr,sq⟩:=QG tx R1 el r1;exact⟨a,vs,rfl,sq,q α1 _ H1 E1 R1 ⟨a,r1,rfl⟩⟩
def Rep.aside{D:Addr}{ho:HO}(R:Rep T A X.K α hs H)(hn:D∉α)(hs':∀o u,H D≠some (.frz o u)):Rep T A X.K α hs (upd H D ho):=
 ⟨⟨R.h.len,R.h.nd_keep λb x hb e=>by rw[Qf (λ(z:b=D)=>hn (z▸hb))];exact e,λn a o e1 e2=>RO.keep (R.h.ob n a o e1 e2) (λv v e=>e) λc y e w=>by
   rcases w with rfl|⟨oz,fs,rfl⟩
   ·have ne:c≠D:=λz=>hn (z▸X0 e1);rw[Qf ne];exact e
   ·rw[Qf (λz=>hs' _ _ (z▸e))];exact e⟩,
  R.s.keep λy e z=>by
   obtain⟨ob,u,rfl⟩:=z;have ne:A.s≠D:=λz=>hs' ob _ (z▸e);rw[Qf ne]
   exact e⟩
def Rep.adopt{D:Addr}{us:List U}{ys:List V}(R:Rep T A X.K α hs H)(hn:D∉α)(hD:H D=some (.lst ys))(r:RUs A α us ys):Rep T A X.K (α++[D]) (hs++[.lst us]) H:=by
 refine⟨⟨by simp[R.h.len],Qed R.h.nd hn,λn a o e1 e2=>?_⟩,R.s⟩
 rcases Qo e1 with q|⟨q1,q2⟩
 ·rcases Qo e2 with z|⟨z,_⟩
  ·exact RO.keep (R.h.ob n a o q z) Qq λy y e y=>e
  ·have:=getElem?_lt q;rw[R.h.len]at this;omega
 ·subst q2
  rcases Qo e2 with z|⟨_,z⟩
  ·have:=(Xc.mp z).1;rw[<-R.h.len]at this;omega
  ·subst z;exact⟨ys,hD,RUs.mono Qq r⟩
def RS.pad{p:Rho}{os:St}(rs:RS A α Z Y)(hl:p.length=os.length)(hp:∀x∈p,x=none):RS A α (Z++p) (Y++os):=by
 refine⟨by simp[rs.len,hl],λi u e=>?_⟩
 by_cases l:i < Z.length
 ·rw[Xv l]at e;obtain⟨v,h1,h2⟩:=rs.val i u e
  exact⟨v,by rw[Xv (Xc.mp h1).1];exact h1,h2⟩
 ·rw[Wg (by omega)]at e
  cases hp _ (X0 e)
noncomputable def nN(b:Bool):Nat:=if b then 2 else 1
def Qca(b:Bool):(Qdh b).length=nN b:=by cases b<;>rfl
def QaA(b:Bool):∀x∈Qdh b,x=none:=by cases b<;>simp[Qdh]
def QjB{K:W.Frag}{b:Bool}{os:St}{Q:St->Hp->Prop}(hl:os.length=nN b)(h:gT K (tgN b Y.length) v (Y++os) H Q):
  gT K (tgN b Y.length) v (Y++os) H λσ2 H2=>(∃os':St,os'.length=nN b/\σ2=Y++os')/\Q σ2 H2:=by
 cases b with
 |false=>
  have h:Q ((Y++os).set Y.length (some v)) H:=h
  exact⟨⟨os.set 0 (some v),by simp[hl],by rw[Vx _ _ (Xg _),Sb]⟩,h⟩
 |true=>
  obtain⟨a,xs,rfl,sq,len,v1,r1,rfl,v2,r2,rfl,e,q⟩:=h
  refine⟨a,_,rfl,sq,len,v1,_,rfl,v2,_,rfl,e,⟨(os.set 0 (some v1)).set 1 (some v2),by simp[hl],?_⟩,q⟩
  rw[Vx _ _ (Xg _),Sb,Vx _ _ (Ut _)]
  congr 1
  congr 1
  omega
def QhM{α4:List Addr}{D:Addr}{ho:HO}{H4:Hp}(E4:Ext α α4 H H4)(nD:D∉α)(d3:H D=some ho)(hnt:∀vs,ho≠.tup vs:=by intro _ z;cases z):D∉α4:=λz=>by
 obtain⟨n,hn⟩:=Vf z;by_cases l:n < α.length
 ·have e1:α[n]?=some α[n]:=Xe l;have e2:=E4.pre _ _ e1;rw[hn]at e2;cases e2;exact nD (List.getElem_mem l)
 ·rcases E4.new n D hn (by omega)with q|⟨vs,q⟩
  ·rw[d3]at q;cases q
  ·rw[d3]at q;exact hnt vs (X8 q)
def Qfe{src:Src}{b:Bool}{t:Option E}{el:E}{Y:St}{H:Hp}{Q:VK}(tx:Txt T A X.K X.mg)(hl:Y.length=X.N.length)(h:Iv.TI T A X.K (ev T cf (d+1) (.comp src b t el)) Y H Q):
  QdD (TIW T A X.K (λZ hs=>Za T (ev T cf d) Z src hs)) (nN b) (gT X.K (tgN b X.N.length)) (TIT T A X.K (Z4 (evT T cf d) t)) (Iv.TI T A X.K (ev T cf d el)) Y H Q:=by
 rw[<-hl];obtain⟨α,Z,hs,u,hs',rs,R,e,q⟩:=h;simp only[ev]at e;obtain⟨w,h1,e1,e⟩:=Qe e;obtain⟨us,h2,e2,e⟩:=Qe e;cases e;refine⟨α,Z,hs,w,h1,rs,R,e1,λα1 J H1 E1 R1 W1 D hD=>?_⟩;have rs1:=rs.mono E1.pre
 refine⟨λi m ys H2=>∃αc hc acc,RS A αc Z Y/\Rep T A X.K αc hc H2/\D∉αc/\H2 D=some (.lst ys)/\RUs A αc acc ys/\Ext α1 αc H1 H2/\WJ A X.K αc J H2 w/\QS T (ev T cf d) (Z4 (evT T cf d) t) w b el Z m i acc hc=some (us,h2),⟨Q2 T w h1,α1,h1,[],rs1,?_,R1.h.notIn hD,Qh,.nil,?_,W1.mono (λs s e=>e) (λb o u e=>by rw[Qf (λz=>by rw[z,hD]at e;cases e)];exact e),e2⟩,?_⟩
 ·exact R1.aside (R1.h.notIn hD) λo u z=>by rw[hD]at z;cases z
 ·exact⟨λs s e=>e,λn a e l=>by have:=getElem?_lt e;omega,λb o e s=>by rw[Qf (λz=>by rw[z,hD]at e;cases e)];exact e,λb o kv e=>by rw[Qf (λz=>by rw[z,hD]at e;cases e)];exact e,λb o e=>⟨o,by rw[Qf (λz=>by rw[z,hD]at e;cases e)];exact e,λs=>U7⟩⟩
 rintro i m ys H2 ⟨αc,hc,acc,rsc,Rc,nD,hDl,rr,Ec,Wc,ec⟩;refine⟨hDl,?_⟩
 cases m with
 |zero=>cases ec
 |succ m=>
  simp only[QS]at ec;split at ec
  ·cases ec
  ·rename_i ei;cases ec;refine .inl ⟨Qcn tx Rc Wc ei,?_⟩;have Ra:=Rc.adopt nD hDl rr
   have Ea:Ext α1 (αc++[D]) H1 H2:=⟨λn a e=>Qq n a (Ec.pre n a e),λn a e l=>by
    rcases Qo e with z|⟨_,z⟩
    ·exact Ec.new n a z l
    ·rw[z];exact .inl hD,Ec.keep,Ec.fz,Ec.tr⟩
   exact q _ _ _ (E1.trans Ea Ra.h) Ra ⟨D,by rw[<-Rc.h.len];exact QD,rfl⟩
  ·rename_i x ei;split at ec
   ·cases ec
   rename_i ρ' et;split at ec
   case isFalse=>cases ec
   rename_i small;obtain⟨c,h3,e3,ec⟩:=Qe ec
   have go:J.go i H2:=(Qco tx Rc Wc (rsc.pad (os:=List.replicate (nN b) none) (by rw[Qca];simp) (QaA b)) ei et).1
   refine .inr ⟨go,?_,λv H3 os lo yl=>?_⟩
   ·have:=rr.length;rw[Vy];omega
   have rsn:RS A αc (Z++Qdh b) (Y++os):=rsc.pad (by rw[Qca,lo]) (QaA b)
   obtain⟨_,stp⟩:=Qco tx Rc Wc rsn ei et;rw[rs.len]at stp;refine QjB lo (stp v H3 _ yl λσ2 rs2 R3 E3=>?_);have d3:H3 D=some (.lst ys):=E3.keep D _ hDl nD;refine TIT.run rs2 R3 e3 λα4 H4 E4 R4 rs4=>?_;have d4:H4 D=some (.lst ys):=E4.keep D _ d3 nD;have nD4:=QhM E4 nD d3;have Et4:=(Ec.trans E3 R3.h).trans E4 R4.h
   cases c with
   |false=>
    rw[if_neg X3]at ec ⊢;exact⟨m,Ul _,α4,h3,acc,rsc.mono E4.pre,R4,nD4,d4,RUs.mono E4.pre rr,Et4,Wc.mono E4.pre λb o u e=>E4.fz _ _ _ (E3.fz _ _ _ e),ec⟩
   |true=>
    rw[if_pos rfl]at ec ⊢;obtain⟨u',h5,e5,ec⟩:=Qe ec;refine TI.run rs4 R4 e5 λα5 y H5 E5 R5 r5 rs5=>?_;have d5:H5 D=some (.lst ys):=E5.keep D _ d4 nD4;have nD5:=QhM E5 nD4 d4
    refine⟨d5,m,Ul _,α5,h5,acc++[u'],(rsc.mono E4.pre).mono E5.pre,R5.aside nD5 (λo u z=>by rw[d5]at z;cases z),nD5,Qh,?_,?_,(Wc.mono (λn a e=>E5.pre n a (E4.pre n a e)) λb o u e=>by rw[Qf (λz=>by rw[z,hDl]at e;cases e)];exact E5.fz _ _ _ (E4.fz _ _ _ (E3.fz _ _ _ e))),ec⟩
    ·exact Paired.snoc (RUs.mono E5.pre (RUs.mono E4.pre rr)) r5
    ·have Et:=Et4.trans E5 R5.h
     exact⟨Et.pre,Et.new,λb o e hb=>by rw[Qf (λz=>by rw[z,hD]at e;cases e)];exact Et.keep b o e hb,λb o kv e=>by rw[Qf (λz=>by rw[z,hD]at e;cases e)];exact Et.fz b o kv e,λb o e=>by
      obtain⟨o',q1,q2⟩:=Et.tr b o e
      exact⟨o',by rw[Qf (λz=>by rw[z,hD]at e;cases e)];exact q1,q2⟩⟩
end
end
section
variable {a':E}{a tg:Expr}{d:Nat}{pos:Pos}{scope:Scope}
section
variable {X:Cx}{T:Tbl}{A:Adr}{C:Ctx}{cf:Cf}{m k:Nat}
def Qn1{j:Nat}{p1 p3 p2:Pos}(tx:Txt T A X.K X.mg)(h:PE X a (TI T A X.K (ev T cf d a'))):
  PE X (.Subscript a (.Slice none none (some (.UnaryOp .USub (.Constant (.int 1) j p1) p3)) p2) pos) (TI T A X.K (ev T cf (d+1) (.rev a'))):=by
 refine Q0 (QlO h) ?_;rintro Y H Q ⟨α,Z,hs,u,hs',rs,R,e,q⟩;simp only[ev]at e;obtain⟨u1,h1,e1,e⟩:=Qe e;split at e
 case h_2=>cases e
 rename_i xs el;cases e;refine TI.run rs R e1 λα1 x H1 E1 R1 r1 rs1=>?_;obtain⟨b,vs,rfl,rr,sq⟩:=QG tx R1 el r1;refine⟨b,vs,rfl,sq,λp hp=>?_⟩;obtain⟨R2,E2⟩:=R1.new (p:=p) (o:=.lst xs.reverse) (ho:=.lst vs.reverse) hp ⟨_,Qh,RUs.mono Qq rr.reverse⟩
 exact q _ _ _ (E1.trans E2 R2.h) R2 ⟨p,by rw[<-R1.h.len];exact QD,rfl⟩
def Qll{f:Str}{args:List Expr}{p:Pos}(g:GX T A C X)(hh:hdC C=false)(hg:Zr C f=true)(hx:¬C.bl.contains f=false)(hra:JQ C f args=some a)(h:PE X a (TI T A X.K (ev T cf d a')))(hns:∀x p,a≠.Starred x p):
  PE X (.Call (.Name f p) args [] pos) (TI T A X.K (ev T cf (d+1) (.rev a'))):=by
 unfold JQ at hra;split at hra
 case isFalse=>cases hra
 rename_i ef;subst ef;split at hra
 case h_2=>cases hra
 rename_i r pr a0 p2;split at hra
 case isFalse=>cases hra
 rename_i c;cases hra;simp only[Xj,Xq]at c;obtain⟨⟨⟨c1,c2⟩,c3⟩,c4⟩:=c
 have e1:r=Str.ofString "reversed":=by simpa using c1
 subst e1
 refine Q0 (Qi6 (g.calm hh) (QN g hg) (g.blt _ hx) (QN g c2) (g.blt _ (by rw[c4];simp)) h (Qn hns)) ?_
 rintro Y H Q ⟨α,Z,hs,u,hs',rs,R,e,q⟩;simp only[ev]at e;obtain⟨u1,h1,e1,e⟩:=Qe e;split at e
 case h_2=>cases e
 rename_i xs el;cases e;refine TI.run rs R e1 λα1 x H1 E1 R1 r1 rs1=>?_;obtain⟨b,vs,rfl,rr,sq⟩:=QG g.txt R1 el r1;refine⟨b,vs,rfl,sq,λp hp=>?_⟩;obtain⟨R2,E2⟩:=R1.new (p:=p) (o:=.lst xs.reverse) (ho:=.lst vs.reverse) hp ⟨_,Qh,RUs.mono Qq rr.reverse⟩
 exact q _ _ _ (E1.trans E2 R2.h) R2 ⟨p,by rw[<-R1.h.len];exact QD,rfl⟩
def Qle{f:Str}{args:List Expr}{p:Pos}(g:GX T A C X)(hg:Zr C f=true)(hx:¬C.bl.contains f=false)(hra:QiE C f args=some a)(h:PE X a (TI T A X.K (ev T cf d a')))(hns:∀x p,a≠.Starred x p):
  PI X tg (.Call (.Name f p) args [] pos) (TIW T A X.K (λZ hs=>Za T (ev T cf d) Z (.rngR a') hs)):=by
 unfold QiE at hra;split at hra
 case isFalse=>cases hra
 rename_i ef;subst ef;split at hra
 case h_2=>cases hra
 rename_i r pr a0 p2;split at hra
 case isFalse=>cases hra
 rename_i c;cases hra;simp only[Xj,Xq]at c;obtain⟨⟨⟨c1,c2⟩,c3⟩,c4⟩:=c
 have e1:r=Str.ofString "range":=by simpa using c1
 subst e1
 refine QfC (Qi1 (QN g hg) (g.blt _ hx) (QN g c2) (g.blt _ (by rw[c4];simp)) h (Qn hns)) ?_
 rintro Y H R ⟨α,Z,hs,w,hs',rs,Rp,e,q⟩;simp only[Za]at e;obtain⟨u,h1,e1,e⟩:=Qe e;split at e
 case h_2=>cases e
 rename_i i;split at e
 case isFalse=>cases e
 rename_i cc;cases e;simp only[Xj,Xq]at cc;obtain⟨d1,d2⟩:=QW cc.1;refine TI.run rs Rp e1 λα1 x H1 E1 R1 r1 rs1=>?_;cases Zc r1
 exact⟨i,rfl,cc.2,by omega,q α1 _ H1 E1 R1 rfl⟩
def Qlc{it:Expr}{src:Src}(g:GX T A C X)(S:Snd T A C X cf m)(h:compSrc (m+1) C it=some src)(hz:Qni src=true->∃elts kt pt,tg=.Tuple elts kt pt):PI X tg it (TIW T A X.K (λZ hs=>Za T (ev T cf d) Z src hs)):=by
 have seq:∀{it:Expr} {src:Src},(Qg m C it).map Src.seq=some src->PI X tg it (TIW T A X.K (λZ hs=>Za T (ev T cf d) Z src hs)):=by
  intro it src h;simp only[Xd]at h;obtain⟨ir,hi,rfl⟩:=h;exact QlJ g.txt (S.e d it ir hi)
 simp only[compSrc]at h;split at h
 ·rename_i f p args q;split at h
  case isFalse=>cases h
  rename_i hg;split at h
  ·exact seq h
  ·split at h
   ·cases h
   rename_i hx;split at h
   ·rename_i b hrr;simp only[Xd]at h;obtain⟨b',hb,rfl⟩:=h;exact Qle g hg hx hrr (S.e d b b' hb) (QC hb)
   rename_i hnr;clear hnr;split at h
   ·rename_i e;subst e;split at h
    ·rename_i a;simp only[Xd]at h;obtain⟨a',ha,rfl⟩:=h;exact QlK (QN g hg) (g.blt _ hx) (QC ha) (S.e d a a' ha)
    ·rename_i a b c;simp only[Xd]at h;obtain⟨es,ha,rfl⟩:=h;exact Qi0 (QN g hg) (g.blt _ hx) (Qt ha) (S.a d _ es ha)
    ·cases h
   ·split at h
    ·rename_i e;subst e;split at h
     ·rename_i a;simp only[Xd]at h;obtain⟨a',ha,rfl⟩:=h;obtain⟨elts,kt,pt,rfl⟩:=hz rfl;exact Qi5 g.txt (QN g hg) (g.blt _ hx) (QC ha) (S.e d a a' ha)
     ·cases h
    ·exact seq h
 ·exact seq h
def QaC{it:Expr}{src:Src}{env:Env}(h:compSrc m C it=some src):∀x,foldedSetIterable it env x=pure x:=by
 intro x
 cases it<;>first|rfl|skip
 cases m with
 |zero=>simp[compSrc]at h
 |succ m=>
  simp only[compSrc,Xd]at h;obtain⟨_,h,_⟩:=h
  cases m<;>first|exact Znn h|simp[Qg]at h
def Z6{xs:List Str}(g:GX T A C X)(h:Jx C xs scope=true):CompOk X xs scope/\∀C0 s H fp,GX T A (C.inner xs scope) (X.block xs scope C0 s H fp):=by
 unfold Jx at h;simp only[Xj,V4,Wj,Uc,Xq]at h;obtain⟨⟨⟨⟨h1,h2⟩,hd⟩,h3⟩,h5⟩:=h
 have nd:(".0":Str)∉X.N:=λz=>by
  rw[g.N]at z;rw[Vv.mpr z]at h5;cases h5
 refine⟨⟨h1,λx hx=>(h2 x hx).1,λy hy=>?_,λx hx=>(h2 x hx).2,(Vm.mp hd).2.1,nd⟩,λC0 s H fp=>?_⟩
 ·have:=h3 y hy;obtain⟨n,kd⟩:=y
  cases kd with
  | «local»=>
   simp only[Xj,Uq,Xq,V4,Vv]at this;exact⟨λw=>this,(λz=>nomatch z),λz=>nomatch z⟩
  |cell=>cases this
  |free=>
   simp only[Uq,V4]at this;rw[<-g.sc]at this;exact⟨(λz=>nomatch z),(λz=>nomatch z),λw=>this⟩
  |_=>exact⟨(λz=>nomatch z),(λz=>nomatch z),λz=>nomatch z⟩
 ·refine⟨g.CT,?_,?_,?_,g.calm,h1,rfl,g.gfn,g.gcl,g.gco,g.gtx,g.blt,g.txt,g.tab⟩
  ·show hideN xs X.N++xs=hideN xs C.N++xs;rw[g.N]
  ·show(hideN xs X.N++xs).Nodup;rw[g.N];exact hd
  ·show(relabel scope X.env).names=relN C.names scope.names;rw[QP g.kind,g.sc]
def Qb8{b:Bool}{xs:List Str}{C0:Addr}{s:Shared}{H:Hp}{fp:List Addr}(g:GX T A C X)(hh:hdC C=false)(k:CompOk X xs scope)(gb:GX T A (C.inner xs scope) (X.block xs scope C0 s H fp))(h:Qnr tg b xs):PG (X.block xs scope C0 s H fp) tg (gT X.K (tgN b X.N.length)):=by
 have nm:∀{x:Str} {p:Pos} {i:Nat},x∈xs->(hideN xs X.N++xs)[i]?=some x->PG (X.block xs scope C0 s H fp) (.Name x p) (QbB i):=λ{x p i} hx hi=>by
  have loc:(X.block xs scope C0 s H fp).env.scope.names.lookup x=some .local:=by
   show(relabel scope X.env).names.lookup x=some .local;rw[QP g.kind,Zs,k.loc x hx];rfl
  exact Qbq gb.nd hi (.inl loc) (.inr loc)
 rcases h with⟨rfl,x,p,rfl,rfl⟩|⟨rfl,x,p,y,q,kt,pt,rfl,rfl⟩
 ·exact nm (by simp) (by rw[<-ZY (xs:=[x])];simp)
 ·refine QhI (gb.calm hh) (YD (nm (by simp) (by rw[<-ZY (xs:=[x,y])];simp)) (YD (nm (by simp) ?_) Qd6))
  rw[<-ZY (xs:=[x,y]),Wg (by omega)]
  simp
def CompParts(X:Cx)(elt:Expr)(gens:List Comprehension)(scope:Scope)(t:TE):Prop:=∃tg iter tl xs n wi g tt te,gens=[⟨tg,iter,Option.toList tl,0⟩]/\CompOk X xs scope/\PI X tg iter wi/\xs.length=n/\(∀C s H fp,PG (X.block xs scope C s H fp) tg g)/\(∀C s H fp,PTO (X.block xs scope C s H fp) tl tt)/\(∀C s H fp,PE (X.block xs scope C s H fp) elt te) /\
 (∀v,foldedSetIterable iter X.env v=pure v)/\∀Y H Q,Y.length=X.N.length->t Y H Q->QdD wi n g tt te Y H Q\/∃a kv,H a=some (.dK kv)/\QdD wi n g tt te Y H λv H'=>QdC a H (Q v) H'
def CompParts.pe{elt:Expr}{gens:List Comprehension}{t:TE}(hc:X.calm=true)(h:CompParts X elt gens scope t):PE X (.ListComp elt gens scope pos) t:=by
 obtain⟨tg,iter,tl,xs,n,wi,gg,tt,te,rfl,ok,hi,hn,hg,ht,he,hf,imp⟩:=h;intro pins s Y H Q I q
 rcases imp Y H Q I.len q with q|⟨a,kv,ha,q⟩
 ·exact Qbr hc ok hi hn hg ht he hf pins s Y H Q I q
 ·have h0:∀o' u',X.H₀ a≠some (.frz o' u'):=λo' u' z=>by
   have:=I.base.frzs a o' u' z;rw[ha]at this;cases this
  exact thn (Qbr hc ok hi hn hg ht he hf pins s Y H _ I q) λv s' y=>by obtain⟨x,H',I',rx,o,kv',e,p⟩:=y;exact⟨x,_,I'.thaw e h0,rx,p⟩
end
end
section
variable {ir:E}{e:Expr}{d:Nat}{p:Pos}
section
variable {X:Cx}{T:Tbl}{A:Adr}{C:Ctx}{cf:Cf}{m k:Nat}
def QfP{e:E}{i:Nat}(h:Qif e=some i):e=.var i:=by
 cases e<;>first|(cases h;rfl)|exact nomatch (show none=some _ from h)
def QdL{b:Expr}(h:Qhs b=none):ZV b=true:=by
 cases b with
 |Slice lo hi st p=>
  cases st with
  |none=>cases h
  |some e=>
   simp only[Qhs]at h;split at h<;>cases h
 |_=>rfl
def Qf2{b:Expr}{lo hi:Option Expr}(h:Qhs b=some (.cut lo hi)):∃p,b=.Slice lo hi none p:=by
 cases b with
 |Slice lo' hi' st p=>
  cases st with
  |none=>cases h;exact⟨p,rfl⟩
  |some e=>
   simp only[Qhs]at h;split at h<;>cases h
 |_=>cases h
def Qjx(h:QoG e=true):∃j p q,e=.UnaryOp .USub (.Constant (.int 1) j p) q:=by
 unfold QoG at h;split at h
 ·exact⟨_,_,_,rfl⟩
 ·cases h
def Qf1{b:Expr}(h:Qhs b=some .rev):∃j p1 p3 p,b=.Slice none none (some (.UnaryOp .USub (.Constant (.int 1) j p1) p3)) p:=by
 cases b with
 |Slice lo hi st p=>
  cases st with
  |none=>cases h
  |some e=>
   simp only[Qhs]at h;split at h
   ·rename_i c;simp only[Xj,Option.isNone_iff_eq_none]at c;obtain⟨⟨c1,c2⟩,c3⟩:=c;obtain⟨j,p1,p3,rfl⟩:=Qjx c1;subst c2 c3;exact⟨j,p1,p3,p,rfl⟩
   ·cases h
 |_=>cases h
def Qbg{a b:Expr}(g:GX T A C X)(hu:X.A.units+1<cLine)(S:Snd T A C X cf m)(h:Qg (m+1) C (.Subscript a b p)=some ir):PE X (.Subscript a b p) (TI T A X.K (ev T cf d ir)):=by
 simp only[QrN]at h;split at h
 ·rename_i lo hi hb;obtain⟨p2,rfl⟩:=Qf2 hb;exact QiB S h
 ·rename_i hb;obtain⟨j,p1,p3,p2,rfl⟩:=Qf1 hb;refine QA λd=>?_;simp only[Xb]at h;obtain⟨a',ha,h⟩:=h;cases h;exact Qn1 g.txt (S.e d a a' ha)
 ·cases h
 ·rename_i hb;have hs:=QdL hb;refine QA λd=>?_;simp only[Xb]at h;obtain⟨b',hb',h⟩:=h
  have gen:((Qg m C a).bind λa'=>some (E.ix a' b'))=some ir->PE X (.Subscript a b p) (TI T A X.K (ev T cf (d+1) ir)):=λh=>by
   simp only[Xb]at h;obtain⟨a',ha,h⟩:=h;cases h;exact Qjv hu g.txt (S.e d a a' ha) (S.e d b b' hb') hs
  split at h
  ·rename_i ks vs hh
   exact absurd hh (by cases a<;>simp[QoP])
  ·rename_i x hh;split at h
   ·rename_i k ht;exact nomatch ht
   ·exact gen h
  ·exact gen h
def hd0{C:Ctx}(h:¬hdC C=true):hdC C=false:=by
 cases q:hdC C with
 |true=>exact absurd q h
 |false=>rfl
def Qmh{elt:Expr}{gens:List Comprehension}{scope:Scope}(h:Qg (m+1) C (.ListComp elt gens scope p)=some ir):hdC C=false:=by
 simp only[Qql]at h;split at h
 case h_2=>cases h
 split at h
 case isFalse=>cases h
 rename_i ok;simp only[Xj,Uc]at ok;exact ok.2
def QcL{f:Expr}{args:List Expr}{kws:List Keyword}(g:GX T A C X)(F:Fc X T A cf k)(hr:hdC C=false->Room (k+1) X.A)(hu:X.A.units+64<cLine)(S:Snd T A C X cf m)(h:Qg (m+1) C (.Call f args kws p)=some ir):PE X (.Call f args kws p) (TI T A X.K (ev T cf d ir)):=by
 refine QA λd=>?_
 cases kws with
 |cons kw kws=>cases f<;>exact Znn h
 |nil=>
  cases f with
  |Name x px=>
   simp only[QrM]at h;split at h
   ·cases h
   rename_i hn;have n1:x≠"__debug__":=λz=>hn (.inl z);have n2:x≠"__name__":=λz=>hn (.inr (.inl z))
   have hg:Zr C x=true:=by
    cases q:Zr C x with
    |true=>rfl
    |false=>exact absurd (.inr (.inr q)) hn
   split at h
   ·rename_i i hx;split at h
    ·cases h
    rename_i hh;simp only[Xb]at h;obtain⟨es,ha,h⟩:=h;exact QiD g F ((hr (hd0 hh)).mono (Ut _)) S hg n1 hx ha h
   ·cases h
   ·cases h
   ·cases h
   ·split at h
    ·cases h
    rename_i hx;split at h
    ·rename_i e;subst e;split at h
     ·rename_i a t pt;split at h
      ·rename_i c;simp only[Xb]at h;obtain⟨a',ha,ty,ht,h⟩:=h;cases h;exact Qn3 g S hg hx c.1 c.2.1 c.2.2 ht ha
      ·cases h
     ·simp only[Xb]at h;obtain⟨a',ha,i,hi,cs,hc,h⟩:=h;rw[Wu]at h;obtain⟨hz,h⟩:=h;cases h;cases QfP hi;exact Qln g S hg hx hc hz ha
     ·cases h
    ·split at h
     ·cases h
     rename_i hh;have hh:=hd0 hh;split at h
     ·rename_i ra hra;simp only[Xb]at h;obtain⟨es,ha,h⟩:=h;cases h;exact nomatch hra
     ·split at h
      ·rename_i a hra;simp only[Xb]at h;obtain⟨a',ha,h⟩:=h;cases h;exact Qll g hh hg hx hra (S.e d a a' ha) (QC ha)
      ·simp only[Xb]at h;obtain⟨b,hb,es,ha,h⟩:=h;cases h
       exact QqO g hh (by omega) S hg n1 n2 hb ha
  |Attribute o x pa=>
   simp only[QrL]at h;split at h
   case isFalse=>cases h
   rename_i c;simp only[Xj,Xq]at c;split at h
   ·cases h
   ·simp only[Xb]at h;obtain⟨b,hb,o',ho,es,ha,h⟩:=h;cases h
    exact QqN (by omega) g.txt S hb c.1.1 c.1.2 c.2 ho ha
  |_=>exact Znn h
def QgU{u:U}(h:Qfb e=some u):∃v k,RK u k/\v=kV k/\PE X e (tC v):=by
 unfold Qfb at h;split at h
 ·cases h;exact⟨_,Sum.inl _,⟨rfl,rfl⟩,rfl,Qd7⟩
 ·cases h;exact⟨_,Sum.inr _,rfl,rfl,QhK⟩
 ·cases h
theorem QdO{d:Nat}{pos:Pos}(S:Snd T A C X cf m):∀{ks:List (Option Expr)} {vs:List Expr} {kk:List U} {es:List E},J1 ks=some kk->QhQ (Qg m C) vs=some es->kk.length=vs.length->∃trs keys,RKs kk keys/\PPs X pos ks vs trs /\
  ∀{α:List Addr} {Z:Rho} {Y:St} {hs h1:Hs} {H:Hp} {us:List U} {Q:List (V×V)->Hp->Prop},RS A α Z Y->Rep T A X.K α hs H->evs (ev T cf d) Z es hs=some (us,h1)->(∀α1 zs H1,Ext α α1 H H1->Rep T A X.K α1 h1 H1->RUs A α1 us zs->Q ((keys.map kV).zip zs) H1)->QbX trs Y H Q
 |[],[],kk,es,h1,h2,hl=>by
  cases h1;cases h2;refine⟨[],[],.nil,QiY,λrs R e q=>?_⟩;simp only[evs]at e;cases e;exact q _ [] _ Ext.refl R .nil
 |[],_::_,kk,es,h1,h2,hl=>by cases h1;cases hl
 |none::_,_,kk,es,h1,h2,hl=>by cases h1
 |some k::ks,[],kk,es,h1,h2,hl=>by
  simp only[J1,Xb]at h1;obtain⟨k',_,r,_,h1⟩:=h1;cases h1;cases hl
 |some k::ks,v::vs,kk,es,h1,h2,hl=>by
  simp only[J1,Xb]at h1;obtain⟨k',hk,r,hr,h1⟩:=h1;cases h1;simp only[QhQ,Xb]at h2;obtain⟨e',he,es',hes,h2⟩:=h2;cases h2
  obtain⟨trs,keys,rk,pp,rd⟩:=QdO (d:=d) (pos:=pos) S hr hes (by simpa using hl)
  obtain⟨kv,key,rk0,rfl,pk⟩:=QgU (X:=X) hk;refine⟨(tC (kV key),TI T A X.K (ev T cf d e'))::trs,key::keys,.cons rk0 rk,Qgg pk (S.e d v e' he) pp,λ{α Z Y hs h1 H us Q} rs R e q=>?_⟩;simp only[evs]at e;obtain⟨u,h2,e1,e⟩:=Qe e;obtain⟨us',h3,e2,e⟩:=Qe e;cases e;exact TI.run rs R e1 λα1 y H1 E1 R1 r1 rs1=>rd rs1 R1 e2 λα2 zs H2 E2 R2 r2=>q α2 (y::zs) H2 (E1.trans E2 R2.h) R2 (.cons (r1.mono E2.pre) r2)
theorem Qhg:∀{keys:List Key} {zs:List V},keys.length=zs.length->(keys.map kV).zip zs=(keys.zip zs).map λkv=>(kV kv.1,kv.2)
 |[],[],_=>rfl
 |k::ks,z::zs,h=>by simp only[Xo,Vu,Qhg (keys:=ks) (zs:=zs) (by simpa using h)]
 |[],_::_,h=>by cases h
 |_::_,[],h=>by cases h
theorem RKs.zip{α:List Addr}{kk us:List U}{keys:List Key}{zs:List V}(h:RKs kk keys)(h':RUs A α us zs):RD A α (kk.zip us) (keys.zip zs):=by
 induction h generalizing us zs with
 |nil=>exact .nil
 |cons a _ ih=>
  cases h' with
  |nil=>exact .nil
  |cons b r=>exact .cons ⟨a,b⟩ (ih r)
theorem Qcf{α β:Type}{f:α->Option β}:∀{xs:List α} {ys:List β},QhQ f xs=some ys->ys.length=xs.length
 |[],ys,h=>by cases h;rfl
 |x::r,ys,h=>by
  simp only[QhQ,Xb]at h;obtain⟨b,_,bs,h2,h⟩:=h;cases h;rw[Wa,Wa,Qcf h2]
theorem QaS:∀{ks:List (Option Expr)} {kk:List U},J1 ks=some kk->ks.all (·.isSome)=true/\kk.length=ks.length
 |[],kk,h=>by cases h;exact⟨rfl,rfl⟩
 |none::_,kk,h=>by cases h
 |some k::ks,kk,h=>by
  simp only[J1,Xb]at h;obtain⟨k',_,r,hr,h⟩:=h;cases h;have ih:=QaS hr
  exact⟨by simpa using ih.1,by simp[ih.2]⟩
def Qn4{ks:List (Option Expr)}{vs:List Expr}(S:Snd T A C X cf m)(h:((J1 ks).bind λkk=>if kk.length=vs.length/\kk.length<=15/\kk≠[]then(QhQ (Qg m C) vs).bind λes=>some (E.dsp kk es)else none)=some ir):PE X (.Dict ks vs p) (TI T A X.K (ev T cf d ir)):=by
 simp only[Xb]at h;obtain⟨kk,hk,h⟩:=h;split at h
 case isFalse=>cases h
 rename_i c;simp only[Xb]at h;obtain⟨es,hes,h⟩:=h;cases h;obtain⟨c1,c2,c3⟩:=c;obtain⟨al,kl⟩:=QaS hk;refine QA λd=>?_;obtain⟨trs,keys,rk,pp,rd⟩:=QdO (d:=d) (pos:=p) S hk hes c1
 refine Q0 (Qi7 pp al (by omega) (λz=>by subst z;exact c3 (Tj.mp (by simpa using kl))) (by omega)) ?_
 rintro Y H Q ⟨α,Z,hs,u,hs',rs,R,e,q⟩;simp only[ev]at e;obtain⟨us,h1,e1,e⟩:=Qe e;split at e
 case h_2=>cases e
 rename_i e2;cases e;intro b hb;obtain⟨R',E'⟩:=R.new (o:=.dic []) (ho:=.dK []) hb ⟨[],Qh,.nil⟩;have l0:=R.h.len;refine rd (rs.mono E'.pre) R' e1 λα1 zs H1 E1 R1 r1=>?_
 have ub:α1[hs.length]?=some b:=E1.pre _ _ (by rw[<-l0];exact QD)
 obtain⟨kv,ekv,rkv⟩:=R1.h.ob hs.length b _ ub e2;cases rkv
 have zl:keys.length=zs.length:=by rw[<-Wq rk,<-r1.length,YZ e1,Qcf hes,c1]
 refine⟨ekv,keys.zip zs,Qhg zl,?_,?_⟩
 ·rw[List.length_zip,<-Wq rk];omega
 obtain⟨R2,E2⟩:=R1.put (o:=.dic (Jk [] (kk.zip us))) (ho:=.dK (ZW [] (keys.zip zs))) ub ⟨_,Qh,RG.merge Jt (RKs.zip rk r1) .nil⟩;exact q α1 (.ref b) _ ((E'.trans E1 R1.h).trans E2 R2.h) R2 ⟨b,ub,rfl⟩
def QdP(g:GX T A C X)(F:Fc X T A cf k)(hr:hdC C=false->Room (k+1) X.A)(hu:X.A.units+64<cLine)(S:Snd T A C X cf m)(cp:∀d elt gens scope p ir,Qg (m+1) C (.ListComp elt gens scope p)=some ir->CompParts X elt gens scope (TI T A X.K (ev T cf d ir)))(d:Nat)(e:Expr)(ir:E)(h:Qg (m+1) C e=some ir):PE X e (TI T A X.K (ev T cf d ir)):=by
 cases e with
 |Constant c j p=>exact QiC h
 |Name x p=>exact Qlk g h
 |BinOp a o b p=>exact Qn6 S h
 |UnaryOp o a p=>
  cases o with
  |USub=>exact Qn2 S h
  |Not=>exact(Qlj g.txt S h).1
  |_=>exact Znn h
 |BoolOp o vs p=>
  cases vs with
  |nil=>cases o<;>first|exact Znn h|simp[Qg]at h
  |cons a r=>
   cases o with
   |And=>exact(S.an d a r p ir h).2
   |Or=>exact(S.orr d a r p ir h).2
 |Compare a os bs p=>
  match os,bs,h with
  |[o],[b],h=>exact(Qlo g.txt g.tab hu S h).1
  |[_,_],[_,_],h=>exact Znn h
  |[],_,h=>exact Znn h
  |[_],[],h=>exact Znn h
  |[_],_::_::_,h=>exact Znn h
  |[_,_],[],h=>exact Znn h
  |[_,_],[_],h=>exact Znn h
  |[_,_],_::_::_::_,h=>exact Znn h
  |_::_::_::_,_,h=>exact Znn h
 |IfExp t a b p=>exact Znn h
 |Tuple es j p=>exact Qiz S h
 |List es p=>exact Qlm S h
 |Subscript a b p=>exact Qbg g (by omega) S h
 |ListComp elt gens scope p=>exact(cp d elt gens scope p ir h).pe (g.calm (Qmh h))
 |Dict ks vs p=>
  cases ks with
  |cons k0 ks=>exact Qn4 S (by simpa only[QrJ]using h)
  |nil=>
   cases vs with
   |cons v0 vs=>exact Znn h
   |nil=>
    simp only[QrK]at h;cases h;refine QA λd=>Q0 Qgj ?_;rintro Y H Q ⟨α,Z,hs,u,hs',rs,R,e,q⟩;simp only[ev]at e;cases e;intro p hp;obtain⟨R',E'⟩:=R.new (o:=.dic []) hp ⟨[],Qh,.nil⟩
    exact q _ _ _ E' R' ⟨p,by rw[<-R.h.len];exact QD,rfl⟩
 |Call f args kws p=>exact QcL g F hr hu S h
 |_=>exact Znn h
def QQ(g:GX T A C X)(he:∀whole,isTrue e X.env whole=(do let v <-whole;standAt e.pos;holding [v] (truthy v)))(h:∀d,PE X e (TI T A X.K (ev T cf d ir)))(hir:∀d Z hs,evT T cf (d+1) ir Z hs=bd (ev T cf d ir Z hs) λu h1=>(YB T u h1).map λb=>(b,h1)):
  PT X e (TIT T A X.K (evT T cf d ir)):=by
 refine Qb5 λd=>?_;refine Qkl (Qgb (h d) he) ?_;rintro Y H Q ⟨α,Z,hs,u,hs',rs,R,e,q⟩;rw[hir]at e;obtain⟨u1,h1,e1,e⟩:=Qe e;simp only[Xd]at e;obtain⟨b,e2,e⟩:=e;cases e;exact TI.run rs R e1 λα1 x H1 E1 R1 r1 rs1=>⟨_,Qdz g.txt R1 e2 r1,q α1 H1 E1 R1⟩
def QE(h:QhH ir=true):∀d Z hs,evT T cf (d+1) ir Z hs=bd (ev T cf d ir Z hs) λu h1=>(YB T u h1).map λb=>(b,h1):=by
 intro d Z hs
 cases ir<;>first|rfl|cases h
def Qla(g:GX T A C X)(F:Fc X T A cf k)(hr:hdC C=false->Room (k+1) X.A)(hu:X.A.units+64<cLine)(S:Snd T A C X cf m)(cp:∀d elt gens scope p ir,Qg (m+1) C (.ListComp elt gens scope p)=some ir->CompParts X elt gens scope (TI T A X.K (ev T cf d ir)))(d:Nat)(e:Expr)(ir:E)(hne:∀t a b p,e≠.IfExp t a b p)(ok:okT e ir=true)(h:Qg (m+1) C e=some ir):PT X e (TIT T A X.K (evT T cf d ir)):=by
 have all:=λd=>QdP g F hr hu S cp d e ir h
 cases e with
 |Constant c j p=>exact QQ g (λz=>rfl) all (QE ok)
 |Name x p=>exact QQ g (λz=>rfl) all (QE ok)
 |BinOp a o b p=>exact QQ g (λz=>rfl) all (QE ok)
 |UnaryOp o a p=>
  cases o with
  |USub=>exact QQ g (λz=>rfl) all (QE ok)
  |Not=>exact(Qlj g.txt S h).2
  |_=>exact Znn h
 |BoolOp o vs p=>
  cases vs with
  |nil=>cases o<;>first|exact Znn h|simp[Qg]at h
  |cons a r=>
   cases o with
   |And=>exact(S.an d a r p ir h).1.pt
   |Or=>exact(S.orr d a r p ir h).1.pt
 |Compare a os bs p=>
  match os,bs,h with
  |[o],[b],h=>exact(Qlo g.txt g.tab hu S h).2
  |[_,_],[_,_],h=>exact Znn h
  |[],_,h=>exact Znn h
  |[_],[],h=>exact Znn h
  |[_],_::_::_,h=>exact Znn h
  |[_,_],[],h=>exact Znn h
  |[_,_],[_],h=>exact Znn h
  |[_,_],_::_::_::_,h=>exact Znn h
  |_::_::_::_,_,h=>exact Znn h
 |IfExp t a b p=>exact absurd rfl (hne t a b p)
 |Tuple es j p=>exact QQ g (λz=>rfl) all (QE ok)
 |List es p=>exact QQ g (λz=>rfl) all (QE ok)
 |Subscript a b p=>exact QQ g (λz=>rfl) all (QE ok)
 |ListComp elt gens scope p=>exact QQ g (λz=>rfl) all (QE ok)
 |Dict ks vs p=>exact QQ g (λz=>rfl) all (QE ok)
 |Attribute a f p=>exact QQ g (λz=>rfl) all (QE ok)
 |Call f args kws p=>exact QQ g (λz=>rfl) all (QE ok)
 |_=>exact Znn h
def QqI:Snd T A C X cf 0 where
 e:=λd e ir h=>by first|exact Znn h|simp[Qg]at h
 t:=λd e ir h=>by simp[compT]at h
 an:=λd a r p ir h=>by simp[compAnd]at h
 orr:=λd a r p ir h=>by simp[compOr]at h
 a:=λd es irs h=>by simp[compA]at h
 o:=λd e ir h=>by simp[compO]at h
structure Snd2(T:Tbl)(A:Adr)(C:Ctx)(X:Cx)(cf:Cf)(m:Nat):Prop where
 s:Snd T A C X cf m
 w:∀d it src tg,compSrc m C it=some src->(Qni src=true->∃elts kt pt,tg=.Tuple elts kt pt)->PI X tg it (TIW T A X.K (λZ hs=>Za T (ev T cf d) Z src hs))
 c:∀d elt gens scope p ir,Qg m C (.ListComp elt gens scope p)=some ir->CompParts X elt gens scope (TI T A X.K (ev T cf d ir))
def QlA{tl:Option Expr}{t:Option E}{Yyy:Cx}{C':Ctx}(S:Snd T A C' Yyy cf m)(h:compTO (m+1) C' tl=some t):PTO Yyy tl (TIT T A Yyy.K (Z4 (evT T cf d) t)):=by
 cases tl with
 |none=>
  simp only[compTO]at h;cases h;rintro Y H Q ⟨α,Z,hs,u,hs',rs,R,e,q⟩;simp only[Z4]at e;cases e;exact q α H Ext.refl R
 |some e=>
  simp only[compTO,Xb]at h;obtain⟨e',he,h⟩:=h;cases h;exact(S.t d e e' he).1
def QdA{tg:Expr}{b:Bool}{xs:List Str}{src:Src}(ht:Qnr tg b xs)(ok:Qbs src (tgN b 0)=true):Qni src=true->∃elts kt pt,tg=.Tuple elts kt pt:=by
 intro hp
 rcases ht with⟨rfl,_⟩|⟨rfl,x,p,y,q,k,pt,rfl,_⟩
 ·cases src<;>first|(cases hp;done)|(cases ok;done)
 ·exact⟨_,_,_,rfl⟩
def Jv(g:GX T A C X)(S:Snd2 T A C X cf m)(SB:∀xs scope C0 s H fp,Jx C xs scope=true->Snd2 T A (C.inner xs scope) (X.block xs scope C0 s H fp) cf m)(ST:∀xs scope C0 s H fp tl t d,Jx C xs scope=true->compTO m (C.inner xs scope) tl=some t->PTO (X.block xs scope C0 s H fp) tl (TIT T A X.K (Z4 (evT T cf d) t)))(d:Nat)(elt:Expr)(gens:List Comprehension)(scope:Scope)(p:Pos)(ir:E)
  (h:Qg (m+1) C (.ListComp elt gens scope p)=some ir):CompParts X elt gens scope (TI T A X.K (ev T cf d ir)):=by
 simp only[Qql]at h;split at h
 case h_2=>cases h
 rename_i gn hgen;split at h
 case isFalse=>cases h
 rename_i ok;simp only[Xj,Uc]at ok;obtain⟨ok,hh⟩:=ok;simp only[Xb]at h;obtain⟨src,hsrc,h⟩:=h;split at h
 case isFalse=>cases h
 rename_i oks;simp only[Xb]at h;obtain⟨t,ht,el,hel,h⟩:=h;cases h;obtain⟨tg,rfl,htg⟩:=QcW hgen;obtain⟨ck,gb⟩:=Z6 g ok
 have hn:gn.xs.length=nN gn.b:=by
  rcases htg with⟨e,x,p,_,e'⟩|⟨e,x,p,y,q,k,pt,_,e'⟩<;>rw[e,e']<;>rfl
 cases d with
 |zero=>
  exact⟨tg,gn.iter,gn.tl,gn.xs,nN gn.b,_,_,TIT T A X.K (Z4 (evT T cf 0) t),TI T A X.K (ev T cf 0 el),rfl,ck,S.w 0 gn.iter src tg hsrc (QdA htg oks),hn,(λC0 s H fp=>Qb8 g hh ck (gb C0 s H fp) htg),(λC0 s H fp=>ST _ _ C0 s H fp _ _ 0 ok ht),(λC0 s H fp=>show PE _ elt (TI T A X.K (ev T cf 0 el))from(SB _ scope C0 s H fp ok).s.e 0 elt el hel),QaC hsrc,λY H Q z v=>by obtain⟨_,_,_,_,_,_,_,e,_⟩:=v;exact nomatch e⟩
 |succ d=>
  exact⟨tg,gn.iter,gn.tl,gn.xs,nN gn.b,_,_,TIT T A X.K (Z4 (evT T cf d) t),TI T A X.K (ev T cf d el),rfl,ck,S.w d gn.iter src tg hsrc (QdA htg oks),hn,(λC0 s H fp=>Qb8 g hh ck (gb C0 s H fp) htg),(λC0 s H fp=>ST _ _ C0 s H fp _ _ d ok ht),(λC0 s H fp=>show PE _ elt (TI T A X.K (ev T cf d el))from(SB _ scope C0 s H fp ok).s.e d elt el hel),QaC hsrc,λY H Q hl hq=>.inl (Qfe g.txt hl hq)⟩
theorem Qf0:∀(m:Nat) {C:Ctx} {X:Cx},GX T A C X->Fc X T A cf k->(hdC C=false->Room (k+1) X.A)->X.A.units+64<cLine->Snd2 T A C X cf m
 |0,C,X,g,F,hr,hu=>⟨QqI,λd it src tg h=>by simp[compSrc]at h,λd elt gens scope p ir h=>by first|exact Znn h|simp[Qg]at h⟩
 |1,C,X,g,F,hr,hu=>by
  have S0:=Qf0 0 g F hr hu;have S:=S0.s
  have cp:=Jv g S0 (λx scope C0 s H fp ok=>Qf0 0 ((Z6 g ok).2 C0 s H fp) ⟨F.ok,F.some,F.df,F.xf⟩ hr hu) (λxs scope C0 s H fp tl t d ok h=>by simp[compTO]at h)
  refine⟨⟨QdP g F hr hu S cp,λd e ir h=>?_,Qlp S,QpX S,Qhu S,Qli S⟩,λd it src tg h hz=>Qlc g S h hz,cp⟩;cases e<;>exact Znn h
 |m+2,C,X,g,F,hr,hu=>by
  have S1:=Qf0 (m+1) g F hr hu;have S:=S1.s;have S':=Qf0 m g F hr hu;have cp:=Jv g S1 (λx scope C0 s H fp ok=>Qf0 (m+1) ((Z6 g ok).2 C0 s H fp) ⟨F.ok,F.some,F.df,F.xf⟩ hr hu) (λxs scope C0 s H fp tl t d ok h=>QlA (Qf0 m ((Z6 g ok).2 C0 s H fp) ⟨F.ok,F.some,F.df,F.xf⟩ hr hu).s h);refine⟨⟨QdP g F hr hu S cp,λd e ir h=>?_,Qlp S,QpX S,Qhu S,Qli S⟩,λd it src tg h hz=>Qlc g S h hz,cp⟩
  have hne:∀t a b p,e≠.IfExp t a b p:=by
   rintro t a b p rfl;simp[compT]at h
  have h':((Qg (m+1) C e).bind λir=>if okT e ir=true then some ir else none)=some ir:=by
   cases e<;>first|exact h|(simp[compT]at h;done)
  simp only[Xb]at h';obtain⟨ir',he,h'⟩:=h';split at h'
  ·rename_i ok;cases h';exact⟨Qla g F hr hu S'.s S1.c d e ir hne ok he,S.e d e ir he⟩
  ·cases h'
end
end
section
variable {env:Env}{e i o:Expr}{fl:Fl}{α:List Addr}{ts:List Expr}{d:Nat}{ρ':Rho}{st:Stmt}{x:Str}
section
variable {X:Cx}{T:Tbl}{A:Adr}{C:Ctx}{cf:Cf}{m k:Nat}
def ZL{t:TS}(h:∀D Y H,¬t D Y H):PS X st t:=λz z Y H D z q=>(h D Y H q).elim
def Z9{st:List Stmt}{t:TS}(h:∀D Y H,¬t D Y H):PSs X st t:=λz z Y H D z q=>(h D Y H q).elim
def Qcb{ir:E}{tg:Option Expr}{l:Nat}(h:Qg m C e=some ir)(hn:∀elt gens scope p,e≠.ListComp elt gens scope p):swapsWith e tg l env=pure false:=by
 cases e<;>first|rfl|exact absurd rfl (hn _ _ _ _)|(cases m<;>exact Znn h)
def Qn0{tg:Expr}{t:Tg}(hc:X.calm=true)(g:GX T A C X)(fl:∀x,X.fn x=true\/X.env.scope.names.lookup x=some .local)(h:Yt C tg=some t):PG X tg (gT X.K t):=by
 have nm:∀{x:Str} {p:Pos} {i:Nat},QaL C x=true->idx x C.N=some i->PG X (.Name x p) (QbB i):=λ{x p i} h1 h2=>Qbq g.nd (by rw[g.N];exact Zg h2) (Jm g h1) (fl x)
 unfold Yt at h;split at h
 ·split at h
  ·rename_i hl;simp only[Xd]at h;obtain⟨i,hi,rfl⟩:=h;exact nm hl hi
  ·cases h
 ·split at h
  ·rename_i c;simp only[Xj]at c;simp only[Xb,Xd]at h;obtain⟨i,hi,j,hj,rfl⟩:=h;exact QhI hc (YD (nm c.1.1 hi) (YD (nm c.1.2 hj) Qd6))
  ·cases h
 ·cases h
def Qde{pos:Pos}(h:ZV i=true):∀v,assign (.Subscript o i pos) env v=(do
   let ov <-holding [v] (eval o env);let iv <-holding [v,ov] (eval i env)
   standAt pos
   holding [v,ov,iv] (setItem ov iv v)
   release [v,ov,iv] []):=by
 intro v
 cases i<;>first|rfl|cases h
def Qjl{p:Pos}{ir:E}{l:Nat}(h:Qg m C e=some ir):swapsWithSole [.Subscript o i p] e l env=pure false:=by
 cases e<;>first|rfl|(cases m<;>exact Znn h)
def QgO(h:QoU e=some true):∃x j q,e=.Constant (.str x) j q:=by
 cases e with
 |Constant c j q=>cases c<;>first|exact⟨_,_,_,rfl⟩|cases h
 |_=>cases h
def QcA{a:As}(h:Qkb ts=some a):∃t,ts=[t]/\as1 t=some a:=by
 match ts,h with
 |[t],h=>exact⟨t,rfl,h⟩
def QbP(h:Qkb ts=some (.nm x)):∃p,ts=[.Name x p]:=by
 obtain⟨t,rfl,h'⟩:=QcA h;clear h;have h:=h';clear h';unfold as1 at h;split at h
 ·cases h;exact⟨_,rfl⟩
 ·cases h
 ·cases h
 ·split at h
  ·unfold Qij at h;split at h<;>cases h
  all_goals cases h
 ·cases h
def Qha(h:Qkb ts=some (.sub o i)):∃p,ts=[.Subscript o i p]:=by
 obtain⟨t,rfl,h'⟩:=QcA h;clear h;have h:=h';clear h';unfold as1 at h;split at h
 ·cases h
 ·cases h
 ·cases h;exact⟨_,rfl⟩
 ·split at h
  ·unfold Qij at h;split at h<;>cases h
  all_goals cases h
 ·cases h
def QaK(h:Jr C x=true):C.names.lookup x=some .local:=by
 unfold Jr at h;split at h
 ·rename_i e;exact e
 ·cases h
def Qhp{tg:Expr}{t:Tg}{src:Src}(ht:Yt C tg=some t)(ok:Qbs src t=true):Qni src=true->∃elts kt pt,tg=.Tuple elts kt pt:=by
 intro hp
 cases tg with
 |Tuple elts kt pt=>exact⟨_,_,_,rfl⟩
 |Name x p=>
  simp only[Yt]at ht;split at ht
  ·simp only[Xd]at ht;obtain⟨i,_,rfl⟩:=ht
   cases src<;>first|(cases hp;done)|(cases ok;done)
  ·cases ht
 |_=>simp[Yt]at ht
structure SndS(T:Tbl)(A:Adr)(C:Ctx)(X:Cx)(cf:Cf)(m:Nat):Prop where
 s:∀d st ir,QR m C st=some ir->PS X st (TIS T A X.K (ex T cf d ir))
 ss:∀d sts irs,compSs m C sts=some irs->PSs X sts (TIS T A X.K (exs T cf d irs))
def Qot{K:W.Frag}{ir:S}:∀D Y H,¬TIS T A K (ex T cf 0 ir) D Y H:=λz z z y=>by obtain⟨_,_,_,_,_,_,_,_,h,_⟩:=y;exact nomatch h
def QhP{K:W.Frag}{irs:List S}:∀D Y H,¬TIS T A K (exs T cf 0 irs) D Y H:=λz z z y=>by obtain⟨_,_,_,_,_,_,_,_,h,_⟩:=y;exact nomatch h
def Qb6{ir:S}(h:∀d',PS X st (TIS T A X.K (ex T cf (d'+1) ir))):PS X st (TIS T A X.K (ex T cf d ir)):=by
 cases d with
 |zero=>exact ZL Qot
 |succ d=>exact h d
def TIS.run{K:W.Frag}{Z:Rho}{Y:St}{hs h1:Hs}{H:Hp}{f:Ex}{D:Ends}(rs:RS A α Z Y)(rp:Rep T A K α hs H)(h:f Z hs=some (fl,ρ',h1))
  (k:∀α1 σ1 H1,Ext α α1 H H1->Rep T A K α1 h1 H1->RS A α1 ρ' σ1->flE A α1 D σ1 H1 fl):TIS T A K f D Y H:=⟨α,Z,hs,fl,ρ',h1,rs,rp,h,k⟩
def QgL{body:List S}{w:Wk}{t:Tg}{J:It}{K:PySem.W.Frag}{D:Ends}{α0:List Addr}{H0:Hp}{σ0:St}{ρ0:Rho}{h0 hs':Hs}{n:Nat}(hK:K=X.K)(tx:Txt T A X.K X.mg)(rs0:RS A α0 ρ0 σ0)(R0:Rep T A X.K α0 h0 H0)(W0:WJ A X.K α0 J H0 w)
  (e0:ZN T w t (exs T cf d body) n 0 ρ0 h0=some (fl,ρ',hs'))
  (q:∀α' Y' H',Ext α0 α' H0 H'->Rep T A X.K α' hs' H'->RS A α' ρ' Y'->flE A α' D Y' H' fl):
  ∃W:Nat->Nat->St->Hp->Prop,(∃m,W 0 m σ0 H0)/\∀i m Y H,W i m Y H->(J.stop i H/\D.nx Y H)\/(J.go i H/\∃N:St->Hp->Prop,(∀Y' H',N Y' H'->∃m',m'<m/\W (i+1) m' Y' H') /\
   ∀x H',J.yld i H x H'->gT X.K t x Y H' λσ2 H2=>TIS T A X.K (exs T cf d body) {D with nx:=N,ct:=N,bk:=D.nx} σ2 H2):=by
 refine⟨λi m Y H=>∃α Z hs,RS A α Z Y/\Rep T A X.K α hs H/\Ext α0 α H0 H/\ZN T w t (exs T cf d body) m i Z hs=some (fl,ρ',hs'),⟨n,α0,ρ0,h0,rs0,R0,Ext.refl,e0⟩,?_⟩;rintro i m Y H ⟨α,Z,hs,rs,R,E,e⟩
 cases m with
 |zero=>cases e
 |succ m=>
  have W:=W0.mono E.pre E.fz;simp only[ZN]at e;split at e
  ·cases e
  ·rename_i ei;cases e;exact .inl ⟨Qcn tx R W ei,q α Y H E R rs⟩
  ·rename_i x ei;split at e
   ·cases e
   ·rename_i ρ1 et;obtain⟨go,yl⟩:=Qco tx R W rs ei et;refine .inr ⟨go,λY' H'=>∃α Z hs,RS A α Z Y'/\Rep T A X.K α hs H'/\Ext α0 α H0 H'/\ZN T w t (exs T cf d body) m (i+1) Z hs=some (fl,ρ',hs'),λY' H' z=>⟨m,Ul _,z⟩,?_⟩;intro v H' hy;refine yl v H' _ hy λσ2 rs2 R2 E2=>?_;have E02:Ext α0 α H0 H':=E.trans E2 R2.h;split at e
    ·rename_i ρ2 h2 eb;exact TIS.run rs2 R2 eb λα3 σ3 H3 E3 R3 rs3=>⟨α3,ρ2,h2,rs3,R3,E02.trans E3 R3.h,e⟩
    ·rename_i ρ2 h2 eb;exact TIS.run rs2 R2 eb λα3 σ3 H3 E3 R3 rs3=>⟨α3,ρ2,h2,rs3,R3,E02.trans E3 R3.h,e⟩
    ·rename_i ρ2 h2 eb;cases e;exact TIS.run rs2 R2 eb λα3 σ3 H3 E3 R3 rs3=>q α3 σ3 H3 (E02.trans E3 R3.h) R3 rs3
    ·rename_i n1 n2 n3
     cases fl with
     |next=>exact absurd e (n1 _ _)
     |cont=>exact absurd e (n2 _ _)
     |brk=>exact absurd e (n3 _ _)
     |ret u=>exact TIS.run rs2 R2 e λα3 σ3 H3 E3 R3 rs3=>q α3 σ3 H3 (E02.trans E3 R3.h) R3 rs3
def Qn9{kvs:List (U×U)}{kv:List (Key×V)}{i:Nat}{p:U×U}{q:Key×V}(h:RD A α kvs kv)(h1:kvs[i]?=some p)(h2:kv[i]?=some q):RK p.1 q.1:=by
 obtain⟨q',e,r⟩:=Jh h h1;rw[h2]at e;cases e;exact r.1
def QeN{body:List S}{i0:Nat}{a:Addr}{ob:Obj}{kv:List (Key×V)}{kvs:List (U×U)}{D:Ends}{α0:List Addr}{H0:Hp}{σ0:St}{ρ0:Rho}{h0 hs':Hs}(rs0:RS A α0 ρ0 σ0)(R0:Rep T A X.K α0 h0 H0)
  (hz:H0 a=some (.frz ob (.dK kv))) (rd:RD A α0 kvs kv)
  (e0:QeO i0 (exs T cf d body) (kvs.map (·.1)) ρ0 h0=some (fl,ρ',hs'))
  (q:∀α' Y' H',Ext α0 α' H0 H'->Rep T A X.K α' hs' H'->RS A α' ρ' Y'->flE A α' D Y' H' fl):
  ∃W:Nat->Nat->St->Hp->Prop,(∃m,W 0 m σ0 H0)/\∀i m Y H,W i m Y H->((Itk a ob kv).stop i H/\D.nx Y H)\/((Itk a ob kv).go i H/\∃N:St->Hp->Prop,(∀Y' H',N Y' H'->∃m',m'<m/\W (i+1) m' Y' H') /\
   ∀x H',(Itk a ob kv).yld i H x H'->gT X.K (.name i0) x Y H' λσ2 H2=>TIS T A X.K (exs T cf d body) {D with nx:=N,ct:=N,bk:=D.nx} σ2 H2):=by
 have hl:=Wq rd;refine⟨λi m Y H=>∃α Z hs,RS A α Z Y/\Rep T A X.K α hs H/\Ext α0 α H0 H/\m+i=kvs.length/\QeO i0 (exs T cf d body) ((kvs.drop i).map (·.1)) Z hs=some (fl,ρ',hs'),⟨kvs.length,α0,ρ0,h0,rs0,R0,Ext.refl,rfl,e0⟩,?_⟩;rintro i m Y H ⟨α,Z,hs,rs,R,E,hm,e⟩;have hzi:=E.fz a ob (.dK kv) hz
 cases m with
 |zero=>
  rw[List.drop_of_length_le (by omega)]at e
  simp only[Ui,QeO]at e;cases e
  exact .inl ⟨⟨hzi,by omega⟩,q α Y H E R rs⟩
 |succ m=>
  have hi:i<kvs.length:=by omega
  rw[Ug hi,Xo]at e;simp only[QeO]at e
  refine .inr ⟨⟨hzi,by omega⟩,λY' H'=>∃α Z hs,RS A α Z Y'/\Rep T A X.K α hs H'/\Ext α0 α H0 H'/\m+(i+1)=kvs.length/\QeO i0 (exs T cf d body) ((kvs.drop (i+1)).map (·.1)) Z hs=some (fl,ρ',hs'),λY' H' z=>⟨m,Ul _,z⟩,?_⟩
  rintro x H' ⟨rfl,p,hp,rfl⟩;have rk:RK kvs[i].1 p.1:=Qn9 rd (Xe hi) hp;have rs2:=rs.set i0 (Qlr (A:=A) (α:=α) rk);show TIS T A X.K (exs T cf d body) _ _ _;split at e
  ·rename_i ρ2 h2 eb
   exact TIS.run rs2 R eb λα3 σ3 H3 E3 R3 rs3=>⟨α3,ρ2,h2,rs3,R3,E.trans E3 R3.h,by omega,e⟩
  ·rename_i ρ2 h2 eb
   exact TIS.run rs2 R eb λα3 σ3 H3 E3 R3 rs3=>⟨α3,ρ2,h2,rs3,R3,E.trans E3 R3.h,by omega,e⟩
  ·rename_i ρ2 h2 eb;cases e;exact TIS.run rs2 R eb λα3 σ3 H3 E3 R3 rs3=>q α3 σ3 H3 (E.trans E3 R3.h) R3 rs3
  ·rename_i n1 n2 n3
   cases fl with
   |next=>exact absurd e (n1 _ _)
   |cont=>exact absurd e (n2 _ _)
   |brk=>exact absurd e (n3 _ _)
   |ret u=>exact TIS.run rs2 R e λα3 σ3 H3 E3 R3 rs3=>q α3 σ3 H3 (E.trans E3 R3.h) R3 rs3
def QeD(h:QeE e=true):∃p,e=.Dict [] [] p:=by
 unfold QeE at h;split at h
 ·exact⟨_,rfl⟩
 ·cases h
def QfR{b:List Stmt}{hs:List ExceptHandler}{o fn:List Stmt}{t:Tr}(h:QfS C b hs o fn=some t):∃f pf a args q1 q2 x px n b0 body ph,b=[.Expr (.Call (.Name f pf) (a::args) [] q1) q2] /\
  hs=[.ExceptHandler (some (.Name x px)) n (b0::body) ph]/\o=[]/\fn=[]/\QfU C n=some t.j/\QfW C x=some t.c/\Qdy C f=some t.f/\t.args=a::args/\t.body=b0::body:=by
 unfold QfS at h;split at h
 ·simp only[Xb]at h;obtain⟨p,hp,c,hc,k,hk,h⟩:=h;cases h;exact⟨_,_,_,_,_,_,_,_,_,_,_,_,rfl,rfl,rfl,rfl,hp,hc,hk,rfl,rfl⟩
 ·cases h
def QfT{n:Str}{j:Option Nat}(h:QfU C (some n)= some j): ∃i,j=some i/\Jr C n=true/\n≠"__debug__"/\idx n C.N=some i:=by
 simp only[QfU]at h;split at h
 ·rename_i c;simp only[Xj,Xq]at c;simp only[Xd]at h;obtain⟨i,hi,h⟩:=h;exact⟨i,h.symm,c.1,c.2,hi⟩
 ·cases h
def QfV{c:Nat}(h:QfW C x=some c): Zr C x=true/\x≠"__debug__"/\C.gl.lookup x=some (.cls c):= by
 unfold QfW at h;split at h
 ·rename_i q;simp only[Xj,Xq]at q;split at h
  ·rename_i z;cases h;exact⟨q.1,q.2,z⟩
  ·cases h
 ·cases h
def QbW{c:Nat}(h:Qdy C x=some c): Zr C x=true/\x≠"__debug__"/\C.gl.lookup x=some (.fn c):= by
 unfold Qdy at h;split at h
 ·rename_i q;simp only[Xj,Xq]at q;split at h
  ·rename_i z;cases h;exact⟨q.1,q.2,z⟩
  ·cases h
 ·cases h
structure Bd(X:Cx):Prop where
 stk:X.stack=X.env::X.outer
 frm:X.env.frame=some X.env.locals
 ex:X.ex=[]
 cm:X.calm=true
def QeI:hdC (hdX C)=true:=by simp[hdC,hdX]
def Qg9{p:Nat×Expr}(h:Qka C st=some p):∃y py pos,st=.Assign [.Name y py] p.2 pos/\Jr C y=true/\idx y C.N=some p.1:=by
 cases st with
 |Assign ts e pos=>
  simp only[Qka]at h;split at h
  ·rename_i y hy;obtain⟨py,rfl⟩:=QbP hy;split at h
   ·rename_i hl;simp only[Xd]at h;obtain⟨i,hi,rfl⟩:=h;exact⟨y,py,pos,rfl,hl,hi⟩
   ·cases h
  ·cases h
 |_=>cases h
theorem Qbf(g:GX T A (hdX C) X)(fl:∀x,X.fn x=true\/X.env.scope.names.lookup x=some .local)(S:Snd T A (hdX C) X cf m):∀(sts:List Stmt) (d:Nat) (irs:List Iv.S),Qfi m C sts=some irs->PSs X sts (TIS T A X.K (exs T cf d irs))
 |_,0,_,_=>Z9 QhP
 |[],d+1,irs,h=>by
  cases h
  exact QcC QdU λD Y H v=>by obtain⟨α,Z,hs,fl,ρ',hs',rs,R,e,q⟩:=v;cases e;exact q α Y H Ext.refl R rs
 |st::r,d+1,irs,h=>by
  simp only[Qfi,Xb]at h;obtain⟨p,hp,e',he,r',hr,h⟩:=h;cases h;obtain⟨y,py,pos,rfl,hl,hi⟩:=Qg9 hp
  have ly:X.env.scope.names.lookup y=some .local:=by rw[g.sc];exact QaK hl
  have P:∀d,PS X (.Assign [.Name y py] p.2 pos) (TIS T A X.K (ex T cf d (.set p.1 e'))):=λd=>by
   refine Qb6 (λd=>?_) (d:=d)
   refine Q8 (Qaz (i:=p.1) g.nd (by rw[g.N];exact Zg hi) (.inl ly) (S.e d p.2 e' he) (Qcb he λelt gens scope q z=>?_) (fl y)) ?_
   ·rw[z]at he
    cases m with
    |zero=>cases he
    |succ m=>
     have:=Qmh he;rw[QeI]at this;cases this
   ·rintro D Y H ⟨α,Z,hs,fl,ρ',hs',rs,R,e,q⟩;simp only[ex]at e;obtain⟨u,h1,e1,e⟩:=Qe e;cases e;exact TI.run rs R e1 λα1 x H1 E1 R1 r1 rs1=>q α1 _ H1 E1 R1 (rs1.set p.1 r1)
  refine QcC (YC (P d) (Qbf g fl S r d r' hr)) ?_;rintro D Y H ⟨α,Z,hs,fl,ρ',hs',rs,R,e,q⟩;simp only[exs]at e;split at e
  ·rename_i ρ1 h1 e1;exact TIS.run rs R e1 λα1 σ1 H1 E1 R1 rs1=>TIS.run rs1 R1 e λα2 σ2 H2 E2 R2 rs2=>q α2 σ2 H2 (E1.trans E2 R2.h) R2 rs2
  ·rename_i n1;exfalso
   cases d with
   |zero=>cases e
   |succ d=>
    simp only[ex]at e n1
    cases z:ev T cf d e' Z hs with
    |none=>rw[z]at e;cases e
    |some w=>rw[z]at n1;exact n1 _ _ rfl
def QgJ{Z:Rho}{Y:St}{j:Nat}(r:RS A α Z Y):RS A α (Z.set j none) (Y.set j none):=by
 refine⟨by simpa using r.len,λk u e=>?_⟩
 have hk:k≠j:=λz=>by
  subst z
  have l:k < Z.length:=(Xc.mp e).1 |> λz=>by simpa using z
  rw[Xz l]at e;cases e
 rw[Xu (Wr hk)]at e;rw[Xu (Wr hk)];exact r.val k u e
def QnZ{b:List Stmt}{hs:List ExceptHandler}{o fn:List Stmt}{p:Pos}{t:Tr}{es:List E}{sb:List Iv.S}(bX:Bd X)(g:GX T A C X)(fl:∀x,X.fn x=true\/X.env.scope.names.lookup x=some .local)(F:Fc X T A cf k)(hr:Room k X.A)(S:Snd T A C X cf m)(hbl:C.bl.contains ("isinstance":Str)= true)(ht:QfS C b hs o fn=some t)(ha:compA m C t.args=some es)(hb:Qfi m C t.body=some sb):
  PS X (.Try b hs o fn p) (TIS T A X.K (ex T cf (d+1) (.tryS t.j t.f es t.c sb))):=by
 obtain⟨f,pf,a,args,q1,q2,x,px,n,b0,body,ph,rfl,rfl,rfl,rfl,t1,t2,t3,t4,t5⟩:=QfR ht;obtain⟨gx,dx,lx⟩:=QfV t2;obtain⟨gf,df,lf⟩:=QbW t3;rw[t4]at ha;rw[t5]at hb;have hns:=Qt ha;have st:starEach (a::args) X.env=(false,eval a X.env)::starEach args X.env:=Qn (hns a (Xn ..));have sa:(backTo q1 (starEach args X.env)).any (·.1)=false:=Q9 λz hz=>hns z (Xl _ hz);intro pins s Y H D I q;obtain⟨α,Z,hs0,fw,ρ',hs',rs,R,e,q⟩:=q;simp only[Iv.ex]at e;obtain⟨us,hh1,e1,e⟩:=Qe e;refine wpAny_Try_except ?_
 have sw:swapsWith (.Call (.Name f pf) (a::args) [] q1) none q2.line X.env=pure false:=by rfl
 split at e
 ·rename_i u0 h2 ec;cases e;have P1:PS X (.Expr (.Call (.Name f pf) (a::args) [] q1) q2) _:=Qbm (Qht (d:=d) g F hr S gf df lf ha) sw;have P2:=QiT P1
  have r:=P2 pins s Y H D I (TI.run rs R (u:=u0) (h1:=_) (by simp only[ev,e1,Iv.bd];exact ec) λα1 v H1 E1 R1 r1 rs1=>q α1 Y H1 E1 R1 rs1)
  rw[g.xe]at r ⊢;refine X4 r (λfl' s1 z=>?_) λy y z=>z.elim
  cases fl' with
  |next=>exact T4 z
  |ret v=>exact z
  |brk=>exact z
  |cont=>exact z
 ·rename_i ec;split at e
  case h_2=>cases e
  rename_i c' h2 ex';rw[Wu]at e;obtain⟨⟨c1,c2,c3⟩,e⟩:=e;split at e
  case h_2=>cases e
  rename_i ρ2 h3 eb;cases e
  cases hF:T.fns[t.f]? with
  |none=>rw[hF]at c3;cases c3
  |some Fn=>
  rw[hF]at c3;have c3:us.length=Fn.np:=V0 c3;obtain⟨fd,G,bb,kp⟩:=F.xf t.f Fn hF;refine wpAny_execs_cons (wpAny_Expr_any ?_ I.quiet sw);refine Vd (ZG I (QN g gf) (g.gfn f t.f lf) ?_ (QL df));have pa0:=S.a d (a::args) es ha q1 pins s Y H (λvs H1=>∃α1,Ext α α1 H H1/\Rep T A X.K α1 hh1 H1/\RUs A α1 us vs) I ⟨α,Z,hs0,us,hh1,rs,R,e1,λα' vs H' E' R' r'=>⟨α',E',R',r'⟩⟩;rw[g.xe]at pa0;refine PySem.W.callWith_K (h₀:=X.base) I.ok.mod.kin kp (X4 pa0 (λus1 s1 ⟨vs,H1,I1,r,α1,E1,R1,ru⟩=>⟨I1.kIn,?_⟩) λy y z=>z.elim) st sa
  have ll:us1.length=Fn.ps.length:=by
   obtain⟨fd',fn',_,_,lp,_⟩:=g.txt.fn t.f Fn hF;rw[lp,<-c3,ru.length,r.length]
  have hsp:spX T A X.K T.xf t.f vs H1 (λy y=>False) (λCv o H'=>Cv=.ref (A.c c')/\EF T H' c' o/\∃α',Ext α1 α' H1 H'/\Rep T A X.K α' h2 H'):=
   ⟨α1,us,hh1,c',h2,ru,R1,ex',⟨Fn,hF,c3⟩,λα' H' dd E' R' ef=>⟨rfl,ef,α',E',R'⟩⟩
  refine wpAny_call (T5 (G.run X.A X.stack s1 H1 ⟨us1,[]⟩ us1 vs _ _ hr I1.env0 (by have:=bb s1 us1 I1.kIn (by rw[W9];exact ll);rw[W9]at this;exact this) r hsp) λrr s' hq=>?_)
  cases rr with
  |ok fl=>
   cases fl with
   |ret u=>
    obtain⟨_,_,_,_,_,_,_,z⟩:=hq;exact z.elim
   |next=>exact False.elim hq
   |brk=>exact False.elim hq
   |cont=>exact False.elim hq
  |error ev=>
   obtain⟨e0,C0,H',B,a0,dd,rfl,os,bare,un,hok,flw,cv,hn,hs0',da,⟨hC,ef,α2,E2,R2⟩⟩:=hq;cases hC
   have h00:X.s₀.heap.get? e0=none:=by
    cases q:X.s₀.heap.get? e0 with
    |none=>rfl
    |some ob=>
     obtain⟨o',ho⟩:=I1.base.there e0 ob q (by rw[bX.ex];simp)
     rw[hs0']at ho;cases ho
   have M:Met X pins Y H1 H' s1 s' e0 (A.c c') dd B a0:=⟨I1,os,bare,un,hok,flw,cv,hn,hs0',h00,da⟩
   have gh:GX T A (hdX C) (X.hd (.ref e0)):=⟨g.CT,g.N,g.nd,g.sc,(λz=>by rw[QeI]at z;cases z),g.kind,g.xe,g.gfn,g.gcl,g.gco,g.gtx,(λz hz=>by
    refine g.blt z λw=>hz ?_;by_cases e:z=("isinstance":Str)
    ·rw[e,hbl]at w;cases w
    ·refine Bool.eq_false_iff.mpr λh=>?_
     rcases X7.mp (Vv.mp h)with h|h
     ·exact e h
     ·rw[Vv.mpr (T3.mp h).1]at w
      cases w),g.txt,g.tab⟩
   have Sh:=(Qf0 (k:=k) m gh (⟨F.ok,F.some,F.df,F.xf⟩:Fc (X.hd (.ref e0)) T A cf k) (λz=>by rw[QeI]at z;cases z) hr.units).s
   have rs2:=(rs.mono E1.pre).mono E2.pre;have xeh:(X.hd (.ref e0)).xe=λy y=>False:=g.xe
   cases n with
   |none=>
    have tj:t.j=none:=(X8 t1).symm;rw[tj]at eb q;have PP:=Qbf gh fl Sh (b0::body) d sb hb;refine QjW (W:=λσ8 H8=>∃α8,Ext α2 α8 H' H8/\Rep T A X.K α8 hs' H8/\RS A α8 ρ2 σ8) bX.stk bX.frm M (QN g gx) (g.gcl x t.c lx) (g.txt.es c' t.c c2) (QL dx) (λs7 J7=>?_) (λσ8 H8 s'' ⟨α8,E8,R8,r8⟩ J=>?_)
    ·have r:=PP pins s7 Y H' ⟨λσ8 H8=>∃α8,Ext α2 α8 H' H8/\Rep T A X.K α8 hs' H8/\RS A α8 ρ2 σ8,λy y=>False,λy y=>False,λy y=>False⟩ J7 ⟨α2,Z,h2,.next,ρ2,hs',rs2,R2,eb,λα' Y' H' E' R' r'=>⟨α',E',R',r'⟩⟩;rw[xeh]at r;refine X4 r (λf8 s8 z=>?_) λy y z=>z
     cases f8 with
     |next=>exact⟨rfl,z⟩
     |brk=>obtain⟨_,_,_,z⟩:=z;exact z.elim
     |cont=>obtain⟨_,_,_,z⟩:=z;exact z.elim
     |ret u=>obtain⟨_,_,_,_,_,z⟩:=z;exact z.elim
    ·exact⟨_,_,J,q _ _ _ ((E1.trans E2 R2.h).trans E8 R8.h) R8 r8⟩
   |some n=>
    obtain⟨j,hj,ln,nd,hi⟩:=QfT t1;rw[hj]at eb q;have PP:=Qbf gh fl Sh (b0::body) d sb hb
    obtain⟨R3,E3⟩:=R2.new (p:=e0) (o:=.err c') (ho:=QeX e0 (A.c c') dd) hn ⟨dd,Qh,c1,ef.fz λb o fs e=>by rw[Qf (λz=>by rw[z,hn]at e;cases e)];exact e⟩
    have at3:(α2++[e0])[h2.length]?=some e0:=by rw[<-R2.h.len];exact QD
    have rs4:=(rs2.mono E3.pre).set j (u:=.ref h2.length) (v:=.ref e0) ⟨e0,at3,rfl⟩
    refine QjX (W:=λσ8 H8=>∃α8,Ext (α2++[e0]) α8 (upd H' e0 (QeX e0 (A.c c') dd)) H8/\Rep T A X.K α8 hs' H8/\RS A α8 ρ2 σ8) bX.stk bX.frm g.nd M (QN g gx) (g.gcl x t.c lx) (g.txt.es c' t.c c2) (QL dx) (by rw[g.N];exact Zg hi) (by rw[g.sc];exact QaK ln) (λs7 J7=>?_) (λσ8 H8 s'' ⟨α8,E8,R8,r8⟩ J=>?_)
    ·have r:=PP pins s7 _ _ ⟨λσ8 H8=>∃α8,Ext (α2++[e0]) α8 (upd H' e0 (QeX e0 (A.c c') dd)) H8/\Rep T A X.K α8 hs' H8/\RS A α8 ρ2 σ8,λy y=>False,λy y=>False,λy y=>False⟩ J7 ⟨α2++[e0],Z.set j (some (.ref h2.length)),h2++[O.err c'],.next,ρ2,hs',rs4,R3,eb,λα' Y' H' E' R' r'=>⟨α',E',R',r'⟩⟩;rw[xeh]at r;refine X4 r (λf8 s8 z=>?_) λy y z=>z
     cases f8 with
     |next=>exact⟨rfl,z⟩
     |brk=>obtain⟨_,_,_,z⟩:=z;exact z.elim
     |cont=>obtain⟨_,_,_,z⟩:=z;exact z.elim
     |ret u=>obtain⟨_,_,_,_,_,z⟩:=z;exact z.elim
    ·exact⟨_,_,J,q _ _ _ (((E1.trans E2 R2.h).trans E3 R3.h).trans E8 R8.h) R8 (QgJ r8)⟩
def Qlb(bX:Bd X)(F:Fc X T A cf k)(hr:Room k X.A)(hu:X.A.units+1<cLine)(g:GX T A C X)(fl:∀x,X.fn x=true\/X.env.scope.names.lookup x=some .local)(S2:Snd2 T A C X cf m)(SS:SndS T A C X cf m)(d:Nat)(st:Stmt)(ir:Iv.S)(h:QR (m+1) C st=some ir):PS X st (TIS T A X.K (ex T cf d ir)):=by
 have S:=S2.s;refine Qb6 λd=>?_
 cases st with
 |Pass p=>cases h;exact Q8 QiV λD Y H r=>by obtain⟨α,Z,hs,fl,ρ',hs',rs,R,e,q⟩:=r;cases e;exact q α Y H Ext.refl R rs
 |Break p=>cases h;exact Q8 Qgd λD Y H f=>by obtain⟨α,Z,hs,fl,ρ',hs',rs,R,e,q⟩:=f;cases e;exact q α Y H Ext.refl R rs
 |Continue p=>cases h;exact Q8 Qbn λD Y H W=>by obtain⟨α,Z,hs,fl,ρ',hs',rs,R,e,q⟩:=W;cases e;exact q α Y H Ext.refl R rs
 |Expr e p=>
  unfold QR at h;try dsimp only at h;split at h
  ·rename_i hd;obtain⟨x,j,q,rfl⟩:=QgO hd;cases h
   exact Q8 QlD λD Y H V=>by obtain⟨α,Z,hs,fl,ρ',hs',rs,R,e,q⟩:=V;cases e;exact q α Y H Ext.refl R rs
  ·cases h
  ·rename_i hn;simp only[Xd]at h;obtain⟨e',he,rfl⟩:=h
   refine Q8 (Qbm (S.e d e e' he) (Qcb he λelt gens scope q z=>by subst z;cases hn)) ?_
   rintro D Y H ⟨α,Z,hs,fl,ρ',hs',rs,R,e,q⟩;simp only[ex]at e;obtain⟨u,h1,e1,e⟩:=Qe e;cases e;exact TI.run rs R e1 λα1 x H1 E1 R1 r1 rs1=>q α1 Y H1 E1 R1 rs1
 |Return v p=>
  cases v with
  |none=>
   cases h
   exact Q8 QiU λD Y H U=>by obtain⟨α,Z,hs,fl,ρ',hs',rs,R,e,q⟩:=U;cases e;exact q α Y H Ext.refl R rs .non rfl
  |some e=>
   unfold QR at h;simp only[Xd]at h;obtain⟨e',he,rfl⟩:=h;refine Q8 (QdW (S.e d e e' he)) ?_;rintro D Y H ⟨α,Z,hs,fl,ρ',hs',rs,R,e,q⟩;simp only[ex]at e;obtain⟨u,h1,e1,e⟩:=Qe e;cases e;exact TI.run rs R e1 λα1 x H1 E1 R1 r1 rs1=>q α1 Y H1 E1 R1 rs1 x r1
 |Raise x c p=>
  unfold QR at h;try dsimp only at h;split at h
  ·simp only[Xb]at h;obtain⟨es,_,h⟩:=h;cases h
   exact ZL λD Y H Q=>by obtain⟨_,_,_,_,_,_,_,_,e,_⟩:=Q;simp[ex]at e
  ·cases h
   exact ZL λD Y H P=>by obtain⟨_,_,_,_,_,_,_,_,e,_⟩:=P;simp[ex]at e
 |Try b hs o fn p=>
  unfold QR at h;try dsimp only at h;split at h
  case isFalse=>cases h
  rename_i hbl;simp only[Xb]at h;obtain⟨t,ht,es,hes,sb,hsb,h⟩:=h;cases h;exact QnZ bX g fl F hr S hbl ht hes hsb
 |AugAssign t o e p=>first|exact Znn h|simp[QR]at h
 |If t a b p=>
  unfold QR at h;simp only[Xb]at h;obtain⟨t',ht,a',ha,b',hb,h⟩:=h;cases h;refine Q8 (QlC (S.t d t t' ht).1 (SS.ss d a a' ha) (SS.ss d b b' hb)) ?_;rintro D Y H ⟨α,Z,hs,fl,ρ',hs',rs,R,e,q⟩;simp only[ex]at e;split at e
  ·rename_i h1 e1;refine TIT.run rs R e1 λα1 H1 E1 R1 rs1=>?_;rw[if_pos rfl];exact TIS.run rs1 R1 e λα2 σ2 H2 E2 R2 rs2=>q α2 σ2 H2 (E1.trans E2 R2.h) R2 rs2
  ·rename_i h1 e1;refine TIT.run rs R e1 λα1 H1 E1 R1 rs1=>?_;rw[if_neg X3];exact TIS.run rs1 R1 e λα2 σ2 H2 E2 R2 rs2=>q α2 σ2 H2 (E1.trans E2 R2.h) R2 rs2
  ·cases e
 |While t a b p=>first|exact Znn h|simp[QR]at h
 |For tg it a b p=>
  cases b with
  |cons _ _=>first|exact Znn h|simp[QR]at h
  |nil=>
   unfold QR at h;simp only[Xb]at h;obtain⟨tg',ht,it',hi,h⟩:=h;split at h
   ·rename_i i0 hk;simp only[Xb]at h;obtain⟨e',he,a',ha,h⟩:=h;cases h
    have et:tg'=.name i0:=by
     unfold Qp9 at hk;split at hk
     case h_2=>cases hk
     split at hk
     case h_2=>cases hk
     split at hk
     case isFalse=>cases hk
     cases hk;rfl
    subst et
    refine Q8 (QdV (QdY (by rw[g.xe];exact PassesOwn.never) bX.cm (Qi3 (S.e d it e' he)) (Qn0 bX.cm g fl ht) (SS.ss d a a' ha) (QaC hi))) ?_
    rintro D Y H ⟨α,Z,hs,fl,ρ',hs',rs,R,e,q⟩;simp only[ex]at e;obtain⟨u,h1,e1,e⟩:=Qe e;split at e
    ·rename_i n kvs ed;obtain⟨rfl,⟨k0,hk0⟩,hk1⟩:=QgS ed;unfold Qik at e;split at e
     case h_2=>cases e
     rename_i fl' ρ2 h2 ef;split at e
     case h_2=>cases e
     rename_i kvs' hk2;cases e;obtain⟨a0,ha0,kv0,hH0,rd0⟩:=R.h.adr hk0;refine⟨a0,kv0,hH0,TI.run rs R e1 λα1 x H1 E1 R1 r1 rs1=>?_⟩;obtain⟨a1,ha1,rfl⟩:=r1
     have ea:a1=a0:=by
      have:=E1.pre n a0 ha0;rw[ha1]at this;exact X8 this
     subst ea;obtain⟨kv1,hH1,rd1⟩:=R1.h.ob n a1 _ ha1 hk1;refine⟨a1,kv1,rfl,hH1,λob=>?_⟩;have R2:Rep T A X.K α1 (h1.set n (.fzd kvs)) (upd H1 a1 (.frz ob (.dK kv1))):=R1.put0 ha1 ⟨kv1,ob,Qh,rd1⟩;have ne:∀b o,H1 b=some o->b∉α1->b≠a1:=λb o M hb z=>hb (z▸X0 ha1);refine QeN rs1 R2 Qh rd1 ef λα3 σ3 H3 E3 R3 rs3=>?_;have z3:=E3.fz a1 ob (.dK kv1) Qh;have ha3:=E3.pre n a1 ha1;obtain⟨kv3,ob3,hH3,rd3⟩:=R3.h.ob n a1 _ ha3 hk2;rw[z3]at hH3;cases hH3;have R4:Rep T A X.K α3 (h2.set n (.dic kvs')) (upd H3 a1 (.dK kv1)):=R3.put0 ha3 ⟨kv1,Qh,rd3⟩
     have E4:Ext α1 α3 H1 (upd H3 a1 (.dK kv1)):=by
      refine⟨E3.pre,λk b e l=>?_,λb o e hb=>?_,λb o kv e=>?_,λb o e=>?_⟩
      ·have hn:=E3.new k b e l
       have hb:b≠a1:=λz=>by
        rw[z,Qh]at hn
        rcases hn with q|⟨_,q⟩<;>cases q
       rw[Qf hb]at hn;exact hn
      ·have hb':=ne b o e hb;rw[Qf hb']
       exact E3.keep b o (by rw[Qf hb'];exact e) hb
      ·have hb':b≠a1:=λz=>by rw[z,hH1]at e;cases e
       rw[Qf hb']
       exact E3.fz b o kv (by rw[Qf hb'];exact e)
      ·by_cases hb':b=a1
       ·subst hb';rw[hH1]at e;cases e;exact⟨_,Qh,λM=>U7⟩
       ·obtain⟨o',q1,q2⟩:=E3.tr b o (by rw[Qf hb'];exact e)
        exact⟨o',by rw[Qf hb'];exact q1,q2⟩
     have fin:=q α3 σ3 _ (E1.trans E4 R4.h) R4 rs3
     cases fl with
     |next=>exact⟨ob,kv1,z3,fin⟩
     |brk=>exact⟨ob,kv1,z3,fin⟩
     |cont=>exact⟨ob,kv1,z3,fin⟩
     |ret u=>exact λv rv=>⟨ob,kv1,z3,fin v rv⟩
    ·cases e
   split at h
   case isFalse=>cases h
   rename_i ok;simp only[Xb]at h;obtain⟨a',ha,h⟩:=h;cases h
   refine Q8 (QdY (by rw[g.xe];exact PassesOwn.never) bX.cm (S2.w d it _ tg hi (Qhp ht ok)) (Qn0 bX.cm g fl ht) (SS.ss d a a' ha) (QaC hi)) ?_
   rintro D Y H ⟨α,Z,hs,fl,ρ',hs',rs,R,e,q⟩;simp only[ex]at e;obtain⟨w,h1,e1,e⟩:=Qe e;refine⟨α,Z,hs,w,h1,rs,R,e1,λα1 J H1 E1 R1 W1=>?_⟩;exact QgL rfl g.txt (rs.mono E1.pre) R1 W1 e λα2 σ2 H2 E2 R2 rs2=>q α2 σ2 H2 (E1.trans E2 R2.h) R2 rs2
 |Assign ts e p=>
  unfold QR at h;try dsimp only at h;split at h
  ·rename_i x ht;obtain⟨px,rfl⟩:=QbP ht;split at h
   case isFalse=>cases h
   rename_i hl;simp only[Xb]at h;obtain⟨i,hi,h⟩:=h;split at h
   ·rename_i ce;cases h;rw[Xj]at ce;obtain⟨pd,rfl⟩:=QeD ce.1
    refine Q8 (Qaz (i:=i) g.nd (by rw[g.N];exact Zg hi) (Jm g hl) Qgi (Qcb (m:=1) (C:=C) (ir:=.dnew) (by rfl) (by intro _ _ _ _ z;cases z)) (fl x)) ?_
    rintro D Y H ⟨α,Z,hs,fl,ρ',hs',rs,R,e,q⟩;simp only[ex]at e;obtain⟨u,h1,e1,e⟩:=Qe e;cases e
    cases d with
    |zero=>cases e1
    |succ d=>
     simp only[ev]at e1;cases e1;intro b hb;obtain⟨R',E'⟩:=R.new (o:=.dct []) (ho:=.dT []) hb ⟨[],Qh,.nil⟩
     exact q _ _ _ E' R' ((rs.mono E'.pre).set i ⟨b,by rw[<-R.h.len];exact QD,rfl⟩)
   simp only[Xb]at h;obtain⟨e',he,h⟩:=h;cases h
   have fin:∀e' D Y H,TIS T A X.K (ex T cf (d+1) (.set i e')) D Y H->TI T A X.K (ev T cf d e') Y H λv H1=>D.nx (Y.set i (some v)) H1:=by
    intro e';rintro D Y H ⟨α,Z,hs,fl,ρ',hs',rs,R,e,q⟩;simp only[ex]at e;obtain⟨u,h1,e1,e⟩:=Qe e;cases e;exact TI.run rs R e1 λα1 x H1 E1 R1 r1 rs1=>q α1 _ H1 E1 R1 (rs1.set i r1)
   by_cases hc:∃elt gens scope q,e=.ListComp elt gens scope q
   ·obtain⟨elt,gens,scope,pc,rfl⟩:=hc;obtain⟨tg,iter,tl,xs,n,wi,gg,tt,te,rfl,ok,hi',hn',hg',ht',he',hf,imp⟩:=S2.c d elt gens scope pc e' he;intro pins s Y H D I hq
    rcases imp Y H _ I.len (fin _ D Y H hq)with w|⟨a,kv,ha,w⟩
    ·exact QdZ bX.cm g.nd ok hi' hn' hg' ht' he' hf (by rw[g.N];exact Zg hi) (Jm g hl) (fl x) pins s Y H D I w
    ·exact QdV (QdZ bX.cm g.nd ok hi' hn' hg' ht' he' hf (by rw[g.N];exact Zg hi) (Jm g hl) (fl x)) pins s Y H D I ⟨a,kv,ha,w⟩
   ·exact Q8 (Qaz (i:=i) g.nd (by rw[g.N];exact Zg hi) (Jm g hl) (S.e d e e' he) (Qcb he λelt gens scope q z=>hc ⟨elt,gens,scope,q,z⟩) (fl x)) (fin _)
  ·cases h
  ·rename_i o i ht;obtain⟨ps,rfl⟩:=Qha ht;split at h
   case isFalse=>cases h
   rename_i nsl;simp only[Xb]at h;obtain⟨e',he,o',ho,i',hi,h⟩:=h;cases h;refine Q8 (QlE (S.e d e e' he) (QlL (S.e d o o' ho) (S.e d i i' hi) (Qf3 hu) (Qde nsl)) (Qjl he) rfl rfl) ?_;rintro D Y H ⟨α,Z,hs,fl,ρ',hs',rs,R,e,q⟩;simp only[ex]at e;obtain⟨u,h1,e1,e⟩:=Qe e;obtain⟨x,h2,e2,e⟩:=Qe e;obtain⟨k,h3,e3,e⟩:=Qe e;simp only[Xd]at e;obtain⟨h4,e4,e⟩:=e;cases e;refine TI.run rs R e1 λα1 v H1 E1 R1 r1 rs1=>TI.run rs1 R1 e2 λα2 y H2 E2 R2 r2 rs2=>TI.run rs2 R2 e3 λα3 z H3 E3 R3 r3 rs3=>?_;unfold JI at e4;split at e4
   case h_2=>cases e4
   rename_i n;split at e4
   case h_2=>cases e4
   rename_i oo eo;obtain⟨a,ha,rfl⟩:=r2.mono E3.pre;obtain⟨H',g',R',E'⟩:=QjM R3 eo ha e4 r3 (r1.mono λn a e=>E3.pre n a (E2.pre n a e));exact⟨a,H',rfl,g',q α3 Y _ (((E1.trans E2 R2.h).trans E3 R3.h).trans E' R'.h) R' rs3⟩
  ·cases h
  ·cases h
  ·cases h
 |_=>exact Znn h
def Qh7{s0 s':S}(hs:Qnl m C st s0=some s')(h:∀d,PS X st (TIS T A X.K (ex T cf d s0)))(d:Nat):PS X st (TIS T A X.K (ex T cf d s')):=by
 unfold Qnl at hs;split at hs
 ·rename_i t ht;simp only[Xd]at hs;obtain⟨es,_,rfl⟩:=hs
  cases d with
  |zero=>exact ZL λD Y H y=>by obtain⟨_,_,_,_,_,_,_,_,e,_⟩:=y;cases e
  |succ d=>
   have z:ex T cf (d+1) (.cal s0 t.1 es)=ex T cf d s0:=by funext Z hs;simp only[ex]
   rw[z];exact h d
 ·cases hs;exact h d
def QiA(SS:SndS T A C X cf m)(d:Nat)(sts:List Stmt)(irs:List S)(h:compSs (m+1) C sts=some irs):PSs X sts (TIS T A X.K (exs T cf d irs)):=by
 cases d with
 |zero=>exact Z9 QhP
 |succ d=>
  cases sts with
  |nil=>
   cases h
   exact QcC QdU λD Y H z=>by obtain⟨α,Z,hs,fl,ρ',hs',rs,R,e,q⟩:=z;cases e;exact q α Y H Ext.refl R rs
  |cons st r=>
   simp only[compSs,Xb]at h;obtain⟨s0,hs0,s',hs,r',hr,h⟩:=h;cases h;refine QcC (YC (Qh7 hs (λd=>SS.s d st s0 hs0) d) (SS.ss d r r' hr)) ?_;rintro D Y H ⟨α,Z,hs,fl,ρ',hs',rs,R,e,q⟩;simp only[exs]at e;split at e
   ·rename_i ρ1 h1 e1;exact TIS.run rs R e1 λα1 σ1 H1 E1 R1 rs1=>TIS.run rs1 R1 e λα2 σ2 H2 E2 R2 rs2=>q α2 σ2 H2 (E1.trans E2 R2.h) R2 rs2
   ·rename_i n1;refine TIS.run rs R e λα1 σ1 H1 E1 R1 rs1=>?_
    cases fl with
    |next=>exact absurd e (n1 _ _)
    |cont=>exact q α1 σ1 H1 E1 R1 rs1
    |brk=>exact q α1 σ1 H1 E1 R1 rs1
    |ret u=>exact q α1 σ1 H1 E1 R1 rs1
theorem QnT(bX:Bd X)(g:GX T A C X)(fl:∀x,X.fn x=true\/X.env.scope.names.lookup x=some .local)(F:Fc X T A cf k)(hr:Room (k+1) X.A):∀m,SndS T A C X cf m
 |0=>⟨λd st ir h=>by first|exact Znn h|simp[QR]at h,λd sts irs h=>by exact Znn h⟩
 |m+1=>by
  have SS:=QnT bX g fl F hr m;exact⟨Qlb bX F (hr.mono (Ut k)) (QoO hr) g fl (Qf0 m g F (λz=>hr) hr.units) SS,QiA SS⟩
end
end
section
structure Top(T:Tbl)(A:Adr)(K:W.Frag)(mg:Str->Option Value)(gl:List (Str×G))(bl:List Str):Prop where
 txt:Txt T A K mg
 gfn:∀x i,gl.lookup x=some (.fn i)->mg x=some (.ref (A.f i))
 gcl:∀x i,gl.lookup x=some (.cls i)->mg x=some (.ref (A.c i))
 gco:∀x k,gl.lookup x=some (.con k)->mg x=some (.ref (A.k k))
 gtx:∀x t,gl.lookup x=some (.txt t)->∃k,mg x=some (.str ⟨t.toArray⟩ k)
 blt:∀x,¬bl.contains x=false->mg x=none
def Y9(T:Tbl)(gl:List (Str×G))(bl:List Str):Prop:=∀(i:Nat) (F:Fn),T.fns[i]?=some F->∃m,compSs m ⟨T,F.N,(Qp F.st).names,gl,bl,F.lc⟩ (Zy F.st)=some F.body
section
variable {P:Program}{w:World}{K:W.Frag}{mg:Str->Option Value}{base:Heap}{T:Tbl}{A:Adr}{gl:List (Str×G)}{bl:List Str}
def JG{α:List Addr}{us:List U}{vs:List V}{N:List Str}{n:Nat}(r:RUs A α us vs)(hn:N.length=n):RS A α (Qne us n) (L2.start N vs):=by
 unfold Qne L2.start;have l:=r.length
 refine⟨by simp[l,hn],λi u e=>?_⟩
 by_cases hi:i<us.length
 ·rw[Xv (by simpa using hi),Wn]at e
  rw[Xv (by simpa[<-l]using hi),Wn]
  cases q:us[i]? with
  |none=>rw[q]at e;cases e
  |some x=>
   rw[q]at e;cases e;obtain⟨v,h1,h2⟩:=r.get q
   exact⟨v,by rw[h1];rfl,h2⟩
 ·rw[Wg (by simpa using Tw hi),Tf]at e
  split at e<;>cases e
def JA{n:Nat}:∀f us hs r,Qa T n f us hs=some r->∃F,T.fns[f]?=some F/\us.length=F.np:=by
 intro f us hs r h
 cases n with
 |zero=>cases h
 |succ n=>
  simp only[Qa]at h;split at h
  ·cases h
  ·rename_i F e;split at h
   ·rename_i l;exact⟨F,e,l⟩
   ·cases h
def XOk(P:Program)(w:World)(K:W.Frag)(mg:Str->Option Value)(base:Heap)(T:Tbl)(A:Adr)(r:Nat):Prop:=∀f F,T.fns[f]?=some F->∃fd,FnOk P w K mg base (CXw P w) r (A.f f) fd F.ps (spX T A K T.xf f)/\Binds K fd F.ps []/\W.keepIn K (.ref (A.f f))=true
def QqT(tp:Top T A K mg gl bl)(h:T.xf=λy y y=>none):XOk P w K mg base T A 0:=λf F hF=>by
 obtain⟨fd,fn,b,_⟩:=tp.txt.fn f F hF
 have no:∀vs H Q E,¬spX T A K T.xf f vs H Q E:=λvs H Q E z=>by
  obtain⟨α,us,hs,u,hs',_,_,e,_⟩:=z;rw[h]at e;cases e
 exact⟨fd,⟨λvs H Q E h=>absurd h (no vs H Q E),λA outer s H args us vs Q E y y y y h=>absurd h (no vs H Q E)⟩,b,fn.kp⟩
theorem QaN{rm:Nat}(tp:Top T A K mg gl bl)(tab:Qaj P w T A K)(hb:Y9 T gl bl)(hX:XOk P w K mg base T A rm):∀n f F,T.fns[f]?=some F->∃fd,FnOk P w K mg base CX0 (rm+2*n) (A.f f) fd F.ps (spC T A K (Qa T n) f)/\Binds K fd F.ps []/\W.keepIn K (.ref (A.f f))=true/\FunD K F.name F.qual F.st (A.f f) fd
 |0,f,F,hF=>by
  obtain⟨fd,fn,b,_⟩:=tp.txt.fn f F hF
  have no:∀vs H Q E,¬spC T A K (Qa T 0) f vs H Q E:=λvs H Q E h=>by
   obtain⟨α,us,hs,u,hs',_,_,e,_⟩:=h;cases e
  exact⟨fd,⟨λvs H Q E h=>absurd h (no vs H Q E),λA outer s H args us vs Q E z z z z h=>absurd h (no vs H Q E)⟩,b,fn.kp,fn⟩
 |n+1,f,F,hF=>by
  obtain⟨fd,fn,b,sc,lp,lN⟩:=tp.txt.fn f F hF;obtain⟨m,hm⟩:=hb f F hF;refine⟨fd,?_,b,fn.kp,fn⟩;refine fn.ok (k:=rm+2*n+1) sc (λvs H Q E h=>?_) (λcdv A' outer s H vs Q E hr h=>?_)
  ·obtain⟨α,us,hs,u,hs',r,_,_,⟨F',h1,h2⟩,_⟩:=h;rw[hF]at h1;cases h1;rw[<-r.length,h2,lp]
  ·obtain⟨α,us,hs,u,hs',r,R,e,_,q⟩:=h;refine⟨TIS T A K (exs T (Qa T n) dd F.body),?_,?_⟩
   ·have gx:GX T A ⟨T,F.N,(Qp F.st).names,gl,bl,F.lc⟩ (Qe9 CX0 P w K mg base F.N F.qual (Qp F.st) (A.f f) cdv A' outer s H E).nox :=
     ⟨rfl,rfl,sc.nd,rfl,λz=>rfl,sc.kind,rfl,tp.gfn,tp.gcl,tp.gco,tp.gtx,tp.blt,tp.txt,tab⟩
    have fc:Fc (Qe9 CX0 P w K mg base F.N F.qual (Qp F.st) (A.f f) cdv A' outer s H E).nox T A (Qa T n) (rm+2*n):=⟨λf' F' h'=>by
     obtain⟨fd',G,b',kp,_⟩:=QaN tp tab hb hX n f' F' h'
     exact⟨fd',G,b',kp⟩,JA,λi D F' hD h'=>by
     obtain⟨fd',G,_,kp,fn'⟩:=QaN tp tab hb hX n i F' h';obtain⟨fd2,x,q,st,fn2,dk,hp⟩:=tp.txt.df i D hD;have e:=FunD.same fn2 fn';subst e;rw[(hp F' h').1]at G
     exact⟨fd2,G,kp,dk⟩,λf' F' h'=>by
     obtain⟨fd',G,b',kp⟩:=hX f' F' h'
     exact⟨fd',G.mono (Nat.le_add_right _ _),b',kp⟩⟩
    exact(QnT ⟨rfl,rfl,rfl,rfl⟩ gx (λz=>.inl rfl) fc hr m).ss dd (Zy F.st) F.body hm
   ·simp only[Qa,hF]at e;split at e
    case isFalse=>cases e
    unfold fin at e;split at e
    ·rename_i u' ρ' h1 e1;cases e;exact TIS.run (JG r lN) R e1 λα1 σ1 H1 E1 R1 rs1 v rv=>q α1 v H1 E1 R1 rv
    ·rename_i ρ' h1 e1;cases e;exact TIS.run (JG r lN) R e1 λα1 σ1 H1 E1 R1 rs1=>q α1 .non H1 E1 R1 rfl
    ·cases e
end
end
section
variable {n:Nat}
inductive AllI{α:Type}(P:Nat->α->Prop):Nat->List α->Prop where
 |nil {n:Nat}:AllI P n []
 |cons {n:Nat} {a:α} {r:List α}:P n a->AllI P (n+1) r->AllI P n (a::r)
def AllI.get{α:Type}{P:Nat->α->Prop}{l:List α}(h:AllI P n l)(i:Nat)(a:α)(e:l[i]?=some a):P (n+i) a:=by
 induction h generalizing i with
 |nil=>cases e
 |cons h _ ih=>
  cases i with
  |zero=>cases(show some _=some _ from e);exact h
  |succ i=>have:=ih i e;rw[Nat.add_assoc,Nat.add_comm 1 i]at this;exact this
def AllI.mem{α:Type}{P:α->Prop}{l:List α}(h:AllI (λz a=>P a) n l){a:α}(m:a∈l):P a:=by
 obtain⟨i,e⟩:=Vf m;exact AllI.get h i a e
def AllI.look{κ β:Type}[BEq κ][LawfulBEq κ]{P:κ->β->Prop}{l:List (κ×β)}(h:AllI (λz p=>P p.1 p.2) n l){k:κ}{b:β}(e:l.lookup k=some b):P k b:=AllI.mem (P:=λp=>P p.1 p.2) h (Ye e)
def gvP(A:Adr)(mg:Str->Option Value)(x:Str):G->Prop
 |.fn i=>mg x=some (.ref (A.f i))
 |.cls i=>mg x=some (.ref (A.c i))
 |.con k=>mg x=some (.ref (A.k k))
 |.txt t=>∃k,mg x=some (.str ⟨t.toArray⟩ k)
section
variable {P:Program}{w:World}{K:W.Frag}{mg:Str->Option Value}{base:Heap}{T:Tbl}{A:Adr}{gl:List (Str×G)}{bl:List Str}
def Qqq(A:Adr)(K:W.Frag)(k:Nat)(c:Co):Prop:=match c with
 |Co.tup xs=>∃vs,RUs A [] xs vs/\∀H,SqT K H (A.k k) vs
 |Co.lst xs=>∃vs,RUs A [] xs vs/\∀H,SqL K H (A.k k) vs
 |Co.tab _=>True
def QkW(fns:AllI (λi (F:Fn)=>∃fd,FunD K F.name F.qual F.st (A.f i) fd/\Binds K fd F.ps []/\FnScope F.N F.ps (Qp F.st)/\F.ps.length=F.np/\F.N.length=F.nN) 0 T.fns)
  (cls:AllI (λi C=>ClOk T A K i C) 0 T.cls)
  (fm:(T.fns'.all λx=>!(T.mns.contains x))=true) (fd:T.fns'.Nodup)
  (isi:AllI (λz p=>W.kitOne K (tyW A p.1.1) (tyW A p.1.2)=some p.2) 0 T.isi)
  (co:AllI (Qqq A K) 0 T.cons)
  (dfs:AllI (λz (p:Nat×Df)=>∃fd x q st,FunD K x q st (A.f p.1) fd/\Qkx A K fd p.2/\∀F,T.fns[p.1]?=some F->F.ps=p.2.ps/\F.np=p.2.np) 0 T.dfl)
  (g:AllI (λz (p:Str×G)=>gvP A mg p.1 p.2) 0 gl)
  (b:AllI (λz x=>mg x=none) 0 bl)
  (er:AllI (λz c=>ErrCls K (A.c c)/\((∀f,T.efl.contains (c,f)= false)/\W.excIn K (A.c c) Qa8 "ValueError.__new__"=true\/∃f x,T.efl.contains (c,f)= true/\(∀f',T.efl.contains (c,f')= true->f'=f)/\T.fns'[f]?=some x/\QcD K mg (A.c c) x)) 0 T.ers)
  (es:AllI (λz (p:Nat×Nat)=>W.exmOne K (.ref (A.c p.1)) (.ref (A.c p.2))=some true) 0 T.esb):Top T A K mg gl bl where
 txt:={
  fn:=λi F e=>by simpa using fns.get i F e
  df:=λi D e=>AllI.look (P:=λi (D:Df)=>∃fd x q st,FunD K x q st (A.f i) fd/\Qkx A K fd D/\∀F,T.fns[i]?=some F->F.ps=D.ps/\F.np=D.np) dfs e
  cl:=λi C e=>by simpa using cls.get i C e
  fm:=λx m n=>by
   have:=Wj.mp fm x m;simp at this;exact this n
  fd:=fd
  isi:=λk t b e=>AllI.look (P:=λ(q:Ty×Ty) b=>W.kitOne K (tyW A q.1) (tyW A q.2)=some b) isi e
  co:=λk c e=>by
   have:=co.get k c e;simp only[Vj]at this;exact this
  er:=λc h=>AllI.mem er (by simpa using h)
  es:=λc c' h=>AllI.mem (P:=λ(p:Nat×Nat)=>W.exmOne K (.ref (A.c p.1)) (.ref (A.c p.2))=some true) es (a:=(c,c')) (by simpa using h)}
 gfn:=λx i e=>AllI.look (P:=λx (q:G)=>gvP A mg x q) g e
 gcl:=λx i e=>AllI.look (P:=λx (q:G)=>gvP A mg x q) g e
 gco:=λx i e=>AllI.look (P:=λx (q:G)=>gvP A mg x q) g e
 gtx:=λx i e=>AllI.look (P:=λx (q:G)=>gvP A mg x q) g e
 blt:=λx h=>by
  have:bl.contains x=true:=by cases q:bl.contains x with|true=>rfl|false=>exact absurd q h
  exact AllI.mem (P:=λx=>mg x=none) b (by simpa using this)
def Qfu(h:AllI (λz (F:Fn)=>compSs 100 ⟨T,F.N,(Qp F.st).names,gl,bl,F.lc⟩ (Zy F.st)=some F.body) 0 T.fns):Y9 T gl bl:=λi F e=>⟨100,h.get i F e⟩
def QfY(K:W.Frag):Sp:=λvs H Q z=>∃(a:Addr) (ns:List Int),vs=[.ref a]/\SqL K H a (ns.map V.int)/\Qns H/\ns.length<=63/\∀H',Q (.bl true) H'
def Abs:U->Int->Prop:=λu i=>∃r m,u=.int r m/\Cg i r m
def Abs.rus{s:List U}{ns:List Int}(h:Paired Abs s ns):RUs A [] s (ns.map V.int):=by
 induction h with
 |nil=>exact .nil
 | @cons _ i _ _ h _ ih=>obtain⟨r,m,e,c⟩:=h;subst e;exact .cons ⟨i,rfl,c⟩ ih
def Qmi{tb:List U->Tbl}{adr:Addr->Adr}{L r:Nat}{F:Fn}{x:Str}{fd:FuncData}(hF:∀s,(tb s).fns[L]?=some F)(hs:∀s,(tb s).scr=s)(hps:F.ps=[x])(hnp:F.np=1)
  (hA:∀a,(adr a).s=a) (hf:∀a,(adr a).f=(adr 0).f)
  (tp:∀s a,Top (tb s) (adr a) K mg gl bl) (tab:∀s a,Qaj P w (tb s) (adr a) K) (hb:∀s,Y9 (tb s) gl bl) (hX:∀s a,XOk P w K mg base (tb s) (adr a) r)
  (hfun:FunD K F.name F.qual F.st ((adr 0).f L) fd)
  (comp:∀ns:List Int,ns.length<=63->∃s hs',Paired Abs s ns/\Qa (tb s) n L [.scr] []=some (.bl true,hs')):
  FnOk P w K mg base CX0 (r+2*n) ((adr 0).f L) fd [x] (QfY K):=by
 refine⟨λvs H Q E y=>by obtain⟨a,ns,h,_⟩:=y;rw[h];rfl,λA0 outer s H args us vs Q E hr e0 hbd rel ⟨a,ns,h,hS,hO,hl,q⟩=>?_⟩
 obtain⟨sc,hs',pr,hc⟩:=comp ns hl;obtain⟨fd',G,_,_,hfun'⟩:=QaN (base:=base) (tp sc a) (tab sc a) (hb sc) (hX sc a) n L F (hF sc);rw[hf a]at G hfun';have ef:=FunD.same hfun hfun';subst ef;rw[hps]at G;refine G.run A0 outer s H args us vs Q E hr e0 hbd rel ?_;subst h
 refine⟨[],[.scr],[],.bl true,hs',.cons (show V.ref a=V.ref (adr a).s by rw[hA]) .nil,⟨⟨rfl,(λi j a e u=>by simp at e),λn b o e u=>by simp at e⟩,ns.map V.int,by rw[hs];exact Abs.rus pr,?_⟩,hc,⟨F,hF sc,hnp.symm⟩,λα' v H' u u rv=>?_⟩
 ·rw[hA]
  rcases hS with(h|⟨o,h⟩)|h
  ·rcases hO a with z|⟨o,xs,z⟩
   ·rw[h]at z;cases z
   ·rw[h]at z;cases z
  ·exact .inl ⟨o,h⟩
  ·exact .inr h
 ·have:v=.bl true:=rv;subst this;exact q H'
end
end
section
noncomputable def QcX(K:W.Frag)(a:Addr):FuncData:=match K.lookup a with
 |some o=>(match o.data with
  |.func fd=>fd
  |_=>default)
 |none=>default
noncomputable def fnT(F:Fn)(fd:FuncData):FuncData:=W.fnOf F.name F.qual (QbK F.st) (Zy F.st) (Qp F.st) fd.defaults fd.kwdefaults fd.doc fd.pyModule fd.annotations fd.code fd.closureTuple
noncomputable def vsN(n:Nat)(v:Nat->Value):List Value:=(List.range n).map v
def Qie(us:List Value):us=vsN us.length λi=>us.getD i .none:=by
 apply Uw;intro i;simp only[vsN,Wn,List.getElem?_range',Wt];by_cases h:i<us.length
 ·rw[List.getElem?_range h];simp[Xe h]
 ·rw[Wx (Tw h),Wx (by simpa using Tw h)];rfl
noncomputable def scB(F:Fn)(sc:Scope):Bool:=decide (sc.kind=.function)&&(!sc.isCoroutine&&(!sc.isGenerator&&(decide F.N.Nodup&&(decide (F.N.take F.ps.length=F.ps)&&(F.ps.all (λx=>decide (sc.names.lookup x=some .local)||decide (sc.names.lookup x=some .cell))&&(sc.names.all (λy=>decide (y.2≠.free))&&(decide (F.ps.length=F.np)&&decide (F.N.length=F.nN))))))))
noncomputable def fnB(K:W.Frag)(F:Fn)(a:Addr):Bool:=W.fnIn K a&&(W.codeIn K (QcX K a).code F.qual&&scB F (Qp F.st))
section
variable {P:Program}{w:World}{K:W.Frag}{mg:Str->Option Value}{h:Heap}{T:Tbl}{A:Adr}{gl:List (Str×G)}{bl:List Str}{F:Fn}{a:Addr}
def QeL(h1:QcX K a=fnT F (QcX K a))(h2:fnB K F a=true):FunD K F.name F.qual F.st a (QcX K a)/\FnScope F.N F.ps (Qp F.st)/\F.ps.length=F.np/\F.N.length=F.nN:=by
 obtain⟨i,c,s⟩:_/\_/\_:=by simpa only[fnB,Xj]using h2
 obtain⟨s1,s2,s3,s4,s5,s6,s7,s8,s9⟩:_/\_/\_/\_/\_/\_/\_/\_/\_:=by simpa only[scB,Xj,Xq,Uc]using s
 have z:∃oc od sl,K.lookup a=some ⟨oc,od,.func (QcX K a),sl⟩:=by
  unfold W.fnIn at i;split at i
  ·rename_i oc od fd sl e
   exact⟨oc,od,sl,by rw[e];simp[QcX,e]⟩
  ·cases i
 obtain⟨oc,od,sl,e⟩:=z
 refine⟨⟨⟨oc,od,_,_,_,_,_,_,_,sl,h1,e,c⟩,by simp only[W.keepIn,e]⟩,⟨s1,s2,s3,s4,s5,λx m=>?_,λy m=>?_⟩,s8,s9⟩
 ·simpa using Wj.mp s6 x m
 ·simpa using Wj.mp s7 y m
def Qg5(n:F.ps.length=F.np)(h3:∀v,bindArgs (QcX K a) ⟨vsN F.np v,[]⟩=pure (F.ps.zip (vsN F.np v))):Binds K (QcX K a) F.ps []:=.all λus l=>by
 have:=h3 λi=>us.getD i .none;rwa [<-n,<-l,<-Qie]at this
noncomputable def Qkv{α:Type}(f:Nat->α->Bool):Nat->List α->Bool
 |_,[]=>true
 |n,a::r=>f n a&&Qkv f (n+1) r
theorem YI{α:Type}{f:Nat->α->Bool}{Q:Nat->α->Prop}(q:∀n a,f n a=true->Q n a):∀{n:Nat} {l:List α},Qkv f n l=true->AllI Q n l
 |_,[],_=>.nil
 |_,_::_,e=>.cons (q _ _ (U2.mp e).1) (YI q (U2.mp e).2)
def AllI.imp{α:Type}{Q R:Nat->α->Prop}(q:∀n a,Q n a->R n a){n:Nat}{l:List α}(h:AllI Q n l):AllI R n l:=by
 induction h with
 |nil=>exact .nil
 |cons e _ ih=>exact .cons (q _ _ e) ih
noncomputable def bi(x:String):Option (Option Value):=some (some (.builtin x))
noncomputable def clB(K:W.Frag)(T:Tbl)(A:Adr)(i:Nat)(C:Cl):Bool:=false
noncomputable def obB(K:W.Frag):Bool:=W.specialIn K (.builtin "object.__class__") "__get__"==bi "getset_descriptor.__get__"&&W.takesIn K (.builtin "object.__class__")==some true
def Qpe{i:Nat}{C:Cl}(o:obB K=true)(e:clB K T A i C=true):ClOk T A K i C:=nomatch e
noncomputable def erB(K:W.Frag)(a:Addr):Bool:=W.findIn K (.ref a) "__getattribute__"==bi "BaseException.__getattribute__"&&(W.findIn K (.ref a) "__getattr__"==some none&&(W.findIn K (.ref a) "__class__"==bi "object.__class__"&&(W.subIn K (.ref a) (.type "BaseException")==some true&&(W.subIn K (.ref a) (.type "object")==some true&&((W.clsIn K a).isSome&&W.excIn K a Qa8 "ValueError.__new__")))))
def QoW{c:Nat}(o:obB K=true)(e:erB K (A.c c)= true)(n:∀f,T.efl.contains (c,f)= false): ErrCls K (A.c c)/\((∀f,T.efl.contains (c,f)= false)/\W.excIn K (A.c c) Qa8 "ValueError.__new__"=true\/∃f x,T.efl.contains (c,f)= true/\(∀f',T.efl.contains (c,f')= true->f'=f)/\T.fns'[f]?=some x/\QcD K mg (A.c c) x):= by
 obtain⟨o1,o2⟩:_/\_:=by simpa only[obB,bi,Xj,V4]using o
 obtain⟨e1,e2,e3,e4,e5,e6,e7⟩:_/\_/\_/\_/\_/\_/\_:=by simpa only[erB,bi,Xj,V4]using e
 exact⟨⟨e1,e2,e3,o1,o2,e4,e5,e6⟩,.inl ⟨n,e7⟩⟩
noncomputable def coB(K:W.Frag)(A:Adr)(a:Addr)(c:Co):Bool:=false
abbrev Qqp(K:W.Frag)(w:World)(a:Addr):Prop:=True
def Qpa{k:Nat}{c:Co}(e:coB K A (A.k k) c=true):Qqq A K k c:=nomatch e
def Qk0(co:Qkv (λk c=>coB K A (A.k k) c) 0 T.cons=true)(hs:AllI (λk z=>Qqp K w (A.k k)) 0 T.cons):Qaj P w T A K:=λk kvs e=>by
 have c:=(YI (Q:=λk c=>coB K A (A.k k) c=true) (λz z q=>q) co).get k _ e;cases c
noncomputable def glB(K:W.Frag)(A:Adr)(p:Str×G):Bool:=match p.2 with
 |.fn i=>W.nsIn K mainGlobals p.1==some (some (.ref (A.f i)))
 |.cls i=>W.nsIn K mainGlobals p.1==some (some (.ref (A.c i)))
 |.con i=>W.nsIn K mainGlobals p.1==some (some (.ref (A.k i)))
 |.txt t=>(match W.nsIn K mainGlobals p.1 with
  |some (some (.str s _))=>s.cps.toList==t
  |_=>false)
def QoQ(X:K.In h)(G:h.Ns mainGlobals mg){p:Str×Iv.G}(e:glB K A p=true):gvP A mg p.1 p.2:=by
 obtain⟨x,g⟩:=p
 cases g with
 |fn i=>exact W.mg_of X G (by simpa[glB]using e)
 |cls i=>exact W.mg_of X G (by simpa[glB]using e)
 |con i=>exact W.mg_of X G (by simpa[glB]using e)
 |txt t=>
  simp only[glB]at e;split at e
  ·rename_i s k q;have:=V4.mp e;subst this;exact⟨k,W.mg_of X G q⟩
  ·cases e
noncomputable def QnG(K:W.Frag)(T:Tbl)(A:Adr)(gl:List (Str×G))(bl:List Str):Bool:=obB K&&(Qkv (clB K T A) 0 T.cls&&(T.fns'.all (λx=>!(T.mns.contains x))&&(decide T.fns'.Nodup&&(T.isi.all (λp=>W.kitOne K (tyW A p.1.1) (tyW A p.1.2)==some p.2)&&(gl.all (glB K A)&&(bl.all (λx=>W.nsIn K mainGlobals x==some none)&&T.esb.all (λp=>W.exmOne K (.ref (A.c p.1)) (.ref (A.c p.2))==some true)))))))
abbrev FnA(K:W.Frag)(A:Adr)(i:Nat)(F:Fn):Prop:=QcX K (A.f i)=fnT F (QcX K (A.f i))/\fnB K F (A.f i)=true/\((∀v,bindArgs (QcX K (A.f i)) ⟨vsN F.np v,[]⟩=pure (F.ps.zip (vsN F.np v)))\/Binds K (QcX K (A.f i)) F.ps [])
theorem Y7{α:Type}{Q:α->Prop}:∀{l:List α} {n:Nat},(∀a∈l,Q a)->AllI (λz a=>Q a) n l
 |[],_,_=>.nil
 |_::_,_,q=>.cons (q _ Xn) (Y7 λa m=>q a (Xl _ m))
def FnA.at{i:Nat}(q:FnA K A i F):∃fd,FunD K F.name F.qual F.st (A.f i) fd/\Binds K fd F.ps []/\FnScope F.N F.ps (Qp F.st)/\F.ps.length=F.np/\F.N.length=F.nN:=by
 obtain⟨d,s,l,n⟩:=QeL q.1 q.2.1;exact⟨_,d,q.2.2.elim (Qg5 l) id,s,l,n⟩
def QkX(X:K.In h)(G:h.Ns mainGlobals mg)(fns:AllI (FnA K A) 0 T.fns)(co:Qkv (λk c=>coB K A (A.k k) c) 0 T.cons=true)(b:QnG K T A gl bl=true)
  (dfs:AllI (λz (p:Nat×Df)=>∃fd x q st,FunD K x q st (A.f p.1) fd/\Qkx A K fd p.2/\∀F,T.fns[p.1]?=some F->F.ps=p.2.ps/\F.np=p.2.np) 0 T.dfl)
  (er:AllI (λz c=>ErrCls K (A.c c)/\((∀f,T.efl.contains (c,f)= false)/\W.excIn K (A.c c) Qa8 "ValueError.__new__"=true\/∃f x,T.efl.contains (c,f)= true/\(∀f',T.efl.contains (c,f')= true->f'=f)/\T.fns'[f]?=some x/\QcD K mg (A.c c) x)) 0 T.ers): Top T A K mg gl bl:=by
 obtain⟨b1,b2,b3,b4,b5,b6,b7,b8⟩:_/\_/\_/\_/\_/\_/\_/\_:=by simpa only[QnG,Xj]using b
 exact QkW (fns.imp λz z q=>q.at) (YI (λz z e=>Qpe b1 e) b2) b3 (V0 b4) (Y7 λp m=>by simpa using Wj.mp b5 p m) (YI (λz z e=>Qpa e) co) dfs
  (Y7 λp m=>QoQ X G (Wj.mp b6 p m)) (Y7 λx m=>W.mg_none_of X G (by simpa using Wj.mp b7 x m)) er (Y7 λp m=>by simpa using Wj.mp b8 p m)
end
end
end Iv
namespace Iv
open PySem PySem.W PySem.Spec PyProof.Rows
noncomputable def YN(tb:String->Option Builtin)(p:Program)(w:World)(n₀:Nat)(ann:Option Value):Nat->SharedT->Thread->Option SharedT
 |0,_,_=>none
 |n+1,s,t=>match through t with
  |true=>some s
  |false=>match stepOk n₀ ann t with
   |false=>none
   |true=>match stepT (denote tb) p w s t with
    |some (s',t')=>YN tb p w n₀ ann n s' t'
    |none=>none
theorem Qar{tb:String->Option Builtin}{p:Program}{w:World}{n₀:Nat}{ann:Option Value}:∀{n:Nat} {s s':SharedT} {t:Thread},YN tb p w n₀ ann n s t=some s'->topRun tb p w n₀ ann n s.abs t=some s'.abs
 |0,_,_,_,h=>by cases h
 |n+1,s,s',t,h=>by
  unfold YN at h;unfold topRun
  cases he:through t with
  |true=>rw[he]at h;cases h;rfl
  |false=>
   rw[he]at h
   cases hk:stepOk n₀ ann t with
   |false=>rw[hk]at h;cases h
   |true=>
    rw[hk]at h
    cases hs:stepT (denote tb) p w s t with
    |none=>rw[hs]at h;cases h
    |some r=>obtain⟨s₂,t₂⟩:=r;rw[hs]at h;rw[stepT_spec hs];exact Qar h
structure BootT where
 t:Params->BT
 n:Nat
 life:Life
noncomputable def BootT.at(B:BootT)(w:World)(os:OsState):SharedT:=⟨B.t w.params,B.n,B.life,Array.mk [],boot_drawn,boot_toks,os⟩
noncomputable abbrev RunT(p q:Program)(loose:List Str)(Xt:Shared->Bool){α:Type}(Yf:Shared->α)(Ya:World->α)(N:Nat)(g0:Bool)(B:BootT)(m₀:Nat)(ann:Option Value)(w:World):Prop :=
 ∀os:OsState,(YN treeTable p w m₀ ann N (B.at w os) (topStub p)).map (λs=>((staticsOk (importedModules p.main.body) (boot_heap w.params) s.abs.heap&&namesBound p s.abs.heap&&gensDone s.abs&&laidKept (boot_heap w.params) s.abs.heap),openSeen q loose (importedModules p.main.body) Xt g0 s.abs,Yf s.abs))=some (true,openGood q loose,Ya w)
def left_tree{p q:Program}{loose:List Str}{Xt:Shared->Bool}{α:Type}{Yf:Shared->α}{Ya:World->α}{N:Nat}{g0:Bool}{B:BootT}{m₀:Nat}{ann:Option Value}
  (op:opening p=plainProg p.main.scope.names) (hN:Nat.ble 600 N=true) (fm:∀s,fenceModules? p s=some s)
  (hB:∀w:World,absHeap (B.t w.params) B.n B.life=boot_heap w.params)
  (size:∀w:World,((boot_heap w.params).isNs mainGlobals,(boot_heap w.params).objs.size,(boot_heap w.params).nsMap mainGlobals "__annotations__")=(true,m₀,ann))
  (run:∀w,RunT p q loose Xt Yf Ya N g0 B m₀ ann w):LeftO p q loose Xt Yf Ya N g0:=λw=>by
 obtain⟨⟨h,gs,d,k,os⟩,e,e'⟩:=Xd.mp (boot_open (N:=N) op hN fm w)
 obtain⟨rfl,rfl,rfl,rfl⟩:h=boot_heap w.params/\gs=Array.mk []/\d=boot_drawn/\k=boot_toks:=by simpa using e'
 obtain⟨z1,z2,z3⟩:_/\_/\_:=by simpa only[Prod.mk.injEq]using size w
 obtain⟨s1,r,l⟩:=Xd.mp (run w os)
 obtain⟨l1,l2,l3⟩:_/\_/\_:=by simpa only[Prod.mk.injEq]using l
 have r:=Qar r
 have ab:(B.at w os).abs=⟨boot_heap w.params,Array.mk [],boot_drawn,boot_toks,os⟩:=by
  unfold BootT.at SharedT.abs;rw[hB w]
 rw[ab]at r
 have t:topFrom treeTable p w N ⟨boot_heap w.params,Array.mk [],boot_drawn,boot_toks,os⟩=some s1.abs:=by
  unfold topFrom;dsimp only;rw[z1,z2,z3,r]
  show(match staticsOk (importedModules p.main.body) (boot_heap w.params) s1.abs.heap&&namesBound p s1.abs.heap&&gensDone s1.abs&&laidKept (boot_heap w.params) s1.abs.heap with|true=>_|false=>_)=_
  rw[l1]
 unfold openEnds;rw[e];show(topFrom treeTable p w N _).map _=_;rw[t];exact congrArg some (Prod.ext l2 l3)
section
variable (p q:Program)(loose:List Str)(Xt:Shared->Bool)(N:Nat)(g0:Bool)(B:BootT)(m₀:Nat)(ann:Option Value)
noncomputable abbrev Qpv(w:World)(os:OsState):Option SharedT:=YN treeTable p w m₀ ann N (B.at w os) (topStub p)
abbrev PC(as:List Addr)(bs:List (Option Obj))(w:World):Prop:=∀os:OsState,(Qpv p N B m₀ ann w os).map (λs=>as.map λa=>s.abs.heap.get? a)=some bs
variable {p q loose Xt N g0 B m₀ ann}
abbrev PL(p q:Program)(loose:List Str)(Xt:Shared->Bool)(N:Nat)(g0:Bool)(B:BootT)(m₀:Nat)(ann:Option Value)(w:World):Prop:=∀os:OsState,(Qpv p N B m₀ ann w os).map (λs=>((staticsOk (importedModules p.main.body) (boot_heap w.params) s.abs.heap&&namesBound p s.abs.heap&&gensDone s.abs&&laidKept (boot_heap w.params) s.abs.heap),openSeen q loose (importedModules p.main.body) Xt g0 s.abs))=some (true,openGood q loose)
end
abbrev PX(p:Program)(N:Nat)(B:BootT)(m₀:Nat)(ann:Option Value){α:Type}(f:Shared->α)(a:α)(w:World):Prop:=∀os:OsState,(Qpv p N B m₀ ann w os).map (λs=>f s.abs)=some a
noncomputable abbrev f1(q:Program)(s:Shared):=seen ((recsOf q).map (·.name)) (ownsOf q) [] {s with gens:=#[]}
noncomputable abbrev f2(s:Shared):=s.heap.bltView
noncomputable abbrev f3(q:Program)(loose:List Str)(s:Shared):Bool:=s.heap.keysOk (looseW q loose) ((recsOf q).map (·.name)) ((litsOf q).map (·.1)) ((clssOf q (looseW q loose)).map (·.name))
noncomputable abbrev f4(q:Program)(mods:List Str)(Xt:Shared->Bool)(g0:Bool)(s:Shared):Bool:=s.heap.accountedOkI mods&&s.heap.isNs mainGlobals&&s.heap.isNs builtinsNs&&tablesOk q s.heap&&Xt s&&(if g0 then s.gens.size==0 else !leftWithCleanup s.gens)
noncomputable abbrev f5(q:Program)(s:Shared):Bool:=tabsOk q s
noncomputable abbrev f6(q:Program)(loose:List Str)(s:Shared):=(pinSeenD q (drecsOf q) s,plainSeenE q (looseW q loose) s,plainSeenD q loose s)
noncomputable abbrev f7(q:Program)(loose:List Str)(s:Shared):=(wideSeen q s,clsSeenW q loose s)
noncomputable abbrev fA(p:Program)(w:World)(s:Shared):Bool:=staticsOk (importedModules p.main.body) (boot_heap w.params) s.heap&&namesBound p s.heap&&gensDone s&&laidKept (boot_heap w.params) s.heap
abbrev Lk1(p q:Program)(N:Nat)(B:BootT)(m₀:Nat)(ann:Option Value)(w:World):Prop:=PX p N B m₀ ann (λs=>(fA p w s,f1 q s,f2 s)) (true,expectedOf q,bltViewBooted) w
abbrev Lk2(p q:Program)(loose:List Str)(Xt:Shared->Bool)(N:Nat)(g0:Bool)(B:BootT)(m₀:Nat)(ann:Option Value)(w:World):Prop:=PX p N B m₀ ann (λs=>(f3 q loose s,f4 q (importedModules p.main.body) Xt g0 s,f5 q s,f6 q loose s,f7 q loose s)) (true,true,true,(pinGoodD (drecsOf q),plainGoodE q (looseW q loose),plainGoodD q loose),(wideGood q,clsGoodW q loose)) w
abbrev Lk3(p q:Program)(loose:List Str)(N:Nat)(B:BootT)(m₀:Nat)(ann:Option Value)(w:World):Prop:=PX p N B m₀ ann (λs=>(f3 q loose s,f5 q s)) (true,true) w
abbrev Lk5(p q:Program)(Xt:Shared->Bool)(N:Nat)(g0:Bool)(B:BootT)(m₀:Nat)(ann:Option Value)(w:World):Prop:=PX p N B m₀ ann (f4 q (importedModules p.main.body) Xt g0) true w
abbrev Lk4(p q:Program)(loose:List Str)(N:Nat)(B:BootT)(m₀:Nat)(ann:Option Value)(w:World):Prop:=PX p N B m₀ ann (λs=>(f6 q loose s,f7 q loose s)) ((pinGoodD (drecsOf q),plainGoodE q (looseW q loose),plainGoodD q loose),(wideGood q,clsGoodW q loose)) w
noncomputable abbrev QnX(p q:Program)(loose:List Str)(Xt:Shared->Bool){α:Type}(Yf:Shared->α)(g0:Bool)(w:World)(s:Shared):=((staticsOk (importedModules p.main.body) (boot_heap w.params) s.heap&&namesBound p s.heap&&gensDone s&&laidKept (boot_heap w.params) s.heap),openSeen q loose (importedModules p.main.body) Xt g0 s,Yf s)
noncomputable abbrev vF(p q:Program)(w:World)(s:SharedT):=(fA p w s.abs,f1 q s.abs,f2 s.abs)
noncomputable abbrev gF(q:Program):=(true,expectedOf q,bltViewBooted)
noncomputable abbrev vK(p q:Program)(loose:List Str)(Xt:Shared->Bool)(g0:Bool)(s:SharedT):=(f3 q loose s.abs,f4 q (importedModules p.main.body) Xt g0 s.abs,f5 q s.abs)
noncomputable abbrev vL(q:Program)(loose:List Str)(s:SharedT):=(f6 q loose s.abs,f7 q loose s.abs)
noncomputable abbrev gL(q:Program)(loose:List Str):=((pinGoodD (drecsOf q),plainGoodE q (looseW q loose),plainGoodD q loose),(wideGood q,clsGoodW q loose))
end Iv
namespace Iv
open PySem
variable {a e:E}{es:List E}{i:Nat}
section
variable {T:Tbl}{cf:Cf}{d:Nat}{Z:Rho}{hs h1:Hs}{α β:Type}
def Qi{a:α}{f:α->Hs->Option β}:bd (some (a,h1)) f=f a h1:=rfl
def Qal:exs T cf (d+1) [] Z hs=some (.next,Z,hs):=rfl
def QI{s:S}{r:List S}:exs T cf (d+1) (s::r) Z hs=(match ex T cf d s Z hs with
   |some (.next,ρ1,h1)=>exs T cf d r ρ1 h1
   |x=>x):=rfl
def Qdj:ex T cf (d+1) (.expr e) Z hs=bd (ev T cf d e Z hs) λz h1=>some (.next,Z,h1):=rfl
def Qdi:ex T cf (d+1) (.set i e) Z hs=bd (ev T cf d e Z hs) λu h1=>some (.next,Z.set i (some u),h1):=rfl
def Qak:ex T cf (d+1) (.ret e) Z hs=bd (ev T cf d e Z hs) λu h1=>some (.ret u,Z,h1):=rfl
def YJ{t:E}{a b:List S}:ex T cf (d+1) (.ite t a b) Z hs=bd (evT T cf d t Z hs) λc h1=>if c=true then exs T cf d a Z h1 else exs T cf d b Z h1:=by
 rw[ex]
 cases h:evT T cf d t Z hs with
 |none=>rfl
 |some p=>obtain⟨c,h1⟩:=p;cases c<;>rfl
def QkC{t:Tg}{s:Src}{body:List S}:ex T cf (d+1) (.loop t s body) Z hs=bd (Za T (ev T cf d) Z s hs) λw h1=>ZN T w t (exs T cf d body) (Q2 T w h1) 0 Z h1:=rfl
def y_put{o i:E}:ex T cf (d+1) (.put o i e) Z hs=bd (ev T cf d e Z hs) λu h1=>bd (ev T cf d o Z h1) λx h2=>bd (ev T cf d i Z h2) λk h3=>(JI x k u h3).map λh4=>(.next,Z,h4):=rfl
def y_c{u:U}:ev T cf (d+1) (.c u) Z hs=some (u,hs):=rfl
def Qu:ev T cf (d+1) (.var i) Z hs=(match Z[i]? with|some (some u)=>some (u,hs)|_=>none):=rfl
def Qkn{o:Operator}{b:E}:ev T cf (d+1) (.op o a b) Z hs=bd (ev T cf d a Z hs) λu h1=>bd (ev T cf d b Z h1) λw h2=>opU o u w h2:=rfl
def Qnu:ev T cf (d+1) (.neg a) Z hs=bd (ev T cf d a Z hs) λu h1=>(match u with|.int i m=>some (.int (-i) m,h1)|_=>none):=rfl
def Qam{o:CmpOp}{b:E}:ev T cf (d+1) (.cmp o a b) Z hs=bd (ev T cf d a Z hs) λu h1=>bd (ev T cf d b Z h1) λw h2=>(ZC T o u w h2).map λc=>(.bl c,h2):=rfl
def QkB:ev T cf (d+1) (.not a) Z hs=bd (ev T cf d a Z hs) λu h1=>(YB T u h1).map λc=>(.bl (!c),h1):=rfl
def y_tup:ev T cf (d+1) (.tup es) Z hs=bd (evs (ev T cf d) Z es hs) λus h1=>some (.ref h1.length,h1++[.tup us]):=rfl
def y_lst:ev T cf (d+1) (.lst es) Z hs=bd (evs (ev T cf d) Z es hs) λus h1=>some (.ref h1.length,h1++[.lst us]):=rfl
def y_ix{b:E}:ev T cf (d+1) (.ix a b) Z hs=bd (ev T cf d a Z hs) λu h1=>bd (ev T cf d b Z h1) λw h2=>(QH T u w h2).map λx=>(x,h2):=rfl
def Qkz{lo hi:Option E}:ev T cf (d+1) (.sl a lo hi) Z hs=bd (ev T cf d a Z hs) λu h1=>bd (evO (ev T cf d) Z lo h1) λl h2=>bd (evO (ev T cf d) Z hi h2) λr h3=>slU T u l r h3:=rfl
def y_call{f:Nat}:ev T cf (d+1) (.call f es) Z hs=bd (evs (ev T cf d) Z es hs) λus h1=>cf f us h1:=rfl
def y_bi{b:Bi}:ev T cf (d+1) (.bi b es) Z hs=bd (evs (ev T cf d) Z es hs) λus h1=>biU T b us h1:=rfl
def QfI{t:Ty}:ev T cf (d+1) (.isi a t) Z hs=bd (ev T cf d a Z hs) λu h1=>(QbA T t u h1).map λb=>(.bl b,h1):=rfl
def Qko{b:Bm}{o:E}:ev T cf (d+1) (.bm b o es) Z hs=bd (ev T cf d o Z hs) λu h1=>if Qdf b u h1=true then bd (evs (ev T cf d) Z es h1) λus h2=>bmU T b u us h2 else none:=rfl
def Qhh{s:Src}{b:Bool}{t:Option E}{el:E}:ev T cf (d+1) (.comp s b t el) Z hs=bd (Za T (ev T cf d) Z s hs) λw h1=>bd (QS T (ev T cf d) (Z4 (evT T cf d) t) w b el Z (Q2 T w h1) 0 [] h1) λus h2=>some (.ref h2.length,h2++[.lst us]):=rfl
def QfJ{b:E}:ev T cf (d+1) (.and a b) Z hs=bd (ev T cf d a Z hs) λu h1=>(match u with|.bl true=>ev T cf d b Z h1|.bl false=>some (.bl false,h1)|_=>none):=rfl
def QkD:ev T cf (d+1) .dnew Z hs=some (.ref hs.length,hs++[.dic []]):=rfl
def Qhi:evT T cf (d+1) (.not a) Z hs=bd (evT T cf d a Z hs) λc h1=>some (!c,h1):=rfl
def Qao{b:E}:evT T cf (d+1) (.and a b) Z hs=bd (evT T cf d a Z hs) λc h1=>if c=true then evT T cf d b Z h1 else some (false,h1):=rfl
def QfK{b:E}:evT T cf (d+1) (.or a b) Z hs=bd (evT T cf d a Z hs) λc h1=>if c=true then some (true,h1)else evT T cf d b Z h1:=rfl
def Qan{o:CmpOp}{b:E}:evT T cf (d+1) (.cmp o a b) Z hs=bd (ev T cf d (.cmp o a b) Z hs) λu h1=>(YB T u h1).map λc=>(c,h1):=rfl
def QkE:evT T cf (d+1) (.var i) Z hs=bd (ev T cf d (.var i) Z hs) λu h1=>(YB T u h1).map λc=>(c,h1):=rfl
def Qdk{f:Nat}:evT T cf (d+1) (.call f es) Z hs=bd (ev T cf d (.call f es) Z hs) λu h1=>(YB T u h1).map λc=>(c,h1):=rfl
end
end Iv
namespace Iv
open PySem PySem.Spec PyProof.Rows L2
variable {tg:Expr}{H:Hp}{es:List Iv.E}{c d:Nat}{p:Pos}{ir:S}{st:Stmt}{T':Tbl}
def TX(T:Tbl)(A:Adr)(K:W.Frag)(f:Rho->Hs->Option (Nat×Hs))(E:XK):TS:=λz Y H=>∃α Z hs c hs',RS A α Z Y/\Rep T A K α hs H/\f Z hs=some (c,hs') /\
 ∀α' H' dd,Ext α α' H H'->Rep T A K α' hs' H'->EF T H' c dd->E (.ref (A.c c)) dd H'
section
variable {X:Cx}{T:Tbl}{A:Adr}{C:Ctx}{cf:Cf}{m k:Nat}{E:XK}
def Qpy{t:TS}(h:PS X.nox st t):PS X st t:=λpins s Y H D I hw=>
 X4 (h pins s Y H D (I.wish _) hw) (λy y q=>q.unwish) λy y z=>False.elim z
def Qm6{es:List Expr}{t:TA}(h:PA X.nox es t):PA X es t:=λpos pins s Y H Q I hw=>
 X4 (h pos pins s Y H Q (I.wish _) hw) (λy y x=>by obtain⟨vs,H',I',r,q⟩:=x;exact⟨vs,H',I'.unwish,r,q⟩) λy y z=>False.elim z
def TX.run{K:W.Frag}{α:List Addr}{Z:Rho}{Y:St}{hs h1:Hs}{f:Rho->Hs->Option (Nat×Hs)}{D:Ends}(rs:RS A α Z Y)(rp:Rep T A K α hs H)(h:f Z hs=some (c,h1))
  (q:∀α1 H1 dd,Ext α α1 H H1->Rep T A K α1 h1 H1->EF T H1 c dd->E (.ref (A.c c)) dd H1):TX T A K f E D Y H:=⟨α,Z,hs,c,h1,rs,rp,h,q⟩
def Qf4{e f:Option Expr}{args:List Expr}(h:Qf5 C e f=some (c,args)): ∃x px q,e=some (.Call (.Name x px) args [] q)/\f=none/\Zr C x=true/\x≠"__debug__"/\C.gl.lookup x=some (.cls c)/\C.T.ers.contains c=true:=by
 unfold Qf5 at h;split at h
 ·split at h
  ·rename_i q;simp only[Xj,Xq]at q;split at h
   ·rename_i z;split at h
    ·rename_i z2;cases h;exact⟨_,_,_,rfl,rfl,q.1,q.2,z,z2⟩
    ·cases h
   ·cases h
  ·cases h
 ·cases h
structure SndX(T:Tbl)(A:Adr)(C:Ctx)(X:Cx)(cf:Cf)(E:XK)(m:Nat):Prop where
 s:∀d st ir,QR m C st=some ir->PS X st (TX T A X.K (exX T cf d ir) E)
 ss:∀d sts irs,compSs m C sts=some irs->PSs X sts (TX T A X.K (exsX T cf d irs) E)
noncomputable def kdX:S->Bool
 |.rse ..|.ite ..|.cal ..|.loop ..=>true
 |_=>false
def nx(o:Option S):Prop:=∀ir,o=some ir->kdX ir=false
def QX:nx none:=λz h=>nomatch h
def Zf{s:S}(h:kdX s=false):nx (some s):=λz e=>by cases e;exact h
def Zw{α:Type}{o:Option α}{f:α->Option S}(h:∀a,nx (f a)):nx (o.bind f):=by
 cases o with
 |none=>exact QX
 |some a=>exact h a
def QhO{α:Type}{o:Option α}{f:α->S}(h:∀a,kdX (f a)=false):nx (o.map f):=by
 cases o with
 |none=>exact QX
 |some a=>exact Zf (h a)
def Qgq{c:Prop}[Decidable c]{a b:Option S}(ha:nx a)(hb:nx b):nx (if c then a else b):=by
 by_cases h:c
 ·rw[if_pos h];exact ha
 ·rw[if_neg h];exact hb
def JK(h1:∀e f p,st≠.Raise e f p)(h2:∀t a b p,st≠.If t a b p)(h3:∀tg it a o p,st≠.For tg it a o p):nx (QR (m+1) C st):=by
 cases st with
 |Raise e f p=>exact absurd rfl (h1 e f p)
 |If t a b p=>exact absurd rfl (h2 t a b p)
 |Pass=>exact Zf rfl
 |Break=>exact Zf rfl
 |Continue=>exact Zf rfl
 |Expr e p=>
  unfold QR;dsimp only;generalize QoU e=z
  rcases z with _|_|_
  ·exact QhO λw=>rfl
  ·exact QX
  ·exact Zf rfl
 |Return v p=>
  cases v with
  |none=>exact Zf rfl
  |some e=>exact QhO λw=>rfl
 |Assign ts e p=>
  unfold QR;dsimp only;generalize Qkb ts=z
  rcases z with _|z
  ·exact QX
  ·cases z with
   |nm x=>exact Qgq (Zw λw=>Qgq (Zf rfl) (Zw λw=>Zf rfl)) QX
   | «at» o f=>exact QX
   |sub o i=>exact Qgq (Zw λw=>Zw λw=>Zw λw=>Zf rfl) QX
   |two x p y q=>exact QX
   |many es=>exact QX
 |Try b hs o fn p=>exact Qgq (Zw λw=>Zw λw=>Zw λw=>Zf rfl) QX
 |While t a o p=>
  cases o with
  |cons _ _=>exact QX
  |nil=>exact QX
 |For tg it a o p=>exact absurd rfl (h3 tg it a o p)
 |_=>exact QX
def Qq8(C:Ctx)(m:Nat)(tg it:Expr)(a:List Stmt):S->Prop
 |.loop t s b=>Yt C tg=some t/\compSrc m C it=some s/\Qbs s t=true/\compSs m C a=some b
 |.loopK ..=>True
 |.loopC ..=>True
 |.loopD ..=>True
 |_=>False
def Z5{it:Expr}{a o:List Stmt}(h:QR (m+1) C (.For tg it a o p)=some ir):o=[]/\Qq8 C m tg it a ir:=by
 cases o with
 |cons _ _=>exact nomatch (show none=some _ from h)
 |nil=>
  unfold QR at h;simp only[Xb]at h;obtain⟨tg',ht,it',hi,h⟩:=h;split at h
  ·simp only[Xb]at h;obtain⟨_,_,_,_,h⟩:=h;cases h;exact⟨rfl,trivial⟩
  ·split at h
   ·rename_i ok;simp only[Xb]at h;obtain⟨a',ha,h⟩:=h;cases h;exact⟨rfl,ht,hi,ok,ha⟩
   ·cases h
def Qnk(st:Stmt):(∃e f p,st=.Raise e f p)\/(∃t a b p,st=.If t a b p)\/(∃tg it a o p,st=.For tg it a o p)\/((∀e f p,st≠.Raise e f p)/\(∀t a b p,st≠.If t a b p)/\∀tg it a o p,st≠.For tg it a o p):=by
 cases st with
 |Raise e f p=>exact .inl ⟨e,f,p,rfl⟩
 |If t a b p=>exact .inr (.inl ⟨t,a,b,p,rfl⟩)
 |For tg it a o p=>exact .inr (.inr (.inl ⟨tg,it,a,o,p,rfl⟩))
 |_=>exact .inr (.inr (.inr ⟨λy y y z=>(nomatch z),λy y y y z=>(nomatch z),λy y y y y z=>(nomatch z)⟩))
def Zn{e f:Option Expr}(h:QR (m+1) C (.Raise e f p)=some ir):ir=.bad\/∃c args es,Qf5 C e f=some (c,args)/\compA m C args=some es/\ir=.rse c es:=by
 unfold QR at h;try dsimp only at h;split at h
 ·rename_i c args hr;simp only[Xb]at h;obtain⟨es,he,h⟩:=h;cases h;exact .inr ⟨c,args,es,hr,he,rfl⟩
 ·cases h;exact .inl rfl
def YG{t0:Expr}{a0 b0:List Stmt}(h:QR (m+1) C (.If t0 a0 b0 p)=some ir):∃t a b,compT m C t0=some t/\compSs m C a0=some a/\compSs m C b0=some b/\ir=.ite t a b:=by
 unfold QR at h;simp only[Xb]at h;obtain⟨t',ht,a',ha,b',hb,h⟩:=h;cases h;exact⟨t',a',b',ht,ha,hb,rfl⟩
def Qff(h:QR (m+1) C st=some (.rse c es)): ∃x px q args p,st=.Raise (some (.Call (.Name x px) args [] q)) none p/\compA m C args=some es/\Zr C x=true/\x≠"__debug__"/\C.gl.lookup x=some (.cls c)/\C.T.ers.contains c=true:=by
 rcases Qnk st with⟨e,f,p,rfl⟩|⟨t,a,b,p,rfl⟩|⟨tg,it,a,o,p,rfl⟩|⟨h1,h2,h3⟩
 ·rcases Zn h with z|⟨c',args,es',hr,he,z⟩
  ·cases z
  ·cases z;obtain⟨x,px,q,rfl,rfl,h1,h2,h3,h4⟩:=Qf4 hr;exact⟨x,px,q,args,p,rfl,he,h1,h2,h3,h4⟩
 ·obtain⟨_,_,_,_,_,_,z⟩:=YG h;cases z
 ·exact(Z5 h).2.elim
 ·exact nomatch JK h1 h2 h3 _ h
def Qfg{t:Iv.E}{a b:List S}(h:QR (m+1) C st=some (.ite t a b)):∃t0 a0 b0 p,st=.If t0 a0 b0 p/\compT m C t0=some t/\compSs m C a0=some a/\compSs m C b0=some b:=by
 rcases Qnk st with⟨e,f,p,rfl⟩|⟨t0,a0,b0,p,rfl⟩|⟨tg,it,a,o,p,rfl⟩|⟨h1,h2,h3⟩
 ·rcases Zn h with z|⟨_,_,_,_,_,z⟩<;>cases z
 ·obtain⟨t',a',b',ht,ha,hb,z⟩:=YG h;cases z;exact⟨t0,a0,b0,p,rfl,ht,ha,hb⟩
 ·exact(Z5 h).2.elim
 ·exact nomatch JK h1 h2 h3 _ h
def Qc3{t:Tg}{s:Src}{b:List S}(h:QR (m+1) C st=some (.loop t s b)):∃tg it a p,st=.For tg it a [] p/\Yt C tg=some t/\compSrc m C it=some s/\Qbs s t=true/\compSs m C a=some b:=by
 rcases Qnk st with⟨e,f,p,rfl⟩|⟨t0,a0,b0,p,rfl⟩|⟨tg,it,a,o,p,rfl⟩|⟨h1,h2,h3⟩
 ·rcases Zn h with z|⟨_,_,_,_,_,z⟩<;>cases z
 ·obtain⟨_,_,_,_,_,_,z⟩:=YG h;cases z
 ·obtain⟨rfl,q⟩:=Z5 h;exact⟨tg,it,a,p,rfl,q⟩
 ·exact nomatch JK h1 h2 h3 _ h
def Qfh{n:S}{f:Nat}(h:QR (m+1) C st=some (.cal n f es)):False:=by
 rcases Qnk st with⟨e,f,p,rfl⟩|⟨t0,a0,b0,p,rfl⟩|⟨tg,it,a,o,p,rfl⟩|⟨h1,h2,h3⟩
 ·rcases Zn h with z|⟨_,_,_,_,_,z⟩<;>cases z
 ·obtain⟨_,_,_,_,_,_,z⟩:=YG h;cases z
 ·exact(Z5 h).2
 ·exact nomatch JK h1 h2 h3 _ h
def QgY{x:Str}{as:List Expr}{t:Nat×List Expr}(h:QgZ C x as=some t): Zr C x=true/\x≠"__debug__"/\C.gl.lookup x=some (.fn t.1)/\t.2=as:=by
 unfold QgZ at h;rw[Xb]at h;obtain⟨k,hk,h⟩:=h;rw[Wu]at h;obtain⟨_,h⟩:=h;cases h;obtain⟨h1,h2,h3⟩:=QbW hk;exact⟨h1,h2,h3,rfl⟩
def Qag{e:Expr}{t:Nat×List Expr}(h:Qg0 C e=some t): ∃f pf a args q,e=.Call (.Name f pf) (a::args) [] q/\t.2=a::args/\Zr C f=true/\f≠"__debug__"/\C.gl.lookup f=some (.fn t.1):= by
 cases e with
 |Call g as ks q=>
  cases g with
  |Name f pf=>
   cases as with
   |nil=>cases h
   |cons a r=>
    cases ks with
    |cons _ _=>cases h
    |nil=>
     obtain⟨h1,h2,h3,h4⟩:=QgY (show QgZ C f (a::r)=some t from h);exact⟨f,pf,a,r,q,rfl,h4,h1,h2,h3⟩
  |_=>exact nomatch (show none=some _ from h)
 |_=>exact nomatch (show none=some _ from h)
def QjZ{e:Expr}{t:Nat×List Expr}(h:Qnm C e=some t): Qg0 C e=some t\/∃p e1 q,e=.Call (.Name "list" p) [e1] [] q/\Zr C "list"=true/\¬C.bl.contains ("list":Str)= false/\Qg0 C e1=some t:=by
 unfold Qnm at h;split at h
 ·rename_i z;cases h;exact .inl z
 cases e with
 |Call g as ks q=>
  cases g with
  |Name x p=>
   have z:(if x="list"&&Zr C x&&(C.gl.lookup x).isNone&&C.bl.contains x then(match as with|[e]=>(match ks with|[]=>Qg0 C e|_::_=>none)|_=>none)else none)=some t:=h
   clear h;rw[Wu]at z;obtain⟨c,z⟩:=z;simp only[Xj,Xq]at c;obtain⟨⟨⟨rfl,c1⟩,_⟩,c3⟩:=c
   cases as with
   |nil=>cases z
   |cons e1 r=>
    cases r with
    |cons _ _=>cases z
    |nil=>
     cases ks with
     |cons _ _=>cases z
     |nil=>exact .inr ⟨p,e1,q,rfl,c1,by rw[c3];decide,z⟩
  |_=>exact nomatch (show none=some _ from h)
 |_=>exact nomatch (show none=some _ from h)
def TXE(T:Tbl)(A:Adr)(K:W.Frag)(f:Rho->Hs->Option (Nat×Hs))(E:XK):TE:=λY H z=>∃α Z hs c hs',RS A α Z Y/\Rep T A K α hs H/\f Z hs=some (c,hs') /\
 ∀α' H' dd,Ext α α' H H'->Rep T A K α' hs' H'->EF T H' c dd->E (.ref (A.c c)) dd H'
abbrev Qkm(X:Cx)(A:Adr)(E:XK):Prop:=∀pins Y H H' s s' e B a0 c dd,Inv X pins Y H s->Inv X pins Y H' s'->Heap.FlyingW B X.stack e (.ref (A.c c)) a0 s'.heap->Cov B H' s X.stack->H' e=none->X.s₀.heap.get? e=none->DictAt s'.heap e dd->E (.ref (A.c c)) dd H'->X.xe (.ref e) s'
def Qb9{f:Str}{pf q1:Pos}{a:Expr}{args:List Expr}{i:Nat}(hxf:Qkm X A E)(bX:Bd X)(g:GX T A C X.nox)(F:Fc X.nox T A cf k)(hr:Room k X.A)(S:Snd T A C X.nox cf m)(gf:Zr C f=true)(df:f≠"__debug__")(lf:C.gl.lookup f=some (.fn i))(ha:compA m C (a::args)=some es)(n:Iv.S):
  PE X (.Call (.Name f pf) (a::args) [] q1) (TXE T A X.K (exX T cf (d+1) (.cal n i es)) E):=by
 have hns:=Qt ha;have st:starEach (a::args) X.env=(false,eval a X.env)::starEach args X.env:=Qn (hns a (Xn ..));have sa:(backTo q1 (starEach args X.env)).any (·.1)=false:=Q9 λz hz=>hns z (Xl _ hz);intro pins s Y H Q I q;obtain⟨α,Z,hs0,c',h2,rs,R,e,q⟩:=q;simp only[exX]at e;obtain⟨us,hh1,e1,e⟩:=Qe e;rw[Wu]at e;obtain⟨c3,ex'⟩:=e
 cases hF:T.fns[i]? with
 |none=>rw[hF]at c3;cases c3
 |some Fn=>
 rw[hF]at c3;have c3:us.length=Fn.np:=V0 c3;obtain⟨fd,G,bb,kp⟩:=F.xf i Fn hF;refine Vd (ZG I (show Gl X f from QN (X:=X.nox) g gf) (g.gfn f i lf) ?_ (QL df));have pa0:=Qm6 (S.a d (a::args) es ha) q1 pins s Y H (λvs H1=>∃α1,Ext α α1 H H1/\Rep T A X.K α1 hh1 H1/\RUs A α1 us vs) I ⟨α,Z,hs0,us,hh1,rs,R,e1,λα' vs H' E' R' r'=>⟨α',E',R',r'⟩⟩;refine W.callWith_K (h₀:=X.base) I.ok.mod.kin kp (X4 pa0 (λus1 s1 ⟨vs,H1,I1,r,α1,E1,R1,ru⟩=>⟨I1.kIn,?_⟩) λy y z=>z) st sa
 have ll:us1.length=Fn.ps.length:=by
  obtain⟨fd',fn',_,_,lp,_⟩:=g.txt.fn i Fn hF;rw[lp,<-c3,ru.length,r.length]
 have hsp:spX T A X.K T.xf i vs H1 (λy y=>False) (λCv o H'=>Cv=.ref (A.c c')/\EF T H' c' o/\∃α',Ext α1 α' H1 H'/\Rep T A X.K α' h2 H'):=
  ⟨α1,us,hh1,c',h2,ru,R1,ex',⟨Fn,hF,c3⟩,λα' H' dd E' R' ef=>⟨rfl,ef,α',E',R'⟩⟩
 refine wpAny_call (T5 (G.run X.A X.stack s1 H1 ⟨us1,[]⟩ us1 vs _ _ hr I1.env0 (by have:=bb s1 us1 I1.kIn (by rw[W9];exact ll);rw[W9]at this;exact this) r hsp) λrr s' hq=>?_)
 cases rr with
 |ok fl=>
  cases fl with
  |ret u=>
   obtain⟨_,_,_,_,_,_,_,z⟩:=hq;exact z.elim
  |next=>exact False.elim hq
  |brk=>exact False.elim hq
  |cont=>exact False.elim hq
 |error ev=>
  obtain⟨e0,C0,H',B,a0,dd,rfl,J,flw,cv,hn,hs1,h00,da,⟨hC,ef,α2,E2,R2⟩⟩:=Qmw I1 bX.ex (show CXw X.prog X.w X.stack H1 s1 (λCv o H'=>Cv=.ref (A.c c')/\EF T H' c' o/\∃α',Ext α1 α' H1 H'/\Rep T A X.K α' h2 H') ev s' from hq);cases hC;exact hxf pins Y H1 H' s1 s' e0 B a0 c' dd I1 J flw cv hn h00 da (q α2 H' dd (E1.trans E2 R2.h) R2 ef)
def Qn5{stt:Stmt}{t:Nat×List Expr}{n:Iv.S}(hxf:Qkm X A E)(bX:Bd X)(g:GX T A C X.nox)(fl:∀x,X.fn x=true\/X.env.scope.names.lookup x=some .local)(F:Fc X.nox T A cf k)(hr:Room k X.A)(S:Snd T A C X.nox cf m)(ht:QmK C stt=some t)(ha:compA m C t.2=some es):
  PS X stt (TX T A X.K (exX T cf (d+1) (.cal n t.1 es)) E):=by
 cases stt with
 |Assign ts e p=>
  change Qpg C ts e=some t at ht
  unfold Qpg at ht;split at ht
  ·rename_i x hx;obtain⟨px,rfl⟩:=QbP hx;rw[Wu]at ht;obtain⟨hl,ht⟩:=ht;rw[Xj]at hl;obtain⟨i,hi⟩:=Uh.mp hl.2;obtain⟨f,pf,a,args,q,rfl,h1,gf,df,lf⟩:=Qag ht;rw[h1]at ha
   exact Q8 (Qaz (i:=i) g.nd (by have:=g.N;rw[show X.N=X.nox.N from rfl,this];exact Zg hi) (Jm (X:=X.nox) g hl.1) (Qb9 hxf bX g F hr S gf df lf ha n) rfl (fl x)) λD Y H z=>z
  ·cases ht
 |Return v p=>
  cases v with
  |none=>cases ht
  |some e=>
   rcases QjZ (show Qnm C e=some t from ht)with hE|⟨p1,e1,q1,rfl,gl,hb,hE⟩
   ·obtain⟨f,pf,a,args,q,rfl,h1,gf,df,lf⟩:=Qag hE;rw[h1]at ha;exact Q8 (QdW (Qb9 hxf bX g F hr S gf df lf ha n)) λD Y H z=>z
   ·obtain⟨f,pf,a,args,q,rfl,h1,gf,df,lf⟩:=Qag hE;rw[h1]at ha
    exact Q8 (QdW (ZU (T:="list") (r:=λy y y=>False) (λy y y y y y y y y z=>z.elim) (show Gl X "list" from QN (X:=X.nox) g gl) (g.blt _ hb) (by decide +kernel) (Zv (Qb9 (d:=d) hxf bX g F hr S gf df lf ha n) Ji rfl) (by decide) (by decide) rfl rfl)) λD Y H z=>z
 |Expr e p=>
  obtain⟨f,pf,a,args,q,rfl,h1,gf,df,lf⟩:=Qag (show Qg0 C e=some t from ht);rw[h1]at ha;exact Q8 (Qbm (Qb9 hxf bX g F hr S gf df lf ha n) rfl) λD Y H z=>z
 |_=>exact nomatch (show none=some _ from ht)
def Qpz{it:Expr}{wi:L2.TI}(h:PI X.nox tg it wi):PI X tg it wi:=λpins s Y H R I hw=>
 X4 (h pins s Y H R (I.wish _) hw) (λv s1 z=>X4 z (λitv s2 y=>by obtain⟨it,fp,tn,J,H2,e,I2,T,st,f2,r⟩:=y;exact⟨it,fp,tn,J,H2,e,I2.unwish,T,st,f2,r⟩) λx x z=>False.elim z) λx x z=>False.elim z
def QpA{g:TG}(h:PG X.nox tg g):PG X tg g:=λpins s Y H v u Q I r hw=>
 X4 (h pins s Y H v u Q (I.wish _) r hw) (λy s' x=>by obtain⟨Y',H',I',q⟩:=x;exact⟨Y',H',I'.unwish,q⟩) λy y z=>False.elim z
def Qm4{st:List Stmt}{t:TS}(h:PSs X.nox st t):PSs X st t:=λpins s Y H D I hw=>
 X4 (h pins s Y H D (I.wish _) hw) (λy y q=>q.unwish) λy y z=>False.elim z
def Qm5{b:List Stmt}{t1 t2:TS}(h1:PSs X b t1)(h2:PSs X b t2):PSs X b (λD Y H=>t1 D Y H\/t2 D Y H):=λpins s Y H D I z=>z.elim (h1 pins s Y H D I) (h2 pins s Y H D I)
def QeM{body:List S}{w:Wk}{t:Tg}{J:It}{D:Ends}{α0:List Addr}{H0:Hp}{σ0:St}{ρ0:Rho}{h0 hs':Hs}{n:Nat}(tx:Txt T A X.K X.mg)(rs0:RS A α0 ρ0 σ0)(R0:Rep T A X.K α0 h0 H0)(W0:WJ A X.K α0 J H0 w)
  (e0:QfG T w t (exs T cf d body) (exsX T cf d body) n 0 ρ0 h0=some (c,hs'))
  (q:∀α' H' dd,Ext α0 α' H0 H'->Rep T A X.K α' hs' H'->EF T H' c dd->E (.ref (A.c c)) dd H'):
  ∃W:Nat->Nat->St->Hp->Prop,(∃m,W 0 m σ0 H0)/\∀i m Y H,W i m Y H->(J.stop i H/\D.nx Y H)\/(J.go i H/\∃N:St->Hp->Prop,(∀Y' H',N Y' H'->∃m',m'<m/\W (i+1) m' Y' H') /\
   ∀x H',J.yld i H x H'->gT X.K t x Y H' λσ2 H2=>TIS T A X.K (exs T cf d body) {D with nx:=N,ct:=N,bk:=D.nx} σ2 H2\/TX T A X.K (exsX T cf d body) E {D with nx:=N,ct:=N,bk:=D.nx} σ2 H2):=by
 refine⟨λi m Y H=>∃α Z hs,RS A α Z Y/\Rep T A X.K α hs H/\Ext α0 α H0 H/\QfG T w t (exs T cf d body) (exsX T cf d body) m i Z hs=some (c,hs'),⟨n,α0,ρ0,h0,rs0,R0,Ext.refl,e0⟩,?_⟩;rintro i m Y H ⟨α,Z,hs,rs,R,E0,e⟩
 cases m with
 |zero=>cases e
 |succ m=>
  have W:=W0.mono E0.pre E0.fz;simp only[QfG]at e;split at e
  ·cases e
  ·cases e
  ·rename_i x ei;split at e
   ·cases e
   ·rename_i ρ1 et;obtain⟨go,yl⟩:=Qco tx R W rs ei et;refine .inr ⟨go,λY' H'=>∃α Z hs,RS A α Z Y'/\Rep T A X.K α hs H'/\Ext α0 α H0 H'/\QfG T w t (exs T cf d body) (exsX T cf d body) m (i+1) Z hs=some (c,hs'),λY' H' z=>⟨m,Ul _,z⟩,?_⟩;intro v H' hy;refine yl v H' _ hy λσ2 rs2 R2 E2=>?_;have E02:Ext α0 α H0 H':=E0.trans E2 R2.h;split at e
    ·rename_i ρ2 h2 eb;exact .inl (TIS.run rs2 R2 eb λα3 σ3 H3 E3 R3 rs3=>⟨α3,ρ2,h2,rs3,R3,E02.trans E3 R3.h,e⟩)
    ·rename_i ρ2 h2 eb;exact .inl (TIS.run rs2 R2 eb λα3 σ3 H3 E3 R3 rs3=>⟨α3,ρ2,h2,rs3,R3,E02.trans E3 R3.h,e⟩)
    ·cases e
    ·exact .inr (TX.run rs2 R2 e λα3 H3 dd E3 R3 f3=>q α3 H3 dd (E02.trans E3 R3.h) R3 f3)
theorem QpW(hxe:∀pins Y H s h' e vs c,Inv X pins Y H s->Heap.MadeExcOf s.heap h' e (.ref (A.c c)) vs->E (.ref (A.c c)) none H->X.xe (.ref e) {s with heap:=h'})(hxi:∀pins Y H s e oe vs a0 c,Inv X pins Y H s->H e=none->X.s₀.heap.get? e=none->e≠X.env.locals->s.heap.get? e=some oe->oe.cls=.ref (A.c c)->oe.data=.fields vs->vs[0]?=some a0->vs[1]?=some .none->E (.ref (A.c c)) oe.dict H->X.xe (.ref e) s)(hxf:Qkm X A E)(hpo:PassesOwn (model X.prog X.w) X.A X.env X.xe)(bX:Bd X)(g:GX T A C X.nox)(fl:∀x,X.fn x=true\/X.env.scope.names.lookup x=some .local)(F:Fc X.nox T A cf k)(hr:Room (k+1) X.A)(hr3:Room 3 X.A):∀m,SndX T A C X cf E m
 |0=>⟨λd st ir h=>by first|exact Znn h|simp[QR]at h,λd sts irs h=>by exact Znn h⟩
 |m+1=>by
  have IH:=QpW hxe hxi hxf hpo bX g fl F hr hr3 m;have N:Snd2 T A C X.nox cf m:=Qf0 m g F (λy=>hr) hr.units;have NS:SndS T A C X.nox cf m:=QnT (X:=X.nox) ⟨bX.stk,bX.frm,bX.ex,bX.cm⟩ g fl F hr m;refine⟨λd st ir h=>?_,λd sts irs h=>?_⟩
  ·cases d with
   |zero=>exact ZL λD Y H v=>by obtain⟨_,_,_,_,_,_,_,e,_⟩:=v;cases e
   |succ d=>
   cases ir with
   |rse c es=>
    obtain⟨x,px,q,args,p,rfl,ha,g1,g2,g3,g4⟩:=Qff h;have cl:=g.gcl x c g3;rw[g.CT]at g4;have xk:=(g.txt.er c g4).2
    have en:(∀f,T.efl.contains (c,f)=false)->∀H,EF T H c none:=λz H f q=>by rw[z f]at q;cases q
    have pa:=Qm6 (N.s.a d args es ha);have ln:=Q7 ha
    cases args with
    |nil=>
     have ee:es=[]:=by simpa using ln
     subst ee
     rcases xk with⟨nf,xk⟩|⟨f,x1,hf,uq,hx1,hh⟩
     case inr=>exact hh.elim
     refine Q8 (QdX (W:=λH=>E (.ref (A.c c)) none H) xk (show Gl X x from QN (X:=X.nox) g g1) cl bX.cm (λpins Y H s h' e vs I mx w=>hxe pins Y H s h' e vs c I mx w) (QL g2)) ?_;rintro D Y H ⟨α,Z,hs,c',hs',rs,R,e,q⟩;simp only[exX,evs,bd]at e;rw[Wu]at e;obtain⟨_,e⟩:=e;cases e;exact q α H none Ext.refl R (en nf H)
    |cons a r=>
     rcases xk with⟨nf,xk⟩|⟨f,x1,hf,uq,hx1,hh⟩
     case inr=>exact hh.elim
     refine Q8 (Qgc (W:=λH=>E (.ref (A.c c)) none H) xk (show Gl X x from QN (X:=X.nox) g g1) cl bX.cm pa (λpins Y H s h' e vs I mx w=>hxe pins Y H s h' e vs c I mx w) (Qn (Qt ha a (Xn ..))) (Q9 λz hz=>Qt ha z (Xl _ hz)) (QL g2)) ?_;rintro D Y H ⟨α,Z,hs,c',hs',rs,R,e,q⟩;simp only[exX]at e;obtain⟨us,h1,e1,e⟩:=Qe e;rw[Wu]at e;obtain⟨⟨_,lz,_⟩,e⟩:=e;cases e;refine TIA.run rs R e1 λα1 vs H1 E1 R1 r1 rs1=>⟨?_,q α1 H1 none E1 R1 (en nf H1)⟩;rw[<-r1.length,YZ e1]
     exact Wd lz (by decide)
   |ite t a b=>
    obtain⟨t0,a0,b0,p,rfl,ht,ha,hb⟩:=Qfg h;refine Q8 (QlC (PT.nox (N.s.t d t0 t ht).1) (IH.ss d a0 a ha) (IH.ss d b0 b hb)) ?_;rintro D Y H ⟨α,Z,hs,c',hs',rs,R,e,q⟩;simp only[exX]at e;split at e
    ·rename_i h1 e1;refine TIT.run rs R e1 λα1 H1 E1 R1 rs1=>?_;rw[if_pos rfl];exact TX.run rs1 R1 e λα2 H2 dd E2 R2 f2=>q α2 H2 dd (E1.trans E2 R2.h) R2 f2
    ·rename_i h1 e1;refine TIT.run rs R e1 λα1 H1 E1 R1 rs1=>?_;rw[if_neg X3];exact TX.run rs1 R1 e λα2 H2 dd E2 R2 f2=>q α2 H2 dd (E1.trans E2 R2.h) R2 f2
    ·cases e
   |cal n f es=>exact(Qfh h).elim
   |loop t s b=>
    obtain⟨tg,it,a,p,rfl,ht,hi,ok,ha⟩:=Qc3 h;refine Q8 (QdY hpo bX.cm (Qpz (N.w d it _ tg hi (Qhp ht ok))) (QpA (Qn0 (X:=X.nox) bX.cm g fl ht)) (Qm5 (Qm4 (NS.ss d a b ha)) (IH.ss d a b ha)) (QaC hi)) ?_;rintro D Y H ⟨α,Z,hs,c',hs',rs,R,e,q⟩;simp only[exX]at e;obtain⟨w,h1,e1,e⟩:=Qe e;refine⟨α,Z,hs,w,h1,rs,R,e1,λα1 J H1 E1 R1 W1=>?_⟩;exact QeM g.txt (rs.mono E1.pre) R1 W1 e λα2 H2 dd E2 R2 f2=>q α2 H2 dd (E1.trans E2 R2.h) R2 f2
   |_=>exact ZL λD Y H u=>by obtain⟨_,_,_,_,_,_,_,e,_⟩:=u;simp[exX]at e
  ·cases d with
   |zero=>exact Z9 λD Y H o=>by obtain⟨_,_,_,_,_,_,_,e,_⟩:=o;cases e
   |succ d=>
   cases sts with
   |nil=>
    cases h
    exact Z9 λD Y H l=>by obtain⟨_,_,_,_,_,_,_,e,_⟩:=l;simp[exsX]at e
   |cons st r=>
    simp only[compSs,Xb]at h;obtain⟨s0,hs0,s',hs',r',hr',h⟩:=h;cases h
    have IS:PS X st (TX T A X.K (exX T cf d s') E):=by
     unfold Qnl at hs';split at hs'
     ·rename_i t ht;simp only[Xd]at hs';obtain⟨es,ha,rfl⟩:=hs'
      cases d with
      |zero=>exact ZL λD Y H j=>by obtain⟨_,_,_,_,_,_,_,e,_⟩:=j;cases e
      |succ d=>exact Qn5 hxf bX g fl F (hr.mono (Ut _)) N.s ht ha
     ·cases hs';exact IH.s d st s0 hs0
    intro pins s Y H D I z;obtain⟨α,Z,hs,c',hs2,rs,R,e,q⟩:=z;simp only[exsX]at e;split at e
    ·rename_i ρ1 h1 e1;refine YC (Qpy (Qh7 hs' (λd=>NS.s d st s0 hs0) d)) (IH.ss d r r' hr') pins s Y H D I ?_;exact TIS.run rs R e1 λα1 σ1 H1 E1 R1 rs1=>TX.run (D:=D) rs1 R1 e λα2 H2 dd E2 R2 f2=>q α2 H2 dd (E1.trans E2 R2.h) R2 f2
    ·cases e
    ·refine YC IS (Z9 (t:=λy y y=>False) λy y y z=>z) pins s Y H D I ?_;exact TX.run (D:=D) rs R e q
end
section
variable {P:Program}{w:World}{K:W.Frag}{mg:Str->Option Value}{base:Heap}{T:Tbl}{A:Adr}{gl:List (Str×G)}{bl:List Str}
def QjH{rm:Nat}(tp:Top T A K mg gl bl)(tab:Qaj P w T A K)(hb:Y9 T gl bl)(hX:XOk P w K mg base T A rm)(m f:Nat)(F:Fn)(hF:T.fns[f]?=some F):∃fd,FnOk P w K mg base (CXw P w) (rm+2+2*m) (A.f f) fd F.ps (spX T A K (Z8 T m) f)/\Binds K fd F.ps []/\W.keepIn K (.ref (A.f f))=true:=by
 obtain⟨fd,fn,b,sc,lp,lN⟩:=tp.txt.fn f F hF;refine⟨fd,?_,b,fn.kp⟩
 cases m with
 |zero=>
  have no:∀vs H Q E,¬spX T A K (Z8 T 0) f vs H Q E:=λvs H Q E h=>by
   obtain⟨α,us,hs,u,hs',_,_,e,_⟩:=h;cases e
  exact⟨λvs H Q E h=>absurd h (no vs H Q E),λA outer s H args us vs Q E z z z z h=>absurd h (no vs H Q E)⟩
 |succ n=>
  obtain⟨oc,od,dV,kV,doc,pm,an,cdv,ct,osl,rfl,lk,hcd⟩:=fn.ex;obtain⟨m,hm⟩:=hb f F hF;refine Qmv (k:=rm+2+2*n+1) lk hcd sc (λvs H Q E h=>?_) (λA' outer s H vs Q E hr h=>?_)
  ·obtain⟨α,us,hs,u,hs',r,_,_,⟨F',h1,h2⟩,_⟩:=h;rw[hF]at h1;cases h1;rw[<-r.length,h2,lp]
  ·obtain⟨α,us,hs,c,hs',r,R,e,_,q⟩:=h;refine⟨TX T A K (exsX T (Qa T n) dd F.body) E,?_,?_⟩
   ·have gx:GX T A ⟨T,F.N,(Qp F.st).names,gl,bl,F.lc⟩ (Qe9 (CXw P w) P w K mg base F.N F.qual (Qp F.st) (A.f f) cdv A' outer s H E).nox :=
     ⟨rfl,rfl,sc.nd,rfl,λz=>rfl,sc.kind,rfl,tp.gfn,tp.gcl,tp.gco,tp.gtx,tp.blt,tp.txt,tab⟩
    have fc:Fc (Qe9 (CXw P w) P w K mg base F.N F.qual (Qp F.st) (A.f f) cdv A' outer s H E).nox T A (Qa T n) (rm+2*n):=⟨λf' F' h'=>by
     obtain⟨fd',G,b',kp,_⟩:=QaN tp tab hb hX n f' F' h'
     exact⟨fd',G,b',kp⟩,JA,λi D F' hD h'=>by
     obtain⟨fd',G,_,kp,fn'⟩:=QaN tp tab hb hX n i F' h';obtain⟨fd2,x,q,st,fn2,dk,hp⟩:=tp.txt.df i D hD;have e:=FunD.same fn2 fn';subst e;rw[(hp F' h').1]at G
     exact⟨fd2,G,kp,dk⟩,λf' F' h'=>by
     obtain⟨fd',G,b',kp⟩:=hX f' F' h'
     exact⟨fd',G.mono (Nat.le_add_right _ _),b',kp⟩⟩
    refine(QpW (X:=Qe9 (CXw P w) P w K mg base F.N F.qual (Qp F.st) (A.f f) cdv A' outer s H E) (λpins Y H1 s1 h' e vs c I mx w=>?_) (λpins Y H1 s1 e oe vs a0 c I hn h0 hl he hc hd v0 v1 w=>?_) (λpins Y H1 H2 s1 s2 e B a0 c dd I J fl cv hn h0 da w=>?_) ?_ ⟨rfl,rfl,rfl,rfl⟩ gx (λz=>.inl rfl) fc (hr.mono (by omega)) (hr.mono (by omega)) m).ss dd (Zy F.st) F.body hm
    ·exact QcQ (L:=_) rfl rfl rfl I mx w
    ·exact YV (L:=_) rfl rfl rfl I hn h0 hl he hc hd v0 v1 w
    ·exact Qew (L:=_) rfl rfl rfl J fl (cv.up I rfl) hn h0 da w
    ·exact PassesOwn.leaving
   ·simp only[Z8,hF]at e;split at e
    case isFalse=>cases e
    exact TX.run (JG r lN) R e q
def Qqh{dd:Option Addr}(h1:T'.fns'=T.fns')(h5:T'.efl=T.efl)(h:EF T H c dd):EF T' H c dd:=λf q=>by
 rw[h5]at q;rw[h1];exact h f q
def Qls{α:List Addr}{hs:Hs}(h1:T'.fns'=T.fns')(h2:T'.cls=T.cls)(h3:T'.scr=T.scr)(h4:T'.ers=T.ers)(h5:T'.efl=T.efl)(R:Rep T A K α hs H):Rep T' A K α hs H:=by
 refine⟨⟨R.h.len,R.h.nd,λn a o e1 e2=>?_⟩,?_⟩
 ·have z:=R.h.ob n a o e1 e2
  cases o with
  |ins c fs=>
   obtain⟨dx,fv,q1,q2,q3⟩:=z
   refine⟨dx,fv,q1,?_,by rw[h2];exact q3⟩
   unfold RF at *;rw[h1];exact q2
  |err c=>
   obtain⟨dd,q1,q2,q3⟩:=z
   exact⟨dd,q1,by rw[h4];exact q2,Qqh h1 h5 q3⟩
  |_=>exact z
 ·obtain⟨vs,q1,q2⟩:=R.s
  exact⟨vs,by rw[h3];exact q1,q2⟩
def QpC{rm m:Nat}(hf:T'.fns=T.fns)(h1:T'.fns'=T.fns')(h2:T'.cls=T.cls)(h3:T'.scr=T.scr)(h4:T'.ers=T.ers)(h5:T'.efl=T.efl)(hx:T'.xf=Z8 T m)(tp:Top T A K mg gl bl)(tab:Qaj P w T A K)(hb:Y9 T gl bl)(hX:XOk P w K mg base T A rm):
  XOk P w K mg base T' A (rm+2+2*m):=λf F hF=>by
 rw[hf]at hF;obtain⟨fd,G,b,kp⟩:=QjH tp tab hb hX m f F hF;refine⟨fd,G.imp λvs H Q E h=>?_,b,kp⟩;obtain⟨α,us,hs,c,hs',r,R,e,⟨F',e1,e2⟩,q⟩:=h
 refine⟨α,us,hs,c,hs',r,Qls h1.symm h2.symm h3.symm h4.symm h5.symm R,by rw[<-hx];exact e,⟨F',by rw[<-hf];exact e1,e2⟩,λα' H' dd E' R' f'=>q α' H' dd E' (Qls h1 h2 h3 h4 h5 R') (Qqh h1 h5 f')⟩
def QkV{x:Nat->List U->Hs->Option (Nat×Hs)}(tp:Top T A K mg gl bl):Top {T with xf:=x} A K mg gl bl :=
 ⟨⟨tp.txt.fn,tp.txt.df,λi C e=>let c:=tp.txt.cl i C e;⟨c.cls,c.nf,c.me,c.mks,c.kp,c.ini,c.ty⟩,tp.txt.fm,tp.txt.fd,tp.txt.isi,tp.txt.co,tp.txt.er,tp.txt.es⟩,tp.gfn,tp.gcl,tp.gco,tp.gtx,tp.blt⟩
end
end Iv
namespace K32
open PySem Iv L2
variable {c:Bool}{cf:Cf}{e e1 e2 el:E}{Q:Fl->Rho->Hs->Prop}{h h0 h1 h2 h3 hs hs':Hs}{x y z:Int}{kv7:List (List U×U)}{C:List (Nat×O)}{kvs:List (U×U)}{es:List E}{ns:List Int}{body:List S}{ra s us vs xs ys:List U}{d f g i j l lf ln m n o p p7 q r w:Nat}{o3 o4:Option U}{Z ρ':Rho}{st:S}{src:Src}{T:Tbl}{α β:Type}{a u v:U}
noncomputable def top(i:Nat):Stmt:=PySem.Challenge.pw_stitchroom_k32_undone.main.body.getD i (.Pass ⟨0,0,0,0⟩)
noncomputable def Qra:List Str:=[]
noncomputable def QqV:List Str:=[]
noncomputable def glo:List (Str×G):=([("drawers",.fn 0),("undone",.fn 1),("names_downward",.fn 2),("held_of",.fn 3),("marked_names",.fn 4),("fallen_of",.fn 5),("_law_cell_at",.fn 6),("_law_whole",.fn 7),("_law_name",.fn 8),("_law_listed",.fn 9),("_law_gives",.fn 10),("_law_row_end",.fn 11),("_law_put_by",.fn 12),("_law_picked",.fn 13),("_law_crossed",.fn 14),("_law_step",.fn 15),("_law_web",.fn 16),("_law_names",.fn 17),("_law_above",.fn 18),("_law_held",.fn 19)]:List (Str×G))++([("_law_good",.fn 20),("_law_refused",.fn 21),("law",.fn 22),("StitchError",.cls 0),("NoPattern",.cls 1),("Miscount",.cls 2),("NotLying",.cls 3),("Tangle",.cls 4)]:List (Str×G))
noncomputable def Qno:List Str:=["len","int","tuple","list","bool","dict","isinstance","range","reversed","enumerate","all","max","sorted","ValueError"]
noncomputable def Qrm:List Co:=[]
noncomputable def Qro:List Cl:=[]
noncomputable def Qq2:List ((Ty×Ty)×Bool):=[((.cls 3,.cls 1),false),((.cls 3,.cls 2),false),((.cls 3,.cls 3),true),((.cls 3,.cls 4),false),((.cls 3,.vale),true)]
noncomputable def N0:List Str:=["web","found","number","row","place","loop","parent"]
noncomputable def N1:List Str:=["web","names"]
noncomputable def N2:List Str:=["web","names","number"]
noncomputable def N3:List Str:=["web","held","keeper","names"]
noncomputable def N4:List Str:=["names"]
noncomputable def N5:List Str:=["web","names","lying","name","above","held","let_fall","fallen"]
noncomputable def N6:List Str:=["_law_script","_law_k"]
noncomputable def N7:List Str:=["_law_found"]
noncomputable def N8:List Str:=["_law_found"]
noncomputable def N9:List Str:=["_law_found"]
noncomputable def N10:List Str:=["_law_web_here","_law_parents","_law_cell","_law_lift","_law_side"]
noncomputable def N11:List Str:=["_law_web_here"]
noncomputable def N12:List Str:=["_law_web_here","_law_name_here","_law_more","_law_keeper","_law_row"]
noncomputable def N13:List Str:=["_law_web_here","_law_more","_law_gone","_law_keeper","_law_name_here","_law_some","_law_row","_law_at"]
noncomputable def N14:List Str:=["_law_web_here","_law_some","_law_more","_law_cut","_law_lift","_law_name_here"]
noncomputable def N15:List Str:=["_law_web_here","_law_cell","_law_kind","_law_more","_law_some","_law_k"]
noncomputable def N16:List Str:=["_law_script","_law_many","_law_web_here","_law_cell","_law_kept"]
noncomputable def N17:List Str:=["_law_script","_law_web_here","_law_way","_law_lying","_law_at"]
noncomputable def N18:List Str:=["_law_web_here","_law_found","_law_row","_law_place","_law_parent"]
noncomputable def N19:List Str:=["_law_web_here","_law_found","_law_name_here","_law_keeper","_law_names_here"]
noncomputable def N20:List Str:=["_law_web_here","_law_names_here","_law_found","_law_gone","_law_name_here","_law_above_here","_law_ends","_law_loose","_law_due","_law_row","_law_place","_law_falls"]
noncomputable def N21:List Str:=["_law_web_here","_law_names_here","_law_good_here","e"]
noncomputable def N22:List Str:=["_law_script","_law_web_here","_law_names_here","_law_handed","_law_found","_law_other","_law_at","_law_refused_here"]
noncomputable def Qri:List (Nat×Df):=[]
noncomputable def Qre:List Str:=["_law_gone","_law_keeper","_law_found","_law_loose","fallen"]
noncomputable def Qqs:List Str:=[]
noncomputable def Qrc:List Nat:=[3]
noncomputable def Qrb:List (Nat×Nat):=[(3,3),(3,0)]
noncomputable def QqR:List Nat:=[5]
noncomputable def Qqg:List (Nat×Nat):=[]
noncomputable def Qrf:List Str:=[]
noncomputable def b0:List S:=[.set 1 (.bi .dict [.comp (.seq (.call 2 [.var 0])) false none (.tup [.var 7,.lst []])]),.loop (.pair 2 3) (.enm (.ix (.var 0) (.c (.int 0 0)))) [.loop (.pair 4 5) (.enm (.var 3)) [.loop (.name 6) (.seq (.ix (.var 5) (.c (.int 0 0)))) [.expr (.bm .append (.ix (.var 1) (.var 6)) [.tup [.var 2,.var 4]])]]],.ret (.var 1)]
noncomputable def b1:List S:=[.cal (.ret (.bi .list [.call 5 [.var 0,.var 1]])) 5 [.var 0,.var 1]]
noncomputable def b2:List S:=[.set 1 (.lst []),.loop (.name 2) (.rngA [.op .Sub (.bi .len [.ix (.var 0) (.c (.int 0 0))]) (.c (.int 1 0)),.neg (.c (.int 1 0)),.neg (.c (.int 1 0))]) [.expr (.bm .extend (.var 1) [.comp (.rng (.bi .len [.ix (.ix (.var 0) (.c (.int 0 0))) (.var 2)])) false none (.tup [.var 2,.var 3])])],.ret (.var 1)]
noncomputable def b3:List S:=[.set 1 (.op .Add (.ix (.var 0) (.c (.int 1 0))) (.ix (.var 0) (.c (.int 3 0)))),.loop (.pair 2 3) (.seq (.ix (.var 0) (.c (.int 2 0)))) [.set 1 (.op .Add (.var 1) (.var 3))],.ret (.call 4 [.var 1])]
noncomputable def b4:List S:=[.ret (.bi .dict [.comp (.seq (.var 0)) false none (.tup [.var 1,.c (.bl true)])])]
noncomputable def b5:List S:=[.set 2 (.call 4 [.ix (.var 0) (.c (.int 1 0))]),.loop (.name 3) (.seq (.var 1)) [.ite (.cmp .NotIn (.var 3) (.var 2)) [.rse 3 [.c (.str [97,32,108,111,111,112,32,105,115,32,108,101,116,32,102,97,108,108,32,116,104,97,116,32,100,111,101,115,32,110,111,116,32,108,105,101,32,111,110,32,97,32,110,101,101,100,108,101])]] []],.set 4 (.call 0 [.var 0]),.set 5 (.call 3 [.var 0]),.set 6 (.call 4 [.var 1]),.set 7 .dnewT,.loop (.name 3) (.seq (.call 2 [.var 0])) [.ite (.or (.cmp .In (.var 3) (.var 6)) (.and (.cmp .NotIn (.var 3) (.var 5)) (.bi .all [.comp (.seq (.ix (.var 4) (.var 3))) false none (.cmp .In (.var 8) (.var 7))]))) [.put (.var 7) (.var 3) (.c (.bl true))] []],.ret (.var 7)]
noncomputable def b6:List S:=[.ite (.cmp .Lt (.var 1) (.bi .len [.var 0])) [.ret (.ix (.var 0) (.var 1))] [],.ret (.c (.int 0 0))]
noncomputable def b7:List S:=[.ret (.and (.isi (.var 0) .int) (.not (.isi (.var 0) .bool)))]
noncomputable def b8:List S:=[.ret (.and (.isi (.var 0) .tuple) (.and (.cmp .Eq (.bi .len [.var 0]) (.c (.int 2 0))) (.and (.call 7 [.ix (.var 0) (.c (.int 0 0))]) (.call 7 [.ix (.var 0) (.c (.int 1 0))]))))]
noncomputable def b9:List S:=[.ret (.and (.isi (.var 0) .list) (.cmp .Eq (.comp (.seq (.var 0)) false (some (.not (.call 8 [.var 1]))) (.var 1)) (.lst [])))]
noncomputable def b10:List S:=[.set 4 (.c (.int 0 0)),.ite (.cmp .Gt (.bi .len [.var 1]) (.c (.int 0 0))) [.set 4 (.op .Sub (.c (.int 1 0)) (.op .Mult (.c (.int 2 0)) (.op .Mod (.var 2) (.c (.int 2 0)))))] [],.expr (.bm .append (.ix (.var 0) (.c (.str [103,105,118,101,110]))) [.tup [.bi .len [.ix (.var 0) (.c (.str [114,111,119,115]))],.bi .len [.ix (.var 0) (.c (.str [110,101,119]))]]]),.expr (.bm .append (.ix (.var 0) (.c (.str [110,101,119]))) [.tup [.bi .tuple [.var 1],.var 4,.var 3]])]
noncomputable def b11:List S:=[.expr (.bm .append (.ix (.var 0) (.c (.str [114,111,119,115]))) [.ix (.var 0) (.c (.str [110,101,119]))]),.put (.var 0) (.c (.str [108,101,102,116])) (.ix (.var 0) (.c (.str [103,105,118,101,110]))),.put (.var 0) (.c (.str [103,105,118,101,110])) (.lst []),.put (.var 0) (.c (.str [110,101,119])) (.lst [])]
noncomputable def b12:List S:=[.set 3 (.ix (.c (.str [119,120,121,122])) (.op .Mod (.op .FloorDiv (.var 2) (.c (.int 3 0))) (.c (.int 4 0)))),.set 4 (.bi .len [.ix (.var 0) (.c (.str [114,111,119,115]))]),.ite (.and (.cmp .Gt (.op .Mod (.var 2) (.c (.int 3 0))) (.c (.int 0 0))) (.cmp .Eq (.bm .get (.ix (.var 0) (.c (.str [112,117,116]))) [.var 3,.var 4]) (.var 4))) [.put (.ix (.var 0) (.c (.str [112,117,116]))) (.var 3) (.var 4),.expr (.bm .append (.bm .setdef (.ix (.var 0) (.c (.str [107,101,112,116]))) [.var 3,.lst []]) [.var 1])] [.expr (.bm .append (.ix (.var 0) (.c (.str [111,102,102]))) [.var 1])]]
noncomputable def b13:List S:=[.set 2 .dnewT,.loopK 3 (.ix (.var 0) (.c (.str [107,101,112,116]))) [.loop (.name 4) (.seq (.ix (.ix (.var 0) (.c (.str [107,101,112,116]))) (.var 3))) [.put (.var 2) (.var 4) (.c (.bl true))]],.set 5 (.lst []),.loop (.name 6) (.rng (.bi .len [.ix (.var 0) (.c (.str [114,111,119,115]))])) [.set 5 (.op .Add (.var 5) (.comp (.rng (.bi .len [.ix (.ix (.var 0) (.c (.str [114,111,119,115]))) (.var 6)])) false (some (.cmp .NotIn (.tup [.var 6,.var 8]) (.var 2))) (.tup [.var 6,.var 8])))],.set 7 (.op .Mod (.op .FloorDiv (.var 1) (.c (.int 4 0))) (.bi .max [.c (.int 1 0),.bi .len [.var 5]])),.loop (.name 4) (.seq (.sl (.var 5) (some (.var 7)) (some (.op .Add (.op .Add (.var 7) (.c (.int 1 0))) (.op .Mod (.var 1) (.c (.int 4 0))))))) [.expr (.bm .append (.ix (.var 0) (.c (.str [103,105,118,101,110]))) [.tup [.bi .len [.ix (.var 0) (.c (.str [114,111,119,115]))],.bi .len [.ix (.var 0) (.c (.str [110,101,119]))]]]),.expr (.bm .append (.ix (.var 0) (.c (.str [110,101,119]))) [.tup [.tup [.var 4],.c (.int 1 0),.c (.int 0 0)]])]]
noncomputable def b14:List S:=[.set 3 (.op .FloorDiv (.bi .len [.var 1]) (.c (.int 2 0))),.set 4 (.op .Sub (.c (.int 1 0)) (.op .Mult (.c (.int 2 0)) (.op .Mod (.op .FloorDiv (.var 2) (.c (.int 7 0))) (.c (.int 2 0))))),.loop (.name 5) (.seq (.sl (.var 1) (some (.var 3)) none)) [.expr (.call 10 [.var 0,.lst [.var 5],.op .FloorDiv (.var 2) (.c (.int 14 0)),.op .Sub (.c (.int 0 0)) (.var 4)])],.loop (.name 5) (.seq (.sl (.var 1) none (some (.var 3)))) [.expr (.call 10 [.var 0,.lst [.var 5],.op .FloorDiv (.var 2) (.c (.int 14 0)),.var 4])]]
noncomputable def b15:List S:=[.set 2 (.op .Mod (.var 1) (.c (.int 8 0))),.set 3 (.op .FloorDiv (.var 1) (.c (.int 8 0))),.set 4 (.sl (.ix (.var 0) (.c (.str [108,101,102,116]))) none (some (.c (.int 1 0)))),.ite (.cmp .Eq (.var 2) (.c (.int 3 0))) [.set 4 (.sl (.ix (.var 0) (.c (.str [108,101,102,116]))) none (some (.op .Add (.c (.int 2 0)) (.op .Mod (.var 3) (.c (.int 3 0))))))] [],.ite (.cmp .Eq (.var 2) (.c (.int 7 0))) [.set 4 (.sl (.ix (.var 0) (.c (.str [108,101,102,116]))) none (some (.op .Add (.c (.int 2 0)) (.op .Mod (.var 3) (.c (.int 7 0))))))] [],.ite (.cmp .Eq (.var 2) (.c (.int 5 0))) [.set 4 (.lst [])] [],.put (.var 0) (.c (.str [108,101,102,116])) (.sl (.ix (.var 0) (.c (.str [108,101,102,116]))) (some (.bi .len [.var 4])) none),.ite (.cmp .Eq (.var 4) (.lst [])) [.expr (.call 10 [.var 0,.lst [],.var 3,.c (.int 0 0)])] [.ite (.cmp .Eq (.var 2) (.c (.int 2 0))) [.expr (.bm .append (.ix (.var 0) (.c (.str [103,105,118,101,110]))) [.ix (.var 4) (.c (.int 0 0))])] [.ite (.and (.cmp .Eq (.var 2) (.c (.int 3 0))) (.cmp .Eq (.op .Mod (.op .FloorDiv (.var 3) (.c (.int 3 0))) (.c (.int 2 0))) (.c (.int 1 0)))) [.expr (.call 10 [.var 0,.rev (.var 4),.op .FloorDiv (.var 3) (.c (.int 6 0)),.c (.int 0 0)])] [.ite (.cmp .Eq (.var 2) (.c (.int 4 0))) [.loop (.name 5) (.rng (.op .Add (.c (.int 2 0)) (.op .Mod (.var 3) (.c (.int 3 0))))) [.expr (.call 10 [.var 0,.var 4,.op .Add (.op .FloorDiv (.var 3) (.c (.int 3 0))) (.var 5),.c (.int 0 0)])]] [.ite (.cmp .Eq (.var 2) (.c (.int 6 0))) [.expr (.call 12 [.var 0,.ix (.var 4) (.c (.int 0 0)),.var 3])] [.ite (.and (.cmp .Eq (.var 2) (.c (.int 7 0))) (.cmp .Gt (.bi .len [.var 4]) (.c (.int 1 0)))) [.expr (.call 14 [.var 0,.var 4,.var 3])] [.expr (.call 10 [.var 0,.var 4,.op .FloorDiv (.var 3) (.c (.int 6 0)),.c (.int 0 0)])]]]]]]]
noncomputable def b16:List S:=[.set 1 (.op .Mod (.call 6 [.var 0,.c (.int 0 0)]) (.c (.int 9 0))),.set 2 (.dsp [.str [114,111,119,115],.str [108,101,102,116]] [.lst [.comp (.rng (.var 1)) false none (.tup [.tup [],.c (.int 0 0),.c (.int 0 0)])],.comp (.rng (.var 1)) false none (.tup [.c (.int 0 0),.var 5])]),.expr (.bm .update (.var 2) [.dsp [.str [103,105,118,101,110],.str [110,101,119],.str [112,117,116],.str [107,101,112,116],.str [111,102,102]] [.lst [],.lst [],.dnew,.dnew,.lst []]]),.loop (.name 3) (.seq (.sl (.var 0) (some (.c (.int 2 0))) (some (.c (.int 62 0))))) [.ite (.and (.cmp .Eq (.ix (.var 2) (.c (.str [108,101,102,116]))) (.lst [])) (.and (.cmp .Eq (.ix (.var 2) (.c (.str [103,105,118,101,110]))) (.lst [])) (.cmp .Lt (.op .Mod (.var 3) (.c (.int 16 0))) (.c (.int 8 0))))) [.expr (.call 11 [.var 2]),.expr (.call 13 [.var 2,.op .FloorDiv (.var 3) (.c (.int 16 0))])] [],.ite (.and (.cmp .Eq (.ix (.var 2) (.c (.str [108,101,102,116]))) (.lst [])) (.cmp .NotEq (.ix (.var 2) (.c (.str [103,105,118,101,110]))) (.lst []))) [.expr (.call 11 [.var 2])] [],.expr (.call 15 [.var 2,.var 3])],.set 4 (.comp (.seq (.c (.str [119,120,121,122]))) false (some (.cmp .In (.var 5) (.ix (.var 2) (.c (.str [107,101,112,116]))))) (.tup [.var 5,.ix (.ix (.var 2) (.c (.str [107,101,112,116]))) (.var 5)])),.ret (.tup [.op .Add (.ix (.var 2) (.c (.str [114,111,119,115]))) (.lst [.ix (.var 2) (.c (.str [110,101,119]))]),.op .Add (.ix (.var 2) (.c (.str [103,105,118,101,110]))) (.ix (.var 2) (.c (.str [108,101,102,116]))),.var 4,.bi .sorted [.ix (.var 2) (.c (.str [111,102,102]))]])]
noncomputable def b17:List S:=[.set 2 (.op .Mod (.call 6 [.var 0,.c (.int 1 0)]) (.c (.int 4 0))),.set 3 (.ix (.var 1) (.c (.int 1 0))),.ite (.cmp .Eq (.var 2) (.c (.int 0 0))) [.ret (.rev (.var 3))] [],.ite (.cmp .Eq (.var 2) (.c (.int 1 0))) [.set 4 (.op .Mod (.op .FloorDiv (.call 6 [.var 0,.c (.int 1 0)]) (.c (.int 4 0))) (.bi .max [.c (.int 1 0),.bi .len [.var 3]])),.ret (.op .Add (.sl (.var 3) (some (.var 4)) (some (.op .Add (.var 4) (.c (.int 1 0))))) (.sl (.var 3) (some (.var 4)) (some (.op .Add (.var 4) (.c (.int 1 0))))))] [],.ret (.comp (.rng (.bi .len [.var 3])) false (some (.cmp .Eq (.op .Mod (.op .FloorDiv (.call 6 [.var 0,.op .Add (.c (.int 2 0)) (.op .Mod (.var 5) (.c (.int 60 0)))]) (.c (.int 3 0))) (.c (.int 2 0))) (.op .Mod (.var 2) (.c (.int 2 0))))) (.ix (.var 3) (.var 5)))]
noncomputable def b18:List S:=[.set 1 .dnewT,.loop (.name 2) (.rng (.bi .len [.ix (.var 0) (.c (.int 0 0))])) [.loop (.name 3) (.rng (.bi .len [.ix (.ix (.var 0) (.c (.int 0 0))) (.var 2)])) [.put (.var 1) (.tup [.var 2,.var 3]) (.lst [])]],.loop (.name 2) (.rng (.bi .len [.ix (.var 0) (.c (.int 0 0))])) [.loop (.name 3) (.rng (.bi .len [.ix (.ix (.var 0) (.c (.int 0 0))) (.var 2)])) [.loop (.name 4) (.seq (.ix (.ix (.ix (.ix (.var 0) (.c (.int 0 0))) (.var 2)) (.var 3)) (.c (.int 0 0)))) [.expr (.bm .append (.ix (.var 1) (.var 4)) [.tup [.var 2,.var 3]])]]],.ret (.var 1)]
noncomputable def b19:List S:=[.set 1 .dnewT,.loop (.name 2) (.seq (.op .Add (.ix (.var 0) (.c (.int 1 0))) (.ix (.var 0) (.c (.int 3 0))))) [.put (.var 1) (.var 2) (.c (.bl true))],.loop (.pair 3 4) (.seq (.ix (.var 0) (.c (.int 2 0)))) [.loop (.name 2) (.seq (.var 4)) [.put (.var 1) (.var 2) (.c (.bl true))]],.ret (.var 1)]
noncomputable def b20:List S:=[.set 3 .dnewT,.loop (.name 4) (.seq (.var 2)) [.put (.var 3) (.var 4) (.c (.bl true))],.set 5 (.call 18 [.var 0]),.set 6 (.call 19 [.var 0]),.set 7 .dnewT,.loop (.name 4) (.seq (.var 1)) [.put (.var 7) (.var 4) (.c (.bl true))],.set 8 (.lst []),.loop (.name 9) (.rngR (.bi .len [.ix (.var 0) (.c (.int 0 0))])) [.loop (.name 10) (.rng (.bi .len [.ix (.ix (.var 0) (.c (.int 0 0))) (.var 9)])) [.set 4 (.tup [.var 9,.var 10]),.set 11 (.cmp .In (.var 4) (.var 7)),.ite (.cmp .NotIn (.var 4) (.var 6)) [.set 11 (.cmp .Eq (.comp (.seq (.ix (.var 5) (.var 4))) false (some (.cmp .NotIn (.var 12) (.var 3))) (.var 12)) (.lst []))] [],.ite (.cmp .NotEq (.var 11) (.cmp .In (.var 4) (.var 3))) [.ret (.c (.bl false))] [],.ite (.var 11) [.expr (.bm .append (.var 8) [.var 4])] []]],.ret (.cmp .Eq (.var 2) (.var 8))]
noncomputable def b21:List S:=[.set 2 (.c (.bl false)),.tryS (some 3) 1 [.var 0,.var 1] 0 [.set 2 (.and (.isi (.var 3) (.cls 3)) (.isi (.var 3) .vale)),.set 2 (.and (.var 2) (.not (.isiT 3 [2,1,4])))],.ret (.var 2)]
noncomputable def b22:List S:=[.set 1 (.call 16 [.var 0]),.set 2 (.call 17 [.var 0,.var 1]),.set 3 (.bi .list [.var 2]),.set 4 (.call 1 [.var 1,.var 3]),.ite (.or (.not (.call 9 [.var 4])) (.or (.cmp .NotEq (.var 3) (.var 2)) (.cmp .NotEq (.var 1) (.call 16 [.var 0])))) [.ret (.c (.bl false))] [],.ite (.not (.call 20 [.var 1,.var 2,.var 4])) [.ret (.c (.bl false))] [],.set 5 (.tup [.op .Mod (.op .FloorDiv (.call 6 [.var 0,.c (.int 1 0)]) (.c (.int 4 0))) (.op .Add (.bi .len [.ix (.var 1) (.c (.int 0 0))]) (.c (.int 1 0))),.op .Sub (.op .Mod (.op .FloorDiv (.call 6 [.var 0,.c (.int 2 0)]) (.c (.int 3 0))) (.c (.int 10 0))) (.c (.int 1 0))]),.ite (.cmp .In (.var 5) (.ix (.var 1) (.c (.int 1 0)))) [.ret (.c (.bl true))] [],.set 6 (.op .Mod (.call 6 [.var 0,.c (.int 3 0)]) (.op .Add (.bi .len [.var 2]) (.c (.int 1 0)))),.set 7 (.c (.bl false)),.tryS none 1 [.var 1,.op .Add (.op .Add (.sl (.var 2) none (some (.var 6))) (.lst [.var 5])) (.sl (.var 2) (some (.var 6)) none)] 3 [.set 7 (.c (.bl true))],.ret (.and (.var 7) (.call 21 [.var 1,.op .Add (.op .Add (.sl (.var 2) none (some (.var 6))) (.lst [.var 5])) (.sl (.var 2) (some (.var 6)) none)]))]
noncomputable def fnL:List Fn:=[⟨"drawers","drawers",(top 7),["web"],N0,1,7,false,b0⟩,
 ⟨"undone","undone",(top 8),["web","names"],N1,2,2,false,b1⟩,
 ⟨"names_downward","names_downward",(top 9),["web"],N2,1,3,false,b2⟩,
 ⟨"held_of","held_of",(top 10),["web"],N3,1,4,false,b3⟩,
 ⟨"marked_names","marked_names",(top 11),["names"],N4,1,1,false,b4⟩,
 ⟨"fallen_of","fallen_of",(top 12),["web","names"],N5,2,8,false,b5⟩,
 ⟨"_law_cell_at","_law_cell_at",(top 14),["_law_script","_law_k"],N6,2,2,false,b6⟩,
 ⟨"_law_whole","_law_whole",(top 15),["_law_found"],N7,1,1,false,b7⟩,
 ⟨"_law_name","_law_name",(top 16),["_law_found"],N8,1,1,false,b8⟩,
 ⟨"_law_listed","_law_listed",(top 17),["_law_found"],N9,1,1,false,b9⟩,
 ⟨"_law_gives","_law_gives",(top 18),["_law_web_here","_law_parents","_law_cell","_law_lift"],N10,4,5,false,b10⟩,
 ⟨"_law_row_end","_law_row_end",(top 19),["_law_web_here"],N11,1,1,false,b11⟩,
 ⟨"_law_put_by","_law_put_by",(top 20),["_law_web_here","_law_name_here","_law_more"],N12,3,5,false,b12⟩,
 ⟨"_law_picked","_law_picked",(top 21),["_law_web_here","_law_more"],N13,2,8,false,b13⟩,
 ⟨"_law_crossed","_law_crossed",(top 22),["_law_web_here","_law_some","_law_more"],N14,3,6,false,b14⟩,
 ⟨"_law_step","_law_step",(top 23),["_law_web_here","_law_cell"],N15,2,6,false,b15⟩,
 ⟨"_law_web","_law_web",(top 24),["_law_script"],N16,1,5,false,b16⟩,
 ⟨"_law_names","_law_names",(top 25),["_law_script","_law_web_here"],N17,2,5,false,b17⟩,
 ⟨"_law_above","_law_above",(top 26),["_law_web_here"],N18,1,5,false,b18⟩,
 ⟨"_law_held","_law_held",(top 27),["_law_web_here"],N19,1,5,false,b19⟩,
 ⟨"_law_good","_law_good",(top 28),["_law_web_here","_law_names_here","_law_found"],N20,3,12,false,b20⟩,
 ⟨"_law_refused","_law_refused",(top 29),["_law_web_here","_law_names_here"],N21,2,4,false,b21⟩,
 ⟨"law","law",(top 30),["_law_script"],N22,1,8,true,b22⟩]
noncomputable def tbX(s:List U):Tbl:=⟨fnL,Qro,Qrm,Qra,QqV,s,Qq2,Qri,Qre,Qqs,false,Qrc,Qrb,QqR,Qqg,Qrf,λz z z=>none⟩
noncomputable def QkZ(s:List U):Tbl:={tbX s with xf:=Z8 (tbX s) 4}
noncomputable def tb(s:List U):Tbl:={tbX s with xf:=Z8 (QkZ s) 4}
noncomputable abbrev so(x:String):Str:=Str.ofString x
noncomputable abbrev rf(a:Addr):Value:=.ref a
noncomputable abbrev sv(x:String)(n:Nat):Value:=.str (Str.ofString x) n
noncomputable abbrev dk(P:Params)(x:String)(n:Nat)(v:Value):DictEntry:=DictEntry.mk (PyData.keyHash P (Str.ofString x)) (.str (Str.ofString x) n) v
noncomputable abbrev tu(xs:Array Value)(n:Nat):Obj:=Obj.mk (.type "tuple") none (Data.seq xs n) #[]
noncomputable abbrev ob(c:String)(d:Data):Obj:=Obj.mk (.type c) none d #[]
noncomputable abbrev en(P:Params)(x:Str)(k v:Value):DictEntry:=DictEntry.mk (PyData.keyHash P x) k v
noncomputable abbrev de(P:Params)(x:Str)(n:Nat)(v:Value):DictEntry:=DictEntry.mk (PyData.keyHash P x) (.str x n) v
noncomputable abbrev fo(x q:String)(s:Stmt)(d:Value)(m:String)(n c:Nat):Obj:=⟨.type "function",none,.func (W.fnOf (so x) (so q) (QbK s) (Zy s) (Qp s) d .none .none (sv m n) none (rf c) .none),#[]⟩
noncomputable abbrev z0:Value:=.int 0 0
noncomputable abbrev i0(n:Int):Value:=.int n 0
noncomputable abbrev hF:Value:=.bool false
noncomputable abbrev hT:Value:=.bool true
noncomputable abbrev sr(a:Addr):Option Value:=some (.ref a)
noncomputable abbrev hC(n:Nat):Value:=.str (Str.ofString "/claim/cut.py") n
noncomputable abbrev oc(d:Array Value):Obj:=Obj.mk (.type "code") none (Data.fields d) #[]
noncomputable abbrev cO(x q:String)(a l:Nat)(n r s u v y t:Value)(m d:Nat):Obj:=oc (#[sv x a,sv q (a+1),hC (a+2),i0 l,n,z0,z0,i0 3,r,hT,i0 181,s,u,v,y,t,i0 m,i0 l,hC d])
noncomputable abbrev dm(P:Params)(n:Nat)(x:String)(m:Nat):DictEntry:=dk P "__module__" n (sv x m)
noncomputable abbrev dq(P:Params)(n:Nat)(x:String)(m:Nat):DictEntry:=dk P "__qualname__" n (sv x m)
noncomputable abbrev hD(P:Params)(n:Nat):DictEntry:=dk P "__doc__" n .none
noncomputable abbrev dl(P:Params)(n:Nat)(x:Int)(m:Nat):DictEntry:=dk P "__firstlineno__" n (.int x m)
noncomputable abbrev ds(P:Params)(n:Nat)(a:Addr):DictEntry:=dk P "__static_attributes__" n (.ref a)
noncomputable abbrev dR(P:Params)(x:String)(n:Nat)(a:Addr):DictEntry:=dk P x n (.ref a)
noncomputable abbrev hp:Program:=PySem.Challenge.pw_stitchroom_k32_undone
noncomputable abbrev hr:W.RowW:=(PySem.Challenge.rw_stitchroom_k32_undone).row.toRowW
noncomputable def hB:Iv.BootT:=⟨λP=>(.node (W.boot_o_0 P) (.node (W.boot_o_1 P) (.node (W.boot_o_3 P) (.node (W.boot_o_7 P) .nil .nil) .nil) (.node (W.boot_o_5 P) (.node (W.boot_o_9 P) .nil .nil) .nil)) (.node (W.boot_o_2 P) (.node (W.boot_o_4 P) (.node (W.boot_o_8 P) .nil .nil) .nil) (.node (W.boot_o_6 P) (.node (W.boot_o_10 P) .nil .nil) .nil))),11,{}⟩
noncomputable def hq:Program:=W.view hp [1,2,3,4,5,7,8,9,10,11,12,14,15,16,17,18,19,20,21,22,23,24,25,26,27,28,29,30]
noncomputable abbrev hlo:List Str:=[]
noncomputable def K:Params->W.Frag:=λP=>
 (2,(Obj.mk .none none (Data.dict #[] 0) #[]))::
 (3,(ob "dict" (Data.dict #[(dk P "__name__" 165 (sv "law_stitchroom_k32_undone" 341)),(hD P 166),(dk P "__package__" 167 .none),(dk P "__loader__" 168 (.builtin "__main__.__loader__#opaque")),(dk P "__spec__" 169 .none),(dR P "__annotations__" 170 6),(dR P "__builtins__" 171 4),(dk P "__file__" 173 (hC 172)),(dk P "__cached__" 174 .none),(dR P "StitchError" 206 24),(dR P "NoPattern" 222 37),(dR P "Miscount" 255 56),(dR P "NotLying" 271 68),(dR P "Tangle" 296 87),(dR P "drawers" 304 94),(dR P "undone" 312 101),(dR P "names_downward" 318 106),(dR P "held_of" 328 113),(dR P "marked_names" 334 118),(dR P "fallen_of" 340 123),(dR P "_law_cell_at" 350 130),(dR P "_law_whole" 357 137),(dR P "_law_name" 364 144),(dR P "_law_listed" 370 149),(dR P "_law_gives" 381 156),(dR P "_law_row_end" 388 163),(dR P "_law_put_by" 399 170),(dR P "_law_picked" 405 175),(dR P "_law_crossed" 417 182),(dR P "_law_step" 429 189),(dR P "_law_web" 435 194),(dR P "_law_names" 441 199),(dR P "_law_above" 452 206),(dR P "_law_held" 463 213),(dR P "_law_good" 469 218),(dR P "_law_refused" 479 225),(dR P "law" 493 232)] 37)))::
 (23,(ob "dict" (Data.dict #[(dm P 196 "stitchroom.errors" 187),(dl P 200 2 199),(ds P 201 22),(dR P "__weakref__" 203 25),(hD P 204)] 3)))::
 (24,(Obj.mk (.type "type") none (Data.cls (ClassData.mk (so "StitchError") [(.type "ValueError")] [(rf 24),(.type "ValueError"),(.type "Exception"),(.type "BaseException"),(.type "object")] 23 (so "StitchError") true [] [(rf 37),(rf 56),(rf 68),(rf 87)] false none false)) #[(sr 15),none,(some (sv "StitchError" 189)),(some (sv "StitchError" 197)),(some (.builtin "ValueError.__new__")),(some hT)]))::
 (25,(ob "getset_descriptor" (Data.fields #[(sv "__weakref__" 202),(rf 24),(.builtin "ExceptionGroup.__weakref__"),.none])))::
 (36,(ob "dict" (Data.dict #[(dm P 214 "stitchroom.errors" 187),(dl P 218 4 217),(ds P 219 35),(hD P 220)] 2)))::
 (37,(Obj.mk (.type "type") none (Data.cls (ClassData.mk (so "NoPattern") [(rf 24)] [(rf 37),(rf 24),(.type "ValueError"),(.type "Exception"),(.type "BaseException"),(.type "object")] 36 (so "NoPattern") true [] [] false none false)) #[(sr 28),none,(some (sv "NoPattern" 207)),(some (sv "NoPattern" 215)),(some (.builtin "ValueError.__new__")),(some hT)]))::
 (55,(ob "dict" (Data.dict #[(dm P 230 "stitchroom.errors" 187),(dl P 234 6 233),(dR P "__init__" 246 53),(ds P 252 54),(hD P 253)] 2)))::
 (56,(Obj.mk (.type "type") none (Data.cls (ClassData.mk (so "Miscount") [(rf 24)] [(rf 56),(rf 24),(.type "ValueError"),(.type "Exception"),(.type "BaseException"),(.type "object")] 55 (so "Miscount") true [] [] false none false)) #[(sr 40),none,(some (sv "Miscount" 223)),(some (sv "Miscount" 231)),(some (.builtin "ValueError.__new__")),(some hT)]))::
 (67,(ob "dict" (Data.dict #[(dm P 263 "stitchroom.errors" 187),(dl P 267 15 266),(ds P 268 66),(hD P 269)] 2)))::
 (68,(Obj.mk (.type "type") none (Data.cls (ClassData.mk (so "NotLying") [(rf 24)] [(rf 68),(rf 24),(.type "ValueError"),(.type "Exception"),(.type "BaseException"),(.type "object")] 67 (so "NotLying") true [] [] false none false)) #[(sr 59),none,(some (sv "NotLying" 256)),(some (sv "NotLying" 264)),(some (.builtin "ValueError.__new__")),(some hT)]))::
 (86,(ob "dict" (Data.dict #[(dm P 279 "stitchroom.errors" 187),(dl P 283 17 282),(dR P "__init__" 291 84),(ds P 293 85),(hD P 294)] 2)))::
 (87,(Obj.mk (.type "type") none (Data.cls (ClassData.mk (so "Tangle") [(rf 24)] [(rf 87),(rf 24),(.type "ValueError"),(.type "Exception"),(.type "BaseException"),(.type "object")] 86 (so "Tangle") true [] [] false none false)) #[(sr 71),none,(some (sv "Tangle" 272)),(some (sv "Tangle" 280)),(some (.builtin "ValueError.__new__")),(some hT)]))::
 (93,(cO "drawers" "drawers" 299 23 (i0 1) (rf 90) (rf 91) .none .none .none (rf 92) 302 303))::
 (94,(fo "drawers" "drawers" (top 7) .none "stitchroom.holds" 297 93))::
 (100,(cO "undone" "undone" 305 30 (i0 2) (rf 95) (rf 96) .none (rf 97) (rf 98) (rf 99) 310 311))::
 (101,(fo "undone" "undone" (top 8) .none "stitchroom.holds" 297 100))::
 (105,(cO "names_downward" "names_downward" 313 32 (i0 1) (rf 102) (rf 103) .none .none .none (rf 104) 316 317))::
 (106,(fo "names_downward" "names_downward" (top 9) .none "stitchroom.holds" 297 105))::
 (112,(cO "held_of" "held_of" 319 37 (i0 1) (rf 107) (rf 108) .none (rf 109) (rf 110) (rf 111) 326 327))::
 (113,(fo "held_of" "held_of" (top 10) .none "stitchroom.holds" 297 112))::
 (117,(cO "marked_names" "marked_names" 329 42 (i0 1) (rf 114) (rf 115) .none .none .none (rf 116) 332 333))::
 (118,(fo "marked_names" "marked_names" (top 11) .none "stitchroom.holds" 297 117))::
 (122,(cO "fallen_of" "fallen_of" 335 44 (i0 2) (rf 119) (rf 120) .none .none .none (rf 121) 338 339))::
 (123,(fo "fallen_of" "fallen_of" (top 12) .none "stitchroom.holds" 297 122))::
 (129,(cO "_law_cell_at" "_law_cell_at" 343 58 (i0 2) (rf 124) (rf 125) .none (rf 126) (rf 127) (rf 128) 348 349))::
 (130,(fo "_law_cell_at" "_law_cell_at" (top 14) .none "law_stitchroom_k32_undone" 341 129))::
 (136,(cO "_law_whole" "_law_whole" 351 62 (i0 1) (rf 131) (rf 132) .none (rf 133) (rf 134) (rf 135) 355 356))::
 (137,(fo "_law_whole" "_law_whole" (top 15) .none "law_stitchroom_k32_undone" 341 136))::
 (143,(cO "_law_name" "_law_name" 358 64 (i0 1) (rf 138) (rf 139) .none (rf 140) (rf 141) (rf 142) 362 363))::
 (144,(fo "_law_name" "_law_name" (top 16) .none "law_stitchroom_k32_undone" 341 143))::
 (148,(cO "_law_listed" "_law_listed" 365 66 (i0 1) (rf 145) (rf 146) .none .none .none (rf 147) 368 369))::
 (149,(fo "_law_listed" "_law_listed" (top 17) .none "law_stitchroom_k32_undone" 341 148))::
 (155,(cO "_law_gives" "_law_gives" 371 68 (i0 4) (rf 150) (rf 151) .none (rf 152) (rf 153) (rf 154) 379 380))::
 (156,(fo "_law_gives" "_law_gives" (top 18) .none "law_stitchroom_k32_undone" 341 155))::
 (162,(cO "_law_row_end" "_law_row_end" 382 74 (i0 1) (rf 157) (rf 158) .none (rf 159) (rf 160) (rf 161) 386 387))::
 (163,(fo "_law_row_end" "_law_row_end" (top 19) .none "law_stitchroom_k32_undone" 341 162))::
 (169,(cO "_law_put_by" "_law_put_by" 389 79 (i0 3) (rf 164) (rf 165) .none (rf 166) (rf 167) (rf 168) 397 398))::
 (170,(fo "_law_put_by" "_law_put_by" (top 20) .none "law_stitchroom_k32_undone" 341 169))::
 (174,(cO "_law_picked" "_law_picked" 400 87 (i0 2) (rf 171) (rf 172) .none .none .none (rf 173) 403 404))::
 (175,(fo "_law_picked" "_law_picked" (top 21) .none "law_stitchroom_k32_undone" 341 174))::
 (181,(cO "_law_crossed" "_law_crossed" 406 99 (i0 3) (rf 176) (rf 177) .none (rf 178) (rf 179) (rf 180) 415 416))::
 (182,(fo "_law_crossed" "_law_crossed" (top 22) .none "law_stitchroom_k32_undone" 341 181))::
 (188,(cO "_law_step" "_law_step" 418 106 (i0 2) (rf 183) (rf 184) .none (rf 185) (rf 186) (rf 187) 427 428))::
 (189,(fo "_law_step" "_law_step" (top 23) .none "law_stitchroom_k32_undone" 341 188))::
 (193,(cO "_law_web" "_law_web" 430 132 (i0 1) (rf 190) (rf 191) .none .none .none (rf 192) 433 434))::
 (194,(fo "_law_web" "_law_web" (top 24) .none "law_stitchroom_k32_undone" 341 193))::
 (198,(cO "_law_names" "_law_names" 436 145 (i0 2) (rf 195) (rf 196) .none .none .none (rf 197) 439 440))::
 (199,(fo "_law_names" "_law_names" (top 25) .none "law_stitchroom_k32_undone" 341 198))::
 (205,(cO "_law_above" "_law_above" 442 154 (i0 1) (rf 200) (rf 201) .none (rf 202) (rf 203) (rf 204) 450 451))::
 (206,(fo "_law_above" "_law_above" (top 26) .none "law_stitchroom_k32_undone" 341 205))::
 (212,(cO "_law_held" "_law_held" 453 164 (i0 1) (rf 207) (rf 208) .none (rf 209) (rf 210) (rf 211) 461 462))::
 (213,(fo "_law_held" "_law_held" (top 27) .none "law_stitchroom_k32_undone" 341 212))::
 (217,(cO "_law_good" "_law_good" 464 172 (i0 3) (rf 214) (rf 215) .none .none .none (rf 216) 467 468))::
 (218,(fo "_law_good" "_law_good" (top 28) .none "law_stitchroom_k32_undone" 341 217))::
 (224,(cO "_law_refused" "_law_refused" 470 193 (i0 2) (rf 219) (rf 220) .none (rf 221) (rf 222) (rf 223) 477 478))::
 (225,(fo "_law_refused" "_law_refused" (top 29) .none "law_stitchroom_k32_undone" 341 224))::
 (231,(cO "law" "law" 480 201 (i0 1) (rf 226) (rf 227) .none (rf 228) (rf 229) (rf 230) 491 492))::
 (232,(fo "law" "law" (top 30) .none "law_stitchroom_k32_undone" 341 231))::[]
noncomputable def KA:List Addr:=[2,3,23,24,25,36,37,55,56,67,68,86,87,93,94,100,101,105,106,112,113,117,118,122,123,129,130,136,137,143,144,148,149,155,156,162,163,169,170,174,175,181,182,188,189,193,194,198,199,205,206,212,213,217,218,224,225,231,232]
def hKA:∀P,KA=(K P).map (·.1):=λz=>by kernel_rfl
noncomputable abbrev hXt:Shared->Bool:=λs=>W.xlAt hq [] s&&W.recOk (W.RowW.records hr) s
def hop:W.opening hp=W.plainProg hp.main.scope.names:=by kernel_rfl
def hfm:∀s,PySem.fenceModules? hp s=some s:=λs=>by kernel_rfl
def hbo:∀w:World,W.absHeap (hB.t w.params) hB.n hB.life=W.boot_heap w.params:=λw=>by kernel_rfl
def hsz:∀w:World,((W.boot_heap w.params).isNs mainGlobals,(W.boot_heap w.params).objs.size,(W.boot_heap w.params).nsMap mainGlobals "__annotations__")=(true,11,some (.ref 6)):=λw=>by kernel_rfl
noncomputable abbrev hYf:Shared->List (Option Obj):=λs=>KA.map s.heap.get?
noncomputable abbrev hYa:World->List (Option Obj):=λw=>(K w.params).map λp=>some p.2
noncomputable abbrev hN:Nat:=3762
noncomputable abbrev hn6:Option Value:=some (.ref 6)
abbrev hS(w:World):Prop:=Iv.RunT hp hq hlo hXt hYf hYa 3762 true hB 11 (some (.ref 6)) w
def Qq6(w:World):hS w:=λos=>by kernel_rfl
def hleft:W.LeftO hp hq hlo hXt hYf hYa 3762 true:=Iv.left_tree hop (by decide) hfm hbo hsz Qq6
noncomputable abbrev sR(n:Nat):Option U:=some (.ref n)
noncomputable abbrev sI(n:Int):Option U:=some (.int n 0)
noncomputable def tbG(x:Nat->List U->Hs->Option (Nat×Hs))(s:List U):Tbl:={tbX s with xf:=x}
def eq_int{i j:Int}:eqA T (.int i 0) (.int j 0) hs=some (decide (i=j)):=rfl
def at0{a:O}{r:Hs}:(hs++a::r)[hs.length]?=some a:=by rw[Wg (Xg _),Sb];rfl
def Qr{r:Hs}{o:O}(h:hs[p]?=some o):(hs++r)[p]?=some o:=by
 rw[Xv (Xc.mp h).1];exact h
def Kp(hs hs':Hs):Prop:=∀(p:Nat) o,hs[p]?=some o->hs'[p]?=some o
def Kp.refl(hs:Hs):Kp hs hs:=λz z h=>h
def Kp.app(hs r:Hs):Kp hs (hs++r):=λz z h=>Qr h
def Kp.trans{a b c:Hs}(h:Kp a b)(h':Kp b c):Kp a c:=λp o e=>h' p o (h p o e)
def Kp.len{a b:Hs}(h:Kp a b):a.length<=b.length:=by
 cases ha:a.length with
 |zero=>lia
 |succ k=>
  have lt:k<a.length:=by lia
  have:=(Xc.mp (h k a[k] (by simp[lt]))).1
  lia
def Kp.put{a b:Hs}{o:O}(h:Kp a b)(hj:a.length<=j):Kp a (b.set j o):=λp x e=>by
 have lt:=(Xc.mp e).1
 rw[Xu (by lia)]
 exact h p x e
section

def QT{r:List S}(e:ex T cf d st Z hs=some (.next,ρ',h1)):exs T cf (d+1) (st::r) Z hs=exs T cf d r ρ' h1:=by
 rw[QI,e]
def Qib{t:E}{a:List S}(e:evT T cf (d+1) t Z hs=some (false,h1)):ex T cf (d+2) (.ite t a []) Z hs=some (.next,Z,h1):=by
 rw[YJ,e,Qi,if_neg (by decide),Qal]
def QkS{a b:E}{o:CmpOp}{w:U}(ea:ev T cf d a Z hs=some (u,h1))(eb:ev T cf d b Z h1=some (w,h2))(ec:ZC T o u w h2=some c):ev T cf (d+1) (.cmp o a b) Z hs=some (.bl c,h2):=by
 rw[Qam,ea,Qi,eb,Qi,ec];rfl
def QK{a b:E}{o:CmpOp}{w:U}(ea:ev T cf d a Z hs=some (u,h1))(eb:ev T cf d b Z h1=some (w,h2))(ec:ZC T o u w h2=some c):evT T cf (d+2) (.cmp o a b) Z hs=some (c,h2):=by
 rw[Qan,QkS ea eb ec,Qi];rfl
def Yn(hi:Z[i]?=some (some u))(e:cf f [u] hs=some (v,h1)):ev T cf (d+2) (.call f [.var i]) Z hs=some (v,h1):=by
 simp only[y_call,evs,Qu,hi,Qi,e]
end
def JR(h:hs[p]?=some (.lst xs)):biU T .len [.ref p] hs=some (.int xs.length 0,hs):=by unfold biU;simp only[ZF,h]
def QnE(h:hs[p]?=some (.lst xs)):biU T .tuple [.ref p] hs=some (.ref hs.length,hs++[.tup xs]):=by unfold biU;simp only[h]
def QmZ(h:hs[p]?=some (.lst xs))(hl:xs.length<1000000):bmU T .append (.ref p) [u] hs=some (.non,hs.set p (.lst (xs++[u]))):=by
 simp only[bmU,h,bmL,hl];rfl
def Qlu(h:hs[p]?=some (.lst xs)):Qdf .append (.ref p) hs=true:=by simp only[Qdf,h];rfl
def QqU:Qme (.int 2 0) (.int x 0)=sI (2*x):=by
 have h:Qk 2=true:=by decide
 simp only[Qme,h,Bool.true_or,Wm]
def md{j:Int}(h:0<j):Qmf (.int x 0) (.int j 0)=sI (x % j):=by simp only[Qmf];rw[if_pos h]
def TK(hs hs':Hs):Prop:=∀(i:Nat) us,hs[i]?=some (.tup us)->hs'[i]?=some (.tup us)
def TK.refl:TK hs hs:=λz z h=>h
def TK.trans{a b c:Hs}(h:TK a b)(h':TK b c):TK a c:=λi us e=>h' i us (h i us e)
def TK.app{r:Hs}:TK hs (hs++r):=λi us h=>Qr h
theorem TK.set{x y:O}(h:hs[i]?=some x)(n:∀us,x≠.tup us):TK hs (hs.set i y):=λj us e=>by
 have ne:i≠j:=λz=>by rw[z,e]at h;cases h;exact n us rfl
 rw[Xu ne];exact e
abbrev Nm:=Int×Int
structure Lp where
 ps:List Nm
 sd:Int
 lf:Int
def DN(hs:Hs)(u:U)(a:Nm):Prop:=∃i,u=.ref i/\hs[i]?=some (.tup [.int a.1 0,.int a.2 0])
def DL(hs:Hs)(u:U)(a:Lp):Prop:=∃i j us,u=.ref i/\hs[i]?=some (.tup [.ref j,.int a.sd 0,.int a.lf 0])/\hs[j]?=some (.tup us)/\Paired (DN hs) us a.ps
def DN.mono(t:TK hs hs'){a:Nm}(h:DN hs u a):DN hs' u a:=by obtain⟨i,e,h⟩:=h;exact⟨i,e,t _ _ h⟩
def Qb{P Q:α->β->Prop}(f:∀a b,P a b->Q a b){l:List α}{r:List β}(h:Paired P l r):Paired Q l r:=Paired.mono f h
def Qv{P:α->β->Prop}{a:α}{b:β}(h:P a b){l:List α}{r:List β}(t:Paired P l r):Paired P (l++[a]) (r++[b]):=t.snoc h
def Qd{P:α->β->Prop}{l:List α}{r:List β}(h:Paired P l r):l.length=r.length:=h.length
theorem DL.mono(t:TK hs hs'){a:Lp}(h:DL hs u a):DL hs' u a:=by obtain⟨i,j,us,e,h1,h2,h3⟩:=h;exact⟨i,j,us,e,t _ _ h1,t _ _ h2,Qb (λz z=>DN.mono t) h3⟩
def Qnc{lo hi:Option Int}(h:hs[p]?=some (.lst xs)):slU T (.ref p) lo hi hs=some (.ref hs.length,hs++[.lst (QZ xs lo hi)]):=by simp only[slU,h]
def Qgf{P:α->β->Prop}(n:Nat){l:List α}{r:List β}(h:Paired P l r):Paired P (l.drop n) (r.drop n):=Qbp h n
def Qge{P:α->β->Prop}(n:Nat){l:List α}{r:List β}(h:Paired P l r):Paired P (l.take n) (r.take n):=Qbo h n
noncomputable def nmK(a:Nm):List U:=[.int a.1 0,.int a.2 0]
def QaQ{a:Nm}(h:DN hs u a):tkU u hs=some (nmK a):=by
 obtain⟨i,rfl,e⟩:=h;simp only[tkU,e];rfl
def ZE{r:Hs}{a:Nm}(h:DN hs u a):DN (hs++r) u a:=h.mono TK.app
noncomputable def Jq(kept:List (U×List Nm)):Nat:=(kept.map λp=>p.2.length).sum
def Zt{P:α->β->Prop}{l l':List α}{r r':List β}(h:Paired P l r)(h':Paired P l' r'):Paired P (l++l') (r++r'):=Qb7 h h'
def QqJ(h:n<=1000000):Qk ((n:Int)*4)=true:=by
 simp only[Qk,Xj,Xq];lia
def JB{xs:List α}{x:α}(h:xs[i]?=some x):atU xs (i:Int)=some x:=by
 have l:=(Xc.mp h).1
 have e:ixU xs.length (i:Int)=some i:=by
  unfold ixU
  rw[if_pos (by lia),if_pos (by lia)]
  simp
 simp only[atU,e,h]
def Qa7{TT:Tbl}{a:E}(e:ev TT cf d a Z h=some (u,h1)):ex TT cf (d+1) (.set i a) Z h=some (.next,Z.set i (some u),h1):=by
 rw[Qdi,e,Qi]
def Ym{TT:Tbl}{t:Option E}{w:Wk}(es:Za TT (ev TT cf d) Z src h=some (w,h1))(ec:QS TT (ev TT cf d) (Z4 (evT TT cf d) t) w false el Z (Q2 TT w h1) 0 [] h1=some (us,h2)):ev TT cf (d+1) (.comp src false t el) Z h=some (.ref h2.length,h2++[.lst us]):=by
 rw[Qhh,es,Qi,ec,Qi]
def Yu{TT:Tbl}{o:Operator}{a b:E}{w:U}{r:Option (U×Hs)}(ea:ev TT cf d a Z h=some (u,h1))(eb:ev TT cf d b Z h1=some (w,h2))(eo:opU o u w h2=r):ev TT cf (d+1) (.op o a b) Z h=r:=by
 rw[Qkn,ea,Qi,eb,Qi,eo]
def Qc{TT:Tbl}(e:Z[i]?=some (some u)):ev TT cf (d+1) (.var i) Z h=some (u,h):=by
 rw[Qu,e]
def QJ{TT:Tbl}(e:ex TT cf (d+1) st Z h=some (.next,ρ',h1)):exs TT cf (d+2) [st] Z h=some (.next,ρ',h1):=by
 rw[QI,e];exact Qal
def Qlh{f:Ev}{a:E}{i:Int}(e:f a Z h=some (.int i 0,h1)):Za T f Z (.rng a) h=if Qk (i*4)=true then some (.rng 0 i.toNat,h1)else none:=by
 simp only[Za,e,Qi]
def Yl{TT:Tbl}{a:E}(e:ev TT cf d a Z h=some (.int (n:Int) 0,h1))(l:n<=1000000):Za TT (ev TT cf d) Z (.rng a) h=some (.rng 0 n,h1):=by
 rw[Qlh e,if_pos (QqJ l),Tq]
noncomputable def szR(rows:List (List Lp)):Nat:=(rows.map List.length).sum
def Qic{kvs2:List (U×U)}(he:ev T cf d e Z hs=some (.ref n,hs))(hn:hs[n]?=some (.dic kvs))(hf:QeO i (exs T cf d body) (kvs.map (·.1)) Z (hs.set n (.fzd kvs))=some (.next,ρ',h2))(h2n:h2[n]?=some (.fzd kvs2)):ex T cf (d+1) (.loopK i e body) Z hs=some (.next,ρ',h2.set n (.dic kvs2)):=by
 have dc:Qe3 (.ref n) hs hs=some (n,kvs):=by simp only[Qe3,hn]
 rw[ex,he,Qi,dc];simp only[];rw[hf];simp only[Qik,h2n]
def Ze{P:α->β->Prop}{l:List α}{r:List β}{a b:Option Int}(h:Paired P l r):Paired P (QZ l a b) (QZ r a b):=by
 unfold QZ;rw[Qd h];exact Qge _ (Qgf _ h)
def QcF:ev T cf (d+1) .dnewT Z hs=some (.ref hs.length,hs++[.dct []]):=by rw[ev]
def QbZ{l:List α}{x:α}(h:l[i]?=some x):l.set i x=l:=by
 obtain⟨lt,e⟩:=Xc.mp h;rw[<-e];exact List.set_getElem_self lt
def QU{t:Tg}{w:Wk}{r:Option (Fl×Rho×Hs)}(es:Za T (ev T cf d) Z src hs=some (w,h1))(ef:ZN T w t (exs T cf d body) (Q2 T w h1) 0 Z h1=r):ex T cf (d+1) (.loop t src body) Z hs=r:=by
 rw[QkC,es,Qi,ef]
def dvj{j:Int}(h:(decide ((0:Int) < j)&&decide (j<1606938044258990275541962092341162602522202993782792835301376))=true):QmD (.int x 0) (.int j 0)=sI (x / j):=by
 simp only[QmD];rw[if_pos h]
section

def Zd{j:Int}(h:Z[i]?=some (sI y)):evT T cf (d+3) (.cmp .Eq (.var i) (.c (.int j 0))) Z hs=some (decide (y=j),hs):=by
 rw[Qan,Qam,Qu,h];simp only[Qi,y_c,ZC,eq_int,Option.map,YB]
end
def QgQ:eqS (.ref i) (.ref j)=none:=rfl
def Yj{e:Nat}(hp:hs[p]?=some (.lst xs))(he:hs[e]?=some (.lst [])):eqA T (.ref p) (.ref e) hs=some (decide (xs=[])):=by
 cases xs with
 |nil=>simp[eqA,QgQ,Jc,Qbe,QB,hp,he]
 |cons a r=>simp[eqA,QgQ,Jc,QB,hp,he]
section

end
def Qd0{P:α->β->Prop}{l:List α}{r:List β}(h:Paired P l r):Paired P l.reverse r.reverse:=QhF h
def QkA{a:E}:ev T cf (d+1) (.rev a) Z hs=bd (ev T cf d a Z hs) λu h1=>(match QB T u h1 with|some xs=>some (.ref h1.length,h1++[.lst xs.reverse])|none=>none):=by rw[ev]<;>rfl
def Qbb{a b:E}{p r:Prop}[Decidable p][Decidable r](ea:evT T cf d a Z hs=some (decide p,hs))(eb:evT T cf d b Z hs=some (decide r,hs)):evT T cf (d+1) (.and a b) Z hs=some (decide (p/\r),hs):=by
 rw[Qao,ea,Qi,eb];by_cases hp:p
 ·simp[hp]
 ·simp[hp]
instance:DecidableEq Nm:=inferInstanceAs (DecidableEq (Int×Int))
def cl1{b:U}:Qa (tbG xx s) (m+1) 6 [a,b] hs=fin (exs (tbG xx s) (Qa (tbG xx s) m) dd b6 [some a,some b] hs):=rfl
def DK(hs:Hs)(u:U)(a:U×List Nm):Prop:=∃i j vs,u=.ref i/\hs[i]?=some (.tup [a.1,.ref j])/\hs[j]?=some (.lst vs)/\Paired (DN hs) vs a.2/\∃c,a.1=.str [c]/\c<128
def DRw(hs:Hs)(u:U)(a:List Lp):Prop:=∃i us,u=.ref i/\hs[i]?=some (.lst us)/\Paired (DL hs) us a
structure Wb where
 rows:List (List Lp)
 lie:List Nm
 kept:List (U×List Nm)
 off:List Nm
def DW(hs:Hs)(u:U)(D:Wb):Prop:=∃i a b k o ra rb rk ro,u=.ref i/\hs[i]?=some (.tup [.ref a,.ref b,.ref k,.ref o])/\hs[a]?=some (.lst ra)/\hs[b]?=some (.lst rb)/\hs[k]?=some (.lst rk)/\hs[o]?=some (.lst ro) /\
 Paired (DRw hs) ra D.rows/\Paired (DN hs) rb D.lie/\Paired (DK hs) rk D.kept/\Paired (DN hs) ro D.off
def DN.kp(k:Kp hs hs'){a:Nm}(h:DN hs u a):DN hs' u a:=h.mono λi us e=>k i _ e
def DL.kp(k:Kp hs hs'){a:Lp}(h:DL hs u a):DL hs' u a:=h.mono λi us e=>k i _ e
theorem DK.kp(k:Kp hs hs'){a:U×List Nm}(h:DK hs u a):DK hs' u a:=by obtain⟨i,j,vs,e,h1,h2,h3,h4⟩:=h;exact⟨i,j,vs,e,k _ _ h1,k _ _ h2,Qb (λz z=>DN.kp k) h3,h4⟩
theorem DRw.kp(k:Kp hs hs'){a:List Lp}(h:DRw hs u a):DRw hs' u a:=by obtain⟨i,us,e,h1,h2⟩:=h;exact⟨i,us,e,k _ _ h1,Qb (λz z=>DL.kp k) h2⟩
theorem DW.kp(k:Kp hs hs'){D:Wb}(h:DW hs u D):DW hs' u D:=by
 obtain⟨i,a,b,c,o,ra,rb,rk,ro,e,h1,h2,h3,h4,h5,h6,h7,h8,h9⟩:=h;exact⟨i,a,b,c,o,ra,rb,rk,ro,e,k _ _ h1,k _ _ h2,k _ _ h3,k _ _ h4,k _ _ h5,Qb (λz z=>DRw.kp k) h6,Qb (λz z=>DN.kp k) h7,Qb (λz z=>DK.kp k) h8,Qb (λz z=>DN.kp k) h9⟩
noncomputable def nmL(a:Nm):List Int:=[a.1,a.2]
noncomputable def QdH(off:List Nm):List Nm:=(L2.permK (if off.length<2 then []else off.map nmL) off.length).map λi=>off.getD i (0,0)
def QiX{P:α->β->Prop}{x:α}{y:β}{l:List α}{r:List β}(h:Paired P l r)(i:Nat)(li:i<l.length):P (l.getD i x) (r.getD i y):=by
 obtain⟨b,e,q⟩:=Jh h (Xe li);rw[Wt,Wt,e,Xe li];exact q
theorem QhE{α β:Type}{P:α->β->Prop}{x:α}{y:β}{l:List α}{r:List β}(h:Paired P l r):∀{is:List Nat},(∀i∈is,i<l.length)->Paired P (is.map λi=>l.getD i x) (is.map λi=>r.getD i y)
 |[],_=>.nil
 |i::is,m=>.cons (QiX h i (m i Xn)) (QhE h λj mj=>m j (Xl _ mj))
def QhV{nms:List Nm}(h:Paired (DN hs) us nms):QhW hs us=some (nms.map nmL):=by
 induction h with
 |nil=>rfl
 |cons h _ ih=>
  obtain⟨i,rfl,e⟩:=h;simp only[QhW,itU,e,JV,ih,Option.map,Option.bind,Xo,nmL]
def Qiw{nms:List Nm}(hp:hs[p]?=some (.lst us))(pn:Paired (DN hs) us nms)(l:us.length<64):∃vs,biU T .sorted [.ref p] hs=some (.ref hs.length,hs++[.lst vs])/\Paired (DN hs) vs (QdH nms):=by
 have el:=Qd pn
 have lt:∀ks n,∀i∈L2.permK ks n,i<n:=λks n i m=>by
  have:=(L2.permK_perm ks n).mem_iff.mp m;simpa using this
 refine⟨QcJ (if nms.length<2 then []else nms.map nmL) us,?_,?_⟩
 ·have e1:(if us.length<2 then some []else QhW hs us)=some (if nms.length<2 then []else nms.map nmL):=by
   rw[QhV pn,el];split<;>rfl
  show(QB T (.ref p) hs).bind _=_;simp only[QB,hp,Option.bind,l,Wm,e1,Option.map]
 ·unfold QcJ QdH;rw[el]
  exact QhE pn λi m=>by rw[el];exact lt _ _ i m
def QjR{f:α->β}{xs:List α}{a b:Option Int}:QZ (xs.map f) a b=(QZ xs a b).map f:=by
 unfold QZ;rw[X5,List.map_take,List.map_drop]
def Qa3{a b:Nat}(ha:hs[a]?=some (.lst xs))(hb:hs[b]?=some (.lst ys))(l:xs.length+ys.length<=1000000):Qkd (.ref a) (.ref b) hs=some (.ref hs.length,hs++[.lst (xs++ys)]):=by
 simp only[Qkd,ha,hb,Qpf,l,Wm]
def QkN{a b c:E}{h4:Hs}{w x:U}(ea:ev T cf d a Z h0=some (u,h1))(eb:ev T cf d b Z h1=some (v,h2))(ec:ev T cf d c Z h2=some (w,h3))(ee:ev T cf d e Z h3=some (x,h4)):ev T cf (d+1) (.tup [a,b,c,e]) Z h0=some (.ref h4.length,h4++[.tup [u,v,w,x]]):=by
 simp only[y_tup,evs,ea,eb,ec,ee,Qi]
section

def Zo(h:hs[i]?=some (.lst us))(k:us.all (λx=>okW T n x hs)=true):okW T (n+1) (.ref i) hs=true:=by simp only[okW,QB,h,k]
def Jj(h:hs[i]?=some (.tup us))(k:us.all (λx=>okW T n x hs)=true):okW T (n+1) (.ref i) hs=true:=by simp only[okW,QB,YA,h,k]
def ZH(h:hs[i]?=some (.lst us))(h':hs[j]?=some (.lst vs))(l:us.length=vs.length)(k:(us.zip vs).all (λp=>eqW T n p.1 p.2 hs)=true):eqW T (n+1) (.ref i) (.ref j) hs=true:=by
 simp only[eqW,QB,h,h',k,l,BEq.rfl,Vk]
def Y0(h:hs[i]?=some (.tup us))(h':hs[j]?=some (.tup vs))(l:us.length=vs.length)(k:(us.zip vs).all (λp=>eqW T n p.1 p.2 hs)=true):eqW T (n+1) (.ref i) (.ref j) hs=true:=by
 simp only[eqW,QB,YA,h,h',k,l,BEq.rfl,Vk]
def QhN:okW T (n+1) (.int x 0) hs=true:=rfl
def QeZ:eqW T (n+1) (.int x 0) (.int x 0) hs=true:=by
 show(x==x)=true;simp
def Zh{P:U->α->Prop}(f:∀u a,P u a->okW T n u hs=true){as:List α}(h:Paired P us as):us.all (λx=>okW T n x hs)=true:=by
 induction h with
 |nil=>rfl
 |cons h _ ih=>rw[Vb,f _ _ h,ih];rfl
def Yp{P:U->α->Prop}(f:∀u v a,P u a->P v a->eqW T n u v hs=true){as:List α}(h:Paired P us as)(h':Paired P vs as):us.length=vs.length/\(us.zip vs).all (λp=>eqW T n p.1 p.2 hs)=true:=by
 induction h generalizing vs with
 |nil=>cases h';exact⟨rfl,rfl⟩
 |cons h _ ih=>
  cases h' with
  |cons h' t'=>
   obtain⟨a,b⟩:=ih t';rw[Vu,Vb,f _ _ _ h h',b]
   exact⟨by simp[a],rfl⟩
def QaP{a:Nm}(h:DN hs u a):okW T (n+2) u hs=true:=by
 obtain⟨i,rfl,h⟩:=h
 exact Jj h (by simp[QhN])
def Qe2{a:Nm}(h:DN hs u a)(h':DN hs v a):eqW T (n+2) u v hs=true:=by
 obtain⟨i,rfl,h⟩:=h;obtain⟨j,rfl,h'⟩:=h'
 exact Y0 h h' rfl (by simp[QeZ])
def Qo1{a:Lp}(h:DL hs u a):okW T (n+4) u hs=true:=by
 obtain⟨i,j,us,rfl,h1,h2,h3⟩:=h
 exact Jj h1 (by simp only[Vb,Uz,QhN,Jj (n:=n+2) h2 (Zh (λz z=>QaP) h3),Vk])
def Qo2{a:Lp}(h:DL hs u a)(h':DL hs v a):eqW T (n+4) u v hs=true:=by
 obtain⟨i,j,us,rfl,h1,h2,h3⟩:=h;obtain⟨i',j',us',rfl,h1',h2',h3'⟩:=h';have:=Yp (P:=DN hs) (T:=T) (n:=n+2) (λz z z=>Qe2) h3 h3'
 exact Y0 h1 h1' rfl (by simp only[Vu,Tb,Vb,Uz,QeZ,Y0 (n:=n+2) h2 h2' this.1 this.2,Vk])
def QmB{a:List Lp}(h:DRw hs u a):okW T (n+5) u hs=true:=by
 obtain⟨i,us,rfl,h1,h2⟩:=h;exact Zo h1 (Zh (λz z=>Qo1) h2)
def QoZ{a:List Lp}(h:DRw hs u a)(h':DRw hs v a):eqW T (n+5) u v hs=true:=by
 obtain⟨i,us,rfl,h1,h2⟩:=h;obtain⟨i',us',rfl,h1',h2'⟩:=h';have:=Yp (P:=DL hs) (T:=T) (n:=n+4) (λz z z=>Qo2) h2 h2';exact ZH h1 h1' this.1 this.2
def QmC{a:U×List Nm}(h:DK hs u a):okW T (n+4) u hs=true:=by
 obtain⟨i,j,vs,rfl,h1,h2,h3,c,e,lc⟩:=h;rw[e]at h1
 have k:okW T (n+3) (.str [c]) hs=true:=by
  show([c].all λc=>decide (c<128))=true;simp[lc]
 exact Jj h1 (by simp only[Vb,Uz,k,Zo (n:=n+2) h2 (Zh (λz z=>QaP) h3),Vk])
def Qo3{a:U×List Nm}(h:DK hs u a)(h':DK hs v a):eqW T (n+4) u v hs=true:=by
 obtain⟨i,j,vs,rfl,h1,h2,h3,c,e,lc⟩:=h;obtain⟨i',j',vs',rfl,h1',h2',h3',c',e',lc'⟩:=h';rw[e]at h1 h1'
 have k:eqW T (n+3) (.str [c]) (.str [c]) hs=true:=by
  show([c]==[c])=true;simp
 have:=Yp (P:=DN hs) (T:=T) (n:=n+2) (λz z z=>Qe2) h3 h3'
 exact Y0 h1 h1' rfl (by simp only[Vu,Tb,Vb,Uz,k,ZH (n:=n+2) h2 h2' this.1 this.2,Vk])
def QoX{D:Wb}(h:DW hs u D)(h':DW hs v D):eqA T u v hs=some true:=by
 obtain⟨i,a,b,k,o,ra,rb,rk,ro,rfl,h1,h2,h3,h4,h5,h6,h7,h8,h9⟩:=h;obtain⟨i',a',b',k',o',ra',rb',rk',ro',rfl,h1',h2',h3',h4',h5',h6',h7',h8',h9'⟩:=h'
 have ok1:okW T 20 (.ref i) hs=true:=Jj h1 (by
  simp only[Vb,Uz,Zo (n:=18) h2 (Zh (λz z=>QmB) h6),Zo (n:=18) h3 (Zh (λz z=>QaP) h7),Zo (n:=18) h4 (Zh (λz z=>QmC) h8),Zo (n:=18) h5 (Zh (λz z=>QaP) h9),Vk])
 have ok2:okW T 20 (.ref i') hs=true:=Jj h1' (by
  simp only[Vb,Uz,Zo (n:=18) h2' (Zh (λz z=>QmB) h6'),Zo (n:=18) h3' (Zh (λz z=>QaP) h7'),Zo (n:=18) h4' (Zh (λz z=>QmC) h8'),Zo (n:=18) h5' (Zh (λz z=>QaP) h9'),Vk])
 have e1:=Yp (P:=DRw hs) (T:=T) (n:=18) (λz z z=>QoZ) h6 h6';have e2:=Yp (P:=DN hs) (T:=T) (n:=18) (λz z z=>Qe2) h7 h7';have e3:=Yp (P:=DK hs) (T:=T) (n:=18) (λz z z=>Qo3) h8 h8';have e4:=Yp (P:=DN hs) (T:=T) (n:=18) (λz z z=>Qe2) h9 h9'
 have ee:eqW T 20 (.ref i) (.ref i') hs=true:=Y0 h1 h1' rfl (by
  simp only[Vu,Tb,Vb,Uz,ZH (n:=18) h2 h2' e1.1 e1.2,ZH (n:=18) h3 h3' e2.1 e2.2,ZH (n:=18) h4 h4' e3.1 e3.2,ZH (n:=18) h5 h5' e4.1 e4.2,Vk])
 have l1:Jc T (.ref i) (.ref i') hs=false:=by simp only[Jc,QB,h1,h1']
 have l2:Qbe T (.ref i) (.ref i') hs=false:=by simp only[Qbe,QB,h1,h1']
 simp only[eqA,QgQ,l1,l2,ok1,ok2,ee,Vk,Wm,X9,Ww]
def Qmb{nms:List Nm}(h:hs[i]?=some (.lst us))(h':hs[j]?=some (.lst vs))(p:Paired (DN hs) us nms)(p':Paired (DN hs) vs nms):eqA T (.ref i) (.ref j) hs=some true:=by
 have e1:=Yp (P:=DN hs) (T:=T) (n:=19) (λz z z=>Qe2) p p'
 have l1:Jc T (.ref i) (.ref j) hs=false:=by simp[Jc,QB,h,h',e1.1]
 have ok1:okW T 20 (.ref i) hs=true:=Zo h (Zh (λz z=>QaP) p);have ok2:okW T 20 (.ref j) hs=true:=Zo h' (Zh (λz z=>QaP) p');have ee:eqW T 20 (.ref i) (.ref j) hs=true:=ZH h h' e1.1 e1.2;simp only[eqA,QgQ,l1,ok1,ok2,ee,Vk,Wm,X9,Ww];split<;>rfl
end
def Qih{TT:Tbl}{t:Option E}{w:Wk}{b:Bool}(es:Za TT (ev TT cf d) Z src h=some (w,h1))(ec:QS TT (ev TT cf d) (Z4 (evT TT cf d) t) w b el Z (Q2 TT w h1) 0 [] h1=some (us,h2)):ev TT cf (d+1) (.comp src b t el) Z h=some (.ref h2.length,h2++[.lst us]):=by
 rw[Qhh,es,Qi,ec,Qi]
def Yb{TT:Tbl}{a:E}(e:ev TT cf d a Z h=some (u,h1)):fin (exs TT cf (d+2) [.ret a] Z h)=some (u,h1):=by
 rw[QI,Qak,e];rfl
def QjJ{D:Wb}(h:DW hs u D):∃a ra,QH T u (.int 0 0) hs=sR a/\hs[a]?=some (.lst ra)/\Paired (DRw hs) ra D.rows:=by
 obtain⟨i,a,b,k,o,ra,rb,rk,ro,rfl,h1,h2,h3,h4,h5,h6,h7,h8,h9⟩:=h
 exact⟨a,ra,by simp only[QH,h1];exact JB (i:=0) rfl,h2,h6⟩
def QoD:QbA T .int (.int x 0) hs=some true:=rfl
def QoE:QbA T .bool (.int x 0) hs=some false:=rfl
theorem QhG:∀ns:List Int,Paired (λ(u:U) (i:Int)=>∃r m,u=.int r m/\∃q:Int,i=r+m*q) (ns.map λi=>U.int i 0) ns
 |[]=>.nil
 |n::r=>.cons ⟨n,0,rfl,0,by simp⟩ (QhG r)
def cl7:Qa (tbG xx s) (m+1) 7 [a] hs=fin (exs (tbG xx s) (Qa (tbG xx s) m) dd b7 [some a] hs):=rfl
def cl8:Qa (tbG xx s) (m+1) 8 [a] hs=fin (exs (tbG xx s) (Qa (tbG xx s) m) dd b8 [some a] hs):=rfl
def cl9:Qa (tbG xx s) (m+1) 9 [a] hs=fin (exs (tbG xx s) (Qa (tbG xx s) m) dd b9 [some a] hs):=rfl
def Qfp:Qa (tbG xx s) (m+1) 7 [.int x 0] hs=some (.bl true,hs):=by
 rw[cl7];refine Yb (d:=98) ?_;generalize Qa (tbG xx s) m=cf;generalize tbG xx s=T;simp only[QfJ,QfI,Qu,QkB,Qi,Xh,QoD,QoE,Option.map,YB,Bool.not_false]
def QmL{a:Nm}(h:DN hs u a):Qa (tbG xx s) (m+2) 8 [u] hs=some (.bl true,hs):=by
 obtain⟨i,rfl,h⟩:=h;have w1:=Qfp (xx:=xx) (s:=s) (m:=m) (x:=a.1) (hs:=hs);have w2:=Qfp (xx:=xx) (s:=s) (m:=m) (x:=a.2) (hs:=hs);rw[cl8];refine Yb (d:=98) ?_
 have i1:QbA (tbG xx s) .tuple (.ref i) hs=some true:=by simp only[QbA,QaH,h];rfl
 have l1:biU (tbG xx s) .len [.ref i] hs=some (.int 2 0,hs):=by unfold biU;simp only[ZF,h];rfl
 have s1:QH (tbG xx s) (.ref i) (.int 0 0) hs=sI a.1:=by simp only[QH,h];exact JB (i:=0) rfl
 have s2:QH (tbG xx s) (.ref i) (.int 1 0) hs=sI a.2:=by simp only[QH,h];exact JB (i:=1) rfl
 generalize Qa (tbG xx s) (m+1)=cf at w1 w2 ⊢;generalize tbG xx s=T at i1 l1 s1 s2 ⊢;simp only[QfJ,QfI,Qu,Qam,y_bi,evs,y_c,y_call,y_ix,Qi,Xh,i1,l1,s1,s2,w1,w2,Option.map,ZC,eq_int,decide_true]
def Qfc(hp:hs[p]?=some (.lst us)):∀(vs:List U) (nms:List Nm) (i k:Nat),us.drop i=vs->Paired (DN hs) vs nms->vs.length<k ->
  QS (tbG xx s) (ev (tbG xx s) (Qa (tbG xx s) (m+2)) (d+10)) (Z4 (evT (tbG xx s) (Qa (tbG xx s) (m+2)) (d+10)) (some (.not (.call 8 [(.var 1)])))) (.seqL (.ref p)) false (.var 1) [sR p] k i [] hs=some ([],hs):=by
 intro vs
 induction vs with
 |nil=>
  intro nms i k hd pr lk
  cases k with
  |zero=>simp at lk
  |succ k=>
   have e:us[i]?=none:=by rw[X6];exact Sc.mp hd
   simp[QS,itm,QB,hp,e]
 |cons v vs ih=>
  intro nms i k hd pr lk
  cases pr with
  |cons dv pr=>
   cases k with
   |zero=>simp at lk
   |succ k=>
    have e:us[i]?=some v:=by
     have:=Ur (xs:=us) (i:=i) (j:=0);rw[hd]at this;simpa using this.symm
    have hd':us.drop (i+1)=vs:=by rw[<-Si,hd];rfl
    have g:=ih _ (i+1) k hd' pr (by simpa using lk)
    have cn:=QmL (xx:=xx) (s:=s) (m:=m) dv;rw[QS];generalize Qa (tbG xx s) (m+2)=cf at cn g ⊢;generalize tbG xx s=T at g ⊢
    simp only[itm,QB,hp,e,Option.map,tgt,tgN,Qdh,W5,show(0:Nat) < 1000000 by decide,Wm,Z4,Qhi,Qdk,y_call,evs,Qu,Qi,Wa,Vj,Tx,Vc,We,Wi,Xm,Xh,X9,Ww,cn,YB,U6]
    exact g
def Qg2{nms:List Nm}(hp:hs[p]?=some (.lst us))(pn:Paired (DN hs) us nms):Qa (tbG xx s) (m+3) 9 [.ref p] hs=some (.bl true,hs++[O.lst [],O.lst []]):=by
 rw[cl9];refine Yb (d:=98) ?_
 have i1:QbA (tbG xx s) .list (.ref p) hs=some true:=by simp only[QbA,QaH,hp];rfl
 have cn:=Qfc (xx:=xx) (s:=s) (m:=m) (d:=85) hp us nms 0 (us.length+1) rfl pn (by lia)
 have sr:Za (tbG xx s) (ev (tbG xx s) (Qa (tbG xx s) (m+2)) 95) [sR p] (.seq (.var 0)) hs=some (.seqL (.ref p),hs):=by
  have k1:wkS (tbG xx s) (.ref p) hs=some (.seqL (.ref p)):=by simp only[wkS,QB,hp]
  generalize Qa (tbG xx s) (m+2)=cf;generalize tbG xx s=T at k1 ⊢;simp only[Za,Qu,Xh,Qi,k1,Option.map]
 have tn:Q2 (tbG xx s) (.seqL (.ref p)) hs=us.length+1:=by simp only[Q2,QB,hp,Uj]
 have vc:=Qih (d:=95) sr (by rw[tn];exact cn)
 have eq:=Yj (T:=tbG xx s) (hs:=hs++[O.lst [],O.lst []]) (p:=hs.length) (e:=hs.length+1) (xs:=[]) at0 (by rw[Wg (by lia)];simp)
 generalize Qa (tbG xx s) (m+2)=cf at vc ⊢;generalize tbG xx s=T at i1 vc eq ⊢
 have a1:ev T cf 97 (.cmp .Eq (.comp (.seq (.var 0)) false (some (.not (.call 8 [(.var 1)]))) (.var 1)) (.lst [])) [sR p] hs=some (.bl true,hs++[O.lst [],O.lst []]):=by
  refine QkS (d:=96) vc (w:=.ref (hs.length+1)) (h2:=hs++[O.lst [],O.lst []]) ?_ (by simpa[ZC]using eq)
  simp[y_lst,evs,Qi]
 simp only[b9,QfJ,QfI,Qu,Qi,Xh,i1,Option.map];exact a1
section

def Rr(T:Tbl)(cf:Cf)(d:Nat)(e:E)(Z:Rho)(h:Hs)(Q:U->Hs->Prop):Prop:=∃u h1,ev T cf d e Z h=some (u,h1)/\Q u h1
def Xx(T:Tbl)(cf:Cf)(d:Nat)(ss:List S)(Z:Rho)(h:Hs)(Q:Fl->Rho->Hs->Prop):Prop:=∃f ρ1 h1,exs T cf d ss Z h=some (f,ρ1,h1)/\Q f ρ1 h1
def Cc(T:Tbl)(m f:Nat)(us:List U)(h:Hs)(Q:U->Hs->Prop):Prop:=∃u h1,Qa T m f us h=some (u,h1)/\Q u h1
def Fq(Q:U->Hs->Prop):Fl->Rho->Hs->Prop:=λf z h=>match f with
 |.next=>Q .non h
 |.ret u=>Q u h
 |_=>False
def Nq(T:Tbl)(cf:Cf)(d:Nat)(r:List S)(Q:Fl->Rho->Hs->Prop):Fl->Rho->Hs->Prop:=λf Z h=>match f with
 |.next=>Xx T cf d r Z h Q
 |f=>Q f Z h
def Qh8{b:List S}{Q:U->Hs->Prop}(e:Qa T (m+1) f us h=fin (exs T (Qa T m) dd b Z h))(x:Xx T (Qa T m) 100 b Z h (Fq Q)):Cc T (m+1) f us h Q:=by
 obtain⟨f,ρ1,h1,a,q⟩:=x
 cases f with
 |next=>exact⟨_,_,by rw[e,show dd=100 from rfl,a];rfl,q⟩
 |ret u=>exact⟨_,_,by rw[e,show dd=100 from rfl,a];rfl,q⟩
 |brk=>exact q.elim
 |cont=>exact q.elim
def Cc.mono{Q Q':U->Hs->Prop}(c:Cc T m f us h Q)(k:∀u h1,Q u h1->Q' u h1):Cc T m f us h Q':=by obtain⟨u,h1,a,b⟩:=c;exact⟨u,h1,a,k u h1 b⟩
variable {r:List S}{G:U->Hs->Prop}
def QM(q:Q .next Z h):Xx T cf (d+1) [] Z h Q:=⟨_,_,_,Qal,q⟩
def QhB{ρ1:Rho}(e:ex T cf d st Z h=some (.next,ρ1,h1))(q:Xx T cf d r ρ1 h1 Q):Xx T cf (d+1) (st::r) Z h Q:=by obtain⟨f,a,b,c,x⟩:=q;exact⟨f,a,b,by rw[QI,e];exact c,x⟩
def Q3(q:Rr T cf d e Z h λu h1=>Xx T cf (d+1) r (Z.set i (some u)) h1 Q):Xx T cf (d+2) (.set i e::r) Z h Q:=by obtain⟨u,h1,a,b⟩:=q;exact QhB (by rw[Qdi,a,Qi]) b
def Yv(q:Rr T cf d e Z h λz h1=>Xx T cf (d+1) r Z h1 Q):Xx T cf (d+2) (.expr e::r) Z h Q:=by obtain⟨u,h1,a,b⟩:=q;exact QhB (by rw[Qdj,a,Qi]) b
def QiN(q:Rr T cf d e Z h λu h1=>Q (.ret u) Z h1):Xx T cf (d+2) (.ret e::r) Z h Q:=by obtain⟨u,h1,a,b⟩:=q;exact⟨_,_,_,by rw[QI,Qak,a,Qi],b⟩
def QdT{o i:E}{x k:U}{h4:Hs}(ee:ev T cf d e Z h=some (u,h1))(eo:ev T cf d o Z h1=some (x,h2))(ei:ev T cf d i Z h2=some (k,h3))(ep:JI x k u h3=some h4)(q:Xx T cf (d+1) r Z h4 Q):Xx T cf (d+2) (.put o i e::r) Z h Q:=QhB (by rw[y_put,ee,Qi,eo,Qi,ei,Qi,ep];rfl) q
def Qdg{t:E}{a b:List S}(e:evT T cf d t Z h=some (c,h1))(q:Xx T cf d (if c=true then a else b) Z h1 (Nq T cf (d+1) r Q)):Xx T cf (d+2) (.ite t a b::r) Z h Q:=by
 obtain⟨f,ρ1,h2,x,q⟩:=q
 have e1:ex T cf (d+1) (.ite t a b) Z h=some (f,ρ1,h2):=by rw[YJ,e,Qi];cases c<;>exact x
 cases f with
 |next=>exact QhB e1 q
 |ret u=>exact⟨_,_,_,by rw[QI,e1],q⟩
 |brk=>exact⟨_,_,_,by rw[QI,e1],q⟩
 |cont=>exact⟨_,_,_,by rw[QI,e1],q⟩
def QiO{t:E}{a b:List S}(e:evT T cf d t Z h=some (c,h1))(q:Xx T cf d (if c=true then a else b) Z h1 (Fq G)):Xx T cf (d+2) [.ite t a b] Z h (Fq G):=by
 obtain⟨f,ρ1,h2,x,q⟩:=q;refine Qdg e ⟨f,ρ1,h2,x,?_⟩
 cases f with
 |next=>exact QM q
 |ret u=>exact q
 |brk=>exact q
 |cont=>exact q
def QcM{t:E}{a b:List S}{p:Prop}[Decidable p](e:evT T cf d t Z h=some (decide p,h1))(hp:p)(q:Xx T cf d a Z h1 (Fq G)):Xx T cf (d+2) [.ite t a b] Z h (Fq G):=QiO e (by rw[Wz hp];exact q)
def Qa5{t:E}{a b:List S}{p:Prop}[Decidable p](e:evT T cf d t Z h=some (decide p,h1))(hp:¬p)(q:Xx T cf d b Z h1 (Fq G)):Xx T cf (d+2) [.ite t a b] Z h (Fq G):=QiO e (by rw[Wf hp];exact q)
def Jg{t:Tg}{w:Wk}(es:Za T (ev T cf d) Z src h=some (w,h1))(q:∃ρ2 h2,ZN T w t (exs T cf d body) (Q2 T w h1) 0 Z h1=some (.next,ρ2,h2)/\Xx T cf (d+1) r ρ2 h2 Q):Xx T cf (d+2) (.loop t src body::r) Z h Q:=by obtain⟨_,_,a,b⟩:=q;exact QhB (QU es a) b
def Zl(a:ev T cf d e Z h=some (u,h1))(q:G u h1):Rr T cf d e Z h G:=⟨_,_,a,q⟩
def QhA(a:evs (ev T (Qa T m) d) Z es h=some (us,h1))(q:Cc T m f us h1 G):Rr T (Qa T m) (d+1) (.call f es) Z h G:=by obtain⟨_,_,b,c⟩:=q;exact⟨_,_,by rw[y_call,a,Qi,b],c⟩
def Qbk{o:E}(a:ev T cf d o Z h=some (.ref p,h0))(hp:h0[p]?=some (.lst xs))(q:Rr T cf d e Z h0 λu h1=>∃ys,h1[p]?=some (.lst ys)/\ys.length<1000000/\G .non (h1.set p (.lst (ys++[u])))):Rr T cf (d+1) (.bm .append o [e]) Z h G:=by
 obtain⟨u,h1,b,ys,h2,l,g⟩:=q
 exact⟨_,_,by rw[Qko,a,Qi,if_pos (Qlu hp)];simp only[evs,b,Qi,QmZ h2 l],g⟩
def QO{k r:U}(hi:Z[i]?=some (sR w))(e:QH T (.ref w) k h=some r):ev T cf (d+2) (.ix (.var i) (.c k)) Z h=some (r,h):=by rw[y_ix,Qc hi,Qi,y_c,Qi,e];rfl
def Yd(a:evs (ev T cf d) Z es h=some (us,h1))(b:cf f us h1=some (u,h2)):ev T cf (d+1) (.call f es) Z h=some (u,h2):=by rw[y_call,a,Qi,b]
def Zx(a:ev T cf d e Z h=some (u,h1)):exs T cf (d+2) (.set i e::r) Z h=exs T cf (d+1) r (Z.set i (some u)) h1:=by rw[QI,Qdi,a,Qi]
def YL{k r:U}(hi:Z[i]?=some (some u))(e:QH T u k h=some r):ev T cf (d+2) (.ix (.var i) (.c k)) Z h=some (r,h):=by rw[y_ix,Qc hi,Qi,y_c,Qi,e];rfl
def e_1(a:ev T cf d e Z h=some (u,h1)):evs (ev T cf d) Z [e] h=some ([u],h1):=by simp only[evs,a,Qi]
def Qid{t:E}{a:List S}(e:evT T cf (d+1) t Z h=some (c,h1))(hc:c=false):ex T cf (d+2) (.ite t a []) Z h=some (.next,Z,h1):=Qib (by rw[e,hc])
def Qp6{t:E}{a:List S}(e:evT T cf (d+1) t Z h=some (c,h1))(hc:c=false):exs T cf (d+3) (.ite t a []::r) Z h=exs T cf (d+2) r Z h1:=QT (Qid e hc)
def Qnv{t:E}{b:List S}(et:evT T cf (d+2) t Z h=some (c,h1))(hc:c=true)(v:ev T cf d e Z h1=some (u,h2)):fin (exs T cf (d+4) (.ite t [.ret e] b::r) Z h)=some (u,h2):=by subst hc;rw[QI,YJ,et,Qi,if_pos rfl,QI,Qak,v,Qi];rfl
def Qnw{n:S}{x:Option (Fl×Rho×Hs)}(e:ex T cf d n Z h=x):ex T cf (d+1) (.cal n f es) Z h=x:=by rw[ex];exact e
def Yc(a:ev T cf d e Z h=some (.ref p,h1))(hp:h1[p]?=some (.lst xs)):ev T cf (d+1) (.bi .len [e]) Z h=some (.int xs.length 0,h1):=by rw[y_bi];simp only[evs,a,Qi,JR hp]
def Yk{a b:E}(ea:ev T cf d a Z h=some (u,h1))(eb:ev T cf d b Z h1=some (v,h2)):ev T cf (d+1) (.tup [a,b]) Z h=some (.ref h2.length,h2++[.tup [u,v]]):=by rw[y_tup];simp only[evs,ea,eb,Qi]
def Qdp{a b c:E}{w:U}(ea:ev T cf d a Z h=some (u,h1))(eb:ev T cf d b Z h1=some (v,h2))(ec:ev T cf d c Z h2=some (w,h3)):ev T cf (d+1) (.tup [a,b,c]) Z h=some (.ref h3.length,h3++[.tup [u,v,w]]):=by rw[y_tup];simp only[evs,ea,eb,ec,Qi]
def Qkq{b:Bi}{x:Option (U×Hs)}(a:ev T cf d e Z h=some (u,h1))(eb:biU T b [u] h1=x):ev T cf (d+1) (.bi b [e]) Z h=x:=by rw[y_bi];simp only[evs,a,Qi,eb]
def Qos{j:Int}(hj:(decide ((0:Int) < j)&&decide (j<1606938044258990275541962092341162602522202993782792835301376))=true):opU .FloorDiv (.int x 0) (.int j 0) h=some (.int (x / j) 0,h):=by show(QmD _ _).map _=_;rw[dvj hj];rfl
def Qgo{j:Int}(hj:0<j):opU .Mod (.int x 0) (.int j 0) h=some (.int (x % j) 0,h):=by show(Qmf _ _).map _=_;rw[md hj];rfl
def QaB{j:Int}:opU .Add (.int x 0) (.int j 0) h=some (.int (x+j) 0,h):=rfl
def Qjk{j:Int}:opU .Sub (.int x 0) (.int j 0) h=some (.int (x-j) 0,h):=rfl
def Ql7:opU .Mult (.int 2 0) (.int x 0) h=some (.int (2*x) 0,h):=by simp only[opU,QqU];rfl
def Zq{a:E}{j:Int}(ea:ev T cf (d+1) a Z h=some (.int x 0,h1))(hj:(decide ((0:Int) < j)&&decide (j<1606938044258990275541962092341162602522202993782792835301376))=true):ev T cf (d+2) (.op .FloorDiv a (.c (.int j 0))) Z h=some (.int (x / j) 0,h1):=Yu ea y_c (Qos hj)
def Zp{a:E}{j:Int}(ea:ev T cf (d+1) a Z h=some (.int x 0,h1))(hj:0<j):ev T cf (d+2) (.op .Mod a (.c (.int j 0))) Z h=some (.int (x % j) 0,h1):=Yu ea y_c (Qgo hj)
def QkP{a:E}(ea:ev T cf (d+1) a Z h=some (.int x 0,h1)):ev T cf (d+3) (.op .Sub (.c (.int 1 0)) (.op .Mult (.c (.int 2 0)) a)) Z h=some (.int (1-2*x) 0,h1):=Yu y_c (Yu y_c ea Ql7) Qjk
def QnJ{a b:E}(ea:ev T cf d a Z h=some (.int x 0,h1))(eb:ev T cf d b Z h1=some (.int y 0,h2)):evT T cf (d+2) (.cmp .Gt a b) Z h=some (decide (y<x),h2):=QK ea eb rfl
def Qkr{a b:E}(ea:ev T cf d a Z h=some (.int x 0,h1))(eb:ev T cf d b Z h1=some (.int y 0,h2)):evT T cf (d+2) (.cmp .Eq a b) Z h=some (decide (x=y),h2):=QK ea eb rfl
end
abbrev Vp:=Nat->O->Prop
def Le(P P':Vp):Prop:=∀i o,P i o->P' i o
noncomputable def ad(P:Vp)(j:Nat)(x:O):Vp:=λi o=>P i o\/(i=j/\o=x)
def Le.refl{P:Vp}:Le P P:=λz z h=>h
def Le.trans{P P1 P2:Vp}(a:Le P P1)(b:Le P1 P2):Le P P2:=λi o h=>b i o (a i o h)
def le_ad{P:Vp}{x:O}:Le P (ad P j x):=λz z h=>.inl h
def Q1{P:Vp}{x:O}:ad P j x j x:=.inr ⟨rfl,rfl⟩
structure Own(h:Hs)(C:List (Nat×O))(P:Vp):Prop where
 c:∀(k i:Nat) x,C[k]?=some (i,x)->h[i]?=some x
 nd:∀(k k' i:Nat) x x',C[k]?=some (i,x)->C[k']?=some (i,x')->k=k'
 p:∀i o,P i o->h[i]?=some o
 q:∀i o,P i o->∀(k:Nat) x,C[k]?≠some (i,x)
section
variable {P:Vp}{x y:O}
def Yo{C:List α}{k k':Nat}{a b:α}(e:(C.set k a)[k']?=some b):(k'=k/\b=a)\/(k'≠k/\C[k']?=some b):=by
 by_cases z:k=k'
 ·subst z;rw[List.getElem?_set]at e;split at e
  ·split at e<;>cases e;exact .inl ⟨rfl,rfl⟩
  ·contradiction
 ·rw[Xu z]at e;exact .inr ⟨Wr z,e⟩
def Own.lt(o:Own h C P){k:Nat}(e:C[k]?=some (i,x)):i<h.length:=(Xc.mp (o.c _ _ _ e)).1
theorem Own.set(o:Own h C P)(k:Nat)(e:C[k]?=some (i,x)):Own (h.set i y) (C.set k (i,y)) P:=by
 have ne:∀(k' j:Nat) z,k'≠k->C[k']?=some (j,z)->i≠j:=λk' j z n a b=>n (o.nd _ _ _ _ _ a (b▸e));refine⟨λk' j z a=>?_,λk1 k2 j z1 z2 a b=>?_,λj z a=>?_,λj z a k' z' b=>?_⟩
 ·rcases Yo a with⟨_,rfl,rfl⟩|⟨n,a⟩
  ·rw[Xz (o.lt e)]
  ·rw[Xu (ne _ _ _ n a)];exact o.c _ _ _ a
 ·rcases Yo a with⟨e1,a⟩|⟨n1,a⟩<;>rcases Yo b with⟨e2,b⟩|⟨n2,b⟩
  ·rw[e1,e2]
  ·cases a;exact absurd rfl (ne _ _ _ n2 b)
  ·cases b;exact absurd rfl (ne _ _ _ n1 a)
  ·exact o.nd _ _ _ _ _ a b
 ·rw[Xu (λz=>o.q _ _ a k x (by rw[<-z];exact e))];exact o.p _ _ a
 ·rcases Yo b with⟨_,b⟩|⟨_,b⟩
  ·cases b;exact o.q _ _ a _ _ e
  ·exact o.q _ _ a _ _ b
def Own.add(o:Own h C P):Own (h++[y]) C (ad P h.length y):=by
 refine⟨λk j z a=>Qr (o.c _ _ _ a),o.nd,λj z a=>?_,λj z a k z' b=>?_⟩
 ·rcases a with a|⟨rfl,rfl⟩
  ·exact Qr (o.p _ _ a)
  ·exact at0
 ·rcases a with a|⟨rfl,rfl⟩
  ·exact o.q _ _ a _ _ b
  ·exact absurd (o.lt b) (W4 _)
def Own.swap(o:Own h C P)(k:Nat)(e:C[k]?=some (i,x)):Own (h++[y]) (C.set k (h.length,y)) (ad P i x):=by
 refine⟨λk' j z a=>?_,λk1 k2 j z1 z2 a b=>?_,λj z a=>?_,λj z a k' z' b=>?_⟩
 ·rcases Yo a with⟨_,a⟩|⟨_,a⟩
  ·cases a;exact at0
  ·exact Qr (o.c _ _ _ a)
 ·rcases Yo a with⟨e1,a⟩|⟨_,a⟩<;>rcases Yo b with⟨e2,b⟩|⟨_,b⟩
  ·rw[e1,e2]
  ·cases a;exact absurd (o.lt b) (W4 _)
  ·cases b;exact absurd (o.lt a) (W4 _)
  ·exact o.nd _ _ _ _ _ a b
 ·rcases a with a|⟨rfl,rfl⟩
  ·exact Qr (o.p _ _ a)
  ·exact Qr (o.c _ _ _ e)
 ·have l:j<h.length:=by
   rcases a with a|⟨rfl,rfl⟩
   ·exact(Xc.mp (o.p _ _ a)).1
   ·exact o.lt e
  rcases Yo b with⟨_,b⟩|⟨n,b⟩
  ·cases b;exact absurd l (W4 _)
  ·rcases a with a|⟨rfl,rfl⟩
   ·exact o.q _ _ a _ _ b
   ·exact n (o.nd _ _ _ _ _ b e)
def Own.new(o:Own h C P):Own (h++[y]) (C++[(h.length,y)]) P:=by
 have cs:∀(k j:Nat) z,(C++[(h.length,y)])[k]?=some (j,z)->C[k]?=some (j,z)\/(k=C.length/\j=h.length/\z=y):=λk j z a=>by
  rw[List.getElem?_append]at a;split at a
  ·exact .inl a
  ·rename_i n;have l:=(Xc.mp a).1
   have e:k=C.length:=by simp at l;lia
   subst e;simp at a;exact .inr ⟨rfl,a.1.symm,a.2.symm⟩
 refine⟨λk j z a=>?_,λk1 k2 j z1 z2 a b=>?_,λj z a=>Qr (o.p _ _ a),λj z a k z' b=>?_⟩
 ·rcases cs _ _ _ a with a|⟨_,rfl,rfl⟩
  ·exact Qr (o.c _ _ _ a)
  ·exact at0
 ·rcases cs _ _ _ a with a|⟨e1,f1,_⟩<;>rcases cs _ _ _ b with b|⟨e2,f2,_⟩
  ·exact o.nd _ _ _ _ _ a b
  ·subst f2;exact absurd (o.lt a) (W4 _)
  ·subst f1;exact absurd (o.lt b) (W4 _)
  ·rw[e1,e2]
 ·rcases cs _ _ _ b with b|⟨_,rfl,_⟩
  ·exact o.q _ _ a _ _ b
  ·exact absurd (Xc.mp (o.p _ _ a)).1 (W4 _)
end
theorem Yw{T:Tbl}{w:Wk}{t:Tg}{body:Ex}(I:Nat->Rho->Hs->Prop){n:Nat}
  (st:∀i,i<n->∀Z hs,I i Z hs->∃x ρ' ρ2 h2,itm T w i hs=some (some x)/\tgt t x Z hs=some ρ'/\body ρ' hs=some (.next,ρ2,h2)/\I (i+1) ρ2 h2)
  (en:∀Z hs,I n Z hs->itm T w n hs=some none):
  ∀(m i k:Nat) (Z:Rho) (hs:Hs),n=i+m->m<k->I i Z hs->∃ρ2 h2,ZN T w t body k i Z hs=some (.next,ρ2,h2)/\I n ρ2 h2
 |m,i,0,Z,hs,e,l,h=>by lia
 |0,i,k+1,Z,hs,e,l,h=>by
  have e':n=i:=by lia
  subst e'
  exact⟨Z,hs,by simp only[ZN,en Z hs h],h⟩
 |m+1,i,k+1,Z,hs,e,l,h=>by
  obtain⟨x,ρ',ρ1,h1,a,b,c,d⟩:=st i (by lia) Z hs h
  obtain⟨ρ2,h2,g1,g2⟩:=Yw I st en m (i+1) k ρ1 h1 (by lia) (by lia) d
  exact⟨ρ2,h2,by simp only[ZN,a,b,c,g1],g2⟩
theorem Y4{T:Tbl}{f:Ev}{ft:Rho->Hs->Option (Bool×Hs)}{w:Wk}{el:E}{Z:Rho}(I:Nat->List U->Hs->Prop){n:Nat}
  (st:∀i,i<n->∀acc hs,I i acc hs->acc.length<1000000/\∃x b h1,itm T w i hs=some (some (.one x))/\ft (Z++[some x]) hs=some (b,h1)/\(b=true->∃u h2,f el (Z++[some x]) h1=some (u,h2)/\I (i+1) (acc++[u]) h2)/\(b=false->I (i+1) acc h1))
  (en:∀acc hs,I n acc hs->itm T w n hs=some none):
  ∀(m i k:Nat) (acc:List U) (hs:Hs),n=i+m->m<k->I i acc hs->∃us h2,QS T f ft w false el Z k i acc hs=some (us,h2)/\I n us h2
 |m,i,0,acc,hs,e,l,h=>by lia
 |0,i,k+1,acc,hs,e,l,h=>by
  have e':n=i:=by lia
  subst e'
  exact⟨acc,hs,by simp only[QS,en acc hs h],h⟩
 |m+1,i,k+1,acc,hs,e,l,h=>by
  obtain⟨la,x,b,h1,a,t,y,z⟩:=st i (by lia) acc hs h
  have sx:(Z++[none]).set Z.length (some x)=Z++[some x]:=by
   rw[Vx _ _ (Xg _),Sb];rfl
  cases b with
  |true=>
   obtain⟨u,h2,c,d⟩:=y rfl
   obtain⟨us,h3,g1,g2⟩:=Y4 I st en m (i+1) k _ h2 (by lia) (by lia) d
   refine⟨us,h3,?_,g2⟩;rw[QS];simp only[a,tgt,tgN,Qdh,X9,Ww,la,Wm,sx,t,Qi,c,g1]
  |false=>
   obtain⟨us,h3,g1,g2⟩:=Y4 I st en m (i+1) k _ h1 (by lia) (by lia) (z rfl)
   refine⟨us,h3,?_,g2⟩;rw[QS];simp only[a,tgt,tgN,Qdh,X9,Ww,la,Wm,sx,t,Qi,g1]
def Zu{P:α->β->Prop}{l:List α}{r:List β}(h:Paired P l r){b:β}(e:r[i]?=some b):∃a,l[i]?=some a/\P a b:=by
 induction h generalizing i with
 |nil=>cases e
 |cons x _ ih=>
  cases i with
  |zero=>cases(show some _=some _ from e);exact⟨_,rfl,x⟩
  |succ i=>exact ih e
def Qeq{R:U->α->Prop}{L:List α}{t:Tg}{body:Ex}(I:Nat->Rho->Hs->Prop)(pu:Paired R us L)(hl:∀i Z hs,I i Z hs->hs[l]?=some (.lst us))
  (st:∀i a v,L[i]?=some a->R v a->∀Z hs,I i Z hs->∃ρ' ρ2 h2,tgt t (.one v) Z hs=some ρ'/\body ρ' hs=some (.next,ρ2,h2)/\I (i+1) ρ2 h2) (h:I 0 Z hs):
  ∃ρ2 h2,ZN T (.seqL (.ref l)) t body (Q2 T (.seqL (.ref l)) hs) 0 Z hs=some (.next,ρ2,h2)/\I L.length ρ2 h2:=by
 have el:=pu.length
 have e:Q2 T (.seqL (.ref l)) hs=us.length+1:=by simp only[Q2,QB,hl _ _ _ h,Uj]
 rw[e]
 refine Yw I (λi hi Z hs h=>?_) (λZ hs h=>?_) L.length 0 _ Z hs (Vj _).symm (by lia) h
 ·obtain⟨v,hv,dv⟩:=Zu pu (Xe hi);obtain⟨ρ',ρ2,h2,a,b,c⟩:=st i _ v (Xe hi) dv Z hs h
  exact⟨_,ρ',ρ2,h2,by simp only[itm,QB,hl _ _ _ h,Option.map,hv],a,b,c⟩
 ·have:us[L.length]?=none:=by rw[X6];lia
  simp only[itm,QB,hl _ _ _ h,Option.map,this]
def Qba{R:U->α->Prop}{L:List α}(v:ev T cf d e Z h=some (.ref l,hs))(I:Nat->List U->Hs->Prop)(pu:Paired R us L)(ll:L.length<=900000)(hl:∀i acc hs,I i acc hs->hs[l]?=some (.lst us))
  (st:∀i a v,L[i]?=some a->R v a->∀acc hs,I i acc hs->∃u h2,ev T cf d el (Z++[some v]) hs=some (u,h2)/\I (i+1) (acc++[u]) h2) (h0:I 0 [] hs):
  ∃vs h2,ev T cf (d+1) (.comp (.seq e) false none el) Z h=some (.ref h2.length,h2++[O.lst vs])/\I L.length vs h2:=by
 have ln:=pu.length
 have tn:Q2 T (.seqL (.ref l)) hs=us.length+1:=by simp only[Q2,QB,hl _ _ _ h0,Uj]
 have sr:Za T (ev T cf d) Z (.seq e) h=some (.seqL (.ref l),hs):=by simp only[Za,v,Qi,wkS,QB,hl _ _ _ h0];rfl
 obtain⟨vs,h2,g,_,i2⟩:=Y4 (T:=T) (f:=ev T cf d) (ft:=Z4 (evT T cf d) none) (w:=.seqL (.ref l)) (el:=el) (Z:=Z) (λi acc h=>acc.length=i/\I i acc h) (n:=L.length)
  (λi hi acc hs h=>by
   obtain⟨v,hv,dv⟩:=Zu pu (Xe hi);obtain⟨u,h2,b,c⟩:=st i _ v (Xe hi) dv acc hs h.2
   exact⟨by lia,v,true,hs,by simp only[itm,QB,hl _ _ _ h.2,Option.map,hv],rfl,λy=>⟨u,h2,b,by rw[Xs,h.1];rfl,c⟩,λz=>(by cases z)⟩)
  (λacc hs h=>by
   have:us[L.length]?=none:=by rw[X6];lia
   simp only[itm,QB,hl _ _ _ h.2,Option.map,this]) L.length 0 (us.length+1) [] hs (Vj _).symm (by lia) ⟨rfl,h0⟩
 exact⟨vs,h2,Ym sr (by rw[tn];exact g),i2⟩
def dN(P:Vp)(u:U)(a:Nm):Prop:=∃i,u=.ref i/\P i (.tup (nmK a))
def dL(P:Vp)(u:U)(a:Lp):Prop:=∃i j us,u=.ref i/\P i (.tup [.ref j,.int a.sd 0,.int a.lf 0])/\P j (.tup us)/\Paired (dN P) us a.ps
def dW(P:Vp)(u:U)(a:List Lp):Prop:=∃i us,u=.ref i/\P i (.lst us)/\Paired (dL P) us a
def dK(P:Vp)(x:U×Nat×List U)(y:U×List Nm):Prop:=x.1=y.1/\Paired (dN P) x.2.2 y.2
def dN.le{P P1:Vp}(l:Le P P1){a:Nm}(h:dN P u a):dN P1 u a:=by obtain⟨i,e,h⟩:=h;exact⟨i,e,l _ _ h⟩
theorem dNs.le{P P1:Vp}(l:Le P P1){as:List Nm}(h:Paired (dN P) us as):Paired (dN P1) us as:=Qb (λz z=>dN.le l) h
theorem dL.le{P P1:Vp}(l:Le P P1){a:Lp}(h:dL P u a):dL P1 u a:=by obtain⟨i,j,us,e,h1,h2,h3⟩:=h;exact⟨i,j,us,e,l _ _ h1,l _ _ h2,dNs.le l h3⟩
theorem dW.le{P P1:Vp}(l:Le P P1){a:List Lp}(h:dW P u a):dW P1 u a:=by obtain⟨i,us,e,h1,h2⟩:=h;exact⟨i,us,e,l _ _ h1,Qb (λz z=>dL.le l) h2⟩
theorem dK.le{P P1:Vp}(l:Le P P1){x:U×Nat×List U}{y:U×List Nm}(h:dK P x y):dK P1 x y:=⟨h.1,dNs.le l h.2⟩
structure Ws where
 rows:List (List Lp)
 left:List Nm
 given:List Nm
 new:List Lp
 put:List (U×U)
 kept:List (U×List Nm)
 off:List Nm
structure Ct where
 r:Nat
 l:Nat
 g:Nat
 n:Nat
 p:Nat
 k:Nat
 o:Nat
 rr:List U
 ls:List U
 gs:List U
 ns:List U
 kc:List (U×Nat×List U)
 os:List U
noncomputable def QfM(r l g n p k o:Nat):List (U×U):=[(.str [114,111,119,115],.ref r),(.str [108,101,102,116],.ref l),(.str [103,105,118,101,110],.ref g),(.str [110,101,119],.ref n),(.str [112,117,116],.ref p),(.str [107,101,112,116],.ref k),(.str [111,102,102],.ref o)]
noncomputable def Ct.D(c:Ct):O:=.dic (QfM c.r c.l c.g c.n c.p c.k c.o)
noncomputable def Ct.giv(c:Ct)(u:U):Ct:={c with gs:=c.gs++[u]}
noncomputable def Ct.nw(c:Ct)(u:U):Ct:={c with ns:=c.ns++[u]}
noncomputable def Ct.of(c:Ct)(u:U):Ct:={c with os:=c.os++[u]}
noncomputable def Ct.lt(c:Ct)(x:Nat)(us:List U):Ct:={c with l:=x,ls:=us}
noncomputable def Ct.en(c:Ct)(x y:Nat):Ct:={c with l:=c.g,g:=x,n:=y,rr:=c.rr++[.ref c.n],ls:=c.gs,gs:=[],ns:=[]}
noncomputable def kd(kc:List (U×Nat×List U)):List (U×U):=kc.map λx=>(x.1,.ref x.2.1)
noncomputable def Z7(f:List (U×U)->O)(w:Nat)(c:Ct)(pt:List (U×U)):List (Nat×O):=(w,c.D)::(c.r,.lst c.rr)::(c.g,.lst c.gs)::(c.n,.lst c.ns)::(c.p,.dic pt)::(c.k,f (kd c.kc))::(c.o,.lst c.os)::c.kc.map λx=>(x.2.1,.lst x.2.2)
structure Sf(f:List (U×U)->O)(P:Vp)(h:Hs)(w:Nat)(c:Ct)(W:Ws):Prop where
 ow:Own h (Z7 f w c W.put) P
 dr:Paired (dW P) c.rr W.rows
 lf:P c.l (.lst c.ls)
 dl:Paired (dN P) c.ls W.left
 dg:Paired (dN P) c.gs W.given
 dn:Paired (dL P) c.ns W.new
 dk:Paired (dK P) c.kc W.kept
 dο:Paired (dN P) c.os W.off
abbrev Sx:=Sf .dic
def St(P:Vp)(h:Hs)(w:Nat)(W:Ws):Prop:=∃c,Sx P h w c W
def To(P:Vp)(w:Nat)(W:Ws):U->Hs->Prop:=λu h=>u=.non/\∃P1,Le P P1/\St P1 h w W
section
variable {f:List (U×U)->O}{P:Vp}{c:Ct}{W:Ws}{y:O}
def Sf.up{P1:Vp}(s:Sf f P h w c W)(l:Le P P1)(o:Own h1 (Z7 f w c W.put) P1):Sf f P1 h1 w c W:=⟨o,Qb (λz z=>dW.le l) s.dr,l _ _ s.lf,dNs.le l s.dl,dNs.le l s.dg,Qb (λz z=>dL.le l) s.dn,Qb (λz z=>dK.le l) s.dk,dNs.le l s.dο⟩
theorem Sf.add(s:Sf f P h w c W):Sf f (ad P h.length y) (h++[y]) w c W:=s.up le_ad s.ow.add
def Sf.cw(s:Sf f P h w c W):h[w]?=some c.D:=s.ow.c 0 _ _ rfl
def Sf.cr(s:Sf f P h w c W):h[c.r]?=some (.lst c.rr):=s.ow.c 1 _ _ rfl
def Sf.cg(s:Sf f P h w c W):h[c.g]?=some (.lst c.gs):=s.ow.c 2 _ _ rfl
def Sf.cn(s:Sf f P h w c W):h[c.n]?=some (.lst c.ns):=s.ow.c 3 _ _ rfl
def Sf.cl(s:Sf f P h w c W):h[c.l]?=some (.lst c.ls):=s.ow.p _ _ s.lf
def s_k{k:List Nat}(hw:h[w]?=some (.dic kvs))(e:Qz kvs (.str k)=some v):QH T (.ref w) (.str k) h=some v:=by simp only[QH,hw,ZI,Qa6,Wm,e];rfl
def p_k{k:U}(hw:h[w]?=some (.dic kvs))(hk:Qa6 k=true)(l:kvs.length<1000000):JI (.ref w) k u h=some (h.set w (.dic (ZA kvs k u))):=by simp only[JI,hw,JZ,hk,l,true_and,Wm]
def p_w{k:Nat}{D:List (U×U)}{x:List Nat}(hw:h[w]?=some (.dic (QfM r l g n p k o)))(e:ZA (QfM r l g n p k o) (.str x) u=D):JI (.ref w) (.str x) u h=some (h.set w (.dic D)):=by rw[p_k hw rfl (show 7<1000000 by decide),e]
def p_L{k x:Nat}(hw:h[w]?=some (.dic (QfM r l g n p k o))):JI (.ref w) (.str [108,101,102,116]) (.ref x) h=some (h.set w (.dic (QfM r x g n p k o))):=p_w hw rfl
def p_G{k x:Nat}(hw:h[w]?=some (.dic (QfM r l g n p k o))):JI (.ref w) (.str [103,105,118,101,110]) (.ref x) h=some (h.set w (.dic (QfM r l x n p k o))):=p_w hw rfl
def p_N{k x:Nat}(hw:h[w]?=some (.dic (QfM r l g n p k o))):JI (.ref w) (.str [110,101,119]) (.ref x) h=some (h.set w (.dic (QfM r l g x p k o))):=p_w hw rfl
theorem Sf.giv{a:Nm}(s:Sf f P h w c W)(d:dN P u a):Sf f P (h.set c.g (.lst (c.gs++[u]))) w (c.giv u) {W with given:=W.given++[a]}:=⟨s.ow.set 2 rfl,s.dr,s.lf,s.dl,Qv d s.dg,s.dn,s.dk,s.dο⟩
theorem Sf.nw{a:Lp}(s:Sf f P h w c W)(d:dL P u a):Sf f P (h.set c.n (.lst (c.ns++[u]))) w (c.nw u) {W with new:=W.new++[a]}:=⟨s.ow.set 3 rfl,s.dr,s.lf,s.dl,s.dg,Qv d s.dn,s.dk,s.dο⟩
theorem Sf.of{a:Nm}(s:Sf f P h w c W)(d:dN P u a):Sf f P (h.set c.o (.lst (c.os++[u]))) w (c.of u) {W with off:=W.off++[a]}:=⟨s.ow.set 6 rfl,s.dr,s.lf,s.dl,s.dg,s.dn,s.dk,Qv d s.dο⟩
theorem Sf.lt{x:Nat}{as:List Nm}(s:Sf f P h w c W)(hx:P x (.lst us))(d:Paired (dN P) us as):Sf f P (h.set w (c.lt x us).D) w (c.lt x us) {W with left:=as}:=⟨s.ow.set 0 rfl,s.dr,hx,d,s.dg,s.dn,s.dk,s.dο⟩
end
noncomputable def sz(W:Ws):Nat:=szR W.rows+W.rows.length+W.left.length+W.given.length+W.new.length+W.put.length+Jq W.kept+W.kept.length+W.off.length
def Qas(W:Ws):szR W.rows<=sz W/\W.rows.length<=sz W/\W.left.length<=sz W/\W.given.length<=sz W/\W.new.length<=sz W/\W.put.length<=sz W/\Jq W.kept<=sz W/\W.kept.length<=sz W/\W.off.length<=sz W:=by unfold sz;lia
noncomputable def QcK(m:Nat)(c:Int):Int:=if m=0 then 0 else 1-2*(c % 2)
noncomputable def QfF(W:Ws)(lp:Lp):Ws:={W with given:=W.given++[((W.rows.length:Int),(W.new.length:Int))],new:=W.new++[lp]}
noncomputable def Yh(W:Ws)(nms:List Nm)(c z:Int):Ws:=QfF W ⟨nms,QcK nms.length c,z⟩
noncomputable def gvS:S:=.expr (.bm .append (.ix (.var 0) (.c (.str [103,105,118,101,110]))) [(.tup [(.bi .len [(.ix (.var 0) (.c (.str [114,111,119,115])))]),(.bi .len [(.ix (.var 0) (.c (.str [110,101,119])))])])])
noncomputable def nwS(e:E):S:=.expr (.bm .append (.ix (.var 0) (.c (.str [110,101,119]))) [e])
def QkK{P:Vp}{W:Ws}{lp:Lp}{r:List S}(s:St P h w W)(l:sz W<900000)(r0:Z[0]?=some (sR w))
  (he:∀P1 h1,Le P P1->St P1 h1 w {W with given:=W.given++[((W.rows.length:Int),(W.new.length:Int))]}->Rr T cf (d+6) e Z h1 λu h2=>∃P2,Le P1 P2/\dL P2 u lp/\∀c,Sx P1 h1 w c {W with given:=W.given++[((W.rows.length:Int),(W.new.length:Int))]}->Sx P2 h2 w c {W with given:=W.given++[((W.rows.length:Int),(W.new.length:Int))]})
  (q:∀P1 h1,Le P P1->St P1 h1 w (QfF W lp)->Xx T cf (d+8) r Z h1 Q):Xx T cf (d+10) (gvS::nwS e::r) Z h Q:=by
 obtain⟨c,s⟩:=s;have z:=Qas W;have v1:=Yc (T:=T) (cf:=cf) (d:=d+5) (Z:=Z) (QO r0 (s_k s.cw (k:=[114,111,119,115]) rfl)) s.cr;have v2:=Yc (T:=T) (cf:=cf) (d:=d+5) (Z:=Z) (QO r0 (s_k s.cw (k:=[110,101,119]) rfl)) s.cn;rw[Qd s.dr]at v1;rw[Qd s.dn]at v2;refine Yv (Qbk (QO r0 (s_k s.cw rfl)) s.cg (Zl (Yk v1 v2) ⟨c.gs,s.add.cg,?_,?_⟩))
 ·rw[Qd s.dg];lia
 have s1:=(s.add (y:=.tup [.int (W.rows.length:Int) 0,.int (W.new.length:Int) 0])).giv (a:=((W.rows.length:Int),(W.new.length:Int))) ⟨_,rfl,Q1⟩;obtain⟨u,h2,e2,P2,l2,d2,k2⟩:=he _ _ le_ad ⟨_,s1⟩;have s2:=k2 _ s1;refine Yv (Qbk (QO r0 (s_k s1.cw rfl)) s1.cn ⟨u,h2,e2,c.ns,s2.cn,?_,q _ _ (le_ad.trans l2) ⟨_,s2.nw d2⟩⟩);rw[Qd s.dn];lia
def QrF{b c d:U}:Qa (tbG xx s) (m+1) 10 [a,b,c,d] hs=fin (exs (tbG xx s) (Qa (tbG xx s) m) dd b10 [some a,some b,some c,some d,none] hs):=rfl
def YK{pa:Nat}{P:Vp}{W:Ws}{nms:List Nm}{c:Int}(st:St P h w W)(hp:P pa (.lst us))(pu:Paired (dN P) us nms)(l:sz W<900000):Cc (tbG xx s) (m+1) 10 [.ref w,.ref pa,.int c 0,.int z 0] h (To P w (Yh W nms c z)):=by
 have tl:Xx (tbG xx s) (Qa (tbG xx s) m) 98 [gvS,nwS (.tup [(.bi .tuple [(.var 1)]),(.var 4),(.var 3)])] [sR w,sR pa,sI c,sI z,sI (QcK nms.length c)] h (Fq (To P w (Yh W nms c z))):=by
  refine QkK (d:=88) st l rfl (λP1 h1 l1 y=>?_) λP1 h1 l1 s1=>QM ⟨rfl,P1,l1,s1⟩;obtain⟨k,s1⟩:=y;have hp1:=s1.ow.p _ _ (l1 _ _ hp);exact Zl (Qdp (Qkq (Qc rfl) (QnE hp1)) (Qc rfl) (Qc rfl)) ⟨_,le_ad.trans le_ad,⟨_,_,us,rfl,Q1,.inl Q1,dNs.le (l1.trans (le_ad.trans le_ad)) pu⟩,λk s1=>s1.add.add⟩
 have hp0:=st.elim λx s1=>s1.ow.p _ _ hp;have ln:=Qd pu;refine Qh8 QrF (Q3 (Zl y_c (Qdg (QnJ (Yc (Qc rfl) hp0) y_c) ?_)));by_cases e:nms.length=0
 ·have e1:¬((0:Int) < us.length):=by lia
  have e2:QcK nms.length c=0:=if_pos e;rw[e2]at tl;rw[Wf e1];exact QM tl
 ·have e1:(0:Int) < us.length:=by lia
  have e2:QcK nms.length c=1-2*(c % 2):=if_neg e;rw[e2]at tl;rw[Wz e1]
  exact Q3 (Zl (QkP (Zp (Qc rfl) (by decide))) (QM tl))
noncomputable def Je(W:Ws):Ws:={W with rows:=W.rows++[W.new],left:=W.given,given:=[],new:=[]}
def QrE:Qa (tbG xx s) (m+1) 11 [a] hs=fin (exs (tbG xx s) (Qa (tbG xx s) m) dd b11 [some a] hs):=rfl
def QkL{P:Vp}{W:Ws}(st:St P h w W)(l:sz W<900000):Cc (tbG xx s) (m+1) 11 [.ref w] h (To P w (Je W)):=by
 obtain⟨c,st⟩:=st;have z:=Qas W;have o1:=st.ow.set 1 (y:=.lst (c.rr++[.ref c.n])) rfl;have o2:=λy=>(o1.set 0 (y:=y) rfl).swap 2 (y:=.lst []) rfl;have o3:=λy y'=>((o2 y).set 0 (y:=y') rfl).swap 3 (y:=.lst []) rfl;have u:=le_ad (P:=P) (j:=c.g) (x:=.lst c.gs);have v:=le_ad (P:=ad P c.g (.lst c.gs)) (j:=c.n) (x:=.lst c.ns);refine Qh8 QrE (Yv (Qbk (QO rfl (s_k st.cw rfl)) st.cr (Zl (QO rfl (s_k st.cw (v:=.ref c.n) rfl)) ⟨c.rr,st.cr,?_,?_⟩)))
 ·rw[Qd st.dr];lia
 refine QdT (QO rfl (s_k (o1.c 0 _ _ rfl) (v:=.ref c.g) rfl)) (Qc rfl) y_c (p_L (o1.c 0 _ _ rfl)) ?_;refine QdT (y_lst.trans rfl) (Qc rfl) y_c (p_G ((o2 _).c 0 _ _ rfl)) ?_;exact QdT (y_lst.trans rfl) (Qc rfl) y_c (p_N ((o3 _ _).c 0 _ _ rfl)) (QM ⟨rfl,ad (ad P c.g (.lst c.gs)) c.n (.lst c.ns),le_ad.trans le_ad,c.en _ _,⟨(o3 _ _).set 0 rfl,Qv ⟨c.n,c.ns,rfl,Q1,Qb (λt t=>dL.le (u.trans v)) st.dn⟩ (Qb (λt t=>dW.le (u.trans v)) st.dr),v _ _ Q1,dNs.le (u.trans v) st.dg,.nil,.nil,Qb (λt t=>dK.le (u.trans v)) st.dk,dNs.le (u.trans v) st.dο⟩⟩)
theorem Qes{k:U}:∀(kvs:List (U×U)),QcP kvs k=Qz kvs k
 |[]=>rfl
 | (x,v)::r=>by
  unfold QcP Qz;by_cases e:x=k
  ·rw[if_pos e,Tt (by simpa using e)];rfl
  ·rw[if_neg e,V5 (by simpa using e)];exact Qes r
theorem Qgz{k:U}:∀(kp:List (U×List Nm)),(∃(i:Nat) (nms:List Nm),kp[i]?=some (k,nms)/\kp.find? (λp=>decide (p.1=k))=some (k,nms)/\∀(P:Vp) kc,Paired (dK P) kc kp->∃p us,kc[i]?=some (k,p,us)/\Paired (dN P) us nms/\Qz (kd kc) k=sR p)\/((∀y∈kp,y.1≠k)/\kp.find? (λp=>decide (p.1=k))=none/\∀(P:Vp) kc,Paired (dK P) kc kp->Qz (kd kc) k=none)
 |[]=>.inr ⟨λz m=>(by cases m),rfl,λP kc h=>(by cases h;rfl)⟩
 | (x,nms)::kp=>by
  by_cases e:x=k
  ·subst e
   refine .inl ⟨0,nms,rfl,Tt (by simp),λP kc h=>?_⟩
   cases h with
   | @cons a _ kc _ ha _=>
    obtain⟨y,p,us⟩:=a;obtain⟨rfl,d⟩:=ha
    exact⟨p,us,rfl,d,by unfold Qz kd;rw[Xo,Tt (by simp)];rfl⟩
  ·have st:∀(a:U×Nat×List U) kc,a.1=x->Qz (kd (a::kc)) k=Qz (kd kc) k:=λa kc ea=>by
    unfold Qz kd
    rw[Xo,V5 (by simpa[ea]using e)]
   rcases Qgz (k:=k) kp with⟨i,n,e1,f1,r⟩|⟨m,f1,r⟩
   ·refine .inl ⟨i+1,n,e1,(V5 (by simpa using e)).trans f1,λP kc h=>?_⟩
    cases h with
    |cons ha t=>
     obtain⟨p,us,a1,a2,a3⟩:=r P _ t
     exact⟨p,us,a1,a2,by rw[st _ _ ha.1];exact a3⟩
   ·refine .inr ⟨λy my=>?_,(V5 (by simpa using e)).trans f1,λP kc h=>?_⟩
    ·rcases X7.mp my with rfl|my
     ·exact e
     ·exact m y my
    ·cases h with
     |cons ha t=>rw[st _ _ ha.1];exact r P _ t
theorem JT{p:U×List Nm}:∀{kept:List (U×List Nm)},p∈kept->p.2.length<=Jq kept
 |x::r,h=>by
  unfold Jq;rw[Xo,Vq]
  rcases X7.mp h with rfl|h
  ·lia
  ·have:=JT h;unfold Jq at this;lia
def QiW{P:α->β->Prop}{a:α}{b:β}(h:P a b){l:List α}{r:List β}(i:Nat)(t:Paired P l r):Paired P (l.set i a) (r.set i b):=by
 induction t generalizing i with
 |nil=>exact .nil
 |cons x t ih=>
  cases i with
  |zero=>exact .cons h t
  |succ i=>exact .cons x (ih i)
theorem Qcm{k:U}{nms:List Nm}{a:Nm}:∀{kp:List (U×List Nm)} {i:Nat},kp[i]?=some (k,nms)->Jq (kp.set i (k,nms++[a]))=Jq kp+1
 | (x,n)::kp,0,e=>by cases e;simp[Jq];lia
 | (x,n)::kp,i+1,e=>by have:=Qcm (a:=a) (kp:=kp) (i:=i) e;simp only[Jq,We,Xo,Vq]at this ⊢;lia
theorem Jo{k:U}{p:Nat}{us vs:List U}:∀{kc:List (U×Nat×List U)} {i:Nat},kc[i]?=some (k,p,us)->kd (kc.set i (k,p,vs))=kd kc
 |x::kc,0,e=>by cases e;rfl
 |x::kc,i+1,e=>congrArg ((x.1,U.ref x.2.1)::·) (Jo (kc:=kc) e)
noncomputable def Ct.kp(c:Ct)(kc:List (U×Nat×List U)):Ct:={c with kc:=kc}
section
variable {P:Vp}{c:Ct}{W:Ws}{k:U}{a:Nm}
def Sf.ptd{f:List (U×U)->O}(s:Sf f P h w c W){pt:List (U×U)}:Sf f P (h.set c.p (.dic pt)) w c {W with put:=pt}:=⟨s.ow.set 4 rfl,s.dr,s.lf,s.dl,s.dg,s.dn,s.dk,s.dο⟩
def Sf.k7(s:Sx P h w c W)(k1:c.kc[j]?=some (k,p,us)):(Z7 .dic w c W.put)[j+7]?=some (p,.lst us):=by
 show(c.kc.map λx=>(x.2.1,O.lst x.2.2))[j]?=_;rw[Wn,k1];rfl
def Sf.kold(s:Sx P h w c W){nms:List Nm}(k1:c.kc[j]?=some (k,p,us))(k2:Paired (dN P) us nms)(du:dN P u a):Sx P (h.set p (.lst (us++[u]))) w (c.kp (c.kc.set j (k,p,us++[u]))) {W with kept:=W.kept.set j (k,nms++[a])}:=by
 refine⟨?_,s.dr,s.lf,s.dl,s.dg,s.dn,QiW ⟨rfl,Qv du k2⟩ _ s.dk,s.dο⟩
 have e:Z7 .dic w (c.kp (c.kc.set j (k,p,us++[u]))) W.put=(Z7 .dic w c W.put).set (j+7) (p,.lst (us++[u])):=by
  unfold Z7 Ct.kp;simp only[Jo k1,List.map_set];rfl
 rw[e];exact s.ow.set (j+7) (s.k7 k1)
def Sf.knew(s:Sx P h w c W)(du:dN P u a):Sx P (((h++[O.lst []]).set c.k (O.dic (kd c.kc++[(k,U.ref h.length)]))).set h.length (O.lst ([]++[u]))) w (c.kp (c.kc++[(k,h.length,[u])])) {W with kept:=W.kept++[(k,[a])]}:=by
 refine⟨?_,s.dr,s.lf,s.dl,s.dg,s.dn,Qv ⟨rfl,.cons du .nil⟩ s.dk,s.dο⟩;have o2:=(s.ow.new (y:=.lst [])).set 5 (y:=.dic (kd c.kc++[(k,.ref h.length)])) rfl;have e7:(Z7 .dic w c W.put++[(h.length,O.lst [])]).set 5 (c.k,.dic (kd c.kc++[(k,.ref h.length)]))=(w,c.D)::(c.r,.lst c.rr)::(c.g,.lst c.gs)::(c.n,.lst c.ns)::(c.p,.dic W.put)::(c.k,.dic (kd c.kc++[(k,.ref h.length)]))::(c.o,.lst c.os)::(c.kc.map (λx=>(x.2.1,O.lst x.2.2))++[(h.length,O.lst [])]):=rfl;rw[e7]at o2
 have o3:=o2.set (c.kc.length+7) (y:=.lst ([]++[u])) (show(c.kc.map (λx=>(x.2.1,O.lst x.2.2))++[(h.length,O.lst [])])[c.kc.length]?=some (h.length,O.lst []) by simp)
 have e:Z7 .dic w (c.kp (c.kc++[(k,h.length,[u])])) W.put=((w,c.D)::(c.r,.lst c.rr)::(c.g,.lst c.gs)::(c.n,.lst c.ns)::(c.p,.dic W.put)::(c.k,.dic (kd c.kc++[(k,.ref h.length)]))::(c.o,.lst c.os)::(c.kc.map (λx=>(x.2.1,O.lst x.2.2))++[(h.length,O.lst [])])).set (c.kc.length+7) (h.length,.lst ([]++[u])):=by
  unfold Z7 Ct.kp kd;simp;rfl
 rw[e];exact o3
end
def QrD{b c:U}:Qa (tbG xx s) (m+1) 12 [a,b,c] hs=fin (exs (tbG xx s) (Qa (tbG xx s) m) dd b12 [some a,some b,some c,none,none] hs):=rfl
def Qoz:∃c,∀T h,QH T (.str [119,120,121,122]) (.int (x / 3 % 4) 0) h=some (.str [c]):=by
 have h1:0<=x / 3 % 4:=V9 _ (by decide)
 have h2:x / 3 % 4<4:=V8 _ (by decide)
 generalize x / 3 % 4=y at h1 h2
 have:y=0\/y=1\/y=2\/y=3:=by lia
 rcases this with rfl|rfl|rfl|rfl<;>exact⟨_,λz z=>rfl⟩
def QnC{k:U}(a:ev T cf (d+1) e Z h=some (.ref p,h))(hp:h[p]?=some (.dic kvs))(hi:Z[i]?=some (some k))(hj:Z[j]?=some (some v))(hk:Qa6 k=true):ev T cf (d+2) (.bm .get e [.var i,.var j]) Z h=some ((Qz kvs k).getD v,h):=by
 rw[Qko,a,Qi,if_pos (by simp only[Qdf,hp];rfl)]
 simp only[evs,Qu,hi,hj,Qi,bmU,hp,bmD,hk,Wm]
def QnB{k:U}{r:Option (U×Hs)}(a:ev T cf (d+1) e Z h=some (.ref p,h))(hp:h[p]?=some (.dic kvs))(hi:Z[i]?=some (some k))(hk:Qa6 k=true)(l:kvs.length<1000000)
  (er:(match Qz kvs k with|some x=>some (x,h++[.lst []])|none=>some (.ref h.length,(h++[O.lst []]).set p (.dic (kvs++[(k,.ref h.length)]))))=r):ev T cf (d+2) (.bm .setdef e [.var i,.lst []]) Z h=r:=by
 rw[Qko,a,Qi,if_pos (by simp only[Qdf,hp];rfl)]
 have hp1:(h++[O.lst []])[p]?=some (.dic kvs):=Qr hp;simp only[evs,Qu,hi,y_lst,Qi,bmU,hp1,bmD,hk,l,true_and,Wm,Qes];exact er
def Qgu{k:U}(e:Qz kvs k=some v):∃p∈kvs,p.2=v:=by
 unfold Qz at e
 cases f:kvs.find? λp=>decide (p.1=k)with
 |none=>rw[f]at e;cases e
 |some p=>rw[f]at e;cases e;exact⟨p,List.mem_of_find?_eq_some f,rfl⟩
def Qga{k:U}{p:U×U}(m:p∈ZA kvs k v):p.2=v\/p∈kvs:=by
 unfold ZA at m;split at m
 ·obtain⟨q,mq,rfl⟩:=Wl.mp m;split
  ·exact .inl rfl
  ·exact .inr mq
 ·rcases Wo.mp m with m|m
  ·exact .inr m
  ·rw[Wh.mp m];exact .inl rfl
def Qb4{κ:Type}[DecidableEq κ]{kvs:List (κ×U)}{k:κ}:(ZA kvs k v).length<=kvs.length+1:=by
 unfold ZA;split<;>simp
def Iv'(pt:List (U×U)):Prop:=∀p∈pt,∃i,p.2=.int i 0
def Kk(kp:List (U×List Nm)):Prop:=∀y∈kp,Qa6 y.1=true
def Qnz{W:Ws}{a:Nm}(hv:Iv' W.put)(hk:Kk W.kept)(l:sz W<900000):∃pt kp of,Iv' pt/\Kk kp/\pt.length+Jq kp+kp.length+of.length<=W.put.length+Jq W.kept+W.kept.length+W.off.length+3/\of.length+kp.length<=W.off.length+W.kept.length+1 /\
  ∀(w:Nat) (P:Vp) h u,St P h w W->dN P u a->Cc (tbG xx s) (m+1) 12 [.ref w,u,.int x 0] h (To P w {W with put:=pt,kept:=kp,off:=of}):=by
 obtain⟨ch,hc⟩:=Qoz (x:=x)
 obtain⟨i,hi⟩:∃i,(Qz W.put (.str [ch])).getD (.int (W.rows.length:Int) 0)=.int i 0:=by
  cases e:Qz W.put (.str [ch])with
  |none=>exact⟨_,rfl⟩
  |some v=>obtain⟨p,mp,rfl⟩:=Qgu e;obtain⟨i,e⟩:=hv p mp;exact⟨i,e⟩
 have z:=Qas W
 have hd:∀{w:Nat} (P:Vp) h u c (Q:U->Hs->Prop),Sx P h w c W->Xx (tbG xx s) (Qa (tbG xx s) m) 96 (if decide (0<x % 3/\i=(W.rows.length:Int))=true then [(.put (.ix (.var 0) (.c (.str [112,117,116]))) (.var 3) (.var 4)),(.expr (.bm .append (.bm .setdef (.ix (.var 0) (.c (.str [107,101,112,116]))) [(.var 3),(.lst [])]) [(.var 1)]))]else [(.expr (.bm .append (.ix (.var 0) (.c (.str [111,102,102]))) [(.var 1)]))]) [sR w,some u,sI x,some (.str [ch]),sI (W.rows.length:Int)] h (Fq Q)->Cc (tbG xx s) (m+1) 12 [.ref w,u,.int x 0] h Q:=λ{w} P h u c Q st q=>by
  have v1:=Yc (T:=tbG xx s) (cf:=Qa (tbG xx s) m) (d:=96) (Z:=[sR w,some u,sI x,some (.str [ch]),none]) (QO (i:=0) rfl (s_k st.cw (k:=[114,111,119,115]) rfl)) st.cr;rw[Qd st.dr]at v1;have v2:=QnC (T:=tbG xx s) (cf:=Qa (tbG xx s) m) (d:=91) (Z:=[sR w,some u,sI x,some (.str [ch]),sI (W.rows.length:Int)]) (i:=3) (j:=4) (QO (i:=0) rfl (s_k st.cw (k:=[112,117,116]) rfl)) (st.ow.c 4 _ _ rfl) rfl rfl rfl;rw[hi]at v2
  refine Qh8 QrD (Q3 (Zl (y_ix.trans ?_) (Q3 (Zl v1 (QiO (Qbb (QnJ (Zp (Qc rfl) (by decide)) y_c) (Qkr v2 (Qc rfl))) ?_)))))
  ·rw[y_c,Qi,Zp (Zq (Qc rfl) (by decide)) (by decide),Qi,hc];rfl
  ·exact q
 by_cases t:0<x % 3/\i=(W.rows.length:Int)
 ·simp only[Wz t,Wm]at hd;have hv1:Iv' (ZA W.put (.str [ch]) (.int (W.rows.length:Int) 0)):=λp mp=>(Qga mp).elim (λe=>⟨_,e⟩) (hv p);have lp:(ZA W.put (.str [ch]) (.int (W.rows.length:Int) 0)).length<=W.put.length+1:=Qb4
  have HP:∀{w:Nat} {P:Vp} {h c},Sx P h w c W->JI (.ref c.p) (.str [ch]) (.int (W.rows.length:Int) 0) h=some (h.set c.p (.dic (ZA W.put (.str [ch]) (.int (W.rows.length:Int) 0)))):=λst=>p_k (st.ow.c 4 _ _ rfl) rfl (by lia)
  generalize ZA W.put (.str [ch]) (.int (W.rows.length:Int) 0)=pt at hv1 lp HP
  have go:∀{w:Nat} {P:Vp} {h u c Q},Sx P h w c W->(∀r,(match Qz (kd c.kc) (.str [ch])with|some x=>some (x,h.set c.p (.dic pt)++[.lst []])|none=>some (.ref (h.set c.p (.dic pt)).length,(h.set c.p (.dic pt)++[O.lst []]).set c.k (.dic (kd c.kc++[(.str [ch],.ref (h.set c.p (.dic pt)).length)]))))=some r->∃p ys,r.1=.ref p/\r.2[p]?=some (.lst ys)/\ys.length<1000000/\Q .non (r.2.set p (.lst (ys++[u]))))->Cc (tbG xx s) (m+1) 12 [.ref w,u,.int x 0] h Q:=λ{w P h u c Q} st q=>by
   have s1:=st.ptd (pt:=pt)
   have ld:(kd c.kc).length<1000000:=by have e:=Qd st.dk;simp only[kd,X5];lia
   obtain⟨⟨v,h2⟩,er⟩:∃r,(match Qz (kd c.kc) (.str [ch])with|some x=>some (x,h.set c.p (.dic pt)++[.lst []])|none=>some (.ref (h.set c.p (.dic pt)).length,(h.set c.p (.dic pt)++[O.lst []]).set c.k (.dic (kd c.kc++[(.str [ch],.ref (h.set c.p (.dic pt)).length)]))))=some r:=by split<;>exact⟨_,rfl⟩
   obtain⟨p,ys,e1,e2,e3,e4⟩:=q _ er;simp only at e1;subst e1;exact hd P h u c _ st (QdT (Qc rfl) (QO rfl (s_k st.cw rfl)) (Qc rfl) (HP st) (Yv (Qbk (QnB (QO rfl (s_k s1.cw rfl)) (s1.ow.c 5 _ _ rfl) rfl rfl ld er) e2 (Zl (Qc rfl) ⟨ys,e2,e3,QM e4⟩))))
  rcases Qgz (k:=.str [ch]) W.kept with⟨j,nms,e1,_,r⟩|⟨_,_,r⟩
  ·refine⟨pt,W.kept.set j (.str [ch],nms++[a]),W.off,hv1,λy m=>(List.mem_or_eq_of_mem_set m).elim (hk y) (λe=>by rw[e];rfl),?_,by rw[Sd];lia,λw P h u ⟨c,st⟩ du=>go st λr0 er=>?_⟩
   ·rw[Qcm e1,Sd];lia
   obtain⟨p,us,k1,k2,k3⟩:=r P _ st.dk;have s1:=(st.ptd (pt:=pt)).add (y:=.lst []);rw[k3]at er;cases er
   have l7:us.length<1000000:=by have e:=Qd k2;have:=JT (X0 e1);simp only at this;lia
   exact⟨p,us,rfl,s1.ow.c _ _ _ (s1.k7 k1),l7,rfl,_,le_ad,_,s1.kold k1 (dNs.le le_ad k2) (dN.le le_ad du)⟩
  ·refine⟨pt,W.kept++[(.str [ch],[a])],W.off,hv1,λy m=>(Wo.mp m).elim (hk y) (λe=>by rw[Wh.mp e];rfl),?_,by rw[Xs];exact Xg _,λw P h u ⟨c,st⟩ du=>go st λr0 er=>?_⟩
   ·simp[Jq];unfold Jq at *;lia
   rw[r P _ st.dk]at er;cases er;have s1:=st.ptd (pt:=pt)
   refine⟨_,[],rfl,?_,by decide,rfl,P,Le.refl,_,s1.knew du⟩
   have:=s1.ow.lt (k:=5) rfl
   rw[Xu (by lia)]
   exact at0
 ·simp only[Wf t,X9,Ww]at hd
  refine⟨W.put,W.kept,W.off++[a],hv,hk,by simp;lia,by simp;lia,λw P h u ⟨c,st⟩ du=>hd P h u c _ st ?_⟩
  have o6:=st.ow.c 6 _ _ rfl
  exact Yv (Qbk (QO rfl (s_k st.cw rfl)) o6 (Zl (Qc rfl) ⟨c.os,o6,by rw[Qd st.dο];lia,QM ⟨rfl,P,Le.refl,_,st.of du⟩⟩))
def Vr(R:List (List Lp))(a:Nm):Prop:=∃(r i:Nat) (row:List Lp),a=((r:Int),(i:Int))/\R[r]?=some row/\i<row.length
def Vr.app{R S:List (List Lp)}{a:Nm}(h:Vr R a):Vr (R++S) a:=by
 obtain⟨r,i,row,e,e1,l⟩:=h
 exact⟨r,i,row,e,by rw[Xv (Xc.mp e1).1];exact e1,l⟩
def Vr.grow{R:List (List Lp)}{new:List Lp}{lp:Lp}{a:Nm}(h:Vr (R++[new]) a):Vr (R++[new++[lp]]) a:=by
 obtain⟨r,i,row,e,e1,l⟩:=h;by_cases c:r<R.length
 ·exact⟨r,i,row,e,by rw[Xv c]at e1 ⊢;exact e1,l⟩
 ·have lr:=(Xc.mp e1).1
  have er:r=R.length:=by simp at lr;lia
  subst er;simp at e1;subst e1
  exact⟨R.length,i,new++[lp],e,by simp,by rw[Xs];lia⟩
structure Gd(W:Ws):Prop where
 left:∀a∈W.left,Vr W.rows a
 given:∀a∈W.given,Vr (W.rows++[W.new]) a
 new:∀lp∈W.new,lp.ps.length<=8/\∀a∈lp.ps,Vr W.rows a
 rows:∀(r:Nat) row,W.rows[r]?=some row->∀lp∈row,lp.ps.length<=8/\∀a∈lp.ps,Vr (W.rows.take r) a
 put:Iv' W.put
 kk:Kk W.kept
def Qmu{W:Ws}{lp:Lp}(g:Gd W)(h8:lp.ps.length<=8)(hp:∀a∈lp.ps,Vr W.rows a):Gd (QfF W lp):=by
 refine⟨g.left,λa m=>?_,λp m=>?_,g.rows,g.put,g.kk⟩
 ·rcases Wo.mp m with m|m
  ·exact(g.given a m).grow
  ·rw[Wh.mp m]
   exact⟨W.rows.length,W.new.length,W.new++[lp],rfl,by simp[QfF],by simp⟩
 ·rcases Wo.mp m with m|m
  ·exact g.new p m
  ·rw[Wh.mp m];exact⟨h8,hp⟩
def QeK{W:Ws}(g:Gd W):Gd (Je W):=by
 refine⟨g.given,λa m=>(by cases m),λp m=>(by cases m),λr row e lp m=>?_,g.put,g.kk⟩
 have e:(W.rows++[W.new])[r]?=some row:=e;show _/\∀a∈lp.ps,Vr ((W.rows++[W.new]).take r) a;by_cases l:r<W.rows.length
 ·rw[Xv l]at e;rw[List.take_append_of_le_length (Nat.le_of_lt l)];exact g.rows r row e lp m
 ·have lr:=(Xc.mp e).1
  have er:r=W.rows.length:=by simp at lr;lia
  subst er;simp at e;subst e;simpa using g.new lp m
def QdE(W:Ws)(lp:Lp):sz (QfF W lp)=sz W+2:=by simp[sz,QfF];lia
def Qhq(W:Ws):sz (Je W)+W.left.length=sz W+1:=by simp[sz,Je,szR];lia
structure Tr(k:Nat)(W W':Ws):Prop where
 gd:Gd W'
 rw:W'.rows=W.rows
 sz:sz W'<=sz W+k
 of:W'.off.length+W'.kept.length<=W.off.length+W.kept.length+1
structure Ek(n:Nat)(W W':Ws):Prop where
 gd:Gd W'
 rw:W'.rows=W.rows
 sz:sz W'=sz W+n
 of:W'.off=W.off
 kp:W'.kept=W.kept
def Ek.tr{k:Nat}{W W':Ws}(e:Ek n W W')(l:n<=k):Tr k W W':=⟨e.gd,e.rw,by rw[e.sz];lia,by rw[e.of,e.kp];lia⟩
def QaO{W:Ws}{lp:Lp}(g:Gd W)(h8:lp.ps.length<=8)(hp:∀a∈lp.ps,Vr W.rows a):Ek 2 W (QfF W lp):=⟨Qmu g h8 hp,rfl,QdE W lp,rfl,rfl⟩
theorem Y1{α:Type}{op:Ws->α->Ws}{ok:List (List Lp)->α->Prop}(hop:∀W a,Gd W->ok W.rows a->Ek 2 W (op W a)):∀(l:List α) {W:Ws},Gd W->(∀a∈l,ok W.rows a)->Ek (2*l.length) W (l.foldl op W)
 |[],W,g,_=>⟨g,rfl,rfl,rfl,rfl⟩
 |a::r,W,g,hn=>by
  have e:=hop W a g (hn a Xn)
  have t:=Y1 hop r e.gd λb m=>by rw[e.rw];exact hn b (Xl _ m)
  exact⟨t.gd,t.rw.trans e.rw,by have:=t.sz;have:=e.sz;simp only[Vo,Wa]at *;lia,t.of.trans e.of,t.kp.trans e.kp⟩
def Qe0{W:Ws}{a:Nm}(g:Gd W)(h:Vr W.rows a):Ek 2 W (QfF W ⟨[a],x,z⟩):=QaO g (show 1<=8 by decide) λb m=>by rw[Wh.mp m];exact h
noncomputable def Qqf(W:Ws)(nms:List Nm)(x z:Int):Ws:=nms.foldl (λW a=>Yh W [a] x z) W
def QhR{L v:Nat}{P:Vp}{W:Ws}{nms:List Nm}(op:Ws->Nm->Ws)(K:Nat->Ws->Prop)(st:St P h w W)(hp:P L (.lst us))(pu:Paired (dN P) us nms)(rv:v < Z.length)(k0:K 0 W)
  (sp:∀i W1 a,i<nms.length->K i W1->a∈nms->K (i+1) (op W1 a)/\∀P1 h1 u,St P1 h1 w W1->dN P1 u a->Xx T cf d body (Z.set v (some u)) h1 (λf ρ2 h2=>f=.next/\ρ2=Z.set v (some u)/\∃P2,Le P1 P2/\St P2 h2 w (op W1 a))):
  ∃o h2,ZN T (.seqL (.ref L)) (.name v) (exs T cf d body) (us.length+1) 0 Z h=some (.next,Z.set v o,h2)/\∃P1,Le P P1/\St P1 h2 w (nms.foldl op W):=by
 have ln:=Qd pu
 obtain⟨ρ2,h2,q1,⟨o,q2⟩,P1,l1,q3,_⟩:=Yw (T:=T) (w:=.seqL (.ref L)) (t:=.name v) (body:=exs T cf d body) (n:=us.length) (λi ρ' h'=>(∃o,ρ'=Z.set v o)/\∃P1,Le P P1/\St P1 h' w ((nms.take i).foldl op W)/\K i ((nms.take i).foldl op W))
  (λi hi ρ' h' z=>by
   obtain⟨⟨o,e⟩,P1,l1,s1,k1⟩:=z
   subst e
   obtain⟨a,ha⟩:∃a,nms[i]?=some a:=⟨nms[i],by simp[<-ln,hi]⟩
   obtain⟨u,hu,du⟩:=Zu pu ha;have hL:h'[L]?=some (.lst us):=s1.elim λy s=>s.ow.p _ _ (l1 _ _ hp);obtain⟨k2,sp⟩:=sp i _ a (ln▸hi) k1 (X0 ha);obtain⟨f,ρ2,h2,x1,rfl,rfl,P2,l2,s2⟩:=sp P1 h' u s1 (dN.le l1 du)
   have e1:(nms.take (i+1)).foldl op W=op ((nms.take i).foldl op W) a:=by rw[List.take_succ,ha,Uy];rfl
   exact⟨.one u,_,_,h2,by simp only[itm,QB,hL,Wy,hu],by rw[tgt,List.set_set],x1,⟨_,rfl⟩,P2,l1.trans l2,by rw[e1];exact s2,by rw[e1];exact k2⟩)
  (λρ' h' x=>by
   obtain⟨_,P1,l1,s1,_⟩:=x
   have hL:h'[L]?=some (.lst us):=s1.elim λy s=>s.ow.p _ _ (l1 _ _ hp)
   simp[itm,QB,hL]) us.length 0 (us.length+1) Z h (by lia) (by lia) ⟨⟨Z[v],by simp⟩,P,Le.refl,by simpa using st,by simpa using k0⟩
 exact⟨o,h2,by rw[q1,q2],P1,l1,by rw[ln,Vs]at q3;exact q3⟩
def QhS{L:Nat}{P:Vp}{W:Ws}{nms:List Nm}(st:St P h w W)(l:sz W+2*nms.length<900000)(hp:P L (.lst us))(pu:Paired (dN P) us nms)(r0:Z[0]?=some (sR w))(r5:5 < Z.length)
  (v1:∀u h,ev (tbG xx s) (Qa (tbG xx s) (m+1)) (d+2) e1 (Z.set 5 u) h=some (.int x 0,h)) (v2:∀u h,ev (tbG xx s) (Qa (tbG xx s) (m+1)) (d+2) e2 (Z.set 5 u) h=some (.int z 0,h)):
  ∃o h2,ZN (tbG xx s) (.seqL (.ref L)) (.name 5) (exs (tbG xx s) (Qa (tbG xx s) (m+1)) (d+5) [(.expr (.call 10 [(.var 0),(.lst [(.var 5)]),e1,e2]))]) (us.length+1) 0 Z h=some (.next,Z.set 5 o,h2)/\∃P1,Le P P1/\St P1 h2 w (Qqf W nms x z):=
 QhR (λW a=>Yh W [a] x z) (λi W1=>sz W1=sz W+2*i) st hp pu r5 rfl λi W1 a li k1 t=>⟨by have:=QdE W1 ⟨[a],QcK [a].length x,z⟩;unfold Yh;lia,λP1 h' u r du=>by
  obtain⟨c,s1⟩:=r
  have i0:(Z.set 5 (some u))[0]?=some (sR w):=by rw[Xu (by decide)];exact r0
  have i5:(Z.set 5 (some u))[5]?=some (some u):=by rw[Xz r5]
  have W1:=YK (xx:=xx) (s:=s) (m:=m) (c:=x) (z:=z) ⟨c,s1.add (y:=.lst [u])⟩ Q1 (.cons (dN.le le_ad du) .nil) (by lia)
  refine Yv (QhA (us:=[.ref w,.ref h'.length,.int x 0,.int z 0]) (h1:=h'++[.lst [u]]) ?_ ?_)
  ·simp only[evs,Qc i0,y_lst,Qc i5,Qi,v1,v2]
  ·exact W1.mono λv h3 q=>by obtain⟨_,P3,l3,s3⟩:=q;exact QM ⟨rfl,rfl,P3,le_ad.trans l3,s3⟩⟩
def QrB{b c:U}:Qa (tbG xx s) (m+2) 14 [a,b,c] hs=fin (exs (tbG xx s) (Qa (tbG xx s) (m+1)) dd b14 [some a,some b,some c,none,none,none] hs):=rfl
def QkO{lo hi:Option E}{a b:Option Int}(v:ev T cf d e Z h=some (.ref p,h))(hp:h[p]?=some (.lst us))(v1:evO (ev T cf d) Z lo h=some (a,h))(v2:evO (ev T cf d) Z hi h=some (b,h)):ev T cf (d+1) (.sl e lo hi) Z h=some (.ref h.length,h++[.lst (QZ us a b)]):=by
 rw[Qkz,v,Qi,v1,Qi,v2,Qi,Qnc hp]
def Qhk(v:ev T cf d e Z h=some (.int x 0,h)):evO (ev T cf d) Z (some e) h=some (some x,h):=by rw[evO,v];rfl
def ZQ{f:Ev}(v:f e Z h=some (.ref p,h1))(hp:h1[p]?=some (.lst us)):Za T f Z (.seq e) h=some (.seqL (.ref p),h1):=by simp only[Za,v,Qi,wkS,QB,hp];rfl
def Qho(hp:h[p]?=some (.lst us)):Q2 T (.seqL (.ref p)) h=us.length+1:=by simp only[Q2,QB,hp,Option.getD]
def Zz{xs:List α}{a b:Option Int}{x:α}(h:x∈QZ xs a b):x∈xs:=by
 unfold QZ at h;exact List.mem_of_mem_drop (List.mem_of_mem_take h)
def QaR{xs:List α}{a b:Option Int}:(QZ xs a b).length<=xs.length:=by
 unfold QZ;rw[Ve,U0];lia
def Qdo{W:Ws}{nms:List Nm}(g:Gd W)(hv:∀a∈nms,Vr W.rows a)(l8:nms.length<=8)(l:sz W<800000):∃W',Tr 32 W W' /\
  ∀(w:Nat) (P:Vp) h L us,St P h w W->P L (.lst us)->Paired (dN P) us nms->Cc (tbG xx s) (m+2) 14 [.ref w,.ref L,.int x 0] h (To P w W'):=by
 obtain⟨n,hn⟩:∃n:Int,n=(nms.length:Int) / 2:=⟨_,rfl⟩;obtain⟨y,hy⟩:∃y:Int,y=1-2*(x / 7 % 2):=⟨_,rfl⟩;have la:=QaR (xs:=nms) (a:=some n) (b:=none);have lb:=QaR (xs:=nms) (a:=none) (b:=some n);have t1:=Y1 (op:=λW a=>Yh W [a] (x / 14) (0-y)) (λW a=>Qe0) (QZ nms (some n) none) g λa m=>hv a (Zz m)
 have t2:=Y1 (op:=λW a=>Yh W [a] (x / 14) y) (λW a=>Qe0) (QZ nms none (some n)) t1.gd λa m=>by rw[t1.rw];exact hv a (Zz m)
 refine⟨_,⟨t2.gd,t2.rw.trans t1.rw,by rw[t2.sz,t1.sz];lia,by rw[t2.of,t1.of,t2.kp,t1.kp];lia⟩,λw P h L us st hp pu=>?_⟩
 have hL:∀{P1:Vp} {h1} {W1:Ws},Le P P1->St P1 h1 w W1->h1[L]?=some (.lst us):=λl1 s1=>s1.elim λv s=>s.ow.p _ _ (l1 _ _ hp)
 refine Qh8 QrB (Q3 (Zl (Zq (Yc (Qc rfl) (hL Le.refl st)) (by decide)) (Q3 (Zl (QkP (Zp (Zq (Qc rfl) (by decide)) (by decide))) ?_))))
 rw[Qd pu,<-hn,<-hy];obtain⟨c,s0⟩:=st;have s1:=s0.add (y:=.lst (QZ us (some n) none))
 obtain⟨o,h2,f1,P2,l2,s2⟩:=QhS (xx:=xx) (s:=s) (m:=m) (d:=91) (e1:=.op .FloorDiv (.var 2) (.c (.int 14 0))) (e2:=.op .Sub (.c (.int 0 0)) (.var 4)) (Z:=[sR w,sR L,sI x,sI n,sI y,none]) ⟨c,s1⟩ (x:=x / 14) (z:=0-y) (nms:=QZ nms (some n) none) (by lia) Q1 (dNs.le le_ad (Ze pu)) rfl (show 5<6 by decide) (λu h=>Zq (Qc rfl) (by decide)) (λu h=>Yu y_c (Qc rfl) Qjk)
 refine Jg (ZQ (QkO (Qc rfl) (hL Le.refl ⟨c,s0⟩) (Qhk (Qc rfl)) rfl) at0) ⟨_,h2,by rw[Qho at0];exact f1,?_⟩
 have l2':=le_ad.trans l2;have hL2:=hL l2' s2;obtain⟨c2,s2⟩:=s2;have s3:=s2.add (y:=.lst (QZ us none (some n)))
 obtain⟨o4,h4,f4,P4,l4,s4⟩:=QhS (xx:=xx) (s:=s) (m:=m) (d:=90) (e1:=.op .FloorDiv (.var 2) (.c (.int 14 0))) (e2:=.var 4) (Z:=[sR w,sR L,sI x,sI n,sI y,o]) ⟨c2,s3⟩ (x:=x / 14) (z:=y) (nms:=QZ nms none (some n)) (by have:=t1.sz;unfold Qqf;lia) Q1 (dNs.le (l2'.trans le_ad) (Ze pu)) rfl (show 5<6 by decide) (λu h=>Zq (Qc rfl) (by decide)) (λu h=>Qc rfl)
 exact Jg (ZQ (QkO (Qc rfl) hL2 rfl (Qhk (Qc rfl))) at0) ⟨_,h4,by rw[Qho at0];exact f4,QM ⟨rfl,P4,(l2'.trans le_ad).trans l4,s4⟩⟩
def QqL{a b:O}:(hs++[a]).set hs.length b=hs++[b]:=by rw[Vx _ _ (Xg _)];simp
abbrev Gk:=List (List U×U)
noncomputable def Yg(gk:Gk)(a:Nm):Gk:=ZA gk (nmK a) (.bl true)
theorem YY:∀(nms:List Nm) (gk:Gk),(nms.foldl Yg gk).length<=gk.length+nms.length
 |[],gk=>Xg _
 |a::r,gk=>by
  have h1:=YY r (Yg gk a);have h2:(Yg gk a).length<=gk.length+1:=Qb4;rw[Vo,Wa];lia
def QkY{P:Vp}{a:Nm}(k:∀i o,P i o->h[i]?=some o)(d:dN P u a):tkU u h=some (nmK a):=by
 obtain⟨i,rfl,e⟩:=d;simp only[tkU,k _ _ e];rfl
def Qeo{P:Vp}{H:Hs}{nms:List Nm}{gk:Gk}(kP:∀i o,P i o->H[i]?=some o)(hj:H[j]?=some (.lst us))(pu:Paired (dN P) us nms)(r2:Z[2]?=some (sR H.length))(r4:4 < Z.length)(l:gk.length+nms.length<1000000):
  ∃o,ZN T (.seqL (.ref j)) (.name 4) (exs T cf (d+4) [.put (.var 2) (.var 4) (.c (.bl true))]) (us.length+1) 0 Z (H++[O.dct gk])=some (.next,Z.set 4 o,H++[O.dct (nms.foldl Yg gk)]):=by
 have ln:=Qd pu
 obtain⟨ρ2,h2,q1,⟨o,q2⟩,q3⟩:=Yw (T:=T) (w:=.seqL (.ref j)) (t:=.name 4) (body:=exs T cf (d+4) [.put (.var 2) (.var 4) (.c (.bl true))]) (n:=us.length) (λi ρ' h'=>(∃o,ρ'=Z.set 4 o)/\h'=H++[O.dct ((nms.take i).foldl Yg gk)])
  (λi hi ρ' h' z=>by
   obtain⟨⟨o,e⟩,e2⟩:=z
   subst e e2
   obtain⟨a,ha⟩:∃a,nms[i]?=some a:=⟨nms[i],by simp[<-ln,hi]⟩
   obtain⟨u,hu,du⟩:=Zu pu ha
   have i2:(Z.set 4 (some u))[2]?=some (sR H.length):=by rw[Xu (by decide)];exact r2
   have i4:(Z.set 4 (some u))[4]?=some (some u):=by rw[Xz r4]
   have lg:=YY (nms.take i) gk
   have lt:(nms.take i).length<=nms.length:=by simp;lia
   have e1:(nms.take (i+1)).foldl Yg gk=Yg ((nms.take i).foldl Yg gk) a:=by rw[List.take_succ,ha,Uy];rfl
   refine⟨.one u,_,Z.set 4 (some u),H++[O.dct ((nms.take (i+1)).foldl Yg gk)],by simp only[itm,QB,Qr hj,Wy,hu],by rw[tgt,List.set_set],?_,⟨_,rfl⟩,rfl⟩
   rw[e1];generalize (nms.take i).foldl Yg gk=g at lg;have tk:=QkY (h:=H++[O.dct g]) (λi o e=>Qr (kP i o e)) du
   have pt:JI (.ref H.length) u (.bl true) (H++[O.dct g])=some (H++[O.dct (Yg g a)]):=by
    simp only[JI,at0,JZ,if_pos (show g.length<1000000 by lia),tk,Wy,QqL]
    rfl
   rw[QI,y_put,y_c,Qi,Qc i2,Qi,Qc i4,Qi,pt]
   rfl)
  (λρ' h' y=>by obtain⟨_,e2⟩:=y;subst e2;simp[itm,QB,Qr hj]) us.length 0 (us.length+1) Z (H++[O.dct gk]) (by lia) (by lia) ⟨⟨Z[4],by simp⟩,by simp⟩
 exact⟨o,by rw[q1,q2,q3,ln,Vs]⟩
noncomputable def bdG:List S:=[(.loop (.name 4) (.seq (.ix (.ix (.var 0) (.c (.str [107,101,112,116]))) (.var 3))) [(.put (.var 2) (.var 4) (.c (.bl true)))])]
def Sf.kpt{P:Vp}{c:Ct}{W:Ws}{f:List (U×U)->O}(s:Sf f P h w c W){k:U}(k1:c.kc[j]?=some (k,p,us)):h[p]?=some (.lst us):=s.ow.c (j+7) _ _ (by
 show(c.kc.map λx=>(x.2.1,O.lst x.2.2))[j]?=_
 rw[Wn,k1];rfl)
theorem QaF{T:Tbl}{cf:Cf}{d:Nat}{W:Ws}:∀(ks:List U) (gk:Gk),(∀k∈ks,Qa6 k=true/\∃y∈W.kept,y.1=k)->gk.length+ks.length*Jq W.kept<1000000->∃gk',gk'.length<=gk.length+ks.length*Jq W.kept /\
  ∀{w:Nat} {P:Vp} {H:Hs} {c:Ct} {x:U} {o3 o4:Option U},Sf .fzd P H w c W->∃o3' o4',QeO 3 (exs T cf (d+6) bdG) ks [sR w,some x,sR H.length,o3,o4,none,none,none] (H++[O.dct gk])=some (.next,[sR w,some x,sR H.length,o3',o4',none,none,none],H++[O.dct gk'])
 |[],gk,_,_=>⟨gk,Nat.le_add_right _ _,λz=>⟨_,_,rfl⟩⟩
 |k::ks,gk,hk,l=>by
  obtain⟨kk,y,my,ey⟩:=hk k Xn
  rcases Qgz (k:=k) W.kept with⟨j,nms,e1,_,r⟩|⟨n,_⟩
  ·have ll:nms.length<=Jq W.kept:=JT (X0 e1);rw[Wa,Nat.add_mul]at l;have lg:=YY nms gk
   obtain⟨gk',l',q⟩:=QaF ks (nms.foldl Yg gk) (λk m=>hk k (Xl _ m)) (by lia)
   refine⟨gk',by rw[Wa,Nat.add_mul];lia,λ{w P H c x o3 o4} s=>?_⟩
   obtain⟨p,us,k1,k2,k3⟩:=r P _ s.dk;have hp:=s.kpt k1
   obtain⟨o,f1⟩:=Qeo (T:=T) (cf:=cf) (d:=d) (gk:=gk) (Z:=[sR w,some x,sR H.length,some k,o4,none,none,none]) s.ow.p hp k2 rfl (show 4<8 by decide) (by lia)
   have cw:(H++[O.dct gk])[w]?=some c.D:=Qr s.cw;have ck:(H++[O.dct gk])[c.k]?=some (.fzd (kd c.kc)):=Qr (s.ow.c 5 _ _ rfl)
   have sb:QH T (.ref c.k) k (H++[O.dct gk])=sR p:=by
    unfold QH;simp only[ck,ZI,kk,Wm,k3];cases k<;>rfl
   have v1:Za T (ev T cf (d+4)) [sR w,some x,sR H.length,some k,o4,none,none,none] (.seq (.ix (.ix (.var 0) (.c (.str [107,101,112,116]))) (.var 3))) (H++[O.dct gk])=some (.seqL (.ref p),H++[O.dct gk]):=ZQ (y_ix.trans (by rw[QO rfl (s_k (v:=.ref c.k) cw rfl),Qi,Qc rfl,Qi,sb];rfl)) (Qr hp)
   have v2:exs T cf (d+6) bdG [sR w,some x,sR H.length,some k,o4,none,none,none] (H++[O.dct gk])=some (.next,[sR w,some x,sR H.length,some k,o,none,none,none],H++[O.dct (nms.foldl Yg gk)]):=QJ (QU v1 (by rw[Qho (Qr hp)];exact f1))
   obtain⟨o3',o4',f2⟩:=q (x:=x) (o3:=some k) (o4:=o) s
   exact⟨o3',o4',by simp only[QeO,We,Wi,v2];exact f2⟩
  ·exact absurd ey (n y my)
noncomputable def Qhy(gk:Gk)(r n:Nat):List Nm:=((List.range n).map λi=>((r:Int),((i:Nat):Int))).filter λa=>!(Qz gk (nmK a)).isSome
noncomputable def frs(gk:Gk)(rows:List (List Lp))(i:Nat):List Nm:=((List.range i).map λr=>Qhy gk r (rows.getD r []).length).flatten
def Qhx(gk:Gk)(r n:Nat):Qhy gk r (n+1)=Qhy gk r n++(if(Qz gk (nmK ((r:Int),(n:Int)))).isSome then []else [((r:Int),(n:Int))]):=by
 unfold Qhy;rw[Us,Va,List.filter_append]
 congr 1
 simp only[Xo,Ui,U3,List.filter_nil];cases(Qz gk (nmK ((r:Int),(n:Int)))).isSome<;>rfl
def QjD(gk:Gk)(rows:List (List Lp))(i:Nat):frs gk rows (i+1)=frs gk rows i++Qhy gk i (rows.getD i []).length:=by
 unfold frs;rw[Us,Va,List.flatten_append];simp
def Qb1(gk:Gk)(r n:Nat):(Qhy gk r n).length<=n:=Wd (List.length_filter_le ..) (by simp)
theorem JX(gk:Gk)(rows:List (List Lp)):∀i,i<=rows.length->(frs gk rows i).length+szR (rows.drop i)<=szR rows
 |0,_=>by simp[frs]
 |i+1,l=>by
  have h:=JX gk rows i (by lia)
  have h1:=Qb1 gk i (rows.getD i []).length
  have e:rows.getD i []=rows[i]:=by simp[List.getD,show i<rows.length by lia]
  rw[Ug (by lia)]at h
  rw[QjD,Xs];rw[e]at h1 ⊢;simp only[szR,Xo,Vq]at h ⊢;lia
def QjE{gk:Gk}{rows:List (List Lp)}{a:Nm}(l:i<=rows.length)(m:a∈frs gk rows i):Vr rows a:=by
 obtain⟨L,mL,ma⟩:=List.mem_flatten.mp m;obtain⟨r,mr,rfl⟩:=Wl.mp mL;obtain⟨j,mj,rfl⟩:=Wl.mp (T3.mp ma).1
 have lr:r<rows.length:=by have:=Vt.mp mr;lia
 exact⟨r,j,rows[r],rfl,by simp,by have:=Vt.mp mj;simpa[List.getD,lr]using this⟩
noncomputable def Qm8:E:=.cmp .NotIn (.tup [(.var 6),(.var 8)]) (.var 2)
def QgV{G:Nat}{gk:Gk}{P:Vp}{W:Ws}(st:St P h w W)(hG:P G (.dct gk))(r2:Z[2]?=some (sR G))(r6:Z[6]?=some (sI (r:Int)))(rl:Z.length=8)(ln:n<=900000):
  ∃us h2,QS T (ev T cf (d+5)) (Z4 (evT T cf (d+5)) (some Qm8)) (.rng 0 n) false (.tup [(.var 6),(.var 8)]) Z (n+1) 0 [] h=some (us,h2)/\∃P1,Le P P1/\St P1 h2 w W/\Paired (dN P1) us (Qhy gk r n):=by
 refine Y4 (T:=T) (f:=ev T cf (d+5)) (ft:=Z4 (evT T cf (d+5)) (some Qm8)) (w:=.rng 0 n) (el:=.tup [(.var 6),(.var 8)]) (Z:=Z) (n:=n) (λi acc h=>∃P1,Le P P1/\St P1 h w W/\Paired (dN P1) acc (Qhy gk r i)) (λi hi acc h z=>?_) (λacc h x=>by simp[itm]) n 0 (n+1) [] h (by lia) (by lia) ⟨P,Le.refl,st,.nil⟩;obtain⟨P1,l1,⟨c,s1⟩,p1⟩:=z
 have la:=Qb1 gk r i;have lp:=Qd p1
 have i2:(Z++[sI (i:Int)])[2]?=some (sR G):=by rw[Xv (by lia)];exact r2
 have i6:(Z++[sI (i:Int)])[6]?=some (sI (r:Int)):=by rw[Xv (by lia)];exact r6
 have i8:(Z++[sI (i:Int)])[8]?=some (sI (i:Int)):=by rw[Wg (by lia),rl];rfl
 have tp:∀(k:Nat) h,ev T cf (k+2) (.tup [(.var 6),(.var 8)]) (Z++[sI (i:Int)]) h=some (.ref h.length,h++[O.tup (nmK ((r:Int),(i:Int)))]):=λk h=>Yk (Qc i6) (Qc i8);have s2:=s1.add (y:=.tup (nmK ((r:Int),(i:Int))));have hg:=s2.ow.p _ _ (.inl (l1 _ _ hG));have tk:=QkY (u:=.ref h.length) s2.ow.p ⟨_,rfl,Q1⟩
 have ec:ZC T .NotIn (.ref h.length) (.ref G) (h++[O.tup (nmK ((r:Int),(i:Int)))])=some (!(Qz gk (nmK ((r:Int),(i:Int)))).isSome):=by
  simp only[ZC,ZF,hg,inD,ZI,tk,Option.map]
 refine⟨by lia,.int (i:Int) 0,_,_,by simp[itm,hi],QK (tp _ _) (Qc i2) ec,λe=>⟨_,_,tp _ _,_,(l1.trans le_ad).trans le_ad,⟨c,s2.add⟩,?_⟩,λe=>⟨_,l1.trans le_ad,⟨c,s2⟩,?_⟩⟩
 ·rw[Qhx,if_neg (by simpa using e)]
  exact Qv ⟨_,rfl,Q1⟩ (dNs.le (le_ad.trans le_ad) p1)
 ·rw[Qhx,if_pos (by simpa using e),W9]
  exact dNs.le le_ad p1
section
variable {P:Vp}{c:Ct}{W:Ws}
def Sf.fz(s:Sx P h w c W):Sf .fzd P (h.set c.k (.fzd (kd c.kc))) w c W:=⟨s.ow.set 5 rfl,s.dr,s.lf,s.dl,s.dg,s.dn,s.dk,s.dο⟩
def Sf.th(s:Sf .fzd P h w c W):Sx P (h.set c.k (.dic (kd c.kc))) w c W:=⟨s.ow.set 5 rfl,s.dr,s.lf,s.dl,s.dg,s.dn,s.dk,s.dο⟩
def QjN{P:Vp}{kc:List (U×Nat×List U)}{kp:List (U×List Nm)}(h:Paired (dK P) kc kp):(kd kc).map (·.1)=kp.map (·.1):=by
 induction h with
 |nil=>rfl
 |cons h _ ih=>rw[kd,Xo,Xo,Xo,h.1];exact congrArg _ ih
end
def Qfa{xs:List α}{a b:Int}(ha:0<=a)(hb:a<=b):(QZ xs (some a) (some b)).length<=(b-a).toNat:=by
 unfold QZ Qc2;simp only[if_neg (Int.not_lt.mpr ha),if_neg (Int.not_lt.mpr (Int.le_trans ha hb)),Ve,U0];refine Wd (Nat.min_le_left ..) ?_
 rw[show(b-a).toNat=b.toNat-a.toNat by lia]
 rcases Nat.le_total a.toNat xs.length with l|l
 ·rw[Nat.min_eq_left l];exact Nat.sub_le_sub_right (Nat.min_le_left ..) _
 ·rw[Nat.min_eq_right l,Nat.sub_eq_zero_of_le (Nat.min_le_right ..)];exact W6 _
def QrC{b:U}:Qa (tbG xx s) (m+1) 13 [a,b] hs=fin (exs (tbG xx s) (Qa (tbG xx s) m) dd b13 [some a,some b,none,none,none,none,none,none] hs):=rfl
def QmF{P:Vp}{row:List Lp}(kP:∀i o,P i o->h[i]?=some o)(d:dW P u row):∃p us,u=.ref p/\h[p]?=some (.lst us)/\us.length=row.length:=by
 obtain⟨i,us,rfl,e,p⟩:=d;exact⟨i,us,rfl,kP _ _ e,Qd p⟩
def Qen{G so:Nat}{gk:Gk}{P:Vp}{W:Ws}{x:U}(st:St P h w W)(hG:P G (.dct gk))(hs:P so (.lst []))(l:sz W<900000):
  ∃o6 so' us h2,ZN T (.rng 0 W.rows.length) (.name 6) (exs T cf (d+9) [(.set 5 (.op .Add (.var 5) (.comp (.rng (.bi .len [(.ix (.ix (.var 0) (.c (.str [114,111,119,115]))) (.var 6))])) false (some Qm8) (.tup [(.var 6),(.var 8)]))))]) (W.rows.length+1) 0 [sR w,some x,sR G,o3,o4,sR so,none,none] h=some (.next,[sR w,some x,sR G,o3,o4,sR so',o6,none],h2)/\∃P1,Le P P1/\St P1 h2 w W/\P1 so' (.lst us)/\Paired (dN P1) us (frs gk W.rows W.rows.length):=by
 have z:=Qas W
 obtain⟨ρ2,h2,q1,o6,so',us,P1,e,l1,s1,h1,p1⟩:=Yw (T:=T) (w:=.rng 0 W.rows.length) (t:=.name 6) (body:=exs T cf (d+9) [(.set 5 (.op .Add (.var 5) (.comp (.rng (.bi .len [(.ix (.ix (.var 0) (.c (.str [114,111,119,115]))) (.var 6))])) false (some Qm8) (.tup [(.var 6),(.var 8)]))))]) (n:=W.rows.length) (λi Z h=>∃o6 so us P1,Z=[sR w,some x,sR G,o3,o4,sR so,o6,none]/\Le P P1/\St P1 h w W/\P1 so (.lst us)/\Paired (dN P1) us (frs gk W.rows i))
  (λi hi Z h s=>by
   obtain⟨o6,so,us,P1,e,l1,st,hso,pu⟩:=s
   subst e;obtain⟨c,s1⟩:=st
   have hrow:W.rows[i]?=some W.rows[i]:=by simp
   have lr:=JX gk W.rows i (by lia)
   have lr2:=JX gk W.rows (i+1) (by lia)
   rw[QjD,Xs]at lr2
   have eg:W.rows.getD i []=W.rows[i]:=by simp[List.getD,hi]
   rw[eg]at lr2;obtain⟨u,hu,du⟩:=Zu s1.dr hrow;obtain⟨p,vs,rfl,hp,lv⟩:=QmF s1.ow.p du
   have li:W.rows[i].length<=szR W.rows:=by
    rw[Ug hi]at lr;simp only[szR,Xo,Vq]at lr ⊢;lia
   have v1:ev T cf (d+4) (.ix (.ix (.var 0) (.c (.str [114,111,119,115]))) (.var 6)) [sR w,some x,sR G,o3,o4,sR so,sI (i:Int),none] h=some (.ref p,h):=y_ix.trans (by rw[QO rfl (s_k (v:=.ref c.r) s1.cw rfl),Qi,Qc rfl,Qi];simp only[QH,s1.cr,JB hu];rfl)
   have v2:=Yc v1 hp;rw[lv]at v2
   obtain⟨us2,h2,q1,P2,l2,⟨c2,s2⟩,p2⟩:=QgV (T:=T) (cf:=cf) (d:=d) (n:=W.rows[i].length) (r:=i) (gk:=gk) (Z:=[sR w,some x,sR G,o3,o4,sR so,sI (i:Int),none]) ⟨c,s1⟩ (l1 _ _ hG) rfl rfl rfl (by lia)
   have s3:=s2.add (y:=.lst us2);have la:=Qd pu;have lb:=Qd p2
   have a1:=Qa3 (hs:=h2++[.lst us2]) (s3.ow.p _ _ (.inl (l2 _ _ hso))) (at0 (hs:=h2) (a:=.lst us2) (r:=[])) (by lia)
   refine⟨.one (.int (i:Int) 0),_,_,_,by simp[itm,hi],rfl,QJ (Qa7 (Yu (Qc rfl) (Ym (Yl v2 (by lia)) q1) a1)),_,_,_,_,rfl,((l1.trans l2).trans le_ad).trans le_ad,⟨c2,s3.add⟩,Q1,?_⟩
   rw[QjD,eg]
   exact Zt (dNs.le ((l2.trans le_ad).trans le_ad) pu) (dNs.le (le_ad.trans le_ad) p2))
  (λZ h q=>by simp[itm]) W.rows.length 0 (W.rows.length+1) [sR w,some x,sR G,o3,o4,sR so,none,none] h (by lia) (by lia) ⟨_,so,[],P,rfl,Le.refl,st,hs,.nil⟩
 exact⟨o6,so',us,h2,by rw[q1,e],P1,l1,s1,h1,p1⟩
def QfN{W:Ws}(g:Gd W)(l:sz W<8000)(lk:W.kept.length<=64):∃W' k,k<=8/\Ek k W W'/\∀(w:Nat) (P:Vp) h,St P h w W->Cc (tbG xx s) (m+1) 13 [.ref w,.int x 0] h (To P w W'):=by
 have z:=Qas W
 have lm:(W.kept.map (·.1)).length*Jq W.kept<=64*Jq W.kept:=Nat.mul_le_mul_right _ (by simpa using lk)
 obtain⟨gk,lg,q⟩:=QaF (T:=tbG xx s) (cf:=Qa (tbG xx s) m) (d:=91) (W:=W) (W.kept.map (·.1)) [] (λk mk=>by obtain⟨y,my,rfl⟩:=Wl.mp mk;exact⟨g.kk y my,y,my,rfl⟩) (by simp only[W5];lia)
 obtain⟨N,hN⟩:∃N,N=frs gk W.rows W.rows.length:=⟨_,rfl⟩
 have vN:∀a∈N,Vr W.rows a:=λa m=>QjE (Xg _) (by rw[<-hN];exact m)
 have lN:=JX gk W.rows W.rows.length (Xg _);rw[<-hN]at lN;obtain⟨mx,hm⟩:∃mx:Int,mx=(if(N.length:Int) > 1 then(N.length:Int)else 1):=⟨_,rfl⟩
 have mx0:0<mx:=by rw[hm];split<;>lia
 obtain⟨at',ha⟩:∃a:Int,a=x / 4 % mx:=⟨_,rfl⟩
 have a0:0<=at':=by rw[ha];exact V9 _ (by lia)
 have m4:=V8 x (show(0:Int) < 4 by decide)
 have m0:=V9 x (show(4:Int)≠0 by decide)
 have l4:=Qfa (xs:=N) (b:=at'+1+x % 4) a0 (by lia)
 have t:=Y1 (op:=λW a=>QfF W ⟨[a],1,0⟩) (λW a=>Qe0) (QZ N (some at') (some (at'+1+x % 4))) g λa m=>vN a (Zz m)
 refine⟨_,_,by lia,t,λw P h r=>?_⟩;obtain⟨c,s0⟩:=r
 obtain⟨o3,o4,f1⟩:=q (x:=.int x 0) (o3:=none) (o4:=none) s0.fz;have s1:=(s0.fz.add (y:=.dct gk)).th;have lk':=s0.ow.lt (k:=5) rfl;have e1:(h++[O.dct []]).set c.k (.fzd (kd c.kc))=h.set c.k (.fzd (kd c.kc))++[O.dct []]:=List.set_append_left _ _ lk';rw[Sd]at f1;have c5:(h.set c.k (.fzd (kd c.kc))++[O.dct gk])[c.k]?=some (.fzd (kd c.kc)):=(s0.fz.add (y:=.dct gk)).ow.c 5 _ _ rfl
 refine Qh8 QrC (Q3 (Zl QcF (QhB (Qic (QO rfl (s_k (Qr s0.cw) (v:=.ref c.k) rfl)) (Qr (s0.ow.c 5 _ _ rfl)) (by rw[e1,QjN s0.dk];exact f1) c5) (Q3 (Zl (y_lst.trans rfl) ?_)))))
 have gG:ad P (h.set c.k (.fzd (kd c.kc))).length (.dct gk) h.length (.dct gk):=.inr ⟨by rw[Sd],rfl⟩
 have v0:=Yc (T:=tbG xx s) (cf:=Qa (tbG xx s) m) (d:=94) (Z:=[sR w,sI x,sR h.length,o3,o4,some (.ref ((h.set c.k (.fzd (kd c.kc))++[O.dct gk]).set c.k (.dic (kd c.kc))).length),none,none]) (QO (i:=0) rfl (s_k (s1.add (y:=.lst [])).cw (k:=[114,111,119,115]) rfl)) (s1.add (y:=.lst [])).cr;rw[Qd s1.dr]at v0
 obtain⟨o6,so,us,h2,f2,P2,l2,⟨c2,s2⟩,hso,pu⟩:=Qen (T:=tbG xx s) (cf:=Qa (tbG xx s) m) (d:=86) (x:=.int x 0) (o3:=o3) (o4:=o4) ⟨c,s1.add (y:=.lst [])⟩ (le_ad _ _ gG) Q1 (by lia)
 refine Jg (Yl v0 (by lia)) ⟨_,h2,f2,?_⟩
 rw[<-hN]at pu;have v5:=Yc (T:=tbG xx s) (cf:=Qa (tbG xx s) m) (d:=91) (Z:=[sR w,sI x,sR h.length,o3,o4,sR so,o6,none]) (Qc (i:=5) rfl) (s2.ow.p _ _ hso);rw[Qd pu]at v5
 have v6:ev (tbG xx s) (Qa (tbG xx s) m) 94 (.op .Mod (.op .FloorDiv (.var 1) (.c (.int 4 0))) (.bi .max [(.c (.int 1 0)),(.bi .len [(.var 5)])])) [sR w,sI x,sR h.length,o3,o4,sR so,o6,none] h2=some (.int at' 0,h2):=by
  rw[ha]
  refine Yu (Zq (Qc rfl) (by decide)) (y_bi.trans ?_) (Qgo mx0)
  simp only[evs,y_c,Qi];rw[v5,hm];rfl
 have s3:=s2.add (y:=.lst (QZ us (some at') (some (at'+1+x % 4))))
 obtain⟨o,h4,f4,P4,l4',s4⟩:=QhR (T:=tbG xx s) (cf:=Qa (tbG xx s) m) (d:=93) (v:=4) (body:=[gvS,nwS (.tup [(.tup [(.var 4)]),(.c (.int 1 0)),(.c (.int 0 0))])]) (Z:=[sR w,sI x,sR h.length,o3,o4,sR so,o6,sI at']) (λW a=>QfF W ⟨[a],1,0⟩) (λi W1=>sz W1=sz W+2*i) ⟨c2,s3⟩ Q1 (dNs.le le_ad (Ze (a:=some at') (b:=some (at'+1+x % 4)) pu)) (show 4<8 by decide) rfl
  λi W1 a li k1 n=>⟨by have:=QdE W1 ⟨[a],1,0⟩;lia,λP1 h' u st du=>QkK (d:=83) st (by lia) rfl (λP2 h2 l2 j=>by obtain⟨k,s1⟩:=j;exact Zl (Qdp (y_tup.trans (by rw[evs,Qc rfl];rfl)) y_c y_c) ⟨_,le_ad.trans le_ad,⟨_,_,[u],rfl,Q1,.inl Q1,.cons (dN.le (l2.trans (le_ad.trans le_ad)) du) .nil⟩,λk s1=>s1.add.add⟩) λP1 h1 l1 s1=>QM ⟨rfl,rfl,P1,l1,s1⟩⟩
 refine Q3 (Zl v6 (Jg (ZQ (QkO (Qc rfl) (s2.ow.p _ _ hso) (Qhk (Qc rfl)) (Qhk (Yu (Yu (Qc rfl) y_c QaB) (Zp (Qc rfl) (by decide)) QaB))) at0) ⟨_,h4,by rw[Qho at0];exact f4,QM ⟨rfl,P4,?_,s4⟩⟩))
 exact(((le_ad.trans le_ad).trans l2).trans le_ad).trans l4'
def QiP{p0:Nat}{P:Vp}{c:Ct}{W:Ws}{b:U}{k j:Int}{u0 u1:List U}{N0 N1:List Nm}{r:List S}(s:Sx P h w c W)(hp:P p0 (.lst u0))(d0:Paired (dN P) u0 N0)(e1:ev T cf (d+1) e [sR w,some a,sI k,some b,sR p0,none] h=some (.ref h.length,h++[.lst u1]))(d1:Paired (dN P) u1 N1)
  (q:∀P' h' p' us',Le P P'->Sx P' h' w c W->P' p' (.lst us')->Paired (dN P') us' (if k=j then N1 else N0)->Xx T cf (d+4) r [sR w,some a,sI k,some b,sR p',none] h' Q):
  Xx T cf (d+5) (.ite (.cmp .Eq (.var 2) (.c (.int j 0))) [.set 4 e] []::r) [sR w,some a,sI k,some b,sR p0,none] h Q:=by
 refine Qdg (Zd rfl) ?_;by_cases z:k=j
 ·rw[Wz z]
  exact Q3 (Zl e1 (QM (q _ _ _ u1 le_ad s.add Q1 (by rw[if_pos z];exact dNs.le le_ad d1))))
 ·rw[Wf z]
  exact QM (q _ _ _ u0 Le.refl s hp (by rw[if_neg z];exact d0))
noncomputable def hdN(L:List Nm)(k y:Int):List Nm:=if k=5 then []else if k=7 then QZ L none (some (2+y % 7))else if k=3 then QZ L none (some (2+y % 3))else QZ L none (some 1)
def QgT{xs:List α}{b:Int}(hb:0<=b):(QZ xs none (some b)).length<=b.toNat:=by
 unfold QZ Qc2
 simp only[if_neg (show ¬b<0 by lia),Ve,U0]
 lia
def Qmt{L:List Nm}{k:Int}:(∀a∈hdN L k y,a∈L)/\(hdN L k y).length<=8:=by
 have m7:=V8 y (show(0:Int) < 7 by decide)
 have n7:=V9 y (show(7:Int)≠0 by decide)
 have m3:=V8 y (show(0:Int) < 3 by decide)
 have n3:=V9 y (show(3:Int)≠0 by decide)
 have c1:=λ(b:Int) (h0:0<=b) (h:b<=8)=>Wd (QgT (xs:=L) h0) (show b.toNat<=8 by lia)
 unfold hdN;split
 ·exact⟨λa m=>(by cases m),by simp⟩
 ·split
  ·exact⟨λa m=>Zz m,c1 _ (by lia) (by lia)⟩
  ·split
   ·exact⟨λa m=>Zz m,c1 _ (by lia) (by lia)⟩
   ·exact⟨λa m=>Zz m,c1 _ (by decide) (by decide)⟩
noncomputable def gvN(W:Ws)(nms:List Nm)(y:Int)(n:Nat):Ws:=(List.range n).foldl (λW (k:Nat)=>Yh W nms (y+k) 0) W
def Qep{P:Vp}{W:Ws}{nms:List Nm}{k:U}(st:St P h w W)(hp:P p (.lst us))(pu:Paired (dN P) us nms)(l:sz W+2*n<900000)(gk:∀i,sz (gvN W nms (y / 3) i)=sz W+2*i):
  ∃ρ2 h2,ZN (tbG xx s) (.rng 0 n) (.name 5) (exs (tbG xx s) (Qa (tbG xx s) (m+1)) (d+7) [(.expr (.call 10 [(.var 0),(.var 4),(.op .Add (.op .FloorDiv (.var 3) (.c (.int 3 0))) (.var 5)),(.c (.int 0 0))]))]) (n+1) 0 [sR w,some a,some k,sI y,sR p,none] h=some (.next,ρ2,h2)/\∃P1,Le P P1/\St P1 h2 w (gvN W nms (y / 3) n):=by
 obtain⟨ρ2,h2,q1,_,P1,l1,q3⟩:=Yw (T:=tbG xx s) (w:=.rng 0 n) (t:=.name 5) (body:=exs (tbG xx s) (Qa (tbG xx s) (m+1)) (d+7) [(.expr (.call 10 [(.var 0),(.var 4),(.op .Add (.op .FloorDiv (.var 3) (.c (.int 3 0))) (.var 5)),(.c (.int 0 0))]))]) (n:=n) (λi ρ' h'=>(∃o,ρ'=[sR w,some a,some k,sI y,sR p,o])/\∃P1,Le P P1/\St P1 h' w (gvN W nms (y / 3) i))
  (λi hi ρ' h' x=>by
   obtain⟨⟨o,e⟩,P1,l1,s1⟩:=x
   subst e
   have W1:=YK (xx:=xx) (s:=s) (m:=m) (c:=y / 3+(i:Int)) (z:=0) s1 (l1 _ _ hp) (dNs.le l1 pu) (by rw[gk];lia)
   obtain⟨f,ρ2,h2,x1,rfl,rfl,P2,l2,s2⟩:Xx (tbG xx s) (Qa (tbG xx s) (m+1)) (d+7) [(.expr (.call 10 [(.var 0),(.var 4),(.op .Add (.op .FloorDiv (.var 3) (.c (.int 3 0))) (.var 5)),(.c (.int 0 0))]))] [sR w,some a,some k,sI y,sR p,sI (i:Int)] h' (λf ρ2 h2=>f=.next/\ρ2=[sR w,some a,some k,sI y,sR p,sI (i:Int)]/\∃P2,Le P1 P2/\St P2 h2 w (Yh (gvN W nms (y / 3) i) nms (y / 3+(i:Int)) 0)):=by
    refine Yv (QhA (us:=[.ref w,.ref p,.int (y / 3+(i:Int)) 0,.int 0 0]) (h1:=h') ?_ ?_)
    ·have v:=Yu (TT:=tbG xx s) (cf:=Qa (tbG xx s) (m+1)) (d:=d+3) (Z:=[sR w,some a,some k,sI y,sR p,sI (i:Int)]) (h:=h') (Zq (Qc (i:=3) rfl) (j:=3) (by decide)) (Qc (i:=5) rfl) QaB
     rw[evs,Qc rfl,Qi,evs,Qc rfl,Qi,evs,v];rfl
    ·exact W1.mono λv h3 ⟨_,P3,l3,s3⟩=>QM ⟨rfl,rfl,P3,l3,s3⟩
   refine⟨.one (.int (i:Int) 0),_,_,h2,by simp[itm,hi],rfl,x1,⟨_,rfl⟩,P2,l1.trans l2,?_⟩
   rw[gvN,Us,Uy]
   exact s2)
  (λρ' h' u=>by simp[itm]) n 0 (n+1) _ h (by lia) (by lia) ⟨⟨none,rfl⟩,P,Le.refl,st⟩
 exact⟨ρ2,h2,q1,P1,l1,q3⟩
def QrA{b:U}:Qa (tbG xx s) (m+1) 15 [a,b] hs=fin (exs (tbG xx s) (Qa (tbG xx s) m) dd b15 [some a,some b,none,none,none,none] hs):=rfl
noncomputable def brE:S:=(.ite (.cmp .Eq (.var 4) (.lst [])) [(.expr (.call 10 [(.var 0),(.lst []),(.var 3),(.c (.int 0 0))]))] [(.ite (.cmp .Eq (.var 2) (.c (.int 2 0))) [(.expr (.bm .append (.ix (.var 0) (.c (.str [103,105,118,101,110]))) [(.ix (.var 4) (.c (.int 0 0)))]))] [(.ite (.and (.cmp .Eq (.var 2) (.c (.int 3 0))) (.cmp .Eq (.op .Mod (.op .FloorDiv (.var 3) (.c (.int 3 0))) (.c (.int 2 0))) (.c (.int 1 0)))) [(.expr (.call 10 [(.var 0),(.rev (.var 4)),(.op .FloorDiv (.var 3) (.c (.int 6 0))),(.c (.int 0 0))]))] [(.ite (.cmp .Eq (.var 2) (.c (.int 4 0))) [(.loop (.name 5) (.rng (.op .Add (.c (.int 2 0)) (.op .Mod (.var 3) (.c (.int 3 0))))) [(.expr (.call 10 [(.var 0),(.var 4),(.op .Add (.op .FloorDiv (.var 3) (.c (.int 3 0))) (.var 5)),(.c (.int 0 0))]))])] [(.ite (.cmp .Eq (.var 2) (.c (.int 6 0))) [(.expr (.call 12 [(.var 0),(.ix (.var 4) (.c (.int 0 0))),(.var 3)]))] [(.ite (.and (.cmp .Eq (.var 2) (.c (.int 7 0))) (.cmp .Gt (.bi .len [(.var 4)]) (.c (.int 1 0)))) [(.expr (.call 14 [(.var 0),(.var 4),(.var 3)]))] [(.expr (.call 10 [(.var 0),(.var 4),(.op .FloorDiv (.var 3) (.c (.int 6 0))),(.c (.int 0 0))]))])])])])])])
def To.le{P P1:Vp}{W:Ws}(l:Le P P1)(t:To P1 w W u h):To P w W u h:=by obtain⟨a,P2,l2,s⟩:=t;exact⟨a,P2,l.trans l2,s⟩
def Qay{P P1:Vp}{W:Ws}(e:evs (ev T (Qa T m) d) Z es h=some (us,h1))(l:Le P P1)(c:Cc T m f us h1 (To P1 w W)):Xx T (Qa T m) (d+3) [.expr (.call f es)] Z h (Fq (To P w W)):=by
 obtain⟨u,h2,a,t⟩:=c
 refine Yv (Zl (u:=u) (h1:=h2) (by rw[y_call,e,Qi,a]) (QM ?_))
 have:=t.1;subst this;exact t.le l
def QfO{W:Ws}{nms:List Nm}{k:Int}(g:Gd W)(l:sz W<8000)(hv:∀a∈nms,Vr W.rows a)(l8:nms.length<=8):∃W',Tr 32 W W' /\
  ∀(w:Nat) (P:Vp) h p us,St P h w W->P p (.lst us)->Paired (dN P) us nms->Xx (tbG xx s) (Qa (tbG xx s) (m+2)) 93 [brE] [sR w,sI x,sI k,sI y,sR p,none] h (Fq (To P w W')):=by
 have t1:∀{w:Nat} {P:Vp} {h p us},St P h w W->P p (.lst us)->Paired (dN P) us nms->evT (tbG xx s) (Qa (tbG xx s) (m+2)) 91 (.cmp .Eq (.var 4) (.lst [])) [sR w,sI x,sI k,sI y,sR p,none] h=some (decide (nms=[]),h++[.lst []]):=λ{w P h p us} st hp pu=>by
  have e:decide (us=[])=decide (nms=[]):=by cases pu<;>rfl
  rw[<-e];exact QK (Qc rfl) (y_lst.trans rfl) (Yj (Qr (st.elim λt s=>s.ow.p _ _ hp)) at0)
 by_cases n0:nms=[]
 ·refine⟨Yh W [] y 0,(QaO (lp:=⟨[],QcK 0 y,0⟩) g (show 0<=8 by decide) λa m=>(by cases m)).tr (by decide),λw P h p us st hp pu=>QcM (t1 st hp pu) n0 ?_⟩
  obtain⟨c,s0⟩:=st
  exact Qay (P1:=ad (ad P h.length (.lst [])) (h++[O.lst []]).length (.lst [])) rfl (le_ad.trans le_ad) (YK ⟨c,s0.add.add⟩ Q1 .nil (by lia))
 obtain⟨b,r,rfl⟩:=List.exists_cons_of_ne_nil n0;have hd:∀{P:Vp} {us},Paired (dN P) us (b::r)->∃u,us[0]?=some u/\dN P u b:=λpu=>Zu pu rfl;have NX:∀{w:Nat} {P:Vp} {h p us} {Q:U->Hs->Prop} {r':List S},St P h w W->P p (.lst us)->Paired (dN P) us (b::r)->(∀c,Sx (ad P h.length (.lst [])) (h++[.lst []]) w c W->Xx (tbG xx s) (Qa (tbG xx s) (m+2)) 91 r' [sR w,sI x,sI k,sI y,sR p,none] (h++[.lst []]) (Fq Q))->Xx (tbG xx s) (Qa (tbG xx s) (m+2)) 93 [.ite (.cmp .Eq (.var 4) (.lst [])) [(.expr (.call 10 [(.var 0),(.lst []),(.var 3),(.c (.int 0 0))]))] r'] [sR w,sI x,sI k,sI y,sR p,none] h (Fq Q):=λst hp pu q=>Qa5 (t1 st hp pu) n0 (st.elim λc s0=>q c s0.add);by_cases k2:k=2
 ·refine⟨{W with given:=W.given++[b]},⟨⟨g.left,λa m=>?_,g.new,g.rows,g.put,g.kk⟩,rfl,by simp[sz];lia,by simp⟩,λw P h p us st hp pu=>NX st hp pu λc s1=>QcM (Zd rfl) k2 ?_⟩
  ·rcases Wo.mp m with m|m
   ·exact g.given a m
   ·rw[Wh.mp m];exact(hv b Xn).app
  obtain⟨u,hu,du⟩:=hd pu;have a0:atU us 0=some u:=JB (i:=0) hu;have z:=Qas W
  exact Yv (Qbk (QO rfl (s_k s1.cw rfl)) s1.cg (Zl (y_ix.trans (by rw[Qc rfl,Qi,y_c,Qi];simp only[QH,s1.ow.p _ _ (le_ad _ _ hp),a0];rfl)) ⟨c.gs,s1.cg,by rw[Qd s1.dg];lia,QM ⟨rfl,_,le_ad,_,s1.giv (dN.le le_ad du)⟩⟩))
 by_cases k3:k=3/\y / 3 % 2=1
 ·refine⟨Yh W (b::r).reverse (y / 6) 0,(QaO g (by simpa using l8) λa m=>hv a (List.mem_reverse.mp m)).tr (by decide),λw P h p us st hp pu=>NX st hp pu λc s1=>Qa5 (Zd rfl) k2 (QcM (Qbb (Zd rfl) (Qkr (Zp (Zq (Qc rfl) (by decide)) (by decide)) y_c)) k3 ?_)⟩
  refine Qay (us:=[.ref w,.ref (h++[O.lst []]).length,.int (y / 6) 0,.int 0 0]) (h1:=h++[O.lst []]++[.lst us.reverse]) ?_ (le_ad.trans le_ad) (YK ⟨c,s1.add⟩ Q1 (dNs.le (le_ad.trans le_ad) (Qd0 pu)) (by lia))
  have hp1:=s1.ow.p _ _ (le_ad _ _ hp)
  have e1:∀d,ev (tbG xx s) (Qa (tbG xx s) (m+2)) (d+2) (.rev (.var 4)) [sR w,sI x,sI k,sI y,sR p,none] (h++[O.lst []])=some (.ref (h++[O.lst []]).length,h++[O.lst []]++[.lst us.reverse]):=λd=>by rw[QkA,Qc rfl,Qi];simp only[QB,hp1]
  rw[evs,Qc rfl,Qi,evs,e1,Qi,evs,Zq (Qc rfl) (by decide)]
  rfl
 by_cases k4:k=4
 ·have m3:=V8 y (show(0:Int) < 3 by decide)
  have n3:=V9 y (show(3:Int)≠0 by decide)
  obtain⟨n,hn⟩:∃n:Nat,2+y % 3=(n:Int):=⟨(2+y % 3).toNat,by lia⟩
  have E:=λi=>Y1 (op:=λW (j:Nat)=>Yh W (b::r) (y / 3+j) 0) (ok:=λR t=>R=W.rows) (λW1 j g1 e=>QaO g1 l8 (by rw[e];exact hv)) (List.range i) g λt t=>rfl
  have EL:∀i,sz (gvN W (b::r) (y / 3) i)=sz W+2*i:=λi=>by have:=(E i).sz;rw[Tn]at this;exact this
  refine⟨gvN W (b::r) (y / 3) n,(E n).tr (by rw[Tn];lia),λw P h p us st hp pu=>NX st hp pu λc s1=>Qa5 (Zd rfl) k2 (Qa5 (Qbb (Zd rfl) (Qkr (Zp (Zq (Qc rfl) (by decide)) (by decide)) y_c)) k3 (QcM (Zd rfl) k4 ?_))⟩
  obtain⟨ρ2,h2,q1,P1,l1,s2⟩:=Qep (xx:=xx) (s:=s) (m:=m+1) (d:=76) (a:=.int x 0) (k:=.int k 0) (n:=n) ⟨c,s1⟩ (le_ad _ _ hp) (dNs.le le_ad pu) (by lia) EL
  have v:=Yu (TT:=tbG xx s) (cf:=Qa (tbG xx s) (m+2)) (d:=82) (Z:=[sR w,sI x,sI k,sI y,sR p,none]) (h:=h++[O.lst []]) y_c (Zp (Qc (i:=3) rfl) (j:=3) (by decide)) (QaB (x:=2))
  rw[hn]at v
  exact Jg (Yl v (by lia)) ⟨_,_,q1,QM ⟨rfl,P1,le_ad.trans l1,s2⟩⟩
 by_cases k6:k=6
 ·obtain⟨pt,kp,of,i1,i2,i3,i4,q⟩:=Qnz (xx:=xx) (s:=s) (m:=m+1) (W:=W) (a:=b) (x:=y) g.put g.kk (by lia)
  refine⟨{W with put:=pt,kept:=kp,off:=of},⟨⟨g.left,g.given,g.new,g.rows,i1,i2⟩,rfl,by simp only[sz];lia,i4⟩,λw P h p us st hp pu=>NX st hp pu λc s1=>Qa5 (Zd rfl) k2 (Qa5 (Qbb (Zd rfl) (Qkr (Zp (Zq (Qc rfl) (by decide)) (by decide)) y_c)) k3 (Qa5 (Zd rfl) k4 (QcM (Zd rfl) k6 ?_)))⟩
  obtain⟨u,hu,du⟩:=hd pu;have a0:atU us 0=some u:=JB (i:=0) hu;have hp1:=s1.ow.p _ _ (le_ad _ _ hp);refine Qay (us:=[.ref w,u,.int y 0]) (h1:=h++[O.lst []]) ?_ le_ad (q w _ _ u ⟨c,s1⟩ (dN.le le_ad du))
  have e1:∀d,ev (tbG xx s) (Qa (tbG xx s) (m+2)) (d+2) (.ix (.var 4) (.c (.int 0 0))) [sR w,sI x,sI k,sI y,sR p,none] (h++[O.lst []])=some (u,h++[O.lst []]):=λd=>by rw[y_ix,Qc rfl,Qi,y_c,Qi];simp only[QH,hp1,a0];rfl
  rw[evs,Qc rfl,Qi,evs,e1];rfl
 have t7:∀{w:Nat} {P:Vp} {h p us},h[p]?=some (.lst us)->Paired (dN P) us (b::r)->evT (tbG xx s) (Qa (tbG xx s) (m+2)) 81 (.and (.cmp .Eq (.var 2) (.c (.int 7 0))) (.cmp .Gt (.bi .len [(.var 4)]) (.c (.int 1 0)))) [sR w,sI x,sI k,sI y,sR p,none] h=some (decide (k=7/\(1:Int) < (b::r).length),h):=λ{w P h p us} hp pu=>by
  have e:=QnJ (Yc (T:=tbG xx s) (cf:=Qa (tbG xx s) (m+2)) (d:=77) (Z:=[sR w,sI x,sI k,sI y,sR p,none]) (Qc (i:=4) rfl) hp) (y_c (u:=.int 1 0));rw[Qd pu]at e;exact Qbb (Zd rfl) e
 by_cases k7:k=7/\(1:Int) < (b::r).length
 ·obtain⟨W',tr,q⟩:=Qdo (xx:=xx) (s:=s) (m:=m) (W:=W) (nms:=b::r) (x:=y) g hv l8 (by lia)
  refine⟨W',tr,λw P h p us st hp pu=>NX st hp pu λc s1=>Qa5 (Zd rfl) k2 (Qa5 (Qbb (Zd rfl) (Qkr (Zp (Zq (Qc rfl) (by decide)) (by decide)) y_c)) k3 (Qa5 (Zd rfl) k4 (Qa5 (Zd rfl) k6 (QcM (t7 (s1.ow.p _ _ (le_ad _ _ hp)) pu) k7 ?_))))⟩
  exact Qay rfl le_ad (q w _ _ p us ⟨c,s1⟩ (le_ad _ _ hp) (dNs.le le_ad pu))
 ·refine⟨Yh W (b::r) (y / 6) 0,(QaO g l8 hv).tr (by decide),λw P h p us st hp pu=>NX st hp pu λc s1=>Qa5 (Zd rfl) k2 (Qa5 (Qbb (Zd rfl) (Qkr (Zp (Zq (Qc rfl) (by decide)) (by decide)) y_c)) k3 (Qa5 (Zd rfl) k4 (Qa5 (Zd rfl) k6 (Qa5 (t7 (s1.ow.p _ _ (le_ad _ _ hp)) pu) k7 ?_))))⟩
  refine Qay (us:=[.ref w,.ref p,.int (y / 6) 0,.int 0 0]) (h1:=h++[O.lst []]) ?_ le_ad (YK ⟨c,s1⟩ (le_ad _ _ hp) (dNs.le le_ad pu) (by lia))
  rw[evs,Qc rfl,Qi,evs,Qc rfl,Qi,evs,Zq (Qc rfl) (by decide)]
  rfl
def QkI{W:Ws}(g:Gd W)(l:sz W<7900):∃W',Tr 32 W W'/\∀(w:Nat) (P:Vp) h,St P h w W->Cc (tbG xx s) (m+3) 15 [.ref w,.int x 0] h (To P w W'):=by
 have hN:=Qmt (L:=W.left) (k:=x % 8) (y:=x / 8);have lc:=QaR (xs:=W.left) (a:=some ((hdN W.left (x % 8) (x / 8)).length:Int)) (b:=none)
 obtain⟨W',tr,q⟩:=QfO (xx:=xx) (s:=s) (m:=m) (W:={W with left:=QZ W.left (some ((hdN W.left (x % 8) (x / 8)).length:Int)) none}) (nms:=hdN W.left (x % 8) (x / 8)) (x:=x) (k:=x % 8) (y:=x / 8) ⟨λa m=>g.left a (Zz m),g.given,g.new,g.rows,g.put,g.kk⟩ (by simp only[sz]at l ⊢;lia) (λa m=>g.left a (hN.1 a m)) hN.2
 refine⟨W',⟨tr.gd,tr.rw,by have:=tr.sz;simp only[sz]at this ⊢;lia,tr.of⟩,λw P h z=>?_⟩;obtain⟨c,s0⟩:=z
 have sl:∀{P:Vp} {h e} {d p0:Nat} {j:Int} {o:Option U},Sx P h w c W->ev (tbG xx s) (Qa (tbG xx s) (m+2)) (d+2) e [sR w,sI x,sI (x % 8),sI (x / 8),o,none] h=some (.int j 0,h)->ev (tbG xx s) (Qa (tbG xx s) (m+2)) (d+3) (.sl (.ix (.var 0) (.c (.str [108,101,102,116]))) none (some e)) [sR w,sI x,sI (x % 8),sI (x / 8),o,none] h=some (.ref h.length,h++[.lst (QZ c.ls none (some j))]):=λs v=>QkO (QO rfl (s_k s.cw rfl)) s.cl rfl (Qhk v)
 refine Qh8 QrA (Q3 (Zl (Zp (Qc rfl) (by decide)) (Q3 (Zl (Zq (Qc rfl) (by decide)) (Q3 (Zl (sl (p0:=0) s0 y_c) ?_))))))
 refine QiP s0.add Q1 (dNs.le le_ad (Ze s0.dl)) (sl (p0:=0) s0.add (Yu y_c (Zp (Qc rfl) (by decide)) QaB)) (dNs.le le_ad (Ze s0.dl)) λP1 h1 p1 u1 l1 s1 hp1 d1=>?_
 refine QiP s1 hp1 d1 (sl (p0:=0) s1 (Yu y_c (Zp (Qc rfl) (by decide)) QaB)) (Ze s1.dl) λP2 h2 p2 u2 l2 s2 hp2 d2=>?_
 refine QiP s2 hp2 d2 (y_lst.trans rfl) .nil λP3 h3 p3 u3 l3 s3 hp3 d3=>?_;have v:=Yc (T:=tbG xx s) (cf:=Qa (tbG xx s) (m+2)) (d:=90) (Z:=[sR w,sI x,sI (x % 8),sI (x / 8),sR p3,none]) (Qc (i:=4) rfl) (s3.ow.p _ _ hp3);rw[Qd d3]at v;have s4:=s3.add (y:=.lst (QZ c.ls (some ((hdN W.left (x % 8) (x / 8)).length:Int)) none));refine QdT (QkO (QO rfl (s_k s3.cw rfl)) s3.cl (Qhk v) rfl) (Qc rfl) y_c (p_L s4.cw) ?_;obtain⟨f,Z,h5,e5,q5⟩:=q w _ _ p3 u3 ⟨_,s4.lt Q1 (dNs.le le_ad (Ze s3.dl))⟩ (le_ad _ _ hp3) (dNs.le le_ad d3);refine⟨f,Z,h5,e5,?_⟩;have lt:=((((le_ad (P:=P)).trans l1).trans l2).trans l3).trans (le_ad (j:=h3.length) (x:=.lst (QZ c.ls (some ((hdN W.left (x % 8) (x / 8)).length:Int)) none)))
 cases f with
 |next=>exact To.le lt q5
 |ret u=>exact To.le lt q5
 |brk=>exact q5
 |cont=>exact q5
noncomputable def bdW:List S:=[(.ite (.and (.cmp .Eq (.ix (.var 2) (.c (.str [108,101,102,116]))) (.lst [])) (.and (.cmp .Eq (.ix (.var 2) (.c (.str [103,105,118,101,110]))) (.lst [])) (.cmp .Lt (.op .Mod (.var 3) (.c (.int 16 0))) (.c (.int 8 0))))) [(.expr (.call 11 [(.var 2)])),(.expr (.call 13 [(.var 2),(.op .FloorDiv (.var 3) (.c (.int 16 0)))]))] []),(.ite (.and (.cmp .Eq (.ix (.var 2) (.c (.str [108,101,102,116]))) (.lst [])) (.cmp .NotEq (.ix (.var 2) (.c (.str [103,105,118,101,110]))) (.lst []))) [(.expr (.call 11 [(.var 2)]))] []),(.expr (.call 15 [(.var 2),(.var 3)]))]
section
variable {P:Vp}{c:Ct}{W:Ws}
def Qd3{N:List Nm}(p:Paired (dN P) us N):decide (us=[])=decide (N=[]):=by cases p<;>rfl
def t_L(s:Sx P h w c W)(r2:Z[2]?=some (sR w)):evT T cf (d+4) (.cmp .Eq (.ix (.var 2) (.c (.str [108,101,102,116]))) (.lst [])) Z h=some (decide (W.left=[]),h++[.lst []]):=by
 rw[<-Qd3 s.dl];exact QK (QO r2 (s_k s.cw rfl)) (y_lst.trans rfl) (Yj (Qr s.cl) at0)
def t_G(s:Sx P h w c W)(r2:Z[2]?=some (sR w)):evT T cf (d+4) (.cmp .Eq (.ix (.var 2) (.c (.str [103,105,118,101,110]))) (.lst [])) Z h=some (decide (W.given=[]),h++[.lst []]):=by
 rw[<-Qd3 s.dg];exact QK (QO r2 (s_k s.cw rfl)) (y_lst.trans rfl) (Yj (Qr s.cg) at0)
def Qqw(s:Sx P h w c W)(r2:Z[2]?=some (sR w)):evT T cf (d+4) (.cmp .NotEq (.ix (.var 2) (.c (.str [103,105,118,101,110]))) (.lst [])) Z h=some (decide (W.given≠[]),h++[.lst []]):=by
 have e:decide (W.given≠[])=!decide (W.given=[]):=by simp
 rw[e,<-Qd3 s.dg]
 exact QK (QO r2 (s_k s.cw rfl)) (y_lst.trans rfl) (by show(eqA _ _ _ _).map _=_;rw[Yj (Qr s.cg) at0];rfl)
def Qim{a b:E}{p q:Prop}[Decidable p][Decidable q](s:Sx P h w c W)(ea:∃P1 h1,Le P P1/\Sx P1 h1 w c W/\evT T cf d a Z h=some (decide p,h1))(eb:∀P1 h1,Sx P1 h1 w c W->∃P2 h2,Le P1 P2/\Sx P2 h2 w c W/\evT T cf d b Z h1=some (decide q,h2)):∃P2 h2,Le P P2/\Sx P2 h2 w c W/\evT T cf (d+1) (.and a b) Z h=some (decide (p/\q),h2):=by
 obtain⟨P1,h1,l1,s1,e1⟩:=ea;by_cases hp:p
 ·obtain⟨P2,h2,l2,s2,e2⟩:=eb P1 h1 s1;refine⟨P2,h2,l1.trans l2,s2,?_⟩
  rw[Qao,e1,Qi,if_pos (by simpa using hp),e2]
  simp[hp]
 ·refine⟨P1,h1,l1,s1,?_⟩
  rw[Qao,e1,Qi,if_neg (by simpa using hp)]
  simp[hp]
end
def QkH{W:Ws}(g:Gd W)(l:sz W<7800)(lk:W.kept.length<=64):∃W',Gd W'/\sz W'<=sz W+42/\W'.off.length+W'.kept.length<=W.off.length+W.kept.length+1 /\
  ∀(w:Nat) (Z:Rho),Z[2]?=some (sR w)->Z[3]?=some (sI x)->∀(P:Vp) h,St P h w W->Xx (tbG xx s) (Qa (tbG xx s) (m+3)) (d+13) bdW Z h λf ρ' h'=>f=.next/\ρ'=Z/\∃P1,Le P P1/\St P1 h' w W':=by
 have go:∀{w:Nat} {Z:Rho} {f:Nat} {es:List E} {us:List U} {P:Vp} {h:Hs} {W':Ws} {k:Nat} {r:List S} {Q:Fl->Rho->Hs->Prop},evs (ev (tbG xx s) (Qa (tbG xx s) (m+3)) k) Z es h=some (us,h)->Cc (tbG xx s) (m+3) f us h (To P w W')->(∀P1 h1,Le P P1->St P1 h1 w W'->Xx (tbG xx s) (Qa (tbG xx s) (m+3)) (k+2) r Z h1 Q)->Xx (tbG xx s) (Qa (tbG xx s) (m+3)) (k+3) (.expr (.call f es)::r) Z h Q:=λe c q=>by
  obtain⟨u,h1,a,_,P1,l1,s1⟩:=c
  exact Yv (Zl (by rw[y_call,e,Qi,a]) (q P1 h1 l1 s1))
 have v2:∀{w:Nat} {Z:Rho},Z[2]?=some (sR w)->∀k h,evs (ev (tbG xx s) (Qa (tbG xx s) (m+3)) (k+1)) Z [.var 2] h=some ([.ref w],h):=λr2 k h=>by rw[evs,Qc r2];rfl
 obtain⟨W1,g1,z1,o1,c1⟩:∃W1,Gd W1/\sz W1<=sz W+9/\W1.off.length+W1.kept.length=W.off.length+W.kept.length/\∀(w:Nat) (Z:Rho),Z[2]?=some (sR w)->Z[3]?=some (sI x)->∀(P:Vp) h (r:List S) (Q:Fl->Rho->Hs->Prop),St P h w W->(∀P1 h1,Le P P1->St P1 h1 w W1->Xx (tbG xx s) (Qa (tbG xx s) (m+3)) (d+12) r Z h1 Q)->Xx (tbG xx s) (Qa (tbG xx s) (m+3)) (d+13) (.ite (.and (.cmp .Eq (.ix (.var 2) (.c (.str [108,101,102,116]))) (.lst [])) (.and (.cmp .Eq (.ix (.var 2) (.c (.str [103,105,118,101,110]))) (.lst [])) (.cmp .Lt (.op .Mod (.var 3) (.c (.int 16 0))) (.c (.int 8 0))))) [(.expr (.call 11 [(.var 2)])),(.expr (.call 13 [(.var 2),(.op .FloorDiv (.var 3) (.c (.int 16 0)))]))] []::r) Z h Q:=by
  have tt:∀(w:Nat) (Z:Rho),Z[2]?=some (sR w)->Z[3]?=some (sI x)->∀(P:Vp) h c,Sx P h w c W->∃P2 h2,Le P P2/\Sx P2 h2 w c W/\evT (tbG xx s) (Qa (tbG xx s) (m+3)) (d+11) (.and (.cmp .Eq (.ix (.var 2) (.c (.str [108,101,102,116]))) (.lst [])) (.and (.cmp .Eq (.ix (.var 2) (.c (.str [103,105,118,101,110]))) (.lst [])) (.cmp .Lt (.op .Mod (.var 3) (.c (.int 16 0))) (.c (.int 8 0))))) Z h=some (decide (W.left=[]/\W.given=[]/\x % 16<8),h2):=λw Z r2 r3 P h c s0=>
   Qim s0 ⟨_,_,le_ad,s0.add,t_L s0 r2⟩ λP1 h1 s1=>Qim s1 ⟨_,_,le_ad,s1.add,t_G s1 r2⟩ λP2 h2 s2=>⟨P2,h2,Le.refl,s2,QK (Zp (Qc r3) (by decide)) y_c rfl⟩
  by_cases cd:W.left=[]/\W.given=[]/\x % 16<8
  ·have ze:=Qhq W
   obtain⟨W1,k,lk',ek,q⟩:=QfN (xx:=xx) (s:=s) (m:=m+2) (W:=Je W) (x:=x / 16) (QeK g) (by lia) lk
   refine⟨W1,ek.gd,by have:=ek.sz;lia,by rw[ek.of,ek.kp];rfl,λw Z r2 r3 P h r Q ⟨c,s0⟩ qq=>?_⟩
   obtain⟨P2,h2,l2,s2,e2⟩:=tt w Z r2 r3 P h c s0;refine Qdg e2 ?_;rw[Wz cd]
   refine go (v2 r2 _ _) (QkL ⟨c,s2⟩ (by lia)) λP3 h3 l3 s3=>go (us:=[.ref w,.int (x / 16) 0]) ?_ (q w P3 h3 s3) λP4 h4 l4 s4=>QM (qq P4 h4 ((l2.trans l3).trans l4) s4)
   rw[evs,Qc r2,Qi,evs,Zq (Qc r3) (by decide)]
   rfl
  ·refine⟨W,g,by lia,rfl,λw Z r2 r3 P h r Q z qq=>?_⟩;obtain⟨c,s0⟩:=z
   obtain⟨P2,h2,l2,s2,e2⟩:=tt w Z r2 r3 P h c s0;refine Qdg e2 ?_;rw[Wf cd];exact QM (qq P2 h2 l2 ⟨c,s2⟩)
 obtain⟨W2,g2,z2,o2,c2⟩:∃W2,Gd W2/\sz W2<=sz W1+1/\W2.off.length+W2.kept.length=W1.off.length+W1.kept.length/\∀(w:Nat) (Z:Rho),Z[2]?=some (sR w)->∀(P:Vp) h (r:List S) (Q:Fl->Rho->Hs->Prop),St P h w W1->(∀P1 h1,Le P P1->St P1 h1 w W2->Xx (tbG xx s) (Qa (tbG xx s) (m+3)) (d+11) r Z h1 Q)->Xx (tbG xx s) (Qa (tbG xx s) (m+3)) (d+12) (.ite (.and (.cmp .Eq (.ix (.var 2) (.c (.str [108,101,102,116]))) (.lst [])) (.cmp .NotEq (.ix (.var 2) (.c (.str [103,105,118,101,110]))) (.lst []))) [(.expr (.call 11 [(.var 2)]))] []::r) Z h Q:=by
  have tt:∀(w:Nat) (Z:Rho),Z[2]?=some (sR w)->∀(P:Vp) h c,Sx P h w c W1->∃P2 h2,Le P P2/\Sx P2 h2 w c W1/\evT (tbG xx s) (Qa (tbG xx s) (m+3)) (d+10) (.and (.cmp .Eq (.ix (.var 2) (.c (.str [108,101,102,116]))) (.lst [])) (.cmp .NotEq (.ix (.var 2) (.c (.str [103,105,118,101,110]))) (.lst []))) Z h=some (decide (W1.left=[]/\W1.given≠[]),h2):=λw Z r2 P h c s0=>
   Qim s0 ⟨_,_,le_ad,s0.add,t_L s0 r2⟩ λP1 h1 s1=>⟨_,_,le_ad,s1.add,Qqw s1 r2⟩
  by_cases cd:W1.left=[]/\W1.given≠[]
  ·have ze:=Qhq W1
   refine⟨Je W1,QeK g1,by lia,rfl,λw Z r2 P h r Q y qq=>?_⟩;obtain⟨c,s0⟩:=y
   obtain⟨P2,h2,l2,s2,e2⟩:=tt w Z r2 P h c s0;refine Qdg e2 ?_;rw[Wz cd]
   exact go (v2 r2 _ _) (QkL ⟨c,s2⟩ (by lia)) λP3 h3 l3 s3=>QM (qq P3 h3 (l2.trans l3) s3)
  ·refine⟨W1,g1,by lia,rfl,λw Z r2 P h r Q v qq=>?_⟩;obtain⟨c,s0⟩:=v
   obtain⟨P2,h2,l2,s2,e2⟩:=tt w Z r2 P h c s0;refine Qdg e2 ?_;rw[Wf cd];exact QM (qq P2 h2 l2 ⟨c,s2⟩)
 obtain⟨W3,tr,q⟩:=QkI (xx:=xx) (s:=s) (m:=m) (W:=W2) (x:=x) g2 (by lia)
 refine⟨W3,tr.gd,by have:=tr.sz;lia,by have:=tr.of;lia,λw Z r2 r3 P h st=>c1 w Z r2 r3 P h _ _ st λP1 h1 l1 s1=>c2 w Z r2 P1 h1 _ _ s1 λP2 h2 l2 s2=>go (us:=[.ref w,.int x 0]) ?_ (q w P2 h2 s2) λP3 h3 l3 s3=>QM ⟨rfl,rfl,P3,(l1.trans l2).trans l3,s3⟩⟩
 rw[evs,Qc r2,Qi,evs,Qc r3];rfl
theorem Jl{s:List U}{m d:Nat}:∀(vs:List Int) (W:Ws),Gd W->sz W+42*vs.length<7800->W.off.length+W.kept.length+vs.length<64->∃W',Gd W'/\sz W'<=sz W+42*vs.length/\W'.off.length<64 /\
  ∀(w L i k:Nat) (X:List Int) (a b:Option U) (P:Vp) h o,X.drop i=vs->vs.length<k->P L (.lst (X.map λn=>U.int n 0))->St P h w W->∃h2 o',ZN (tbG xx s) (.seqL (.ref L)) (.name 3) (exs (tbG xx s) (Qa (tbG xx s) (m+3)) (d+13) bdW) k i [a,b,sR w,o,none] h=some (.next,[a,b,sR w,o',none],h2)/\∃P1,Le P P1/\St P1 h2 w W'
 |[],W,g,l,l2=>⟨W,g,Xg _,by lia,λw L i k X a b P h o hd lk hP st=>by
  obtain⟨k,rfl⟩:∃j,k=j+1:=⟨k-1,by simp at lk;lia⟩
  have hL:=st.elim λz s=>s.ow.p _ _ hP
  have e:(X.map λn=>U.int n 0)[i]?=none:=by rw[X6,X5];exact Sc.mp hd
  exact⟨h,o,by simp only[ZN,itm,QB,hL,Wy,e,Option.map_none],P,Le.refl,st⟩⟩
 |v::vs,W,g,l,l2=>by
  rw[Wa]at l l2
  obtain⟨W1,g1,z1,o1,q1⟩:=QkH (xx:=xx) (s:=s) (m:=m) (d:=d) (x:=v) g (by lia) (by lia)
  obtain⟨W2,g2,z2,o2,q2⟩:=Jl (xx:=xx) (s:=s) (m:=m) (d:=d) vs W1 g1 (by lia) (by lia)
  refine⟨W2,g2,by rw[Wa];lia,o2,λw L i k X a b P h o hd lk hP st=>?_⟩
  obtain⟨k,rfl⟩:∃j,k=j+1:=⟨k-1,by simp at lk;lia⟩
  have hL:=st.elim λz s=>s.ow.p _ _ hP
  have e0:X[i]?=some v:=by
   have:=Ur (xs:=X) (i:=i) (j:=0);rw[hd]at this;simpa using this.symm
  have e:(X.map λn=>U.int n 0)[i]?=sI v:=by rw[Wn,e0];rfl
  obtain⟨f,ρ1,h1,x1,rfl,rfl,P1,l1,s1⟩:=q1 w [a,b,sR w,sI v,none] rfl rfl P h st
  obtain⟨h2,o',f2,P2,l2,s2⟩:=q2 w L (i+1) k X a b P1 h1 (sI v) (by rw[<-Si,hd];rfl) (by simp at lk;lia) (l1 _ _ hP) s1
  refine⟨h2,o',?_,P2,l1.trans l2,s2⟩;simp only[ZN,itm,QB,hL,e,Wy,tgt,We,Wi,x1];exact f2
noncomputable def W0(n:Nat):Ws:=⟨[(List.range n).map λz=>⟨[],0,0⟩],(List.range n).map λ(k:Nat)=>((0:Int),(k:Int)),[],[],[],[],[]⟩
def QjA(n:Nat):Gd (W0 n):=by
 refine⟨λa m=>?_,λa m=>(by cases m),λa m=>(by cases m),λr row e lp m=>?_,λp m=>(by cases m),λp m=>(by cases m)⟩
 ·obtain⟨k,mk,rfl⟩:=Wl.mp m
  exact⟨0,k,_,rfl,rfl,by simpa using mk⟩
 ·cases r with
  |zero=>
   cases e;obtain⟨k,mk,rfl⟩:=Wl.mp m
   exact⟨by simp,λa m=>(by cases m)⟩
  |succ r=>simp[W0]at e
def Qiq(n:Nat):sz (W0 n)=2*n+1:=by simp[sz,W0,szR,Jq];lia
def Qcv{P:Vp}{D:Vp->U->α->Prop}{F:Nat->α}(mono:∀P P1 u a,Le P P1->D P u a->D P1 u a)(o:Own h C P)(ln:n<1000000)
  (st:∀i P1 h1,Own h1 C P1->∃u h2 P2,ev T cf d el (Z++[some (.int ((i:Nat):Int) 0)]) h1=some (u,h2)/\Le P1 P2/\Own h2 C P2/\D P2 u (F i)):
  ∃us h2,QS T (ev T cf d) (Z4 (evT T cf d) none) (.rng 0 n) false el Z (n+1) 0 [] h=some (us,h2)/\∃P2,Le P P2/\Own h2 C P2/\Paired (D P2) us ((List.range n).map F):=by
 refine Y4 (T:=T) (f:=ev T cf d) (ft:=Z4 (evT T cf d) none) (w:=.rng 0 n) (el:=el) (Z:=Z) (n:=n) (λi acc h=>∃P1,Le P P1/\Own h C P1/\Paired (D P1) acc ((List.range i).map F)) (λi hi acc h y=>?_) (λacc h x=>by simp[itm]) n 0 (n+1) [] h (by lia) (by lia) ⟨P,Le.refl,o,.nil⟩;obtain⟨P1,l1,o1,p1⟩:=y
 have lp:=Qd p1;rw[X5,Tn]at lp;obtain⟨u,h2,P2,e,l2,o2,d2⟩:=st i P1 h o1
 refine⟨by lia,.int (i:Int) 0,true,h,by simp[itm,hi],rfl,λx=>⟨u,h2,e,P2,l1.trans l2,o2,?_⟩,λz=>(by cases z)⟩
 rw[Us,Va];exact Qv d2 (Qb (λx x=>mono _ _ _ _ l2) p1)
def QkR{ks:List U}(e:evs (ev T cf d) Z es (h++[.dic []])=some (us,h1))(c:h1[h.length]?=some (.dic [])):ev T cf (d+1) (.dsp ks es) Z h=some (.ref h.length,h1.set h.length (.dic (Jk [] (ks.zip us)))):=by
 rw[ev,e,Qi,c]
def QnD{H:Hs}{e:Nat}{more:List (U×U)}(hw:H[w]?=some (.dic kvs))(he:H[e]?=some (.dic more))(ne:w≠e)(l:kvs.length+more.length<=1000000):bmU T .update (.ref w) [.ref e] H=some (.non,H.set w (.dic (Jk kvs more))):=by
 simp only[bmU,hw,bmD,he];rw[if_pos ⟨ne,l⟩]
noncomputable def sk:Nat->Nat
 |0=>0
 |1=>1
 |k+2=>k+3
def Own.del{P:Vp}{a b x:Nat×O}(o:Own h (a::b::x::C) P):Own h (a::b::C) P:=by
 have m:∀(k:Nat) y,(a::b::C)[k]?=some y->(a::b::x::C)[sk k]?=some y:=λk y e=>match k with
  |0=>e
  |1=>e
  |k+2=>e
 have inj:∀k k',sk k=sk k'->k=k':=λk k' e=>by
  rcases k with _|_|k<;>rcases k' with _|_|k'<;>simp[sk]at e ⊢<;>lia
 exact⟨λk i z e=>o.c _ _ _ (m _ _ e),λk k' i z z' e e'=>inj _ _ (o.nd _ _ _ _ _ (m _ _ e) (m _ _ e')),o.p,λi z p k z' e=>o.q _ _ p _ _ (m _ _ e)⟩
noncomputable def Qqa:List S:=[(.set 2 (.dsp [(.str [114,111,119,115]),(.str [108,101,102,116])] [(.lst [(.comp (.rng (.var 1)) false none (.tup [(.tup []),(.c (.int 0 0)),(.c (.int 0 0))]))]),(.comp (.rng (.var 1)) false none (.tup [(.c (.int 0 0)),(.var 5)]))])),(.expr (.bm .update (.var 2) [(.dsp [(.str [103,105,118,101,110]),(.str [110,101,119]),(.str [112,117,116]),(.str [107,101,112,116]),(.str [111,102,102])] [(.lst []),(.lst []),.dnew,.dnew,(.lst [])])]))]
def QkJ{r:List S}(ln:n<=1000)(q:∀P h1,Le (λi o=>h[i]?=some o) P->St P h1 h.length (W0 n)->Xx T cf (d+12) r [some a,sI (n:Int),sR h.length,none,none] h1 Q):Xx T cf (d+14) (Qqa++r) [some a,sI (n:Int),none,none,none] h Q:=by
 have o0:Own h [] (λi o=>h[i]?=some o):=⟨λk i x e=>(by cases k<;>cases e),λk k' i x x' e=>(by cases k<;>cases e),λi o e=>e,λi o w k x e=>(by cases k<;>cases e)⟩
 have o1:=o0.new (y:=.dic [])
 obtain⟨us1,h2,c1,P2,l2,o2,p1⟩:=Qcv (α:=Lp) (T:=T) (cf:=cf) (d:=d+9) (n:=n) (el:=.tup [(.tup []),(.c (.int 0 0)),(.c (.int 0 0))]) (Z:=[some a,sI (n:Int),none,none,none]) (D:=dL) (F:=λw=>⟨[],0,0⟩) (λw w w w l=>dL.le l) o1 (by lia) λi P1 h1 o1=>⟨_,_,_,Qdp (y_tup.trans rfl) y_c y_c,le_ad.trans le_ad,o1.add.add,_,_,[],rfl,Q1,.inl Q1,.nil⟩
 have o3:=(o2.add (y:=.lst us1)).new (y:=.lst [.ref h2.length])
 obtain⟨us2,h4,c2,P4,l4,o4,p2⟩:=Qcv (α:=Nm) (T:=T) (cf:=cf) (d:=d+10) (n:=n) (el:=.tup [(.c (.int 0 0)),(.var 5)]) (Z:=[some a,sI (n:Int),none,none,none]) (D:=dN) (F:=λk=>(0,(k:Int))) (λw w w w l=>dN.le l) o3 (by lia) λi P1 h1 o1=>⟨_,_,_,Yk y_c (Qc rfl),le_ad,o1.add,_,rfl,Q1⟩
 have o5:=o4.add (y:=.lst us2)
 have v1:evs (ev T cf (d+11)) [some a,sI (n:Int),none,none,none] [(.lst [(.comp (.rng (.var 1)) false none (.tup [(.tup []),(.c (.int 0 0)),(.c (.int 0 0))]))]),(.comp (.rng (.var 1)) false none (.tup [(.c (.int 0 0)),(.var 5)]))] (h++[.dic []])=some ([.ref (h2++[O.lst us1]).length,.ref h4.length],h4++[.lst us2]):=by
  rw[evs,y_lst,evs,Ym (Yl (Qc rfl) (by lia)) c1,Qi,evs,Qi,Qi,Qi,evs,Ym (Yl (Qc rfl) (by lia)) c2]
  rfl
 have o6:=o5.set 0 (y:=.dic [(.str [114,111,119,115],.ref (h2++[O.lst us1]).length),(.str [108,101,102,116],.ref h4.length)]) rfl;refine Q3 (Zl (QkR v1 (o5.c 0 _ _ rfl)) ?_);generalize e7:(h4++[O.lst us2]).set h.length (.dic [(.str [114,111,119,115],.ref (h2++[O.lst us1]).length),(.str [108,101,102,116],.ref h4.length)])=H at o6;have o7:=(((((o6.new (y:=.dic [])).new (y:=.lst [])).new (y:=.lst [])).new (y:=.dic [])).new (y:=.dic [])).new (y:=.lst []);have o8:=λy=>o7.set 2 (y:=y) rfl;have o9:=λy y'=>((o8 y).set 0 (y:=y') rfl).del;have ne:h.length≠H.length:=λz=>W4 _ (Nat.lt_of_lt_of_eq (o6.lt (k:=0) rfl) z.symm);refine Yv (Zl (u:=.non) (h1:=_) ?_ (q _ _ ?_ ⟨⟨_,h4.length,_,_,_,_,_,[.ref h2.length],us2,[],[],[],[]⟩,⟨o9 (.dic [(.str [103,105,118,101,110],.ref (H++[O.dic []]).length),(.str [110,101,119],.ref (H++[O.dic []]++[O.lst []]).length),(.str [112,117,116],.ref (H++[O.dic []]++[O.lst []]++[O.lst []]).length),(.str [107,101,112,116],.ref (H++[O.dic []]++[O.lst []]++[O.lst []]++[O.dic []]).length),(.str [111,102,102],.ref (H++[O.dic []]++[O.lst []]++[O.lst []]++[O.dic []]++[O.dic []]).length)]) _,.cons ⟨_,us1,rfl,?_,?_⟩ .nil,?_,?_,.nil,.nil,.nil,.nil⟩⟩))
 ·show ev T cf (d+11) _ _ ((h4++[O.lst us2]).set h.length (.dic [(.str [114,111,119,115],.ref (h2++[O.lst us1]).length),(.str [108,101,102,116],.ref h4.length)]))=_
  rw[e7,Qko,Qc rfl,Qi,if_pos (by simp only[Qdf,o6.c 0 _ _ rfl];rfl),evs,QkR (h:=H) (by simp only[evs,y_lst,QkD,Qi];rfl) (o7.c 2 _ _ rfl),Qi,evs,Qi,Qi]
  exact QnD ((o8 _).c 0 _ _ rfl) ((o8 _).c 2 _ _ rfl) ne (show 2+5<=1000000 by decide)
 ·exact(l2.trans le_ad).trans (l4.trans le_ad)
 ·exact le_ad _ _ (l4 _ _ Q1)
 ·exact Qb (λw w=>dL.le (le_ad.trans (l4.trans le_ad))) p1
 ·exact Q1
 ·exact dNs.le le_ad p2
def dN.to{P:Vp}(k:∀i o,P i o->h[i]?=some o){a:Nm}(d:dN P u a):DN h u a:=by obtain⟨i,e,d⟩:=d;exact⟨i,e,k _ _ d⟩
theorem dNs.to{P:Vp}(k:∀i o,P i o->h[i]?=some o){as:List Nm}(d:Paired (dN P) us as):Paired (DN h) us as:=Qb (λz z=>dN.to k) d
theorem dLs.to{P:Vp}(k:∀i o,P i o->h[i]?=some o){as:List Lp}(d:Paired (dL P) us as):Paired (DL h) us as:=Qb (λz z y=>by obtain⟨i,j,vs,e,a,b,c⟩:=y;exact⟨i,j,vs,e,k _ _ a,k _ _ b,dNs.to k c⟩) d
noncomputable def kq(kept:List (U×List Nm))(c:Nat):List (U×List Nm):=match kept.find? λp=>decide (p.1=U.str [c])with
 |some p=>[(.str [c],p.2)]
 |none=>[]
def Qmk(kept:List (U×List Nm))(c:Nat):((kq kept c).map (·.2)).flatten.length<=Jq kept:=by
 unfold kq;split
 ·rename_i p e;simpa using JT (List.mem_of_find?_eq_some e)
 ·simp
noncomputable def ks4:List Nat:=[119,120,121,122]
noncomputable def Qm9:E:=.cmp .In (.var 5) (.ix (.var 2) (.c (.str [107,101,112,116])))
noncomputable def elK:E:=.tup [(.var 5),(.ix (.ix (.var 2) (.c (.str [107,101,112,116]))) (.var 5))]
def Qfd{P:Vp}{c:Ct}{W:Ws}(s:Sx P h w c W)(r2:Z[2]?=some (sR w))(rl:Z.length=5):
  ∃us h2,QS T (ev T cf (d+4)) (Z4 (evT T cf (d+4)) (some Qm9)) (.strW ks4) false elK Z 5 0 [] h=some (us,h2)/\us.length<=4/\∃P1,Le P P1/\Sx P1 h2 w c W/\Paired (DK h2) us (ks4.flatMap (kq W.kept)):=by
 refine Y4 (T:=T) (f:=ev T cf (d+4)) (ft:=Z4 (evT T cf (d+4)) (some Qm9)) (w:=.strW ks4) (el:=elK) (Z:=Z) (n:=4) (λi acc h=>acc.length<=i/\∃P1,Le P P1/\Sx P1 h w c W/\Paired (DK h) acc ((ks4.take i).flatMap (kq W.kept))) (λi hi acc h y=>?_) (λacc h x=>rfl) 4 0 5 [] h rfl (by decide) ⟨Xg _,P,Le.refl,s,.nil⟩;obtain⟨la,P1,l1,s1,p1⟩:=y
 obtain⟨ch,hc,l128⟩:∃ch,ks4[i]?=some ch/\ch<128:=by
  have:i=0\/i=1\/i=2\/i=3:=by lia
  rcases this with rfl|rfl|rfl|rfl<;>exact⟨_,rfl,by decide⟩
 have e1:(ks4.take (i+1)).flatMap (kq W.kept)=(ks4.take i).flatMap (kq W.kept)++kq W.kept ch:=by rw[List.take_succ,hc,List.flatMap_append];simp
 have i2:(Z++[some (.str [ch])])[2]?=some (sR w):=by rw[Xv (by lia)];exact r2
 have i5:(Z++[some (.str [ch])])[5]?=some (some (.str [ch])):=by rw[Wg (by lia),rl];rfl
 have ck:h[c.k]?=some (.dic (kd c.kc)):=s1.ow.c 5 _ _ rfl
 have ec:ZC T .In (.str [ch]) (.ref c.k) h=some (Qz (kd c.kc) (.str [ch])).isSome:=by simp only[ZC,ZF,ck,inD,ZI,Qa6,Wm,Option.map]
 have tt:Z4 (evT T cf (d+4)) (some Qm9) (Z++[some (.str [ch])]) h=some ((Qz (kd c.kc) (.str [ch])).isSome,h):=QK (Qc i5) (QO i2 (s_k s1.cw rfl)) ec
 rcases Qgz (k:=.str [ch]) W.kept with⟨j,nms,_,f1,r⟩|⟨_,f1,r⟩
 ·obtain⟨p,us,k1,k2,k3⟩:=r P1 _ s1.dk;rw[k3]at tt
  refine⟨by lia,.str [ch],true,h,by simp only[itm,hc,Wy],tt,λx=>⟨.ref h.length,h++[.tup [.str [ch],.ref p]],Yk (Qc i5) (y_ix.trans (by rw[QO i2 (s_k (v:=.ref c.k) s1.cw rfl),Qi,Qc i5,Qi,s_k ck k3];rfl)),by rw[Xs];exact Nat.succ_le_succ la,_,l1.trans le_ad,s1.add,?_⟩,λz=>(by cases z)⟩
  rw[e1,kq,f1];exact Qv ⟨_,p,us,rfl,at0,Qr (s1.kpt k1),Qb (λx x=>DN.kp (Kp.app _ _)) (dNs.to s1.ow.p k2),ch,rfl,l128⟩ (Qb (λx x=>DK.kp (Kp.app _ _)) p1)
 ·rw[r P1 _ s1.dk]at tt
  refine⟨by lia,.str [ch],false,h,by simp only[itm,hc,Wy],tt,λz=>(by cases z),λx=>⟨by lia,P1,l1,s1,?_⟩⟩
  rw[e1,kq,f1,W9];exact p1
structure WOk(D:Wb):Prop where
 rl:D.rows.length<=7000
 rs:szR D.rows<=7000
 ll:D.lie.length<=7000
 ol:D.off.length<=64
 kl:(D.kept.map (·.2)).flatten.length<=28000
 lv:∀a∈D.lie,Vr D.rows a
 rv:∀(r:Nat) row,D.rows[r]?=some row->∀lp∈row,lp.ps.length<=8/\∀a∈lp.ps,Vr (D.rows.take r) a
noncomputable def Qkp(W:Ws):Wb:=⟨W.rows++[W.new],W.given++W.left,ks4.flatMap (kq W.kept),QdH W.off⟩
def QkG{W:Ws}(g:Gd W)(l:sz W<=2600)(lo:W.off.length<64):WOk (Qkp W):=by
 have z:=Qas W
 refine⟨by simp[Qkp];lia,?_,?_,?_,?_,λa m=>?_,(QeK g).rows⟩
 ·have e:szR (W.rows++[W.new])=szR W.rows+W.new.length:=by simp[szR]
  show szR (W.rows++[W.new])<=_;lia
 ·show(W.given++W.left).length<=_;rw[Xs];lia
 ·show(QdH W.off).length<=_;unfold QdH;rw[X5,L2.permK_length];lia
 ·have k:=Qmk W.kept;have k1:=k 119;have k2:=k 120;have k3:=k 121;have k4:=k 122;simp only[Qkp,ks4,List.flatMap_cons,List.flatMap_nil,W9,Va,List.flatten_append,Xs];lia
 ·rcases Wo.mp m with m|m
  ·exact g.given a m
  ·exact(g.left a m).app
def Qm1{a b:Nat}(ha:hs[a]?=some (.lst xs))(hb:hs[b]?=some (.lst ys))(l:xs.length+ys.length<=1000000):opU .Add (.ref a) (.ref b) hs=some (.ref hs.length,hs++[.lst (xs++ys)]):=Qa3 ha hb l
noncomputable def QpY:E:=(.tup [(.op .Add (.ix (.var 2) (.c (.str [114,111,119,115]))) (.lst [(.ix (.var 2) (.c (.str [110,101,119])))])),(.op .Add (.ix (.var 2) (.c (.str [103,105,118,101,110]))) (.ix (.var 2) (.c (.str [108,101,102,116])))),(.var 4),(.bi .sorted [(.ix (.var 2) (.c (.str [111,102,102])))])])
def Qny{kl:Nat}{P:Vp}{c:Ct}{W:Ws}{rk:List U}(s:Sx P h w c W)(l:sz W<=2600)(lo:W.off.length<64)(r2:Z[2]?=some (sR w))(r4:Z[4]?=some (sR kl))(hk:h[kl]?=some (.lst rk))(dk:Paired (DK h) rk (ks4.flatMap (kq W.kept))):
  Rr T cf (d+5) QpY Z h λu h1=>Kp h h1/\DW h1 u (Qkp W):=by
 have z:=Qas W;have lr:=Qd s.dr;have lg:=Qd s.dg;have lf:=Qd s.dl;have sw:=λ(h1:Hs) (k:Kp h h1)=>k _ _ s.cw
 have a1:=Qm1 (hs:=h++[.lst [.ref c.n]]) (Qr s.cr) at0 (by simp;lia)
 have v1:ev T cf (d+4) (.op .Add (.ix (.var 2) (.c (.str [114,111,119,115]))) (.lst [(.ix (.var 2) (.c (.str [110,101,119])))])) Z h=_:=Yu (QO r2 (s_k (v:=.ref c.r) s.cw rfl)) (y_lst.trans (by rw[evs,QO r2 (s_k (v:=.ref c.n) s.cw rfl),Qi,evs,Qi,Qi])) a1
 have k1:Kp h (h++[O.lst [.ref c.n]]++[.lst (c.rr++[.ref c.n])]):=(Kp.app _ _).trans (Kp.app _ _);have h1a:(h++[O.lst [.ref c.n]]++[.lst (c.rr++[.ref c.n])])[(h++[O.lst [.ref c.n]]).length]?=some (.lst (c.rr++[.ref c.n])):=at0;generalize h++[O.lst [.ref c.n]]++[.lst (c.rr++[.ref c.n])]=H1 at v1 k1 h1a
 have a2:=Qm1 (hs:=H1) (k1 _ _ s.cg) (k1 _ _ s.cl) (by lia)
 have v2:ev T cf (d+4) (.op .Add (.ix (.var 2) (.c (.str [103,105,118,101,110]))) (.ix (.var 2) (.c (.str [108,101,102,116])))) Z H1=_:=Yu (QO r2 (s_k (v:=.ref c.g) (sw _ k1) rfl)) (QO r2 (s_k (v:=.ref c.l) (sw _ k1) rfl)) a2;have k2:=k1.trans (Kp.app H1 [.lst (c.gs++c.ls)]);have h2a:(H1++[O.lst (c.gs++c.ls)])[H1.length]?=some (.lst (c.gs++c.ls)):=at0;have k12:=Kp.app H1 [.lst (c.gs++c.ls)];generalize H1++[O.lst (c.gs++c.ls)]=H2 at v2 k2 h2a k12;have tN:∀{us as},Paired (dN P) us as->Paired (DN h) us as:=λd=>dNs.to s.ow.p d
 obtain⟨vs,e3,p3⟩:=Qiw (T:=T) (hs:=H2) (k2 _ _ (s.ow.c 6 _ _ rfl)) (Qb (λy y=>DN.kp k2) (tN s.dο)) (by rw[Qd s.dο];exact lo)
 have v3:=Qkq (T:=T) (cf:=cf) (d:=d+3) (Z:=Z) (QO r2 (s_k (sw _ k2) (k:=[111,102,102]) (v:=.ref c.o) rfl)) e3;refine Zl (QkN v1 v2 (Qc r4) v3) ?_;have k3:Kp H2 (H2++[O.lst vs]++[.tup [.ref (h++[O.lst [.ref c.n]]).length,.ref H1.length,.ref kl,.ref H2.length]]):=(Kp.app _ _).trans (Kp.app _ _);have k4:=k2.trans k3;refine⟨k4,_,_,_,_,_,_,_,_,vs,rfl,at0,(k12.trans k3) _ _ h1a,k3 _ _ h2a,k4 _ _ hk,Qr at0,?_,Zt (Qb (λy y=>DN.kp k4) (tN s.dg)) (Qb (λy y=>DN.kp k4) (tN s.dl)),Qb (λy y=>DK.kp k4) dk,Qb (λy y=>DN.kp k3) p3⟩;refine Qv ⟨c.n,c.ns,rfl,k4 _ _ s.cn,Qb (λy y=>DL.kp k4) (dLs.to s.ow.p s.dn)⟩ (Qb (λu a x=>by obtain⟨i,us,e,a1,a2⟩:=x;exact⟨i,us,e,k4 _ _ (s.ow.p _ _ a1),Qb (λy y=>DL.kp k4) (dLs.to s.ow.p a2)⟩) s.dr)
noncomputable def QF(ns:List Int)(k:Nat):Int:=ns.getD k 0
def Qft{k:Nat}:Qa (tbG xx (ns.map λn=>U.int n 0)) (m+1) 6 [.scr,.int (k:Int) 0] hs=some (.int (QF ns k) 0,hs):=by
 rw[cl1]
 have l:biU (tbG xx (ns.map λn=>U.int n 0)) .len [.scr] hs=some (.int ns.length 0,hs):=by
  show some (U.int ((ns.map λn=>U.int n 0).length:Nat) 0,hs)=_;rw[X5]
 by_cases c:k<ns.length
 ·have g:QH (tbG xx (ns.map λn=>U.int n 0)) .scr (.int (k:Int) 0) hs=sI (QF ns k):=by
   show(match ZF (tbG xx (ns.map λn=>U.int n 0)) .scr hs with|some xs=>atU xs (k:Int)|none=>none)=_
   refine JB (i:=k) ?_;show(ns.map λn=>U.int n 0)[k]?=_;rw[Wn,Xe c];simp[QF,c]
  generalize Qa _ m=cf;generalize tb (ns.map λn=>U.int n 0)=T at l g ⊢
  have p:decide ((k:Int) < (ns.length:Int))=true:=Wz (by lia)
  simp only[b6,dd,QI,YJ,Qan,Qam,Qu,y_bi,evs,Qi,l,ZC,YB,Qak,y_ix,g,fin,Xh,Xm,p,Option.map,Wm]
 ·generalize Qa _ m=cf;generalize tb (ns.map λn=>U.int n 0)=T at l ⊢
  have p:decide ((k:Int) < (ns.length:Int))=false:=Wf (by lia)
  have e:QF ns k=0:=by unfold QF;rw[Wt,Wx (by lia)];rfl
  simp only[b6,dd,QI,YJ,Qan,Qam,Qu,y_bi,evs,Qi,l,ZC,YB,Qal,Qak,y_c,fin,Xh,Xm,p,Option.map,X9,Ww,e]
noncomputable def Qna:E:=(.cmp .Eq (.op .Mod (.op .FloorDiv (.call 6 [(.var 0),(.op .Add (.c (.int 2 0)) (.op .Mod (.var 5) (.c (.int 60 0))))]) (.c (.int 3 0))) (.c (.int 2 0))) (.op .Mod (.var 2) (.c (.int 2 0))))
noncomputable def Qqi:E:=(.comp (.rng (.bi .len [(.var 3)])) false (some Qna) (.ix (.var 3) (.var 5)))
noncomputable def Qqc:S:=(.ite (.cmp .Eq (.var 2) (.c (.int 0 0))) [(.ret (.rev (.var 3)))] [])
noncomputable def Qk6:S:=(.set 4 (.op .Mod (.op .FloorDiv (.call 6 [(.var 0),(.c (.int 1 0))]) (.c (.int 4 0))) (.bi .max [(.c (.int 1 0)),(.bi .len [(.var 3)])])))
noncomputable def Qnd:E:=(.sl (.var 3) (some (.var 4)) (some (.op .Add (.var 4) (.c (.int 1 0)))))
noncomputable def QgE:S:=(.ite (.cmp .Eq (.var 2) (.c (.int 1 0))) [Qk6,(.ret (.op .Add Qnd Qnd))] [])
def Qrz:Qa (tbG xx s) (m+1) 16 [a] hs=fin (exs (tbG xx s) (Qa (tbG xx s) m) dd b16 [some a,none,none,none,none] hs):=rfl
def QmW:b16=.set 1 (.op .Mod (.call 6 [(.var 0),(.c (.int 0 0))]) (.c (.int 9 0)))::(Qqa++[(.loop (.name 3) (.seq (.sl (.var 0) (some (.c (.int 2 0))) (some (.c (.int 62 0))))) bdW),(.set 4 (.comp (.seq (.c (.str ks4))) false (some Qm9) elK)),(.ret QpY)]):=rfl
def Qnx:∃D:Wb,WOk D/\∀hs:Hs,∃hs' u,Qa (tbG xx (ns.map λn=>U.int n 0)) (m+4) 16 [.scr] hs=some (u,hs')/\Kp hs hs'/\DW hs' u D:=by
 obtain⟨n,hn⟩:∃n:Nat,QF ns 0 % 9=(n:Int):=⟨(QF ns 0 % 9).toNat,by have:=V9 (QF ns 0) (show(9:Int)≠0 by decide);lia⟩
 have n9:n<9:=by have:=V8 (QF ns 0) (show(0:Int) < 9 by decide);lia
 have lc:(QZ ns (some 2) (some 62)).length<=60:=Qfa (a:=2) (b:=62) (by decide) (by decide)
 have z0:=Qiq n
 obtain⟨W,g,lz,lo,q⟩:=Jl (xx:=xx) (s:=ns.map λn=>U.int n 0) (m:=m) (d:=82) (QZ ns (some 2) (some 62)) (W0 n) (QjA n) (by lia) (by simp[W0];lia)
 refine⟨Qkp W,QkG g (by lia) lo,λhs=>?_⟩
 have c0:∀h,Qa (tbG xx (ns.map λn=>U.int n 0)) (m+3) 6 [.scr,.int 0 0] h=some (.int (QF ns 0) 0,h):=λh=>Qft (k:=0)
 have v0:ev (tbG xx (ns.map λn=>U.int n 0)) (Qa (tbG xx (ns.map λn=>U.int n 0)) (m+3)) 98 (.op .Mod (.call 6 [(.var 0),(.c (.int 0 0))]) (.c (.int 9 0))) [some .scr,none,none,none,none] hs=some (.int (n:Int) 0,hs):=by
  rw[<-hn]
  exact Zp (y_call.trans (by rw[evs,Qc rfl,Qi,evs,y_c,Qi,evs,Qi,Qi,Qi,c0])) (by decide)
 have main:Cc (tbG xx (ns.map λn=>U.int n 0)) (m+4) 16 [.scr] hs λu h1=>Kp hs h1/\DW h1 u (Qkp W):=by
  refine Qh8 Qrz ?_;rw[QmW]
  refine Q3 (Zl v0 (QkJ (d:=85) (n:=n) (by lia) λP1 h1 l1 z=>?_));obtain⟨c1,s1⟩:=z
  have s2:=s1.add (y:=.lst ((QZ ns (some 2) (some 62)).map λn=>U.int n 0));obtain⟨h3,o3,f3,P3,l3,c3,s3⟩:=q hs.length h1.length 0 ((QZ ns (some 2) (some 62)).length+1) (QZ ns (some 2) (some 62)) (some .scr) (sI (n:Int)) _ _ none rfl (Ul _) Q1 ⟨c1,s2⟩
  have vs:ev (tbG xx (ns.map λn=>U.int n 0)) (Qa (tbG xx (ns.map λn=>U.int n 0)) (m+3)) 95 (.sl (.var 0) (some (.c (.int 2 0))) (some (.c (.int 62 0)))) [some .scr,sI (n:Int),sR hs.length,none,none] h1=some (.ref h1.length,h1++[.lst ((QZ ns (some 2) (some 62)).map λn=>U.int n 0)]):=by
   rw[Qkz,Qc rfl,Qi,Qhk y_c,Qi,Qhk y_c,Qi,<-QjR];rfl
  refine Jg (ZQ vs at0) ⟨_,h3,by rw[Qho at0,X5];exact f3,?_⟩
  obtain⟨us,h4,e4,_,P4,l4,s4,p4⟩:=Qfd (T:=tbG xx (ns.map λn=>U.int n 0)) (cf:=Qa (tbG xx (ns.map λn=>U.int n 0)) (m+3)) (d:=89) (Z:=[some .scr,sI (n:Int),sR hs.length,o3,none]) s3 rfl rfl;refine Q3 (Zl (Ym (w:=.strW ks4) rfl e4) (QiN ?_))
  obtain⟨u,h5,e5,k5,d5⟩:=Qny (T:=tbG xx (ns.map λn=>U.int n 0)) (cf:=Qa (tbG xx (ns.map λn=>U.int n 0)) (m+3)) (d:=88) (Z:=[some .scr,sI (n:Int),sR hs.length,o3,sR h4.length]) (s4.add (y:=.lst us)) (by lia) lo rfl rfl at0 (Qb (λx x=>DK.kp (Kp.app _ _)) p4)
  exact⟨u,h5,e5,λi o e=>k5 _ _ (Qr (s4.ow.p _ _ (l4 _ _ (l3 _ _ (le_ad _ _ (l1 _ _ e)))))),d5⟩
 obtain⟨u,h1,e,k,d⟩:=main;exact⟨h1,u,e,k,d⟩
def QnV{x:Option U}:(Z++[none]).set Z.length x=Z++[x]:=by rw[Vx _ _ (Xg _),Sb];rfl
def Qo9{f:Ev}{ft:Rho->Hs->Option (Bool×Hs)}{w:Wk}(I:Nat->List U->Hs->Prop)
  (st:∀i,i<n->∀acc hs,I i acc hs->acc.length<1000000/\∃x u h2,itm T w i hs=some (some (.one x))/\ft ((Z++[none]).set Z.length (some x)) hs=some (true,hs)/\f el ((Z++[none]).set Z.length (some x)) hs=some (u,h2)/\I (i+1) (acc++[u]) h2)
  (en:∀acc hs,I n acc hs->itm T w n hs=some none):
  ∀(m i k:Nat) (acc:List U) (hs:Hs),n=i+m->m<k->I i acc hs->∃us h2,QS T f ft w false el Z k i acc hs=some (us,h2)/\I n us h2 :=
 Y4 I (λi hi acc hs h=>by
  obtain⟨la,x,u,h2,a,b,c,d⟩:=st i hi acc hs h;rw[QnV]at b c
  exact⟨la,x,true,hs,a,b,λy=>⟨u,h2,c,d⟩,λz=>(by cases z)⟩) en
abbrev Ky:=List (Nm×Nat)
abbrev Fu:=Nm->List Nm
noncomputable def kv(K:Ky):List (List U×U):=K.map λp=>(nmK p.1,.ref p.2)
structure DF(hs:Hs)(K:Ky)(f:Fu):Prop where
 ky:(K.map (·.1)).Nodup
 pl:(K.map (·.2)).Nodup
 ls:∀p∈K,∃us,hs[p.2]?=some (.lst us)/\Paired (DN hs) us (f p.1)
def YU{a b:Nm}(h:nmK a=nmK b):a=b:=by
 simp only[nmK,T7,U.int.injEq,and_true]at h;exact Prod.ext h.1 h.2
def Qex(K:Ky):(kv K).map (·.1)=(K.map (·.1)).map nmK:=by simp[kv]
theorem Qch:∀{l:List Nm},l.Nodup->(l.map nmK).Nodup
 |[],_=>by simp
 |a::l,h=>by
  have h1:=Vh.mp h;rw[Xo,Vh];refine⟨λm=>?_,Qch h1.2⟩;obtain⟨b,mb,e⟩:=Wl.mp m;rw[YU e]at mb;exact h1.1 mb
theorem JS:∀{K:Ky},(K.map (·.1)).Nodup->∀{a:Nm} {j:Nat},(a,j)∈K->Qz (kv K) (nmK a)=sR j
 |[],_,a,j,m=>by simp at m
 | (b,i)::K,h,a,j,m=>by
  have h1:=Vh.mp (by simpa using h:(b::K.map (·.1)).Nodup)
  rcases X7.mp m with e|m
  ·cases e;simp[Qz,kv]
  ·have ne:nmK b≠nmK a:=λz=>h1.1 (by rw[YU z];exact Wl.mpr ⟨_,m,rfl⟩)
   have ih:=JS h1.2 m;unfold Qz at ih ⊢
   rw[show kv ((b,i)::K)=(nmK b,.ref i)::kv K from rfl,V5 (by simpa using ne)]
   exact ih
theorem DF.kp{K:Ky}{f:Fu}(h:DF hs K f)(k:Kp hs h2):DF h2 K f :=
 ⟨h.ky,h.pl,λp m=>by obtain⟨us,a,b⟩:=h.ls p m;exact⟨us,k _ _ a,Qb (λz z=>DN.kp k) b⟩⟩
theorem Qmc:∀{K:Ky},(K.map (·.2)).Nodup->∀{a b:Nm} {j:Nat},(a,j)∈K->(b,j)∈K->a=b
 |[],_,a,b,j,m,_=>by simp at m
 | (c,i)::K,h,a,b,j,m,m'=>by
  have h1:=Vh.mp (by simpa using h:(i::K.map (·.2)).Nodup)
  rcases X7.mp m with e|m<;>rcases X7.mp m' with e'|m'
  ·cases e;cases e';rfl
  ·cases e;exact absurd (Wl.mpr ⟨_,m',rfl⟩) h1.1
  ·cases e';exact absurd (Wl.mpr ⟨_,m,rfl⟩) h1.1
  ·exact Qmc h1.2 m m'
noncomputable def QfD(f:Fu)(a x:Nm):Fu:=λb=>if b=a then f b++[x]else f b
def DF.push{K:Ky}{f:Fu}{a x:Nm}(h:DF hs K f)(m:(a,j)∈K)(hj:hs[j]?=some (.lst us)):
  DF ((hs++[O.tup [.int x.1 0,.int x.2 0]]).set j (.lst (us++[.ref hs.length]))) K (QfD f a x):=by
 have tk:TK hs ((hs++[O.tup [.int x.1 0,.int x.2 0]]).set j (.lst (us++[.ref hs.length]))):=TK.app.trans (TK.set (Qr hj) (by simp))
 have lj:=(Xc.mp hj).1;refine⟨h.ky,h.pl,λp mp=>?_⟩;obtain⟨vs,e,q⟩:=h.ls p mp;by_cases hp:p.2=j
 ·have ea:p.1=a:=Qmc h.pl (j:=j) (by rw[<-hp];exact mp) m
  have ev:vs=us:=by rw[hp,hj]at e;cases e;rfl
  subst ev
  refine⟨vs++[.ref hs.length],by rw[hp,Xz (by simp;lia)],?_⟩
  rw[QfD,if_pos ea];refine Qv ⟨hs.length,rfl,?_⟩ (Qb (λy y=>DN.mono tk) q)
  rw[Xu (by lia)]
  exact at0
 ·have na:p.1≠a:=λz=>hp (by
   have l1:=JS h.ky (a:=p.1) (j:=p.2) mp;have l2:=JS h.ky m;rw[z]at l1;rw[l1]at l2;cases l2
   rfl)
  refine⟨vs,by rw[Xu (Wr hp)];exact Qr e,?_⟩
  rw[QfD,if_neg na];exact Qb (λy y=>DN.mono tk) q
structure FS(h0:Hs)(p:Nat)(K:Ky)(f:Fu)(hs:Hs):Prop where
 kp:Kp h0 hs
 lp:h0.length<=p
 di:hs[p]?=some (.dct (kv K))
 df:DF hs K f
 ge:∀q∈K,h0.length<=q.2
def FS.more{K:Ky}{f:Fu}(h:FS h0 p K f hs)(k:Kp hs h2):FS h0 p K f h2:=⟨h.kp.trans k,h.lp,k _ _ h.di,h.df.kp k,h.ge⟩
def Qis{K:Ky}{a:Nm}(hp:hs[p]?=some (.dct (kv K)))(k:(K.map (·.1)).Nodup)(m:(a,j)∈K)(h:DN hs u a):QH T (.ref p) u hs=sR j:=by
 obtain⟨i,rfl,e⟩:=h;have t:=QaQ (hs:=hs) (u:=.ref i) (a:=a) ⟨i,rfl,e⟩;simp only[QH,hp,ZI,t,Wy,JS k m];rfl
def Qey{K:Ky}{a:Nm}(h:a∈K.map (·.1)):∃j,(a,j)∈K:=by
 obtain⟨p,m,rfl⟩:=Wl.mp h;exact⟨p.2,m⟩
def QiR{iF iA:Nat}{K:Ky}{f:Fu}{a x:Nm}(h:FS h0 p K f hs)(rF:Z[iF]?=some (sR p))(rA:Z[iA]?=some (some u))(hu:DN hs u a)(ma:a∈K.map (·.1))(l:(f a).length<1000000)
  (v1:ev T cf (d+8) e1 Z hs=some (.int x.1 0,hs)) (v2:ev T cf (d+8) e2 Z hs=some (.int x.2 0,hs)):
  ∃h2,exs T cf (d+12) [.expr (.bm .append (.ix (.var iF) (.var iA)) [(.tup [e1,e2])])] Z hs=some (.next,Z,h2)/\FS h0 p K (QfD f a x) h2:=by
 obtain⟨j,mj⟩:=Qey ma;obtain⟨us,hj,pu⟩:=h.df.ls _ mj;have el:=Qd pu;have gj:=h.ge _ mj;have sb:=Qis (T:=T) h.di h.df.ky mj hu
 have ap:=QmZ (T:=T) (p:=j) (hs:=hs++[O.tup [.int x.1 0,.int x.2 0]]) (xs:=us) (u:=.ref hs.length) (Qr hj) (by simp only at el;lia)
 have np:p≠j:=λz=>by rw[<-z]at hj;rw[h.di]at hj;cases hj
 refine⟨(hs++[O.tup [.int x.1 0,.int x.2 0]]).set j (.lst (us++[.ref hs.length])),?_,⟨(h.kp.trans (Kp.app _ [O.tup [.int x.1 0,.int x.2 0]])).put gj,h.lp,?_,h.df.push (x:=x) mj hj,h.ge⟩⟩
 rotate_left
 ·rw[Xu (Wr np)];exact Qr h.di
 ·simp only[QI,Qdj,Qko,y_ix,Qu,rF,rA,Qi,sb,Option.map,Qlu hj,Wm,evs,y_tup,v1,v2,ap,Qal]
noncomputable def Yx{α:Type}(g:Nat->α->Fu->Fu):Nat->List α->Fu->Fu
 |_,[],f=>f
 |i,x::xs,f=>Yx g (i+1) xs (g i x f)
theorem Z3{α:Type}{g:Nat->α->Fu->Fu}{wt:α->Nat}(hg:∀i x f a,(g i x f a).length<=(f a).length+wt x):∀(xs:List α) (i:Nat) (f:Fu) (a:Nm),(Yx g i xs f a).length<=(f a).length+(xs.map wt).sum
 |[],i,f,a=>by simp[Yx]
 |x::xs,i,f,a=>by
  have h1:=Z3 hg xs (i+1) (g i x f) a;have h2:=hg i x f a;simp only[Yx,Xo,Vq];lia
def Qer{w:Wk}{t:Tg}{body:Ex}{K:Ky}(P:Rho->Prop)(g:Nat->α->Fu->Fu)(wt:α->Nat)(hg:∀i x f a,(g i x f a).length<=(f a).length+wt x)(xs:List α)
  (st:∀i x,xs[i]?=some x->∀Z hs f,P Z->FS h0 p K f hs->(∀a,(f a).length+wt x<=900000)->∃m ρ' ρ2 h2,itm T w i hs=some (some m)/\tgt t m Z hs=some ρ'/\body ρ' hs=some (.next,ρ2,h2)/\P ρ2/\FS h0 p K (g i x f) h2)
  (en:∀hs,Kp h0 hs->itm T w xs.length hs=some none) {f:Fu} (hP:P Z) (h:FS h0 p K f hs) (l:∀a,(f a).length+(xs.map wt).sum<=900000):
  ∃ρ2 h2,ZN T w t body (xs.length+1) 0 Z hs=some (.next,ρ2,h2)/\P ρ2/\FS h0 p K (Yx g 0 xs f) h2:=by
 obtain⟨ρ2,h2,g1,g2,f2,g3,g4,g5⟩:=Yw (T:=T) (w:=w) (t:=t) (body:=body) (n:=xs.length) (λi Z hs=>P Z/\∃f',FS h0 p K f' hs/\Yx g i (xs.drop i) f'=Yx g 0 xs f/\∀a,(f' a).length+((xs.drop i).map wt).sum<=900000)
  (λi hi Z hs y=>by
   obtain⟨a,f',b,c,e⟩:=y
   obtain⟨x,hx⟩:∃x,xs[i]?=some x:=⟨xs[i],by simp[hi]⟩
   have hd:xs.drop i=x::xs.drop (i+1):=by
    rw[Ug hi];rw[Xe hi]at hx;cases hx;rfl
   rw[hd]at c e;simp only[Xo,Vq]at e
   obtain⟨m,ρ',ρ2,h2,q1,q2,q3,q4,q5⟩:=st i x hx Z hs f' a b (λz=>by have:=e z;lia)
   exact⟨m,ρ',ρ2,h2,q1,q2,q3,q4,_,q5,by simpa[Yx]using c,λz=>by have:=e z;have:=hg i x f' z;lia⟩)
  (λZ hs v=>by obtain⟨_,f',b,_,_⟩:=v;exact en hs b.kp) xs.length 0 (xs.length+1) Z hs (by lia) (by lia) ⟨hP,f,h,by simp,by simpa using l⟩
 rw[List.drop_length]at g4
 exact⟨ρ2,h2,g1,g2,by rw[<-g4];exact g3⟩
noncomputable def Qhc(x:Nm)(ps:List Nm)(f:Fu):Fu:=Yx (λz a f=>QfD f a x) 0 ps f
noncomputable def Qkf(r:Nat)(row:List Lp)(f:Fu):Fu:=Yx (λq lp f=>Qhc ((r:Int),(q:Int)) lp.ps f) 0 row f
noncomputable def Qkw(rows:List (List Lp))(f:Fu):Fu:=Yx (λr row f=>Qkf r row f) 0 rows f
noncomputable def wtL(row:List Lp):Nat:=(row.map λlp=>lp.ps.length).sum
noncomputable def wtR(rows:List (List Lp)):Nat:=(rows.map wtL).sum
def QbU{x:Nm}(i:Nat)(b:Nm)(f:Fu)(a:Nm):(QfD f b x a).length<=(f a).length+1:=by
 unfold QfD;split<;>simp
theorem Qir{α:Type}:∀l:List α,(l.map λz=>1).sum=l.length
 |[]=>rfl
 |_::l=>by rw[Xo,Vq,Qir l,Wa];lia
def Qah(x:Nm)(ps:List Nm)(f:Fu)(a:Nm):(Qhc x ps f a).length<=(f a).length+ps.length:=by
 have:=Z3 (g:=λz a f=>QfD f a x) (wt:=λz=>1) (λi b f a=>QbU i b f a) ps 0 f a;rw[Qir]at this;exact this
def Qai(r:Nat)(row:List Lp)(f:Fu)(a:Nm):(Qkf r row f a).length<=(f a).length+wtL row :=
 Z3 (g:=λq (lp:Lp) f=>Qhc ((r:Int),(q:Int)) lp.ps f) (wt:=λlp=>lp.ps.length) (λi lp f a=>Qah _ _ f a) row 0 f a
def Qmg{iF iA:Nat}{K:Ky}{f:Fu}{ps:List Nm}{x:Nm}(P:Rho->Prop)(hj:h0[j]?=some (.tup us))(pu:Paired (DN h0) us ps)(mp:∀a∈ps,a∈K.map (·.1))
  (hP:∀Z u,P Z->P (Z.set iA (some u))/\(Z.set iA (some u))[iF]?=some (sR p)/\(Z.set iA (some u))[iA]?=some (some u)/\∀hs,ev T cf (d+8) e1 (Z.set iA (some u)) hs=some (.int x.1 0,hs)/\ev T cf (d+8) e2 (Z.set iA (some u)) hs=some (.int x.2 0,hs)) (h:FS h0 p K f hs) (l:∀a,(f a).length+ps.length<=900000) (h1:P Z):
  ∃ρ2 h2,ZN T (.seqT (.ref j)) (.name iA) (exs T cf (d+12) [.expr (.bm .append (.ix (.var iF) (.var iA)) [(.tup [e1,e2])])]) (us.length+1) 0 Z hs=some (.next,ρ2,h2)/\P ρ2/\FS h0 p K (Qhc x ps f) h2:=by
 have el:=Qd pu;rw[el]
 refine Qer P (λz a f=>QfD f a x) (λz=>1) (λi b f a=>QbU i b f a) ps ?_ ?_ h1 h (by simpa[Qir]using l)
 ·intro i a ha Z hs f hp fs lf;obtain⟨u,hu,du⟩:=Zu pu ha;obtain⟨p1,p2,p3,p4⟩:=hP Z u hp
  obtain⟨h2,g1,g2⟩:=QiR (T:=T) (cf:=cf) (d:=d) (iF:=iF) (iA:=iA) (Z:=Z.set iA (some u)) (x:=x) fs p2 p3 (du.kp fs.kp) (mp a (X0 ha)) (by have:=lf a;lia) (p4 hs).1 (p4 hs).2
  exact⟨.one u,_,_,h2,by simp only[itm,YA,fs.kp _ _ hj,Option.map,hu],rfl,g1,p1,g2⟩
 ·intro hs k
  have:us[ps.length]?=none:=by rw[X6];lia
  simp only[itm,YA,k _ _ hj,Option.map,this]
noncomputable def QrR:List S:=[.expr (.bm .append (.ix (.var 1) (.var 6)) [(.tup [(.var 2),(.var 4)])])]
noncomputable def Qpk:List S:=[.loop (.name 6) (.seq (.ix (.var 5) (.c (.int 0 0)))) QrR]
noncomputable def Qpl:List S:=[.loop (.pair 4 5) (.enm (.var 3)) Qpk]
noncomputable def lpD:S:=.loop (.pair 2 3) (.enm (.ix (.var 0) (.c (.int 0 0)))) Qpl
def QpD(h:hs[j]?=some (.tup us)):wkS T (.ref j) hs=some (.seqT (.ref j)):=by simp only[wkS,QB,YA,h]
def QpF(h:hs[j]?=some (.tup us)):Q2 T (.seqT (.ref j)) hs=us.length+1:=by simp only[Q2,YA,h,Uj]
def QpG(h:hs[j]?=some (.lst us)):Q2 T (.enmL (.ref j)) hs=us.length+1:=by simp only[Q2,QB,h,Uj]
def QjL{K:Ky}{f:Fu}{o6:Option U}{lp:Lp}(dl:DL h0 v lp)(mp:∀a∈lp.ps,a∈K.map (·.1))(h:FS h0 p K f hs)(l:∀a,(f a).length+lp.ps.length<=900000):
  ∃o6' h2,exs T cf (d+14) Qpk [some u,sR p,sI r,o3,sI q,some v,o6] hs=some (.next,[some u,sR p,sI r,o3,sI q,some v,o6'],h2)/\FS h0 p K (Qhc ((r:Int),(q:Int)) lp.ps f) h2:=by
 obtain⟨i,j,us,rfl,hi,hj,pu⟩:=dl
 obtain⟨ρ2,h2,g1,⟨o6',rfl⟩,g3⟩:=Qmg (T:=T) (cf:=cf) (d:=d) (iF:=1) (iA:=6) (e1:=.var 2) (e2:=.var 4) (x:=((r:Int),(q:Int))) (λZ=>∃o,Z=[some u,sR p,sI r,o3,sI q,sR i,o]) hj pu mp
  (λZ w z=>by obtain⟨o,e⟩:=z;subst e;exact⟨⟨some w,rfl⟩,rfl,rfl,λhs=>⟨Qc rfl,Qc rfl⟩⟩) h l ⟨o6,rfl⟩
 refine⟨o6',h2,QJ (QU (w:=.seqT (.ref j)) (h1:=hs) ?_ ?_),g3⟩
 ·have s1:QH T (.ref i) (.int 0 0) hs=sR j:=by simp only[QH,h.kp _ _ hi];exact JB (i:=0) rfl
  simp only[Za,y_ix,Qu,y_c,Qi,Xm,Xh,s1,Option.map,QpD (h.kp _ _ hj)]
 ·rw[QpF (h.kp _ _ hj)];exact g1
def QmA{K:Ky}{f:Fu}{o5 o6:Option U}{row:List Lp}(dr:DRw h0 v row)(mp:∀lp∈row,∀a∈lp.ps,a∈K.map (·.1))(h:FS h0 p K f hs)(l:∀a,(f a).length+wtL row<=900000):
  ∃o4' o5' o6' h2,exs T cf (d+16) Qpl [some u,sR p,sI r,some v,o4,o5,o6] hs=some (.next,[some u,sR p,sI r,some v,o4',o5',o6'],h2)/\FS h0 p K (Qkf r row f) h2:=by
 obtain⟨i,us,rfl,hi,pu⟩:=dr;have el:=Qd pu
 obtain⟨ρ2,h2,g1,⟨o4',o5',o6',rfl⟩,g3⟩:=Qer (T:=T) (w:=.enmL (.ref i)) (t:=.pair 4 5) (body:=exs T cf (d+14) Qpk) (λZ=>∃o4 o5 o6,Z=[some u,sR p,sI r,sR i,o4,o5,o6]) (λq lp f=>Qhc ((r:Int),(q:Int)) lp.ps f) (λlp=>lp.ps.length) (λi lp f a=>Qah _ _ f a) row
  (λq lp hq Z hs f ⟨o4,o5,o6,e⟩ fs lf=>by
   subst e;obtain⟨w,hw,dw⟩:=Zu pu hq;obtain⟨o6',h2,g1,g2⟩:=QjL (T:=T) (cf:=cf) (d:=d) (r:=r) (q:=q) (u:=u) (o3:=sR i) (o6:=o6) dw (mp lp (X0 hq)) fs lf
   exact⟨.two (.int q 0) w,_,_,h2,by simp only[itm,QB,fs.kp _ _ hi,Option.map,hw],rfl,g1,⟨_,_,_,rfl⟩,g2⟩)
  (λhs k=>by
   have:us[row.length]?=none:=by rw[X6];lia
   simp only[itm,QB,k _ _ hi,Option.map,this]) ⟨o4,o5,o6,rfl⟩ h l
 refine⟨o4',o5',o6',h2,QJ (QU (w:=.enmL (.ref i)) (h1:=hs) ?_ ?_),g3⟩
 ·have e2:QB T (.ref i) hs=some us:=by simp only[QB,h.kp _ _ hi]
  simp only[Za,Qu,Qi,Xm,Xh,e2]
 ·rw[QpG (h.kp _ _ hi),el];exact g1
def QjK{K:Ky}{f:Fu}{D:Wb}(dw:DW h0 u D)(mp:∀row∈D.rows,∀lp∈row,∀a∈lp.ps,a∈K.map (·.1))(h:FS h0 p K f hs)(l:∀a,(f a).length+wtR D.rows<=900000):
  ∃ρ2 h2,ex T cf (d+17) lpD [some u,sR p,none,none,none,none,none] hs=some (.next,ρ2,h2)/\ρ2[1]?=some (sR p)/\FS h0 p K (Qkw D.rows f) h2:=by
 obtain⟨a,ra,s1,ha,pa⟩:=QjJ (T:=T) (dw.kp h.kp)
 have ha0:∃ra,h0[a]?=some (.lst ra)/\Paired (DRw h0) ra D.rows:=by
  obtain⟨i,a',b,k,o,ra',rb,rk,ro,rfl,q1,q2,q3,q4,q5,q6,q7,q8,q9⟩:=dw
  have:a'=a:=by
   have s2:QH T (.ref i) (.int 0 0) hs=sR a':=by simp only[QH,h.kp _ _ q1];exact JB (i:=0) rfl
   rw[s1]at s2;cases s2;rfl
  subst this;exact⟨ra',q2,q6⟩
 obtain⟨ra',ha0,pa0⟩:=ha0;have el:=Qd pa0
 obtain⟨ρ2,h2,g1,⟨o2,o3,o4,o5,o6,rfl⟩,g3⟩:=Qer (T:=T) (w:=.enmL (.ref a)) (t:=.pair 2 3) (body:=exs T cf (d+16) Qpl) (λZ=>∃o2 o3 o4 o5 o6,Z=[some u,sR p,o2,o3,o4,o5,o6]) (λr row f=>Qkf r row f) wtL (λi lp f a=>Qai _ _ f a) D.rows
  (λr row hr Z hs f z fs lf=>by
   obtain⟨o2,o3,o4,o5,o6,e⟩:=z
   subst e;obtain⟨w,hw,dw⟩:=Zu pa0 hr;obtain⟨o4',o5',o6',h2,g1,g2⟩:=QmA (T:=T) (cf:=cf) (d:=d) (r:=r) (u:=u) (o4:=o4) (o5:=o5) (o6:=o6) dw (mp row (X0 hr)) fs lf
   exact⟨.two (.int r 0) w,_,_,h2,by simp only[itm,QB,fs.kp _ _ ha0,Option.map,hw],rfl,g1,⟨_,_,_,_,_,rfl⟩,g2⟩)
  (λhs k=>by
   have:ra'[D.rows.length]?=none:=by rw[X6];lia
   simp only[itm,QB,k _ _ ha0,Option.map,this]) ⟨none,none,none,none,none,rfl⟩ h l
 refine⟨[some u,sR p,o2,o3,o4,o5,o6],h2,QU (w:=.enmL (.ref a)) (h1:=hs) ?_ ?_,rfl,g3⟩
 ·have e2:QB T (.ref a) hs=some ra':=by simp only[QB,h.kp _ _ ha0]
  simp only[Za,y_ix,Qu,y_c,Qi,Xh,s1,Option.map,e2]
 ·rw[QpG (h.kp _ _ ha0),el];exact g1
noncomputable def ZM(r n:Nat):List Nm:=(List.range n).map λk:Nat=>((r:Int),(k:Int))
noncomputable def Ys(g:Nat->Nat)(rows:List (List Lp))(m:Nat):List Nm:=((List.range m).map λj=>ZM (g j) (rows.getD (g j) []).length).flatten
def YR(r n:Nat):ZM r (n+1)=ZM r n++[((r:Int),(n:Int))]:=by simp[ZM,Us]
def Zb(r n:Nat):(ZM r n).length=n:=by simp[ZM]
def Zi(g:Nat->Nat)(rows:List (List Lp))(m:Nat):Ys g rows (m+1)=Ys g rows m++ZM (g m) (rows.getD (g m) []).length:=by simp[Ys,Us]
def mem_rowN{a:Nm}:a∈ZM r n↔a.1=r/\∃k,k<n/\a.2=(k:Int):=by
 unfold ZM;rw[Wl];constructor
 ·rintro⟨k,hk,rfl⟩;exact⟨rfl,k,Vt.mp hk,rfl⟩
 ·rintro⟨h1,k,hk,h2⟩;exact⟨k,Vt.mpr hk,Prod.ext h1.symm h2.symm⟩
def JN{g:Nat->Nat}{rows:List (List Lp)}{a:Nm}:a∈Ys g rows m↔∃j,j<m/\a∈ZM (g j) (rows.getD (g j) []).length:=by
 unfold Ys;rw[List.mem_flatten];constructor
 ·rintro⟨l,ml,ma⟩;obtain⟨j,mj,rfl⟩:=Wl.mp ml;exact⟨j,Vt.mp mj,ma⟩
 ·rintro⟨j,hj,ma⟩;exact⟨_,Wl.mpr ⟨j,Vt.mpr hj,rfl⟩,ma⟩
def Qee(r n:Nat):(ZM r n).Nodup:=by
 unfold ZM List.Nodup;rw[List.pairwise_map];refine List.Pairwise.imp ?_ (Tu (n:=n));intro a b h e;have:=congrArg Prod.snd e;simp only at this;lia
def Qbt{g:Nat->Nat}{rows:List (List Lp)}(hg:∀i j,i<j->j<m->g i≠g j):(Ys g rows m).Nodup:=by
 unfold Ys List.Nodup;rw[List.pairwise_flatten];refine⟨λl ml=>?_,?_⟩
 ·obtain⟨j,_,rfl⟩:=Wl.mp ml;exact Qee _ _
 ·rw[List.pairwise_map];refine List.Pairwise.imp_of_mem ?_ (Tu (n:=m));intro i j mi mj lt x mx y my e;have h1:=(mem_rowN.mp mx).1;have h2:=(mem_rowN.mp my).1;rw[e,h2]at h1
  exact hg i j lt (Vt.mp mj) (by lia)
noncomputable def upN(rows:List (List Lp)):List Nm:=Ys id rows rows.length
noncomputable def gD(n j:Nat):Nat:=n-1-j
noncomputable def dnN(rows:List (List Lp)):List Nm:=Ys (gD rows.length) rows rows.length
def Qow(rows:List (List Lp)):(upN rows).Nodup:=Qbt λi j h z=>by simp only[id];lia
def Qef(rows:List (List Lp)):(dnN rows).Nodup:=Qbt λi j h l=>by unfold gD;lia
def Qej{rows:List (List Lp)}{a:Nm}:a∈upN rows↔∃j,j<rows.length/\a∈ZM j (rows.getD j []).length:=JN
def Qek{rows:List (List Lp)}{a:Nm}:a∈dnN rows↔a∈upN rows:=by
 rw[Qej];unfold dnN;rw[JN];constructor
 ·rintro⟨j,hj,m⟩
  exact⟨gD rows.length j,by unfold gD;lia,m⟩
 ·rintro⟨j,hj,m⟩
  refine⟨gD rows.length j,by unfold gD;lia,?_⟩
  have:gD rows.length (gD rows.length j)=j:=by unfold gD;lia
  rw[this];exact m
def Qii(rows:List (List Lp)):(dnN rows).length=(upN rows).length:=((List.perm_ext_iff_of_nodup (Qef rows) (Qow rows)).mpr λa=>Qek).length_eq
def QbV(rows:List (List Lp)):(upN rows).length=szR rows:=by
 unfold upN Ys szR;rw[List.length_flatten,List.map_map]
 have:(List.range rows.length).map (List.length∘λj=>ZM (id j) (rows.getD (id j) []).length)=rows.map List.length:=by
  apply List.ext_getElem
  ·simp
  ·intro i h1 h2;simp[Zb]at h1 ⊢;rw[Xe h1];rfl
 rw[this]
theorem JM{g:Nat->Nat}{rows:List (List Lp)}:∀{k m:Nat},m<=k->(Ys g rows m).length<=(Ys g rows k).length
 |0,m,h=>by
  have:m=0:=by lia
  subst this;exact Xg _
 |k+1,m,h=>by
  by_cases e:m=k+1
  ·subst e;exact Xg _
  ·have:=JM (g:=g) (rows:=rows) (k:=k) (m:=m) (by lia)
   rw[Zi,Xs];lia
def QjS{N:Nat}{w:U}(l:N<=1000000):∃z us,QS T (ev T cf (d+5)) (Z4 (evT T cf (d+5)) none) (.rng 0 N) false (.tup [(.var 2),(.var 3)]) [some u,some w,sI r] (N+1) 0 [] hs=some (us,hs++z)/\Paired (DN (hs++z)) us (ZM r N):=by
 obtain⟨us,h2,g1,z,rfl,g2⟩:=Qo9 (T:=T) (f:=ev T cf (d+5)) (ft:=Z4 (evT T cf (d+5)) none) (w:=.rng 0 N) (el:=.tup [(.var 2),(.var 3)]) (Z:=[some u,some w,sI r]) (n:=N) (λi acc h=>∃z,h=hs++z/\Paired (DN h) acc (ZM r i))
  (λi hi acc h y=>by
   obtain⟨z,e,pa⟩:=y
   have el:=Qd pa;rw[Zb]at el
   refine⟨by lia,.int (i:Int) 0,.ref h.length,h++[.tup [.int r 0,.int i 0]],by simp[itm,hi],rfl,?_,z++[.tup [.int r 0,.int i 0]],by rw[e,Ue],?_⟩
   ·simp only[y_tup,evs,Qu,Qi,Tx,Vc,Wa,W5,Vj,Nat.reduceAdd,We,Wi,Xm,Xh]
   ·rw[YR]
    exact Qv ⟨h.length,rfl,at0⟩ (Qb (λx x=>ZE) pa))
  (λacc h x=>by simp[itm]) N 0 (N+1) [] hs (by lia) (by lia) ⟨[],by simp,.nil⟩
 exact⟨z,us,g1,g2⟩
noncomputable def bdN:List S:=[(.expr (.bm .extend (.var 1) [(.comp (.rng (.bi .len [(.ix (.ix (.var 0) (.c (.int 0 0))) (.var 2))])) false none (.tup [(.var 2),(.var 3)]))]))]
noncomputable def lpN:S:=(.loop (.name 2) (.rngA [(.op .Sub (.bi .len [(.ix (.var 0) (.c (.int 0 0)))]) (.c (.int 1 0))),(.neg (.c (.int 1 0))),(.neg (.c (.int 1 0)))]) bdN)
def Qps:b2=[(.set 1 (.lst [])),lpN,(.ret (.var 1))]:=rfl
def cl2:Qa (tbG xx s) (m+1) 2 [a] hs=fin (exs (tbG xx s) (Qa (tbG xx s) m) dd b2 [some a,none,none] hs):=rfl
def QoT(h:hs[p]?=some (.lst xs))(h':hs[q]?=some (.lst ys))(l:xs.length+ys.length<=1000000):bmU T .extend (.ref p) [.ref q] hs=some (.non,hs.set p (.lst (xs++ys))):=by
 simp only[bmU,h,bmL,h',l,Wm]
def Qoa(h:hs[p]?=some (.lst xs)):Qdf .extend (.ref p) hs=true:=by simp only[Qdf,h];rfl
def Qe1{D:Wb}(h:DW h0 u D):∃a ra,(∀(T:Tbl) hs,Kp h0 hs->QH T u (.int 0 0) hs=sR a)/\h0[a]?=some (.lst ra)/\Paired (DRw h0) ra D.rows:=by
 obtain⟨i,a,b,k,o,ra,rb,rk,ro,rfl,h1,h2,h3,h4,h5,h6,h7,h8,h9⟩:=h
 exact⟨a,ra,λT hs kp=>by simp only[QH,kp _ _ h1];exact JB (i:=0) rfl,h2,h6⟩
def Qlg{f:Ev}(h:evs f Z es hs=some ([.int ((n:Int) - 1) 0,.int (-1) 0,.int (-1) 0],h1))(l:n<=1000000):Za T f Z (.rngA es) hs=some (.rngC ((n:Int) - 1) (-1) n,h1):=by
 have c1:(Qk (((n:Int) - 1)*16)&&Qk ((-1:Int)*16)&&decide ((0:Int) < -1)&&decide ((-1:Int) < 1073741824))=false:=by simp
 have c3:Qk (((n:Int) - 1)*16)=true:=by
  simp only[Qk,Xj,Xq];lia
 have c2:(Qk (((n:Int) - 1)*16)&&Qk ((-1:Int)*16)&&decide ((-1:Int)=-1))=true:=by rw[c3];decide
 have e:(((n:Int) - 1) - -1).toNat=n:=by lia
 simp only[Za,h,Qi]
 rw[if_neg (by rw[c1];decide),if_pos (by rw[c3];decide),e]
def Qh9{D:Wb}(dw:DW h0 u D)(lr:D.rows.length<=100000)(ls:szR D.rows<=900000):
  ∃h2 us,Qa (tbG xx s) (m+1) 2 [u] h0=some (.ref h0.length,h2)/\Kp h0 h2/\h2[h0.length]?=some (.lst us)/\Paired (DN h2) us (dnN D.rows):=by
 obtain⟨a,ra,sa,ha,pa⟩:=Qe1 dw;have el:=Qd pa
 have ln:∀k,k<=D.rows.length->(Ys (gD D.rows.length) D.rows k).length<=900000:=λk hk=>by
  have h1:=JM (g:=gD D.rows.length) (rows:=D.rows) hk;have h2:=Qii D.rows;rw[QbV]at h2;unfold dnN at h2;lia
 rw[cl2,Qps];show ∃h2 us,fin (exs (tbG xx s) (Qa (tbG xx s) m) 100 _ _ _)=_/\_;generalize Qa (tbG xx s) m=cf;generalize tbG xx s=T
 obtain⟨ρ2,h2,g1,⟨o,rfl⟩,k2,us,hp,pu⟩:=Yw (T:=T) (w:=.rngC ((ra.length:Int) - 1) (-1) ra.length) (t:=.name 2) (body:=exs T cf 97 bdN) (n:=ra.length) (λi Z hs=>(∃o,Z=[some u,sR h0.length,o])/\Kp h0 hs/\∃us,hs[h0.length]?=some (.lst us)/\Paired (DN hs) us (Ys (gD D.rows.length) D.rows i))
  (λi hi Z hs y=>by
   obtain⟨⟨o,e⟩,kp,us,hp,pu⟩:=y
   subst e
   have hg:gD D.rows.length i<D.rows.length:=by unfold gD;lia
   obtain⟨row,hr⟩:∃row,D.rows[gD D.rows.length i]?=some row:=⟨_,Xe hg⟩
   have er:D.rows.getD (gD D.rows.length i) []=row:=by rw[Wt,hr];rfl
   obtain⟨v,hv,j,vs,rfl,hj,pv⟩:=Zu pa hr;have evl:=Qd pv;have eu:=Qd pu
   have l1:=ln (i+1) (by lia)
   rw[Zi,Xs,Zb,er]at l1
   have ei:((ra.length:Int) - 1)+(i:Int)*(-1)=((gD D.rows.length i:Nat):Int):=by unfold gD;lia
   have s2:QH T (.ref a) (.int ((gD D.rows.length i:Nat):Int) 0) hs=sR j:=by simp only[QH,kp _ _ ha];exact JB hv
   obtain⟨z,ns,c1,c2⟩:=QjS (T:=T) (cf:=cf) (d:=88) (r:=gD D.rows.length i) (N:=vs.length) (u:=u) (w:=.ref h0.length) (hs:=hs) (by lia)
   have vl:ev T cf 93 (.bi .len [(.ix (.ix (.var 0) (.c (.int 0 0))) (.var 2))]) [some u,sR h0.length,some (.int ((gD D.rows.length i:Nat):Int) 0)] hs=some (.int (vs.length:Int) 0,hs):=by
    simp only[y_bi,evs,y_ix,Qu,y_c,Qi,Xm,Xh,sa T hs kp,Option.map,s2,JR (kp _ _ hj)]
   have vc:=Ym (t:=none) (el:=.tup [(.var 2),(.var 3)]) (Yl vl (by lia)) c1
   have en:=Qd c2;rw[Zb]at en
   have x1:=QoT (T:=T) (p:=h0.length) (q:=(hs++z).length) (hs:=hs++z++[O.lst ns]) (Qr (Qr hp)) at0 (by lia)
   have tk:TK (hs++z) (List.set (hs++z++[O.lst ns]) h0.length (O.lst (us++ns))):=TK.app.trans (TK.set (Qr (Qr hp)) (by simp))
   refine⟨.one (.int ((gD D.rows.length i:Nat):Int) 0),_,[some u,sR h0.length,some (.int ((gD D.rows.length i:Nat):Int) 0)],List.set (hs++z++[O.lst ns]) h0.length (O.lst (us++ns)),by simp only[itm,hi,Wm,ei],rfl,?_,⟨_,rfl⟩,(kp.trans ((Kp.app _ _).trans (Kp.app _ _))).put (Xg _),us++ns,?_,?_⟩
   ·simp only[We,Wi];refine QJ ?_;simp only[Qdj,Qko,Qu,Xm,Xh,Qi,Qoa hp,Wm,evs,vc,x1]
   ·rw[Xz];have:=Kp.len kp;have:=(Xc.mp hp).1;simp;lia
   ·rw[Zi,er,<-evl]
    exact Zt (Qb (λx x z=>(ZE z).mono tk) pu) (Qb (λx x z=>z.mono tk) c2))
  (λZ hs x=>by simp[itm]) ra.length 0 (ra.length+1) [some u,sR h0.length,none] (h0++[O.lst []]) (by lia) (by lia) ⟨⟨_,rfl⟩,Kp.app _ _,[],at0,.nil⟩
 refine⟨h2,us,?_,k2,hp,by rw[el]at pu;exact pu⟩
 have x1:ex T cf 99 (.set 1 (.lst [])) [some u,none,none] h0=some (.next,[some u,sR h0.length,none],h0++[O.lst []]):=by
  simp[Qdi,y_lst,evs,Qi]
 have vl:evs (ev T cf 97) [some u,sR h0.length,none] [(.op .Sub (.bi .len [(.ix (.var 0) (.c (.int 0 0)))]) (.c (.int 1 0))),(.neg (.c (.int 1 0))),(.neg (.c (.int 1 0)))] (h0++[O.lst []])=some ([.int ((ra.length:Int) - 1) 0,.int (-1) 0,.int (-1) 0],h0++[O.lst []]):=by
  simp only[evs,Qkn,y_bi,y_ix,Qu,y_c,Qnu,Qi,Xh,sa T _ (Kp.app h0 [O.lst []]),Option.map,JR (Qr ha),opU,QnS,gz]
 have x2:ex T cf 98 lpN [some u,sR h0.length,none] (h0++[O.lst []])=some (.next,[some u,sR h0.length,o],h2):=QU (Qlg vl (by lia)) g1
 rw[QT x1,QT x2];exact Yb (d:=96) (Qc rfl)
def PrD(hs:Hs)(u:U)(q:Nm×Nat):Prop:=∃i v,u=.ref i/\hs[i]?=some (.tup [v,.ref q.2])/\DN hs v q.1/\hs[q.2]?=some (.lst [])
theorem PrD.kp(k:Kp hs h2){q:Nm×Nat}(h:PrD hs u q):PrD h2 u q:=by obtain⟨i,v,e,a,b,c⟩:=h;exact⟨i,v,e,k _ _ a,b.kp k,k _ _ c⟩
def QlG{K:Ky}(h:Paired (PrD hs) us K):QhD hs us=some (kv K):=by
 induction h with
 |nil=>rfl
 |cons h _ ih=>
  obtain⟨i,v,rfl,e,d,_⟩:=h;simp only[QhD,e,QaQ d,Option.bind,ih,Option.map];rfl
def Qbl{kvs:List (List U×U)}{k:List U}(h:k∉kvs.map (·.1)):ZA kvs k v=kvs++[(k,v)]:=by
 unfold ZA;rw[if_neg];intro z;rw[List.any_eq_true]at z;obtain⟨p,mp,e⟩:=z
 exact h (Wl.mpr ⟨p,mp,by simpa using e⟩)
theorem Qcq:∀(l acc:List (List U×U)),((acc++l).map (·.1)).Nodup->l.foldl (λa p=>ZA a p.1 p.2) acc=acc++l
 |[],acc,_=>by simp
 |p::l,acc,h=>by
  have hn:p.1∉acc.map (·.1):=λm=>by
   rw[Va,Vm]at h
   exact h.2.2 _ m _ (by simp) rfl
  rw[Vo,Qbl hn,Qcq l (acc++[(p.1,p.2)]) (by simpa using h)]
  simp
def QjG{K:Ky}(h:(K.map (·.1)).Nodup):QbC (kv K)=kv K:=by
 have:=Qcq (kv K) [] (by rw[Vc,Qex];exact Qch h)
 simpa[QbC]using this
noncomputable def cmD:E:=(.comp (.seq (.call 2 [(.var 0)])) false none (.tup [(.var 7),(.lst [])]))
def Qpt:b0=[(.set 1 (.bi .dict [cmD])),lpD,(.ret (.var 1))]:=rfl
def cl0:Qa (tbG xx s) (m+1) 0 [a] hs=fin (exs (tbG xx s) (Qa (tbG xx s) m) dd b0 [some a,none,none,none,none,none,none] hs):=rfl
def QgW{nms:List Nm}(v:ev T cf (d+4) (.call 2 [(.var 0)]) [some u,none,none,none,none,none,none] h=some (.ref p,hs))(hp:hs[p]?=some (.lst us))(pu:Paired (DN hs) us nms)(l:nms.length<=900000):
  ∃vs h2 K,ev T cf (d+5) cmD [some u,none,none,none,none,none,none] h=some (.ref h2.length,h2++[O.lst vs])/\Kp hs h2/\K.map (·.1)=nms/\Paired (PrD h2) vs K/\(K.map (·.2)).Nodup/\∀q∈K,hs.length<=q.2:=by
 obtain⟨vs,h2,g1,k2,K,e2,p2,n2,ge⟩:=Qba (el:=.tup [(.var 7),(.lst [])]) v (λi acc h=>Kp hs h/\∃K:Ky,K.map (·.1)=nms.take i/\Paired (PrD h) acc K/\(K.map (·.2)).Nodup/\∀q∈K,hs.length<=q.2) pu l (λw w w z=>z.1 _ _ hp)
  (λi a u ha du acc h t=>by
   obtain⟨kp,K,e,pa,nd,ge⟩:=t
   have kq:Kp h (h++[O.lst []]++[O.tup [u,.ref h.length]]):=(Kp.app _ _).trans (Kp.app _ _);refine⟨_,_,Yk (Qc rfl) (y_lst.trans rfl),kp.trans kq,K++[(a,h.length)],?_,?_,?_,?_⟩
   ·rw[Va,e,Vl,ha];rfl
   ·exact Qv ⟨_,u,rfl,at0,(du.kp kp).kp kq,Qr at0⟩ (Qb (λw w=>PrD.kp kq) pa)
   ·rw[Va,Vm]
    refine⟨nd,by simp,λx mx y my e=>?_⟩
    obtain⟨q,mq,rfl⟩:=Wl.mp mx
    have:y=h.length:=by simpa using my
    have lt:q.2<h.length:=by
     obtain⟨i,hi⟩:=Vf mq;obtain⟨_,_,_,_,_,_,_,c⟩:=Zu pa hi;exact(Xc.mp c).1
    lia
   ·intro q mq
    rcases Wo.mp mq with mq|mq
    ·exact ge q mq
    ·rw[Wh.mp mq]
     exact Kp.len kp) ⟨Kp.refl _,[],by simp,.nil,by simp,by simp⟩
 exact⟨vs,h2,K,g1,k2,by simpa using e2,p2,n2,ge⟩
noncomputable def F0:Fu:=λz=>[]
def QjO{K:Ky}(hl:hs[l]?=some (.lst vs))(p:Paired (PrD hs) vs K)(h:(K.map (·.1)).Nodup):biU T .dict [.ref l] hs=some (.ref hs.length,hs++[.dct (kv K)]):=by
 show(QaE (.ref l) hs).bind _=_;simp only[QaE,hl,Option.bind,QlG p,Option.map,QjG h]
def Qfs{D:Wb}(dw:DW h0 u D)(lr:D.rows.length<=100000)(ls:szR D.rows<=900000)(lw:wtR D.rows<=900000)(mp:∀row∈D.rows,∀lp∈row,∀a∈lp.ps,a∈upN D.rows):
  ∃h2 p K,Qa (tbG xx s) (m+2) 0 [u] h0=some (.ref p,h2)/\FS h0 p K (Qkw D.rows F0) h2/\K.map (·.1)=dnN D.rows:=by
 obtain⟨h1,us,c1,k1,hp,pu⟩:=Qh9 (xx:=xx) (s:=s) (m:=m) dw lr ls
 have ld:(dnN D.rows).length<=900000:=by rw[Qii,QbV];exact ls
 rw[cl0,Qpt];show ∃h2 p K,fin (exs (tbG xx s) (Qa (tbG xx s) (m+1)) 100 _ _ _)=_/\_;generalize Qa (tbG xx s) (m+1)=cf at c1 ⊢;generalize tbG xx s=T at c1 ⊢;obtain⟨vs,h2,K,vc,k2,eK,p2,n2,ge⟩:=QgW (T:=T) (cf:=cf) (d:=92) (u:=u) (Yn rfl c1) hp pu ld
 have nd:(K.map (·.1)).Nodup:=by rw[eK];exact Qef _
 have kq:Kp h2 (h2++[O.lst vs]):=Kp.app _ _;have dc:=QjO (T:=T) (hs:=h2++[O.lst vs]) (l:=h2.length) at0 (Qb (λz z=>PrD.kp kq) p2) nd;have k3:Kp h2 (h2++[O.lst vs]++[.dct (kv K)]):=kq.trans (Kp.app _ _);have kh:=k1.trans (k2.trans k3)
 have fs:FS h0 (h2++[O.lst vs]).length K F0 (h2++[O.lst vs]++[.dct (kv K)]):=by
  refine⟨kh,?_,at0,⟨nd,n2,λq mq=>?_⟩,λq mq=>?_⟩
  ·have:=Kp.len (k1.trans (k2.trans kq));exact this
  ·obtain⟨i,hi⟩:=Vf mq;obtain⟨_,_,_,_,_,_,_,c⟩:=Zu p2 hi;exact⟨[],k3 _ _ c,.nil⟩
  ·have:=ge q mq;have:=Kp.len k1;lia
 obtain⟨ρ2,h3,e3,r1,fs3⟩:=QjK (T:=T) (cf:=cf) (d:=81) dw (λrow mr lp ml a ma=>by rw[eK,Qek];exact mp row mr lp ml a ma) fs (λa=>by simpa[F0]using lw)
 refine⟨h3,_,K,?_,fs3,eK⟩;exact(congrArg fin ((Zx (Qkq vc dc)).trans (QT e3))).trans (Yb (Qc r1))
noncomputable def Qnh:E:=(.bi .len [(.ix (.var 0) (.c (.int 0 0)))])
noncomputable def Qgx:E:=(.bi .len [(.ix (.ix (.var 0) (.c (.int 0 0))) (.var 2))])
noncomputable def Qpo:List S:=[(.put (.var 1) (.tup [(.var 2),(.var 3)]) (.lst []))]
noncomputable def Qpp:List S:=[(.loop (.name 3) (.rng Qgx) Qpo)]
noncomputable def Qp8:S:=(.loop (.name 2) (.rng Qnh) Qpp)
noncomputable def QrS:List S:=[(.expr (.bm .append (.ix (.var 1) (.var 4)) [(.tup [(.var 2),(.var 3)])]))]
noncomputable def Qpm:List S:=[(.loop (.name 4) (.seq (.ix (.ix (.ix (.ix (.var 0) (.c (.int 0 0))) (.var 2)) (.var 3)) (.c (.int 0 0)))) QrS)]
noncomputable def Qpn:List S:=[(.loop (.name 3) (.rng Qgx) Qpm)]
noncomputable def Qp7:S:=(.loop (.name 2) (.rng Qnh) Qpn)
def QmU:b18=[(.set 1 .dnewT),Qp8,Qp7,(.ret (.var 1))]:=rfl
def Qrx:Qa (tbG xx s) (m+1) 18 [a] hs=fin (exs (tbG xx s) (Qa (tbG xx s) m) dd b18 [some a,none,none,none,none] hs):=rfl
theorem FS.put{K:Ky}(h:FS h0 p K F0 hs)(na:((r:Int),(q:Int))∉K.map (·.1))(l:K.length<1000000):
  ∃h2,exs T cf (d+6) Qpo [some u,sR p,sI r,sI q,o4] hs=some (.next,[some u,sR p,sI r,sI q,o4],h2)/\FS h0 p (K++[(((r:Int),(q:Int)),hs.length)]) F0 h2:=by
 have lk:(kv K).length<1000000:=by simpa[kv]using l
 have nk:nmK ((r:Int),(q:Int))∉(kv K).map (·.1):=λm=>by
  rw[Qex]at m;obtain⟨b,mb,e⟩:=Wl.mp m;rw[YU e]at mb;exact na mb
 have dn:DN (hs++[O.lst []]++[O.tup [.int r 0,.int q 0]]) (.ref (hs++[O.lst []]).length) ((r:Int),(q:Int)):=⟨_,rfl,at0⟩;have hd:(hs++[O.lst []]++[O.tup [.int r 0,.int q 0]])[p]?=some (.dct (kv K)):=Qr (Qr h.di)
 have pt:JI (.ref p) (.ref (hs++[O.lst []]).length) (.ref hs.length) (hs++[O.lst []]++[O.tup [.int r 0,.int q 0]])=some ((hs++[O.lst []]++[O.tup [.int r 0,.int q 0]]).set p (.dct (kv (K++[(((r:Int),(q:Int)),hs.length)])))):=by
  simp only[JI,hd,JZ,lk,Wm,QaQ dn,Wy,Qbl nk];simp[kv]
 have lp:p<hs.length:=(Xc.mp h.di).1
 have kp2:∀(i:Nat) o,i≠p->hs[i]?=some o->((hs++[O.lst []]++[O.tup [.int r 0,.int q 0]]).set p (.dct (kv (K++[(((r:Int),(q:Int)),hs.length)]))))[i]?=some o:=λi o ne e=>by
  rw[Xu (Wr ne)];exact Qr (Qr e)
 refine⟨(hs++[O.lst []]++[O.tup [.int r 0,.int q 0]]).set p (.dct (kv (K++[(((r:Int),(q:Int)),hs.length)]))),?_,⟨(h.kp.trans ((Kp.app _ _).trans (Kp.app _ _))).put h.lp,h.lp,?_,⟨?_,?_,?_⟩,?_⟩⟩
 ·refine QJ ?_;simp only[y_put,y_lst,y_tup,Qu,evs,Qi,Xm,Xh,pt,Option.map]
 ·rw[Xz];simp;lia
 ·rw[Va,Vm]
  refine⟨h.df.ky,by simp,λx mx y my e=>na ?_⟩
  have:y=((r:Int),(q:Int)):=by simpa using my
  rw[<-this,<-e];exact mx
 ·rw[Va,Vm]
  refine⟨h.df.pl,by simp,λx mx y my e=>?_⟩
  obtain⟨z,mz,rfl⟩:=Wl.mp mx
  have:y=hs.length:=by simpa using my
  obtain⟨us,hz,_⟩:=h.df.ls z mz;have:=(Xc.mp hz).1;lia
 ·intro z mz
  rcases Wo.mp mz with mz|mz
  ·obtain⟨us,hz,pz⟩:=h.df.ls z mz
   have e0:us=[]:=by cases pz;rfl
   subst e0
   exact⟨[],kp2 _ _ (λe=>by rw[e,h.di]at hz;cases hz) hz,.nil⟩
  ·rw[Wh.mp mz]
   exact⟨[],by rw[Xu (by lia)];exact Qr at0,.nil⟩
 ·intro z mz
  rcases Wo.mp mz with mz|mz
  ·exact h.ge z mz
  ·rw[Wh.mp mz];exact Kp.len h.kp
def Qdl{a:E}{ρ2:Rho}(va:ev T cf d a Z hs=some (.int (n:Int) 0,hs))(l:n<=1000000)(g:ZN T (.rng 0 n) (.name i) (exs T cf d body) (n+1) 0 Z hs=some (.next,ρ2,h2)):ex T cf (d+1) (.loop (.name i) (.rng a) body) Z hs=some (.next,ρ2,h2):=QU (Yl va l) g
def Qdq{a:Nat}{w:Option U}(sa:QH T u (.int 0 0) hs=sR a)(ha:hs[a]?=some (.lst ra))(hr:ra[r]?=sR j)(hj:hs[j]?=some (.lst vs)):ev T cf (d+5) Qgx [some u,w,sI r,o3,o4] hs=some (.int (vs.length:Int) 0,hs):=by
 have s2:QH T (.ref a) (.int (r:Int) 0) hs=sR j:=by simp only[QH,ha];exact JB hr
 simp only[Qgx,y_bi,evs,y_ix,Qu,y_c,Qi,Xm,Xh,sa,Option.map,s2,JR hj]
def Qkh{a:Nat}{K:Ky}(sa:∀(T:Tbl) hs,Kp h0 hs->QH T u (.int 0 0) hs=sR a)(ha:h0[a]?=some (.lst ra))(hr:ra[r]?=sR j)(hj:h0[j]?=some (.lst vs))
  (h:FS h0 p K F0 hs) {pre:List Nm} (ep:K.map (·.1)=pre) (nd:(pre++ZM r vs.length).Nodup) (l:pre.length+vs.length<=900000):
  ∃o3' h2 K',exs T cf (d+8) Qpp [some u,sR p,sI r,o3,none] hs=some (.next,[some u,sR p,sI r,o3',none],h2)/\FS h0 p K' F0 h2/\K'.map (·.1)=pre++ZM r vs.length:=by
 obtain⟨ρ2,h2,g1,⟨o3',rfl⟩,K',g2,g3⟩:=Yw (T:=T) (w:=.rng 0 vs.length) (t:=.name 3) (body:=exs T cf (d+6) Qpo) (n:=vs.length) (λq Z hs=>(∃o3,Z=[some u,sR p,sI r,o3,none])/\∃K:Ky,FS h0 p K F0 hs/\K.map (·.1)=pre++ZM r q)
  (λq hq Z hs z=>by
   obtain⟨⟨o3,e⟩,K,fs,eK⟩:=z
   subst e
   have lK:K.length=pre.length+q:=by
    have:=congrArg List.length eK;simpa[Zb]using this
   have na:((r:Int),(q:Int))∉K.map (·.1):=by
    rw[eK];intro m
    rcases Wo.mp m with m|m
    ·rw[Vm]at nd;exact nd.2.2 _ m _ (mem_rowN.mpr ⟨rfl,q,hq,rfl⟩) rfl
    ·obtain⟨_,k,hk,e⟩:=mem_rowN.mp m;simp only at e;lia
   obtain⟨h2,e1,e2⟩:=fs.put (T:=T) (cf:=cf) (d:=d) (u:=u) (o4:=none) na (by lia)
   refine⟨.one (.int q 0),_,_,h2,by simp[itm,hq],rfl,e1,⟨_,rfl⟩,_,e2,?_⟩
   rw[Va,eK,YR,Ue]
   rfl)
  (λZ hs y=>by simp[itm]) vs.length 0 (vs.length+1) _ hs (by lia) (by lia) ⟨⟨o3,rfl⟩,K,h,by simpa[ZM]using ep⟩
 exact⟨o3',h2,K',QJ (Qdl (d:=d+6) (Qdq (d:=d+1) (sa T hs h.kp) (h.kp _ _ ha) hr (h.kp _ _ hj)) (by lia) g1),g2,g3⟩
def Qhe{D:Wb}(dw:DW h0 u D)(lr:D.rows.length<=100000)(ls:szR D.rows<=900000)(h:FS h0 p [] F0 hs):
  ∃o2 o3 h2 K,ex T cf (d+9) Qp8 [some u,sR p,none,none,none] hs=some (.next,[some u,sR p,o2,o3,none],h2)/\FS h0 p K F0 h2/\K.map (·.1)=upN D.rows:=by
 obtain⟨a,ra,sa,ha,pa⟩:=Qe1 dw;have el:=Qd pa
 have ln:∀k,k<=D.rows.length->(Ys id D.rows k).length<=900000:=λk hk=>by
  have h1:=JM (g:=id) (rows:=D.rows) hk;have h2:=QbV D.rows;unfold upN at h2;lia
 obtain⟨ρ2,h2,g1,⟨o2,o3,rfl⟩,K,g2,g3⟩:=Yw (T:=T) (w:=.rng 0 ra.length) (t:=.name 2) (body:=exs T cf (d+8) Qpp) (n:=ra.length) (λr Z hs=>(∃o2 o3,Z=[some u,sR p,o2,o3,none])/\∃K:Ky,FS h0 p K F0 hs/\K.map (·.1)=Ys id D.rows r)
  (λr hr Z hs z=>by
   obtain⟨⟨o2,o3,e⟩,K,fs,eK⟩:=z
   subst e
   obtain⟨row,hrow⟩:∃row,D.rows[r]?=some row:=⟨_,Xe (by lia)⟩
   have er:D.rows.getD r []=row:=by rw[Wt,hrow];rfl
   obtain⟨v,hv,j,vs,rfl,hj,pv⟩:=Zu pa hrow;have evl:=Qd pv
   have e1:Ys id D.rows (r+1)=Ys id D.rows r++ZM r vs.length:=by rw[Zi,id,er,evl]
   have l1:=ln (r+1) (by lia)
   have nd:(Ys id D.rows (r+1)).Nodup:=Qbt λi j h y=>by simp only[id];lia
   rw[e1]at l1 nd;rw[Xs,Zb]at l1;obtain⟨o3',h2,K',c1,c2,c3⟩:=Qkh (T:=T) (cf:=cf) (d:=d) (o3:=o3) sa ha hv hj fs eK nd l1
   exact⟨.one (.int r 0),_,_,h2,by simp[itm,hr],rfl,c1,⟨_,_,rfl⟩,K',c2,by rw[e1];exact c3⟩)
  (λZ hs y=>by simp[itm]) ra.length 0 (ra.length+1) _ hs (by lia) (by lia) ⟨⟨none,none,rfl⟩,[],h,by simp[Ys]⟩
 refine⟨o2,o3,h2,K,Qdl (n:=ra.length) ?_ (by lia) g1,g2,by rw[g3,el];rfl⟩
 simp only[Qnh,y_bi,evs,y_ix,Qu,y_c,Qi,Xh,sa T hs h.kp,Option.map,JR (h.kp _ _ ha)]
def Qki{a:Nat}{K:Ky}{f:Fu}{lp:Lp}(sa:∀(T:Tbl) hs,Kp h0 hs->QH T u (.int 0 0) hs=sR a)(ha:h0[a]?=some (.lst ra))(hr:ra[r]?=sR j)(hj:h0[j]?=some (.lst vs))(hq:vs[q]?=some v)
  (dl:DL h0 v lp) (mp:∀a∈lp.ps,a∈K.map (·.1)) (h:FS h0 p K f hs) (l:∀a,(f a).length+lp.ps.length<=900000):
  ∃o4' h2,exs T cf (d+14) Qpm [some u,sR p,sI r,sI q,o4] hs=some (.next,[some u,sR p,sI r,sI q,o4'],h2)/\FS h0 p K (Qhc ((r:Int),(q:Int)) lp.ps f) h2:=by
 obtain⟨i,k,us,rfl,hi,hk,pu⟩:=dl
 obtain⟨ρ2,h2,g1,⟨o4',rfl⟩,g3⟩:=Qmg (T:=T) (cf:=cf) (d:=d) (iF:=1) (iA:=4) (e1:=.var 2) (e2:=.var 3) (x:=((r:Int),(q:Int))) (λZ=>∃o,Z=[some u,sR p,sI r,sI q,o]) hk pu mp
  (λZ w z=>by obtain⟨o,e⟩:=z;subst e;exact⟨⟨some w,rfl⟩,rfl,rfl,λhs=>⟨Qc rfl,Qc rfl⟩⟩) h l ⟨o4,rfl⟩
 refine⟨o4',h2,QJ (QU (w:=.seqT (.ref k)) (h1:=hs) ?_ ?_),g3⟩
 ·have s1:QH T (.ref i) (.int 0 0) hs=sR k:=by simp only[QH,h.kp _ _ hi];exact JB (i:=0) rfl
  have s2:QH T (.ref a) (.int (r:Int) 0) hs=sR j:=by simp only[QH,h.kp _ _ ha];exact JB hr
  have s3:QH T (.ref j) (.int (q:Int) 0) hs=sR i:=by simp only[QH,h.kp _ _ hj];exact JB hq
  simp only[Za,y_ix,Qu,y_c,Qi,Xm,Xh,sa T hs h.kp,s1,s2,s3,Option.map,QpD (h.kp _ _ hk)]
 ·rw[QpF (h.kp _ _ hk)];exact g1
def Qkg{a:Nat}{K:Ky}{f:Fu}{row:List Lp}(sa:∀(T:Tbl) hs,Kp h0 hs->QH T u (.int 0 0) hs=sR a)(ha:h0[a]?=some (.lst ra))(hr:ra[r]?=sR j)(hj:h0[j]?=some (.lst vs))
  (pv:Paired (DL h0) vs row) (mp:∀lp∈row,∀a∈lp.ps,a∈K.map (·.1)) (h:FS h0 p K f hs) (l:∀a,(f a).length+wtL row<=900000) (lv:vs.length<=900000):
  ∃o3' o4' h2,exs T cf (d+16) Qpn [some u,sR p,sI r,o3,o4] hs=some (.next,[some u,sR p,sI r,o3',o4'],h2)/\FS h0 p K (Qkf r row f) h2:=by
 have el:=Qd pv
 obtain⟨ρ2,h2,g1,⟨o3',o4',rfl⟩,g3⟩:=Qer (T:=T) (w:=.rng 0 vs.length) (t:=.name 3) (body:=exs T cf (d+14) Qpm) (λZ=>∃o3 o4,Z=[some u,sR p,sI r,o3,o4]) (λq (lp:Lp) f=>Qhc ((r:Int),(q:Int)) lp.ps f) (λlp=>lp.ps.length) (λi lp f a=>Qah _ _ f a) row
  (λq lp hq Z hs f z fs lf=>by
   obtain⟨o3,o4,e⟩:=z
   subst e;obtain⟨w,hw,dw⟩:=Zu pv hq;have lt:=(Xc.mp hw).1;obtain⟨o4',h2,g1,g2⟩:=Qki (T:=T) (cf:=cf) (d:=d) (o4:=o4) sa ha hr hj hw dw (mp lp (X0 hq)) fs lf
   exact⟨.one (.int q 0),_,_,h2,by simp[itm,lt],rfl,g1,⟨_,_,rfl⟩,g2⟩)
  (λhs k=>by simp[itm,el]) ⟨o3,o4,rfl⟩ h l
 rw[<-el]at g1
 exact⟨o3',o4',h2,QJ (Qdl (d:=d+14) (Qdq (d:=d+9) (sa T hs h.kp) (h.kp _ _ ha) hr (h.kp _ _ hj)) (by lia) g1),g3⟩
theorem QdF:∀{rows:List (List Lp)} {row:List Lp},row∈rows->row.length<=szR rows
 |[],_,m=>by simp at m
 |r::rows,row,m=>by
  simp only[szR,Xo,Vq]
  rcases X7.mp m with rfl|m
  ·lia
  ·have:=QdF m;unfold szR at this;lia
def Qhd{K:Ky}{f:Fu}{o2:Option U}{D:Wb}(dw:DW h0 u D)(lr:D.rows.length<=100000)(ls:szR D.rows<=900000)(mp:∀row∈D.rows,∀lp∈row,∀a∈lp.ps,a∈K.map (·.1))(h:FS h0 p K f hs)(l:∀a,(f a).length+wtR D.rows<=900000):
  ∃ρ2 h2,ex T cf (d+17) Qp7 [some u,sR p,o2,o3,none] hs=some (.next,ρ2,h2)/\ρ2[1]?=some (sR p)/\FS h0 p K (Qkw D.rows f) h2:=by
 obtain⟨a,ra,sa,ha,pa⟩:=Qe1 dw;have el:=Qd pa
 obtain⟨ρ2,h2,g1,⟨o2',o3',o4',rfl⟩,g3⟩:=Qer (T:=T) (w:=.rng 0 ra.length) (t:=.name 2) (body:=exs T cf (d+16) Qpn) (λZ=>∃o2 o3 o4,Z=[some u,sR p,o2,o3,o4]) (λr row f=>Qkf r row f) wtL (λi lp f a=>Qai _ _ f a) D.rows
  (λr row hr Z hs f z fs lf=>by
   obtain⟨o2,o3,o4,e⟩:=z
   subst e;obtain⟨w,hw,j,vs,rfl,hj,pv⟩:=Zu pa hr;have lt:=(Xc.mp hw).1;have lv:=QdF (X0 hr);have ev:=Qd pv
   obtain⟨o3',o4',h2,g1,g2⟩:=Qkg (T:=T) (cf:=cf) (d:=d) (o3:=o3) (o4:=o4) sa ha hw hj pv (mp row (X0 hr)) fs lf (by lia)
   exact⟨.one (.int r 0),_,_,h2,by simp[itm,lt],rfl,g1,⟨_,_,_,rfl⟩,g2⟩)
  (λhs k=>by simp[itm,el]) ⟨o2,o3,none,rfl⟩ h l
 rw[<-el]at g1
 refine⟨[some u,sR p,o2',o3',o4'],h2,Qdl (n:=ra.length) ?_ (by lia) g1,rfl,g3⟩
 simp only[Qnh,y_bi,evs,y_ix,Qu,y_c,Qi,Xh,sa T hs h.kp,Option.map,JR (h.kp _ _ ha)]
def Qj2{D:Wb}(dw:DW h0 u D)(lr:D.rows.length<=100000)(ls:szR D.rows<=900000)(lw:wtR D.rows<=900000)(mp:∀row∈D.rows,∀lp∈row,∀a∈lp.ps,a∈upN D.rows):
  ∃h2 p K,Qa (tbG xx s) (m+1) 18 [u] h0=some (.ref p,h2)/\FS h0 p K (Qkw D.rows F0) h2/\K.map (·.1)=upN D.rows:=by
 rw[Qrx,QmU];show ∃h2 p K,fin (exs (tbG xx s) (Qa (tbG xx s) m) 100 _ _ _)=_/\_;generalize Qa (tbG xx s) m=cf;generalize tbG xx s=T
 have x1:ex T cf 99 (.set 1 .dnewT) [some u,none,none,none,none] h0=some (.next,[some u,sR h0.length,none,none,none],h0++[.dct []]):=Qa7 (by rw[QcF])
 have fs:FS h0 h0.length [] F0 (h0++[.dct []]):=⟨Kp.app _ _,Xg _,at0,⟨by simp,by simp,λq m=>by simp at m⟩,λq m=>by simp at m⟩
 obtain⟨o2,o3,h2,K,g1,g2,g3⟩:=Qhe (T:=T) (cf:=cf) (d:=89) dw lr ls fs
 obtain⟨ρ2,h3,e3,r1,fs3⟩:=Qhd (T:=T) (cf:=cf) (d:=80) (o2:=o2) (o3:=o3) dw lr ls (λrow mr lp ml a ma=>by rw[g3];exact mp row mr lp ml a ma) g2 (λa=>by simpa[F0]using lw)
 refine⟨h3,_,K,?_,fs3,g3⟩;rw[QT x1,QT g1,QT e3];exact Yb (d:=95) (Qc r1)
def Ord(rows:List (List Lp)):Prop:=∀(r:Nat) row,rows[r]?=some row->∀lp∈row,∀a∈lp.ps,a.1<(r:Int)
theorem Z2{α:Type}{g:Nat->α->Fu->Fu}{P:Nm->Nm->Prop}:∀(xs:List α) (i:Nat) (f:Fu),(∀j x f,xs[j]?=some x->(∀a b,b∈f a->P a b)->∀a b,b∈g (i+j) x f a->P a b)->(∀a b,b∈f a->P a b)->∀a b,b∈Yx g i xs f a->P a b
 |[],i,f,_,h=>h
 |x::xs,i,f,hg,h=>by
  refine Z2 xs (i+1) (g i x f) (λj y f' hy hf=>?_) (hg 0 x f rfl h)
  have:=hg (j+1) y f' (by simpa using hy) hf
  rw[show i+1+j=i+(j+1) by lia]
  exact this
def Qhb{P:Nm->Nm->Prop}{x:Nm}{ps:List Nm}{f:Fu}(h:∀a b,b∈f a->P a b)(hp:∀a∈ps,P a x):∀a b,b∈Qhc x ps f a->P a b:=by
 refine Z2 ps 0 f (λj c f' hc hf a b m=>?_) h;unfold QfD at m;split at m
 ·rename_i e
  rcases Wo.mp m with m|m
  ·exact hf a b m
  ·rw[Wh.mp m,e];exact hp c (X0 hc)
 ·exact hf a b m
def Qke{rows:List (List Lp)}(o:Ord rows){a b:Nm}(m:b∈Qkw rows F0 a):a.1<b.1/\b∈upN rows:=by
 refine Z2 (P:=λa b=>a.1<b.1/\b∈upN rows) rows 0 F0 (λr row f hr hf=>?_) (λa b m=>by simp[F0]at m) a b m
 rw[Vj];refine Z2 (P:=λa b=>a.1<b.1/\b∈upN rows) row 0 f (λq lp f' hq hf'=>?_) hf;rw[Vj];refine Qhb hf' λc hc=>⟨o r row hr lp (X0 hq) c hc,?_⟩;rw[Qej];have lr:=(Xc.mp hr).1;have lq:=(Xc.mp hq).1;refine⟨r,lr,mem_rowN.mpr ⟨rfl,q,?_,rfl⟩⟩;rw[Wt,hr];exact lq
def QhT{kvs:List (List U×U)}{k:List U}:(Qz kvs k).isSome=true↔k∈kvs.map (·.1):=by
 unfold Qz;rw[Tl,List.find?_isSome];constructor
 ·rintro⟨p,mp,e⟩
  exact Wl.mpr ⟨p,mp,by simpa using e⟩
 ·intro m;obtain⟨p,mp,e⟩:=Wl.mp m
  exact⟨p,mp,by simpa using e⟩
def Qf8{kvs:List (List U×U)}{k x:List U}:x∈(ZA kvs k v).map (·.1)↔x∈kvs.map (·.1)\/x=k:=by
 unfold ZA;split
 ·rename_i h
  have e:(kvs.map λp=>if p.1=k then(p.1,v)else p).map (·.1)=kvs.map (·.1):=by
   rw[List.map_map];refine List.map_congr_left λp y=>?_;simp only[Function.comp];split<;>rfl
  rw[e];refine⟨.inl,λh'=>h'.elim id λz=>?_⟩;rw[List.any_eq_true]at h;obtain⟨p,mp,e⟩:=h;rw[z]
  exact Wl.mpr ⟨p,mp,by simpa using e⟩
 ·simp
structure SDk(kvs:List (List U×U))(L:List Nm):Prop where
 len:kvs.length<=L.length
 key:∀a,nmK a∈kvs.map (·.1)↔a∈L
def Qau:SDk [] []:=⟨by simp,λa=>by simp⟩
def QdM{kvs:List (List U×U)}{L:List Nm}{a:Nm}(h:SDk kvs L):SDk (ZA kvs (nmK a) v) (L++[a]):=by
 refine⟨?_,λb=>?_⟩
 ·have:=h.len;unfold ZA;split<;>simp<;>lia
 ·rw[Qf8,h.key,Wo,Wh]
  exact⟨λz=>z.imp id YU,λz=>z.imp id λe=>by rw[e]⟩
def QgD{kvs:List (List U×U)}{L:List Nm}{a:Nm}(hp:hs[p]?=some (.dct kvs))(sd:SDk kvs L)(h:DN hs u a):ZC T .In u (.ref p) hs=some (decide (a∈L)):=by
 have e:(Qz kvs (nmK a)).isSome=decide (a∈L):=by
  rw[Vn,QhT,sd.key,decide_eq_true_iff]
 simp only[ZC,ZF,hp,inD,ZI,QaQ h,Option.map,e]
def Qec{kvs:List (List U×U)}{L:List Nm}{a:Nm}(hp:hs[p]?=some (.dct kvs))(sd:SDk kvs L)(h:DN hs u a):ZC T .NotIn u (.ref p) hs=some (!decide (a∈L)):=by
 have e:(Qz kvs (nmK a)).isSome=decide (a∈L):=by
  rw[Vn,QhT,sd.key,decide_eq_true_iff]
 simp only[ZC,ZF,hp,inD,ZI,QaQ h,Option.map,e]
theorem QeQ{v:U}:∀(l:List Nm) {kvs:List (List U×U)} {L:List Nm},SDk kvs L->SDk ((l.map λa=>(nmK a,v)).foldl (λacc p=>ZA acc p.1 p.2) kvs) (L++l)
 |[],kvs,L,h=>by simpa using h
 |a::l,kvs,L,h=>by
  have:=QeQ (v:=v) l (QdM (a:=a) (v:=v) h);simpa using this
def PrT(hs:Hs)(u:U)(a:Nm):Prop:=∃i v,u=.ref i/\hs[i]?=some (.tup [v,.bl true])/\DN hs v a
theorem PrT.kp(k:Kp hs h2){a:Nm}(h:PrT hs u a):PrT h2 u a:=by obtain⟨i,v,e,x,y⟩:=h;exact⟨i,v,e,k _ _ x,y.kp k⟩
def QlF{L:List Nm}(h:Paired (PrT hs) us L):QhD hs us=some (L.map λa=>(nmK a,.bl true)):=by
 induction h with
 |nil=>rfl
 |cons h _ ih=>
  obtain⟨i,v,rfl,e,d⟩:=h;simp only[QhD,e,QaQ d,Option.bind,ih,Option.map,Xo]
def Qrr:Qa (tbG xx s) (m+1) 4 [a] hs=fin (exs (tbG xx s) (Qa (tbG xx s) m) dd b4 [some a] hs):=rfl
def YH{L:List Nm}(hl:hs[l]?=some (.lst us))(pu:Paired (DN hs) us L)(ll:L.length<=900000):
  ∃h2 p kvs,Qa (tbG xx s) (m+1) 4 [.ref l] hs=some (.ref p,h2)/\Kp hs h2/\hs.length<=p/\h2[p]?=some (.dct kvs)/\SDk kvs L:=by
 rw[Qrr];show ∃h2 p kvs,fin (exs (tbG xx s) (Qa (tbG xx s) m) 100 _ _ _)=_/\_;generalize Qa (tbG xx s) m=cf;generalize tbG xx s=T
 obtain⟨vs,h2,vc,k2,p2⟩:=Qba (T:=T) (cf:=cf) (d:=96) (e:=.var 0) (el:=.tup [(.var 1),(.c (.bl true))]) (Z:=[sR l]) (Qc rfl) (λi acc h=>Kp hs h/\Paired (PrT h) acc (L.take i)) pu ll (λy y y z=>z.1 _ _ hl)
  (λi a u ha du acc h x=>by
   obtain⟨kp,pa⟩:=x
   have kq:Kp h (h++[O.tup [u,.bl true]]):=Kp.app _ _;refine⟨_,_,Yk (Qc rfl) y_c,kp.trans kq,?_⟩;rw[Vl,ha]
   exact Qv ⟨_,u,rfl,at0,(du.kp kp).kp kq⟩ (Qb (λy y=>PrT.kp kq) pa)) ⟨Kp.refl _,.nil⟩
 rw[Vs]at p2;have kq:Kp h2 (h2++[O.lst vs]):=Kp.app _ _
 have dc:biU T .dict [.ref h2.length] (h2++[O.lst vs])=some (.ref (h2++[O.lst vs]).length,h2++[O.lst vs]++[.dct (QbC (L.map λa=>(nmK a,.bl true)))]):=by
  show(QaE (.ref h2.length) (h2++[O.lst vs])).bind _=_
  have e0:QaE (.ref h2.length) (h2++[O.lst vs])=some vs:=by simp only[QaE,at0]
  simp only[e0,Option.bind,QlF (Qb (λy y=>PrT.kp kq) p2),Option.map]
 refine⟨h2++[O.lst vs]++[.dct (QbC (L.map λa=>(nmK a,.bl true)))],(h2++[O.lst vs]).length,QbC (L.map λa=>(nmK a,.bl true)),?_,k2.trans (kq.trans (Kp.app _ _)),(k2.trans kq).len,at0,?_⟩
 ·exact Yb (Qkq vc dc)
 ·have:=QeQ (v:=.bl true) L Qau;rw[Vc]at this;exact this
def YE{iD iN:Nat}{nms L:List Nm}{kvs:List (List U×U)}(hD:Z[iD]?=some (sR p))(ne:iN≠iD)(lN:iN < Z.length)(hp:hs[p]?=some (.dct kvs))(hl:hs[l]?=some (.lst us))(pu:Paired (DN hs) us nms)(sd:SDk kvs L)(ll:L.length+nms.length<=900000):
  ∃o kvs',ZN T (.seqL (.ref l)) (.name iN) (exs T cf (d+6) [(.put (.var iD) (.var iN) (.c (.bl true)))]) (Q2 T (.seqL (.ref l)) hs) 0 Z hs=some (.next,Z.set iN o,hs.set p (.dct kvs'))/\SDk kvs' (L++nms):=by
 have lp:=(Xc.mp hp).1
 have nlp:p≠l:=λz=>by rw[z,hl]at hp;cases hp
 obtain⟨w0,hw0⟩:∃w,Z[iN]?=some w:=⟨_,Xe lN⟩
 have tk:∀x,TK hs (hs.set p x):=λx=>TK.set hp (by simp)
 have hl':∀x,(hs.set p x)[l]?=some (.lst us):=λx=>by rw[Xu nlp];exact hl
 obtain⟨ρ2,h2,g1,⟨o,rfl⟩,kvs',rfl,g2⟩:=Qeq (T:=T) (l:=l) (t:=.name iN) (body:=exs T cf (d+6) [(.put (.var iD) (.var iN) (.c (.bl true)))]) (Z:=Z) (hs:=hs) (λi ρ' h=>(∃o,ρ'=Z.set iN o)/\∃kvs',h=hs.set p (.dct kvs')/\SDk kvs' (L++nms.take i)) pu (λy y y s=>by obtain⟨_,_,e,_⟩:=s;exact e▸hl' _)
  (λi a u ha du ρ' h r=>by
   obtain⟨⟨o,e1⟩,kv,e2,sd⟩:=r
   subst e1 e2;have hp':(hs.set p (.dct kv))[p]?=some (.dct kv):=Xz lp
   have lk:kv.length<1000000:=by
    have:=sd.len;rw[Xs,Ve]at this;lia
   have pt:JI (.ref p) u (.bl true) (hs.set p (.dct kv))=some (hs.set p (.dct (ZA kv (nmK a) (.bl true)))):=by
    simp only[JI,hp',JZ,lk,Wm,QaQ (du.mono (tk _)),Wy,List.set_set]
   have r1:(Z.set iN (some u))[iD]?=some (sR p):=by rw[Xu ne];exact hD
   have r2:(Z.set iN (some u))[iN]?=some (some u):=Xz lN
   refine⟨Z.set iN (some u),Z.set iN (some u),hs.set p (.dct (ZA kv (nmK a) (.bl true))),by simp only[tgt,List.set_set],QJ (y_put.trans (by simp only[y_c,Qu,r1,r2,Qi,pt,Option.map])),⟨_,rfl⟩,_,rfl,?_⟩
   rw[Vl,ha];have:=QdM (a:=a) (v:=.bl true) sd
   simpa using this) ⟨⟨w0,(QbZ hw0).symm⟩,kvs,(QbZ hp).symm,by simpa using sd⟩
 exact⟨o,kvs',g1,by simpa using g2⟩
noncomputable def Q6(D:Wb)(i:Nat):List Nm:=D.lie++D.off++((D.kept.take i).map (·.2)).flatten
noncomputable def Qy(D:Wb):List Nm:=Q6 D D.kept.length
def Zk{D:Wb}{k:U×List Nm}(h:D.kept[i]?=some k):Q6 D (i+1)=Q6 D i++k.2:=by
 unfold Q6;rw[Vl,h];simp
theorem Qcp{D:Wb}:∀{k i:Nat},i<=k->(Q6 D i).length<=(Q6 D k).length
 |0,i,h=>by
  have:i=0:=by lia
  subst this;exact Xg _
 |k+1,i,h=>by
  by_cases e:i=k+1
  ·subst e;exact Xg _
  ·have h1:=Qcp (D:=D) (k:=k) (i:=i) (by lia)
   cases q:D.kept[k]? with
   |none=>
    have:Q6 D (k+1)=Q6 D k:=by unfold Q6;rw[Vl,q];simp
    rw[this];exact h1
   |some x=>rw[Zk q,Xs];lia
def QeH{D:Wb}(h:D.kept.length<=i):Q6 D i=Qy D:=by
 unfold Qy Q6;rw[List.take_of_length_le h,Vs]
def ZZ{D:Wb}(h:(Qy D).length<=n):(Q6 D i).length<=n:=by
 by_cases l:i<=D.kept.length
 ·exact Wd (Qcp l) h
 ·rw[QeH (by lia)]
  exact h
def Qgw{D:Wb}{a:Nm}(h:a∈D.lie):a∈Qy D:=by
 unfold Qy Q6;exact Uf _ (Uf _ h)
def Qkt{D:Wb}(h:DW h0 u D):∃b k o rb rk ro,(∀(T:Tbl) hs,Kp h0 hs->QH T u (.int 1 0) hs=sR b/\QH T u (.int 2 0) hs=sR k/\QH T u (.int 3 0) hs=sR o) /\
  h0[b]?=some (.lst rb)/\h0[k]?=some (.lst rk)/\h0[o]?=some (.lst ro)/\Paired (DN h0) rb D.lie/\Paired (DK h0) rk D.kept/\Paired (DN h0) ro D.off:=by
 obtain⟨i,a,b,k,o,ra,rb,rk,ro,rfl,h1,h2,h3,h4,h5,h6,h7,h8,h9⟩:=h;refine⟨b,k,o,rb,rk,ro,λT hs kp=>⟨?_,?_,?_⟩,h3,h4,h5,h7,h8,h9⟩
 ·simp only[QH,kp _ _ h1];exact JB (i:=1) rfl
 ·simp only[QH,kp _ _ h1];exact JB (i:=2) rfl
 ·simp only[QH,kp _ _ h1];exact JB (i:=3) rfl
noncomputable def lpH:S:=(.loop (.pair 2 3) (.seq (.ix (.var 0) (.c (.int 2 0)))) [(.set 1 (.op .Add (.var 1) (.var 3)))])
def Qpr:b3=[(.set 1 (.op .Add (.ix (.var 0) (.c (.int 1 0))) (.ix (.var 0) (.c (.int 3 0))))),lpH,(.ret (.call 4 [(.var 1)]))]:=rfl
def Qrs:Qa (tbG xx s) (m+1) 3 [a] hs=fin (exs (tbG xx s) (Qa (tbG xx s) m) dd b3 [some a,none,none,none] hs):=rfl
def Qqu(h:hs[j]?=some (.lst us)):wkS T (.ref j) hs=some (.seqL (.ref j)):=by simp only[wkS,QB,h]
def Qg3{D:Wb}(dw:DW h0 u D)(ll:(Qy D).length<=900000):
  ∃h2 p kvs,Qa (tbG xx s) (m+2) 3 [u] h0=some (.ref p,h2)/\Kp h0 h2/\h0.length<=p/\h2[p]?=some (.dct kvs)/\SDk kvs (Qy D):=by
 obtain⟨b,k,o,rb,rk,ro,sb,hb,hk,ho,pb,pk,po⟩:=Qkt dw;have CM:=λ(l:Nat) (hs:Hs) (us:List U) (L:List Nm) (x:hs[l]?=some (.lst us)) (y:Paired (DN hs) us L) (z:L.length<=900000)=>YH (xx:=xx) (s:=s) (m:=m) x y z;rw[Qrs,Qpr];show ∃h2 p kvs,fin (exs (tbG xx s) (Qa (tbG xx s) (m+1)) 100 _ _ _)=_/\_;generalize Qa (tbG xx s) (m+1)=cf at CM ⊢;generalize tbG xx s=T;have eb:=Qd pb;have eo:=Qd po;have ek:=Qd pk;have l0:=ZZ (i:=0) ll
 have e0:Q6 D 0=D.lie++D.off:=by simp[Q6]
 rw[e0,Xs]at l0
 obtain⟨ρ2,h2,g1,⟨l,us,o2,o3,rfl,k2,hl,pu⟩⟩:=Qeq (T:=T) (l:=k) (t:=.pair 2 3) (body:=exs T cf 97 [(.set 1 (.op .Add (.var 1) (.var 3)))]) (Z:=[some u,sR h0.length,none,none]) (hs:=h0++[O.lst (rb++ro)]) (λi Z hs=>∃l us o2 o3,Z=[some u,sR l,o2,o3]/\Kp h0 hs/\hs[l]?=some (.lst us)/\Paired (DN hs) us (Q6 D i)) pk (λw w w r=>by obtain⟨_,_,_,_,_,kp,_⟩:=r;exact kp _ _ hk)
  (λi x v hx q Z hs n=>by
   obtain⟨ii,j,vs,e',hii,hj,pv,_⟩:=q;obtain⟨l,us,o2,o3,e,kp,hl,pu⟩:=n
   subst e e';have eu:=Qd pu;have ev:=Qd pv;have l1:=ZZ (i:=i+1) ll;rw[Zk hx,Xs]at l1;have kq:Kp hs (hs++[O.lst (us++vs)]):=Kp.app _ _
   refine⟨[some u,sR l,some x.1,sR j],_,_,by simp only[tgt,kp _ _ hii,We,Wi],QJ (Qa7 (Yu (Qc rfl) (Qc rfl) (show opU .Add _ _ _=_ from Qa3 hl (kp _ _ hj) (by lia)))),_,_,_,_,rfl,kp.trans kq,at0,?_⟩
   rw[Zk hx]
   exact Zt (Qb (λw w=>DN.kp kq) pu) (Qb (λw w=>DN.kp (kp.trans kq)) pv)) ⟨_,_,_,_,rfl,Kp.app _ _,at0,by rw[e0];exact Zt (Qb (λw w=>ZE) pb) (Qb (λw w=>ZE) po)⟩
 obtain⟨h3,p,kvs,g3,k3,lp,hp,sd⟩:=CM l h2 us (Qy D) hl pu ll;refine⟨h3,p,kvs,?_,k2.trans k3,Wd k2.len lp,hp,sd⟩
 exact(congrArg fin ((Zx (Yu (YL rfl (sb T h0 (Kp.refl _)).1) (YL rfl (sb T h0 (Kp.refl _)).2.2) (show opU .Add _ _ _=_ from Qa3 hb ho (by lia)))).trans (QT (QU (ZQ (YL rfl (sb T _ (Kp.app h0 _)).2.1) (Qr hk)) g1)))).trans (Yb (Yn rfl g3))
noncomputable def ptH:List S:=[(.put (.var 1) (.var 2) (.c (.bl true)))]
noncomputable def QqX:S:=(.loop (.name 2) (.seq (.op .Add (.ix (.var 0) (.c (.int 1 0))) (.ix (.var 0) (.c (.int 3 0))))) ptH)
noncomputable def QqW:S:=(.loop (.pair 3 4) (.seq (.ix (.var 0) (.c (.int 2 0)))) [(.loop (.name 2) (.seq (.var 4)) ptH)])
def QmT:b19=[(.set 1 .dnewT),QqX,QqW,(.ret (.var 1))]:=rfl
def Qrw:Qa (tbG xx s) (m+1) 19 [a] hs=fin (exs (tbG xx s) (Qa (tbG xx s) m) dd b19 [some a,none,none,none,none] hs):=rfl
def Qfr{D:Wb}(dw:DW h0 u D)(ll:(Qy D).length<=900000):
  ∃h2 p kvs,Qa (tbG xx s) (m+1) 19 [u] h0=some (.ref p,h2)/\Kp h0 h2/\h0.length<=p/\h2[p]?=some (.dct kvs)/\SDk kvs (Qy D):=by
 obtain⟨b,k,o,rb,rk,ro,sb,hb,hk,ho,pb,pk,po⟩:=Qkt dw;rw[Qrw,QmT];show ∃h2 p kvs,fin (exs (tbG xx s) (Qa (tbG xx s) m) 100 _ _ _)=_/\_;generalize Qa (tbG xx s) m=cf;generalize tbG xx s=T;have eb:=Qd pb;have eo:=Qd po;have ek:=Qd pk;have l0:=ZZ (i:=0) ll
 have e0:Q6 D 0=D.lie++D.off:=by simp[Q6]
 have l0':=l0;rw[e0,Xs]at l0';generalize hA:h0++[O.dct []]=A
 have kA:Kp h0 A:=by rw[<-hA];exact Kp.app _ _
 have hpA:A[h0.length]?=some (.dct []):=by rw[<-hA];exact at0
 have kB:Kp A (A++[O.lst (rb++ro)]):=Kp.app _ _
 obtain⟨o2,kv1,g1,sd1⟩:=YE (T:=T) (cf:=cf) (d:=91) (l:=A.length) (iD:=1) (iN:=2) (hs:=A++[O.lst (rb++ro)]) (us:=rb++ro) (nms:=Q6 D 0) (L:=[]) (Z:=[some u,sR h0.length,none,none,none]) rfl (by decide) (by simp) (kB _ _ hpA) at0 (by rw[e0];exact Zt (Qb (λz z=>DN.kp (kA.trans kB)) pb) (Qb (λz z=>DN.kp (kA.trans kB)) po)) Qau (by simpa using l0)
 rw[Vc]at sd1
 have lA:h0.length<A.length:=by rw[<-hA];simp
 have kC:Kp h0 ((A++[O.lst (rb++ro)]).set h0.length (.dct kv1)):=(kA.trans kB).put (Xg _)
 have hpC:((A++[O.lst (rb++ro)]).set h0.length (.dct kv1))[h0.length]?=some (.dct kv1):=Xz (by simp;lia)
 obtain⟨ρ2,h2,g2,⟨q2,q3,q4,kv2,rfl,k2,hp2,sd2⟩⟩:=Qeq (T:=T) (l:=k) (t:=.pair 3 4) (body:=exs T cf 96 [(.loop (.name 2) (.seq (.var 4)) ptH)]) (Z:=[some u,sR h0.length,o2,none,none]) (λi Z hs=>∃q2 q3 q4 kv,Z=[some u,sR h0.length,q2,q3,q4]/\Kp h0 hs/\hs[h0.length]?=some (.dct kv)/\SDk kv (Q6 D i)) pk (λz z z y=>by obtain⟨_,_,_,_,_,kp,_⟩:=y;exact kp _ _ hk)
  (λi x v hx w Z hs r=>by
   obtain⟨ii,j,vs,e',hii,hj,pv,_⟩:=w;obtain⟨q2,q3,q4,kv,e,kp,hp,sd⟩:=r
   subst e e';have l1:=ZZ (i:=i+1) ll;rw[Zk hx,Xs]at l1
   obtain⟨o5,kv',g,sd'⟩:=YE (T:=T) (cf:=cf) (d:=88) (l:=j) (iD:=1) (iN:=2) (hs:=hs) (L:=Q6 D i) (Z:=[some u,sR h0.length,q2,some x.1,sR j]) rfl (by decide) (by simp) hp (kp _ _ hj) (Qb (λz z=>DN.kp kp) pv) sd l1
   exact⟨[some u,sR h0.length,q2,some x.1,sR j],_,_,by simp only[tgt,kp _ _ hii,We,Wi],QJ (QU (ZQ (Qc rfl) (kp _ _ hj)) g),_,_,_,kv',rfl,kp.put (Xg _),Xz (Xc.mp hp).1,by rw[Zk hx];exact sd'⟩) ⟨_,_,_,_,rfl,kC,hpC,sd1⟩
 refine⟨h2,h0.length,kv2,?_,k2,Xg _,hp2,sd2⟩
 exact(congrArg fin ((Zx (show ev T cf 98 .dnewT _ h0=some (.ref h0.length,A) by rw[QcF,hA])).trans ((QT (QU (ZQ (Yu (YL rfl (sb T _ kA).1) (YL rfl (sb T _ kA).2.2) (show opU .Add _ _ _=_ from Qa3 (kA _ _ hb) (kA _ _ ho) (by lia))) at0) g1)).trans (QT (QU (ZQ (YL rfl (sb T _ kC).2.1) (kC _ _ hk)) g2))))).trans (Yb (Qc rfl))
noncomputable def Yi(F:Fu)(H N acc:List Nm)(a:Nm):Bool:=decide (a∈N)||(!decide (a∈H)&&(F a).all λb=>decide (b∈acc))
noncomputable def Yq(F:Fu)(H N acc:List Nm)(a:Nm):List Nm:=if Yi F H N acc a=true then acc++[a]else acc
noncomputable def fal(F:Fu)(H N:List Nm)(l:List Nm):List Nm:=l.foldl (Yq F H N) []
def KpX(p:Nat)(hs h2:Hs):Prop:=∀(i:Nat) o,i≠p->hs[i]?=some o->h2[i]?=some o
def KpX.trans{a b c:Hs}(h:KpX p a b)(h':KpX p b c):KpX p a c:=λi o n e=>h' i o n (h i o n e)
def KpX.app{a r:Hs}:KpX p a (a++r):=λi o z e=>Qr e
theorem KpX.set{a:Hs}{x:O}:KpX p a (a.set p x):=λi o n e=>by rw[Xu (Wr n)];exact e
def KpX.refl{a:Hs}:KpX p a a:=λz z z e=>e
def KpX.tk{a b:Hs}{kv:List (List U×U)}(h:KpX p a b)(hp:a[p]?=some (.dct kv)):TK a b:=λi us e=>h i _ (λz=>by rw[z,hp]at e;cases e) e
theorem KpX.lst{a b:Hs}{kv:List (List U×U)}(h:KpX p a b)(hp:a[p]?=some (.dct kv))(e:a[i]?=some (.lst us)):b[i]?=some (.lst us):=h i _ (λz=>by rw[z,hp]at e;cases e) e
def KpX.df{a b:Hs}{kv:List (List U×U)}{K:Ky}{f:Fu}(h:KpX p a b)(hp:a[p]?=some (.dct kv))(d:DF a K f):DF b K f :=
 ⟨d.ky,d.pl,λq m=>by obtain⟨us,x,y⟩:=d.ls q m;exact⟨us,h.lst hp x,Qb (λz z=>DN.mono (h.tk hp)) y⟩⟩
def KpX.kp{a b:Hs}(h:KpX p a b)(k:Kp h0 a)(l:h0.length<=p):Kp h0 b:=λi o e=>h i o (λz=>by have:=(Xc.mp e).1;lia) (k i o e)
def QjT{bs acc:List Nm}(l8:Z.length=8)(r7:Z[7]?=some (sR p7))(v:ev T cf (d+3) e Z hs=some (.ref j,hs))(hj:hs[j]?=some (.lst us))(pu:Paired (DN hs) us bs)(h7:hs[p7]?=some (.dct kv7))(s7:SDk kv7 acc)(l:bs.length<=900000):
  ev T cf (d+4) (.comp (.seq e) false none (.cmp .In (.var 8) (.var 7))) Z hs=some (.ref hs.length,hs++[O.lst (bs.map λb=>U.bl (decide (b∈acc)))]):=by
 obtain⟨vs,h2,g1,rfl,rfl⟩:=Qba (el:=.cmp .In (.var 8) (.var 7)) v (λi ac h=>h=hs/\ac=(bs.take i).map λb=>U.bl (decide (b∈acc))) pu l (λy y y z=>z.1▸hj)
  (λi b u hb du ac h x=>by
   obtain⟨e1,e2⟩:=x
   subst e1 e2
   have r8:(Z++[some u])[8]?=some (some u):=by rw[<-l8];simp
   have r7':(Z++[some u])[7]?=some (sR p7):=by rw[Xv (by lia)];exact r7
   refine⟨.bl (decide (b∈acc)),_,?_,rfl,?_⟩
   ·simp only[Qam,Qu,r8,r7',Qi,QgD h7 s7 du,Option.map]
   ·rw[Vl,hb]
    simp) ⟨rfl,by simp⟩
 rw[Vs]at g1;exact g1
theorem Qcz{α:Type}{f:α->Bool}:∀l:List α,Y5 (l.map λb=>U.bl (f b))=some (l.map f)
 |[]=>rfl
 |a::l=>by simp only[Xo,Y5,Qcz l,Option.map]
noncomputable def QnF:E:=(.or (.cmp .In (.var 3) (.var 6)) (.and (.cmp .NotIn (.var 3) (.var 5)) (.bi .all [(.comp (.seq (.ix (.var 4) (.var 3))) false none (.cmp .In (.var 8) (.var 7)))])))
noncomputable def bdF:List S:=[(.ite QnF [(.put (.var 7) (.var 3) (.c (.bl true)))] [])]
def QnK{b:Bi}{k:Bool}(e:ev T cf d (.bi b es) Z hs=some (.bl k,h1)):evT T cf (d+1) (.bi b es) Z hs=some (k,h1):=by
 rw[show evT T cf (d+1) (.bi b es) Z hs=bd (ev T cf d (.bi b es) Z hs) λu h1=>(YB T u h1).map λc=>(c,h1)from rfl,e];rfl
def QgN{p4 p5 p6:Nat}{K:Ky}{F:Fu}{H N acc:List Nm}{kv5 kv6:List (List U×U)}{a:Nm}(l8:Z.length=8)(r3:Z[3]?=some (some u))(r4:Z[4]?=some (sR p4))(r5:Z[5]?=some (sR p5))(r6:Z[6]?=some (sR p6))(r7:Z[7]?=some (sR p7))
  (hu:DN hs u a) (h4:hs[p4]?=some (.dct (kv K))) (df:DF hs K F) (ma:a∈K.map (·.1)) (h5:hs[p5]?=some (.dct kv5)) (s5:SDk kv5 H) (h6:hs[p6]?=some (.dct kv6)) (s6:SDk kv6 N) (h7:hs[p7]?=some (.dct kv7)) (s7:SDk kv7 acc) (lF:(F a).length<=900000):
  ∃r,evT T cf (d+12) QnF Z hs=some (Yi F H N acc a,hs++r):=by
 have i6:=QgD (T:=T) h6 s6 hu;have n5:=Qec (T:=T) h5 s5 hu;have t6:∀d,evT T cf (d+3) (.cmp .In (.var 3) (.var 6)) Z hs=some (decide (a∈N),hs):=λd=>QK (Qc r3) (Qc r6) i6;have t5:∀d,evT T cf (d+3) (.cmp .NotIn (.var 3) (.var 5)) Z hs=some (!decide (a∈H),hs):=λd=>QK (Qc r3) (Qc r5) n5;unfold QnF;by_cases c1:a∈N
 ·refine⟨[],?_⟩
  rw[QfK,t6 (d+8),Qi,if_pos (by simp[c1])]
  simp[Yi,c1]
 ·by_cases c2:a∈H
  ·refine⟨[],?_⟩
   rw[QfK,t6 (d+8),Qi,if_neg (by simp[c1]),Qao,t5 (d+7),Qi,if_neg (by simp[c2])]
   simp[Yi,c1,c2]
  ·obtain⟨j,mj⟩:=Qey ma;obtain⟨us,hj,pu⟩:=df.ls _ mj;have sb:=Qis (T:=T) h4 df.ky mj hu
   have vc:=QjT (T:=T) (cf:=cf) (d:=d+4) l8 r7 (show ev T cf (d+7) (.ix (.var 4) (.var 3)) Z hs=some (.ref j,hs) by simp only[y_ix,Qu,r4,r3,Qi,sb,Option.map]) hj pu h7 s7 lF
   refine⟨[O.lst ((F a).map λb=>U.bl (decide (b∈acc)))],?_⟩
   have al:ev T cf (d+9) (.bi .all [(.comp (.seq (.ix (.var 4) (.var 3))) false none (.cmp .In (.var 8) (.var 7)))]) Z hs=some (.bl ((F a).all λb=>decide (b∈acc)),hs++[O.lst ((F a).map λb=>U.bl (decide (b∈acc)))]):=by
    rw[y_bi];simp only[evs,vc,Qi];show(QB T (.ref hs.length) _).bind _=_
    have e0:QB T (.ref hs.length) (hs++[O.lst ((F a).map λb=>U.bl (decide (b∈acc)))])=some ((F a).map λb=>U.bl (decide (b∈acc))):=by simp only[QB,at0]
    simp only[e0,Option.bind,Qcz,Option.map,List.all_map,Function.comp,id];rfl
   rw[QfK,t6 (d+8),Qi,if_neg (by simp[c1]),Qao,t5 (d+7),Qi,if_pos (by simp[c2]),QnK al]
   simp[Yi,c1,c2]
def QgM{p4 p5 p6:Nat}{K:Ky}{F:Fu}{H N acc:List Nm}{kv5 kv6:List (List U×U)}{a:Nm}(l8:Z.length=8)(r3:Z[3]?=some (some u))(r4:Z[4]?=some (sR p4))(r5:Z[5]?=some (sR p5))(r6:Z[6]?=some (sR p6))(r7:Z[7]?=some (sR p7))
  (hu:DN hs u a) (h4:hs[p4]?=some (.dct (kv K))) (df:DF hs K F) (ma:a∈K.map (·.1)) (h5:hs[p5]?=some (.dct kv5)) (s5:SDk kv5 H) (h6:hs[p6]?=some (.dct kv6)) (s6:SDk kv6 N) (h7:hs[p7]?=some (.dct kv7)) (s7:SDk kv7 acc) (lF:(F a).length<=900000) (la:acc.length<900000):
  ∃h2 kv',exs T cf (d+14) bdF Z hs=some (.next,Z,h2)/\KpX p7 hs h2/\h2[p7]?=some (.dct kv')/\SDk kv' (Yq F H N acc a)/\(a∉acc->kv7.map (·.1)=acc.map nmK->kv'.map (·.1)=(Yq F H N acc a).map nmK):=by
 obtain⟨r,t⟩:=QgN (T:=T) (cf:=cf) (d:=d) l8 r3 r4 r5 r6 r7 hu h4 df ma h5 s5 h6 s6 h7 s7 lF;have lp:=(Xc.mp h7).1;have h7':(hs++r)[p7]?=some (.dct kv7):=Qr h7
 have lk:kv7.length<1000000:=by have:=s7.len;lia
 cases q:Yi F H N acc a with
 |true=>
  rw[q]at t
  have pt:JI (.ref p7) u (.bl true) (hs++r)=some ((hs++r).set p7 (.dct (ZA kv7 (nmK a) (.bl true)))):=by
   simp only[JI,h7',JZ,lk,Wm,QaQ (ZE hu),Wy]
  refine⟨(hs++r).set p7 (.dct (ZA kv7 (nmK a) (.bl true))),ZA kv7 (nmK a) (.bl true),?_,KpX.app.trans KpX.set,Xz (by simp;lia),?_,λna ek=>?_⟩
  ·refine QJ (d:=d+12) ?_;rw[YJ,t,Qi,if_pos rfl];refine QJ (d:=d+10) ?_;simp only[y_put,y_c,Qu,r7,r3,Qi,pt,Option.map]
  ·unfold Yq;rw[q,if_pos rfl];exact QdM s7
  ·rw[Qbl (by rw[ek];intro m;obtain⟨b,mb,e⟩:=Wl.mp m;rw[YU e]at mb;exact na mb)]
   unfold Yq;rw[q,if_pos rfl,Va,Va,ek];rfl
 |false=>
  rw[q]at t;refine⟨hs++r,kv7,?_,KpX.app,h7',?_,λz ek=>?_⟩
  ·refine QJ (d:=d+12) ?_
   rw[YJ,t,Qi,if_neg (by decide),Qal]
  ·unfold Yq
   rw[q,if_neg (by decide)]
   exact s7
  ·unfold Yq
   rw[q,if_neg (by decide)]
   exact ek
noncomputable def rs5:S:=(.rse 3 [(.c (.str [97,32,108,111,111,112,32,105,115,32,108,101,116,32,102,97,108,108,32,116,104,97,116,32,100,111,101,115,32,110,111,116,32,108,105,101,32,111,110,32,97,32,110,101,101,100,108,101]))])
noncomputable def Qg8:List S:=[(.ite (.cmp .NotIn (.var 3) (.var 2)) [rs5] [])]
noncomputable def Qoy:S:=(.loop (.name 3) (.seq (.var 1)) Qg8)
noncomputable def QqY:S:=(.loop (.name 3) (.seq (.call 2 [(.var 0)])) bdF)
def Qj9:b5=[(.set 2 (.call 4 [(.ix (.var 0) (.c (.int 1 0)))])),Qoy,(.set 4 (.call 0 [(.var 0)])),(.set 5 (.call 3 [(.var 0)])),(.set 6 (.call 4 [(.var 1)])),(.set 7 .dnewT),QqY,(.ret (.var 7))]:=rfl
def Qqk{b:U}:Qa (tbG xx s) (m+1) 5 [a,b] hs=fin (exs (tbG xx s) (Qa (tbG xx s) m) dd b5 [some a,some b,none,none,none,none,none,none] hs):=rfl
structure Bnd(D:Wb):Prop where
 lr:D.rows.length<=100000
 ls:szR D.rows<=100000
 lw:wtR D.rows<=900000
 lh:(Qy D).length<=900000
 mp:∀row∈D.rows,∀lp∈row,∀a∈lp.ps,a∈upN D.rows
 od:Ord D.rows
noncomputable def FD(D:Wb):Fu:=Qkw D.rows F0
def Qia{D:Wb}(b:Bnd D)(a:Nm):(FD D a).length<=900000:=by
 have:=Z3 (g:=λr row f=>Qkf r row f) (wt:=wtL) (λi row f a=>Qai i row f a) D.rows 0 F0 a;simp only[F0,W5,Vj]at this;exact Wd this b.lw
def Qeu{D:Wb}(b:Bnd D):D.lie.length<=900000:=by
 have:=b.lh;unfold Qy Q6 at this;simp only[Xs]at this;lia
def Qgp{F:Fu}{H N acc:List Nm}{a:Nm}:(Yq F H N acc a).length<=acc.length+1:=by
 unfold Yq;split<;>simp
theorem QbD{F:Fu}{H N:List Nm}:∀(l acc:List Nm),(l.foldl (Yq F H N) acc).length<=acc.length+l.length
 |[],acc=>by simp
 |a::l,acc=>by
  have h1:=QbD (F:=F) (H:=H) (N:=N) l (Yq F H N acc a);have h2:=Qgp (F:=F) (H:=H) (N:=N) (acc:=acc) (a:=a);simp only[Vo,Wa];lia
def Qh3{D:Wb}(b:Bnd D):(dnN D.rows).length<=100000:=by rw[Qii,QbV];exact b.ls
theorem Z1{F:Fu}{H N:List Nm}{b:Nm}:∀(l acc:List Nm),b∉l->(b∈l.foldl (Yq F H N) acc↔b∈acc)
 |[],acc,_=>U7
 |a::l,acc,h=>by
  have n1:b≠a:=λz=>h (by simp[z])
  rw[Vo,Z1 l _ λm=>h (Xl _ m)];unfold Yq;split
  ·simp[n1]
  ·exact U7
theorem QeP{F:Fu}{H N:List Nm}{b:Nm}:∀(l acc:List Nm),b∈acc->b∈l.foldl (Yq F H N) acc
 |[],acc,h=>h
 |a::l,acc,h=>by
  rw[Vo];refine QeP l _ ?_;unfold Yq;split
  ·exact Uf _ h
  ·exact h
def Ql8{F:Fu}{H N acc:List Nm}{a:Nm}(h:Yi F H N acc a=true):Yq F H N acc a=acc++[a]:=by unfold Yq;rw[if_pos h]
def Ql9{F:Fu}{H N acc:List Nm}{a:Nm}(h:Yi F H N acc a=false):Yq F H N acc a=acc:=by unfold Yq;rw[h,if_neg (by decide)]
def QeR{F:Fu}{H N l:List Nm}{b:Nm}(h:b∈fal F H N l):b∈l:=by
 refine Classical.byContradiction λn=>?_;have:=(Z1 l [] n).mp h;simp at this
def Qg4{D:Wb}{N:List Nm}(dw:DW h0 u D)(bn:Bnd D)(hl:h0[ln]?=some (.lst us))(pu:Paired (DN h0) us N)(lN:N.length<=900000)(hN:∀a∈N,a∈D.lie):
  ∃h2 p kvs,Qa (tbG xx s) (m+3) 5 [u,.ref ln] h0=some (.ref p,h2)/\Kp h0 h2/\h0.length<=p/\h2[p]?=some (.dct kvs)/\kvs.map (·.1)=(fal (FD D) (Qy D) N (dnN D.rows)).map nmK:=by
 obtain⟨b,k,o,rb,rk,ro,sb,hb,hk,ho,pb,pk,po⟩:=Qkt dw;obtain⟨h1,p2,kv2,g1,k1,lp2,hp2,sd2⟩:=YH (xx:=xx) (s:=s) (m:=m+1) hb pb (Qeu bn)
 obtain⟨h3,p4,K,g3,f3,e3⟩:=Qfs (xx:=xx) (s:=s) (m:=m) (dw.kp k1) bn.lr (by have:=bn.ls;lia) bn.lw bn.mp
 have k3:=k1.trans f3.kp;obtain⟨h4,p5,kv5,g4,k4,lp5,hp5,sd5⟩:=Qg3 (xx:=xx) (s:=s) (m:=m) (dw.kp k3) bn.lh;have k03:=k3.trans k4;obtain⟨h5,p6,kv6,g5,k5,lp6,hp6,sd6⟩:=YH (xx:=xx) (s:=s) (m:=m+1) (k03 _ _ hl) (Qb (λy y=>DN.kp k03) pu) lN;have k05:=k03.trans k5;have k6:Kp h5 (h5++[O.dct []]):=Kp.app _ _
 obtain⟨h6,ds,g6,k7,hd,pd⟩:=Qh9 (xx:=xx) (s:=s) (m:=m+1) (dw.kp (k05.trans k6)) bn.lr (by have:=bn.ls;lia)
 have h7p:h6[h5.length]?=some (.dct []):=k7 _ _ at0;have k56:=k6.trans k7;have eN:=Qd pu;have ed:=Qd pd;have ld:=Qh3 bn;rw[Qqk,Qj9];show ∃h2 p kvs,fin (exs (tbG xx s) (Qa (tbG xx s) (m+2)) 100 _ _ _)=_/\_;generalize Qa (tbG xx s) (m+2)=cf at g1 g3 g4 g5 g6 ⊢;generalize tbG xx s=T at *
 obtain⟨ρ2,h2',q1,⟨o3,rfl⟩,rfl⟩:=Qeq (T:=T) (l:=ln) (t:=.name 3) (body:=exs T cf 97 Qg8) (Z:=[some u,sR ln,sR p2,none,none,none,none,none]) (hs:=h1) (λi Z h=>(∃o,Z=[some u,sR ln,sR p2,o,none,none,none,none])/\h=h1) pu (λy y y z=>z.2▸k1 _ _ hl)
  (λi a v ha dv Z h x=>by
   obtain⟨⟨o,e⟩,e'⟩:=x
   subst e e'
   exact⟨_,_,h,rfl,QJ (Qid (QK (Qc rfl) (Qc rfl) (Qec hp2 sd2 (dv.kp k1))) (by simp[hN a (X0 ha)])),⟨_,rfl⟩,rfl⟩) ⟨⟨_,rfl⟩,rfl⟩
 have l4:p4<h5.length:=by have:=(Xc.mp f3.di).1;have:=(k4.trans k5).len;lia
 have l5:p5<h5.length:=by have:=(Xc.mp hp5).1;have:=k5.len;lia
 have l6:p6<h5.length:=(Xc.mp hp6).1;have K4:=(k4.trans k5).trans k56;have d4:=f3.df.kp K4
 obtain⟨ρ7,h7,q7,⟨o7,rfl⟩,kx,kv7,hp7,_,sd7⟩:=Qeq (T:=T) (l:=(h5++[O.dct []]).length) (t:=.name 3) (body:=exs T cf 92 bdF) (Z:=[some u,sR ln,sR p2,o3,sR p4,sR p5,sR p6,sR h5.length]) (hs:=h6) (λi Z h=>(∃o,Z=[some u,sR ln,sR p2,o,sR p4,sR p5,sR p6,sR h5.length])/\KpX h5.length h6 h/\∃kv,h[h5.length]?=some (.dct kv)/\SDk kv (fal (FD D) (Qy D) N ((dnN D.rows).take i))/\kv.map (·.1)=(fal (FD D) (Qy D) N ((dnN D.rows).take i)).map nmK) pd (λy y y z=>z.2.1.lst h7p hd)
  (λi a v ha dv Z h w=>by
   obtain⟨⟨o,e⟩,kx,kv,hp,sd,ek⟩:=w
   subst e;have hi:=(Xc.mp ha).1;have la:=QbD (F:=FD D) (H:=Qy D) (N:=N) ((dnN D.rows).take i) [];rw[Ve]at la
   obtain⟨h',kv',t1,t2,t3,t4,t5⟩:=QgM (T:=T) (cf:=cf) (d:=78) (Z:=[some u,sR ln,sR p2,some v,sR p4,sR p5,sR p6,sR h5.length]) rfl rfl rfl rfl rfl rfl (dv.mono (kx.tk h7p)) (kx _ _ (by lia) (K4 _ _ f3.di)) (kx.df h7p d4) (by rw[e3];exact X0 ha) (kx _ _ (by lia) ((k5.trans k56) _ _ hp5)) sd5 (kx _ _ (by lia) (k56 _ _ hp6)) sd6 hp sd (Qia bn a) (by simp only[fal,W5,Vj]at la ⊢;lia)
   refine⟨_,_,h',rfl,t1,⟨_,rfl⟩,kx.trans t2,kv',t3,?_⟩
   have nt:a∉fal (FD D) (Qy D) N ((dnN D.rows).take i):=λm=>by
    have nd:=Qef D.rows;rw[<-List.take_append_drop i (dnN D.rows),Vm]at nd;refine nd.2.2 a (QeR m) a ?_ rfl;rw[List.mem_iff_getElem?]
    exact⟨0,by rw[Ur];exact ha⟩
   have t5:=t5 nt ek;unfold fal at t4 t5 ⊢;rw[Vl,ha,Uy]
   exact⟨t4,t5⟩) ⟨⟨_,rfl⟩,KpX.refl,[],h7p,by simpa[fal]using Qau,by simp[fal]⟩
 rw[Vs]at sd7;refine⟨h7,h5.length,kv7,?_,kx.kp (k05.trans k56) k05.len,k05.len,hp7,sd7⟩;exact(congrArg fin ((Zx (Yd (e_1 (YL rfl (sb T h0 (Kp.refl _)).1)) g1)).trans ((QT (QU (ZQ (Qc rfl) (k1 _ _ hl)) q1)).trans ((Zx (Yn rfl g3)).trans ((Zx (Yn rfl g4)).trans ((Zx (Yn rfl g5)).trans ((Zx QcF).trans (QT (QU (ZQ (Yn rfl g6) hd) q7))))))))).trans (Yb (Qc rfl))
def Qky{r:List S}{ρ1:Rho}(e:ex T cf d st Z hs=some (.next,ρ1,h1)):exsX T cf (d+1) (st::r) Z hs=exsX T cf d r ρ1 h1:=by
 rw[exsX,e]
def QfH{r:List S}(e:ex T cf d st Z hs=none):exsX T cf (d+1) (st::r) Z hs=exX T cf d st Z hs:=by
 rw[exsX,e]
def Qcc{r:List S}(e:ex T cf d st Z hs=none):exs T cf (d+1) (st::r) Z hs=none:=by
 rw[QI,e]
def Qnt{x:List Nat}:ex (tbG xx s) cf (d+2) (.rse 3 [(.c (.str x))]) Z hs=none/\exX (tbG xx s) cf (d+2) (.rse 3 [(.c (.str x))]) Z hs=some (3,hs):=by
 refine⟨by rw[ex],?_⟩
 rw[exX];have h:(tbG xx s).ers.contains 3=true:=rfl;simp only[evs,y_c,Qi]
 rw[if_pos ⟨h,by simp[tbG,tbX,Qqg]⟩]
def Qqt{x:List Nat}{t:E}(e:evT (tbG xx s) cf (d+4) t Z hs=some (true,hs)):ex (tbG xx s) cf (d+5) (.ite t [(.rse 3 [(.c (.str x))])] []) Z hs=none/\exX (tbG xx s) cf (d+5) (.ite t [(.rse 3 [(.c (.str x))])] []) Z hs=some (3,hs):=by
 have z:=Qnt (xx:=xx) (s:=s) (cf:=cf) (d:=d+1) (x:=x) (Z:=Z) (hs:=hs);refine⟨?_,?_⟩
 ·rw[YJ,e,Qi,if_pos rfl,Qcc z.1]
 ·rw[exX,e];simp only;rw[QfH z.1,z.2]
theorem Qhj{s:List U}{cf:Cf}{d ln p2:Nat}{u:U}{h1:Hs}{us:List U}{lie:List Nm}{kv2:List (List U×U)}(hl:h1[ln]?=some (.lst us))(hp2:h1[p2]?=some (.dct kv2))(sd2:SDk kv2 lie):
  ∀(vs:List U) (N:List Nm) (i k:Nat) (o:Option U),us.drop i=vs->Paired (DN h1) vs N->(∃a∈N,a∉lie)->vs.length<k ->
  ZN (tbG xx s) (.seqL (.ref ln)) (.name 3) (exs (tbG xx s) cf (d+6) Qg8) k i [some u,sR ln,sR p2,o,none,none,none,none] h1=none /\
  QfG (tbG xx s) (.seqL (.ref ln)) (.name 3) (exs (tbG xx s) cf (d+6) Qg8) (exsX (tbG xx s) cf (d+6) Qg8) k i [some u,sR ln,sR p2,o,none,none,none,none] h1=some (3,h1)
 |[],N,i,k,o,hd,pr,⟨a,ma,_⟩,lk=>by cases pr;simp at ma
 |v::vs,N,i,0,o,hd,pr,hx,lk=>by simp at lk
 |v::vs,N,i,k+1,o,hd,pr,hx,lk=>by
  cases pr with
  |cons dv pr=>
   rename_i a N
   have e:us[i]?=some v:=by
    have:=Ur (xs:=us) (i:=i) (j:=0);rw[hd]at this;simpa using this.symm
   have hd':us.drop (i+1)=vs:=by rw[<-Si,hd];rfl
   have it:itm (tbG xx s) (.seqL (.ref ln)) i h1=some (some (.one v)):=by simp only[itm,QB,hl,Option.map,e]
   have nn:=Qec (T:=tbG xx s) hp2 sd2 dv;have tt:∀d,evT (tbG xx s) cf (d+3) (.cmp .NotIn (.var 3) (.var 2)) [some u,sR ln,sR p2,some v,none,none,none,none] h1=some (!decide (a∈lie),h1):=λd=>QK (Qc rfl) (Qc rfl) nn;by_cases c:a∈lie
   ·have hx':∃a∈N,a∉lie:=by
     obtain⟨b,mb,nb⟩:=hx
     rcases X7.mp mb with rfl|mb
     ·exact absurd c nb
     ·exact⟨b,mb,nb⟩
    obtain⟨g1,g2⟩:=Qhj (xx:=xx) (s:=s) (cf:=cf) (d:=d) (u:=u) hl hp2 sd2 vs N (i+1) k (some v) hd' pr hx' (by simp at lk;lia)
    have b:exs (tbG xx s) cf (d+6) Qg8 [some u,sR ln,sR p2,some v,none,none,none,none] h1=some (.next,[some u,sR ln,sR p2,some v,none,none,none,none],h1):=by
     refine QJ (d:=d+4) ?_
     rw[YJ,tt (d+1),Qi,if_neg (by simp[c]),Qal]
    refine⟨?_,?_⟩
    ·simp only[ZN,it,tgt,We,Wi,b];exact g1
    ·simp only[QfG,it,tgt,We,Wi,b];exact g2
   ·have z:=λx=>Qqt (xx:=xx) (s:=s) (cf:=cf) (d:=d) (x:=x) (by rw[tt (d+1)];simp[c]:evT (tbG xx s) cf (d+4) (.cmp .NotIn (.var 3) (.var 2)) [some u,sR ln,sR p2,some v,none,none,none,none] h1=some (true,h1))
    have b1:exs (tbG xx s) cf (d+6) Qg8 [some u,sR ln,sR p2,some v,none,none,none,none] h1=none:=Qcc (z _).1
    have b2:exsX (tbG xx s) cf (d+6) Qg8 [some u,sR ln,sR p2,some v,none,none,none,none] h1=some (3,h1):=by
     unfold Qg8 rs5;rw[QfH (z _).1,(z _).2]
    refine⟨?_,?_⟩
    ·simp only[ZN,it,tgt,We,Wi,b1]
    ·simp only[QfG,it,tgt,We,Wi,b1,b2]
def Qrq{b:U}:Z8 (tbG xx s) (m+1) 5 [a,b] hs=exsX (tbG xx s) (Qa (tbG xx s) m) dd b5 [some a,some b,none,none,none,none,none,none] hs:=rfl
def JC{D:Wb}{N:List Nm}(dw:DW h0 u D)(bn:Bnd D)(hl:h0[ln]?=some (.lst us))(pu:Paired (DN h0) us N)(hN:∃a∈N,a∉D.lie):
  Qa (tbG xx s) (m+3) 5 [u,.ref ln] h0=none/\∃h2,Z8 (tbG xx s) (m+3) 5 [u,.ref ln] h0=some (3,h2)/\Kp h0 h2:=by
 obtain⟨b,k,o,rb,rk,ro,sb,hb,hk,ho,pb,pk,po⟩:=Qkt dw;obtain⟨h1,p2,kv2,g1,k1,lp2,hp2,sd2⟩:=YH (xx:=xx) (s:=s) (m:=m+1) hb pb (Qeu bn)
 have x1:ex (tbG xx s) (Qa (tbG xx s) (m+2)) 99 (.set 2 (.call 4 [(.ix (.var 0) (.c (.int 1 0)))])) [some u,sR ln,none,none,none,none,none,none] h0=some (.next,[some u,sR ln,sR p2,none,none,none,none,none],h1):=by
  refine Qa7 ?_;generalize Qa (tbG xx s) (m+2)=cf at g1 ⊢;simp only[y_call,evs,y_ix,Qu,y_c,Qi,Xh,(sb (tbG xx s) h0 (Kp.refl _)).1,Option.map,g1]
 obtain⟨q1,q2⟩:=Qhj (xx:=xx) (s:=s) (cf:=Qa (tbG xx s) (m+2)) (d:=91) (u:=u) (k1 _ _ hl) hp2 sd2 us N 0 (us.length+1) none rfl (Qb (λz z=>DN.kp k1) pu) hN (by lia)
 have sr:Za (tbG xx s) (ev (tbG xx s) (Qa (tbG xx s) (m+2)) 97) [some u,sR ln,sR p2,none,none,none,none,none] (.seq (.var 1)) h1=some (.seqL (.ref ln),h1):=by
  simp only[Za,Qu,Qi,Xm,Xh,Option.map,Qqu (k1 _ _ hl)]
 have x2:ex (tbG xx s) (Qa (tbG xx s) (m+2)) 98 Qoy [some u,sR ln,sR p2,none,none,none,none,none] h1=none:=QU sr (by rw[Qho (k1 _ _ hl)];exact q1)
 refine⟨?_,h1,?_,k1⟩
 ·rw[Qqk,Qj9];show fin (exs (tbG xx s) (Qa (tbG xx s) (m+2)) 100 _ _ _)=_;rw[QT x1,Qcc x2];rfl
 ·rw[Qrq,Qj9];show exsX (tbG xx s) (Qa (tbG xx s) (m+2)) 100 _ _ _=_;rw[Qky x1,QfH x2,Qoy,exX,sr,Qi,Qho (k1 _ _ hl)];exact q2
def Qo0(rows:List (List Lp)):(dnN rows).Pairwise λx y=>y.1<=x.1:=by
 unfold dnN Ys;rw[List.pairwise_flatten];refine⟨λl ml=>?_,?_⟩
 ·obtain⟨j,_,rfl⟩:=Wl.mp ml;refine List.Pairwise.imp_of_mem ?_ (Qee _ _);intro x y mx my _;rw[(mem_rowN.mp mx).1,(mem_rowN.mp my).1];exact Int.le_refl _
 ·rw[List.pairwise_map];refine List.Pairwise.imp ?_ (Tu (n:=rows.length));intro i j lt x mx y my;rw[(mem_rowN.mp mx).1,(mem_rowN.mp my).1];unfold gD;lia
theorem Qab{T:Tbl}{cf:Cf}{d j iF pF:Nat}{hs:Hs}{us:List U}{L:List Nm}{kvF:List (List U×U)}{Z:Rho}(rF:Z[iF]?=some (sR pF))(hj:hs[j]?=some (.lst us))(hF:hs[pF]?=some (.dct kvF))(sF:SDk kvF L):
  ∀(vs:List U) (bs:List Nm) (i k:Nat) (acc:List U) (out:List Nm),us.drop i=vs->Paired (DN hs) vs bs->vs.length<k->acc.length+vs.length<=1000000->Paired (DN hs) acc out ->
  ∃us',QS T (ev T cf (d+3)) (Z4 (evT T cf (d+3)) (some (.cmp .NotIn (.var Z.length) (.var iF)))) (.seqL (.ref j)) false (.var Z.length) Z k i acc hs=some (us',hs)/\Paired (DN hs) us' (out++bs.filter λb=>!decide (b∈L))
 |vs,bs,i,0,acc,out,_,_,lk,_,_=>by lia
 |[],bs,i,k+1,acc,out,hd,pr,lk,la,pa=>by
  cases pr
  refine⟨acc,?_,by simpa using pa⟩
  have e:us[i]?=none:=by rw[X6];exact Sc.mp hd
  simp[QS,itm,QB,hj,e]
 |v::vs,bs,i,k+1,acc,out,hd,pr,lk,la,pa=>by
  cases pr with
  |cons dv pr=>
   rename_i b bs
   have e:us[i]?=some v:=by
    have:=Ur (xs:=us) (i:=i) (j:=0);rw[hd]at this;simpa using this.symm
   have hd':us.drop (i+1)=vs:=by rw[<-Si,hd];rfl
   rw[Wa]at lk la;have lF:=(Xc.mp rF).1
   have rX:((Z++[none]).set Z.length (some v))[Z.length]?=some (some v):=by simp
   have rF':((Z++[none]).set Z.length (some v))[iF]?=some (sR pF):=by rw[Xu (by lia),Xv lF];exact rF
   have nn:=Qec (T:=T) hF sF dv;have tt:evT T cf (d+3) (.cmp .NotIn (.var Z.length) (.var iF)) ((Z++[none]).set Z.length (some v)) hs=some (!decide (b∈L),hs):=QK (Qc rX) (Qc rF') nn;have vv:ev T cf (d+3) (.var Z.length) ((Z++[none]).set Z.length (some v)) hs=some (v,hs):=Qc rX
   have la':acc.length<1000000:=by lia
   by_cases c:b∈L
   ·obtain⟨us',g1,g2⟩:=Qab (T:=T) (cf:=cf) (d:=d) rF hj hF sF vs bs (i+1) k acc out hd' pr (by lia) (by lia) pa
    refine⟨us',?_,by simpa[c]using g2⟩
    rw[QS];simp only[itm,QB,hj,e,Option.map,tgt,tgN,Qdh,X9,Ww,la',Wm,Z4,tt,Qi,c,decide_true,U6];exact g1
   ·obtain⟨us',g1,g2⟩:=Qab (T:=T) (cf:=cf) (d:=d) rF hj hF sF vs bs (i+1) k (acc++[v]) (out++[b]) hd' pr (by lia) (by simp;lia) (Qv dv pa)
    refine⟨us',?_,by simpa[c]using g2⟩
    rw[QS];simp only[itm,QB,hj,e,Option.map,tgt,tgN,Qdh,X9,Ww,la',Wm,Z4,tt,Qi,c,decide_false,Bool.not_false,vv];exact g1
theorem QbE{F:Fu}{H N:List Nm}:∀(l acc:List Nm),l.Nodup->(∀b∈acc,b∉l)->l.foldl (Yq F H N) acc=acc++l.filter λb=>decide (b∈l.foldl (Yq F H N) acc)
 |[],acc,_,_=>by simp
 |a::l,acc,nd,dj=>by
  have n1:=Vh.mp nd;have na:a∉acc:=λm=>dj a m Xn;rw[Vo]
  cases q:Yi F H N acc a with
  |true=>
   rw[Ql8 q]
   have ih:=QbE (F:=F) (H:=H) (N:=N) l (acc++[a]) n1.2 (λb m m'=>by
    rcases Wo.mp m with m|m
    ·exact dj b m (Xl _ m')
    ·rw[Wh.mp m]at m';exact n1.1 m')
   have ma:a∈l.foldl (Yq F H N) (acc++[a]):=QeP _ _ (by simp)
   rw[U3,if_pos (by simpa using ma)]
   rw[Ue]at ih;exact ih
  |false=>
   rw[Ql9 q];have ih:=QbE (F:=F) (H:=H) (N:=N) l acc n1.2 λb m m'=>dj b m (Xl _ m');have ma:a∉l.foldl (Yq F H N) acc:=λm=>na ((Z1 l acc n1.1).mp m)
   rw[U3,if_neg (by simpa using ma)]
   exact ih
def Qmy{D:Wb}{N:List Nm}:(dnN D.rows).filter (λb=>decide (b∈fal (FD D) (Qy D) N (dnN D.rows)))=fal (FD D) (Qy D) N (dnN D.rows):=by
 have:=QbE (F:=FD D) (H:=Qy D) (N:=N) (dnN D.rows) [] (Qef _) (by simp)
 rw[Vc]at this;exact this.symm
def QeS{D:Wb}(bn:Bnd D){N:List Nm}{a:Nm}(ma:a∈dnN D.rows):
  (a∈Qy D->(a∈N↔a∈fal (FD D) (Qy D) N (dnN D.rows)))/\(a∉Qy D->a∉N->((FD D a).filter (λb=>!decide (b∈fal (FD D) (Qy D) N (dnN D.rows)))=[]↔a∈fal (FD D) (Qy D) N (dnN D.rows))):=by
 obtain⟨pre,post,e⟩:=List.append_of_mem ma;have pw:=Qo0 D.rows;have nd:=Qef D.rows;rw[e]at pw nd ⊢;have n2:=Vm.mp nd;have n3:=Vh.mp n2.2.1
 have hf:∀x,fal (FD D) (Qy D) N (pre++a::post)=x->x=post.foldl (Yq (FD D) (Qy D) N) (Yq (FD D) (Qy D) N (fal (FD D) (Qy D) N pre) a):=λx z=>by rw[<-z];unfold fal;rw[Uy,Vo]
 generalize fal (FD D) (Qy D) N (pre++a::post)=G at hf ⊢;have hf:=hf G rfl;have np:a∉fal (FD D) (Qy D) N pre:=λm=>n2.2.2 a (QeR m) a Xn rfl
 have iq:a∈G↔Yi (FD D) (Qy D) N (fal (FD D) (Qy D) N pre) a=true:=by
  rw[hf,Z1 _ _ n3.1]
  cases q:Yi (FD D) (Qy D) N (fal (FD D) (Qy D) N pre) a with
  |true=>rw[Ql8 q];simp
  |false=>rw[Ql9 q];simpa using np
 have bq:∀b∈FD D a,(b∈G↔b∈fal (FD D) (Qy D) N pre):=λb mb=>by
  have ab:=Qke bn.od mb
  have nb:b∉post:=λm=>by
   have:=(List.pairwise_append.mp pw).2.1;have:=(List.pairwise_cons.mp this).1 b m;lia
  have ne:b≠a:=λz=>by rw[z]at ab;lia
  rw[hf,Z1 _ _ nb];unfold Yq;split
  ·simp[ne]
  ·exact U7
 refine⟨λh=>?_,λh hn=>?_⟩
 ·rw[iq];simp[Yi,h]
 ·rw[iq];simp only[Yi,h,hn,decide_false,Bool.not_false,Bool.true_and,Bool.false_or,Wj,Xq,List.filter_eq_nil_iff,Uc,decide_eq_false_iff_not,Classical.not_not];exact⟨λz b mb=>(bq b mb).mp (z b mb),λz b mb=>(bq b mb).mpr (z b mb)⟩
def QmV:b17=[(.set 2 (.op .Mod (.call 6 [(.var 0),(.c (.int 1 0))]) (.c (.int 4 0)))),(.set 3 (.ix (.var 1) (.c (.int 1 0)))),Qqc,QgE,(.ret Qqi)]:=rfl
def Qry{b:U}:Qa (tbG xx s) (m+1) 17 [a,b] hs=fin (exs (tbG xx s) (Qa (tbG xx s) m) dd b17 [some a,some b,none,none,none] hs):=rfl
theorem Qaa{T:Tbl}{cf:Cf}{d b:Nat}{hs:Hs}{u:U}{y:Int}{ns:List Int}{rb:List U}{L:List Nm}(cell:∀(k:Nat),cf 6 [.scr,.int (k:Int) 0] hs=some (.int (QF ns k) 0,hs))(hb:hs[b]?=some (.lst rb))(pb:Paired (DN hs) rb L)(lb:rb.length<=400000):
  ∀(n i k:Nat) (acc:List U) (out:List Nm),i+n=rb.length->n<k->acc.length<=i->Paired (DN hs) acc out->(∀a∈out,a∈L) ->
  ∃us' out',QS T (ev T cf (d+10)) (Z4 (evT T cf (d+10)) (some Qna)) (.rng 0 rb.length) false (.ix (.var 3) (.var 5)) [some .scr,some u,sI y,sR b,none] k i acc hs=some (us',hs)/\Paired (DN hs) us' out'/\(∀a∈out',a∈L)/\us'.length<=rb.length
 |n,i,0,acc,out,_,lk,_,_,_=>by lia
 |0,i,k+1,acc,out,e,lk,la,pa,ha=>by
  refine⟨acc,out,?_,pa,ha,by lia⟩
  have:¬i<rb.length:=by lia
  simp[QS,itm,this]
 |n+1,i,k+1,acc,out,e,lk,la,pa,ha=>by
  have hi:i<rb.length:=by lia
  obtain⟨v,hv⟩:∃v,rb[i]?=some v:=⟨_,Xe hi⟩;have el:=Qd pb
  obtain⟨a,hA⟩:∃a,L[i]?=some a:=⟨_,Xe (by lia)⟩
  obtain⟨v',hv',dv⟩:=Zu pb hA;rw[hv]at hv';cases hv'
  have la':acc.length<1000000:=by lia
  have ek:(2+(i:Int) % 60)=((2+i % 60:Nat):Int):=by lia
  have sv:QH T (.ref b) (.int (i:Int) 0) hs=some v:=by simp only[QH,hb];exact JB hv
  have tt:evT T cf (d+10) Qna [some .scr,some u,sI y,sR b,none,sI (i:Int)] hs=some (decide (QF ns (2+i % 60) / 3 % 2=y % 2),hs):=by
   unfold Qna
   simp only[Qan,Qam,Qkn,y_call,evs,Qu,y_c,Qi,Xm,Xh,opU,Qkd,gz,md (show(0:Int) < 60 by decide),ek,cell,dvj (show(decide ((0:Int) < 3)&&decide ((3:Int) < 1606938044258990275541962092341162602522202993782792835301376))=true by decide),md (show(0:Int) < 2 by decide),ZC,eq_int,Option.map,YB]
  have vv:ev T cf (d+10) (.ix (.var 3) (.var 5)) [some .scr,some u,sI y,sR b,none,sI (i:Int)] hs=some (v,hs):=by
   simp only[y_ix,Qu,Qi,Xm,Xh,sv,Option.map]
  by_cases c:QF ns (2+i % 60) / 3 % 2=y % 2
  ·obtain⟨us',out',g1,g2⟩:=Qaa (T:=T) (cf:=cf) (d:=d) (u:=u) (y:=y) cell hb pb lb n (i+1) k (acc++[v]) (out++[a]) (by lia) (by lia) (by simp;lia) (Qv dv pa) (λx mx=>by
    rcases Wo.mp mx with mx|mx
    ·exact ha x mx
    ·rw[Wh.mp mx];exact X0 hA)
   refine⟨us',out',?_,g2⟩;rw[QS];simp only[itm,hi,Wm,Option.map,tgt,tgN,Qdh,X9,Ww,la',Z4,Wa,W5,Vj,Nat.reduceAdd,Tx,Vc,We,Wi,Int.zero_add,tt,Qi,c,decide_true,vv];exact g1
  ·obtain⟨us',out',g1,g2⟩:=Qaa (T:=T) (cf:=cf) (d:=d) (u:=u) (y:=y) cell hb pb lb n (i+1) k acc out (by lia) (by lia) (by lia) pa ha
   refine⟨us',out',?_,g2⟩;rw[QS];simp only[itm,hi,Wm,Option.map,tgt,tgN,Qdh,X9,Ww,la',Z4,Wa,W5,Vj,Nat.reduceAdd,Tx,Vc,We,Wi,Int.zero_add,tt,Qi,c,decide_false];exact g1
def Qj0{D:Wb}(dw:DW h0 u D)(ll:D.lie.length<=400000):
  ∃h2 p us N,Qa (tbG xx (ns.map λn=>U.int n 0)) (m+2) 17 [.scr,u] h0=some (.ref p,h2)/\Kp h0 h2/\h2[p]?=some (.lst us)/\Paired (DN h2) us N/\(∀a∈N,a∈D.lie)/\N.length<=2*D.lie.length:=by
 obtain⟨b,k,o,rb,rk,ro,sb,hb,hk,ho,pb,pk,po⟩:=Qkt dw;have el:=Qd pb;have cell:=λ(k:Nat) (h:Hs)=>Qft (xx:=xx) (ns:=ns) (m:=m) (k:=k) (hs:=h);rw[Qry,QmV];show ∃h2 p us N,fin (exs (tbG xx (ns.map λn=>U.int n 0)) (Qa (tbG xx (ns.map λn=>U.int n 0)) (m+1)) 100 _ _ _)=_/\_;generalize Qa (tbG xx (ns.map λn=>U.int n 0)) (m+1)=cf at cell ⊢;generalize tbG xx (ns.map λn=>U.int n 0)=T;have cell1:∀h,cf 6 [.scr,.int 1 0] h=some (.int (QF ns 1) 0,h):=λh=>cell 1 h
 have ch:∀r,exs T cf 100 (.set 2 (.op .Mod (.call 6 [(.var 0),(.c (.int 1 0))]) (.c (.int 4 0)))::.set 3 (.ix (.var 1) (.c (.int 1 0)))::r) [some .scr,some u,none,none,none] h0=exs T cf 98 r [some .scr,some u,sI (QF ns 1 % 4),sR b,none] h0:=λr=>(Zx (Zp (Yd rfl (cell1 _)) (by decide))).trans (Zx (YL rfl (sb T h0 (Kp.refl _)).1))
 rw[ch];have t:=λ(j:Int) d=>Zd (T:=T) (cf:=cf) (d:=d) (hs:=h0) (i:=2) (j:=j) (y:=QF ns 1 % 4) (Z:=[some .scr,some u,sI (QF ns 1 % 4),sR b,none]) rfl
 have lb:QB T (.ref b) h0=some rb:=by simp only[QB,hb]
 by_cases c0:QF ns 1 % 4=0
 ·refine⟨h0++[O.lst rb.reverse],h0.length,rb.reverse,D.lie.reverse,?_,Kp.app _ _,at0,Qb (λz z=>ZE) (Qd0 pb),λa ma=>List.mem_reverse.mp ma,by rw[Sg];lia⟩
  exact Qnv (t 0 93) (by simp[c0]) (by simp only[QkA,Qu,Qi,Xm,Xh,lb])
 ·rw[show ∀r,exs T cf 98 (Qqc::r) _ h0=exs T cf 97 r _ h0 from λr=>Qp6 (t 0 93) (by simp[c0])]
  by_cases c1:QF ns 1 % 4=1
  ·have em:(0:Int) < (if(rb.length:Int) > 1 then(rb.length:Int)else 1):=by split<;>lia
   generalize hM:(if(rb.length:Int) > 1 then(rb.length:Int)else 1)=M at em
   have mx:biU T .max [.int 1 0,.int (rb.length:Int) 0] h0=some (.int M 0,h0):=by rw[<-hM];rfl
   have xs:ex T cf 94 Qk6 [some .scr,some u,sI (QF ns 1 % 4),sR b,none] h0=some (.next,[some .scr,some u,sI (QF ns 1 % 4),sR b,sI (QF ns 1 / 4 % M)],h0):=by
    refine Qa7 ?_
    simp only[Qkn,y_call,y_bi,evs,Qu,y_c,Qi,Xm,Xh,cell1,opU,dvj (show(decide ((0:Int) < 4)&&decide ((4:Int) < 1606938044258990275541962092341162602522202993782792835301376))=true by decide),JR hb,mx,md em,Option.map]
   generalize QF ns 1 / 4 % M=y at xs
   have es:=λd (hs:Hs) (hb':hs[b]?=some (.lst rb))=>(by
    unfold Qnd
    simp only[Qkz,evO,Qu,Qkn,y_c,Qi,Xm,Xh,opU,Qkd,gz,Qnc hb',Option.map]:ev T cf (d+5) Qnd [some .scr,some u,sI (QF ns 1 % 4),sR b,sI y] hs=some (.ref hs.length,hs++[O.lst (QZ rb (some y) (some (y+1)))]))
   have pc:=Ze (a:=some y) (b:=some (y+1)) pb
   have lc:(QZ rb (some y) (some (y+1))).length<=rb.length:=by
    unfold QZ;rw[Ve,U0];lia
   have ec:=Qd pc;have mc:∀a∈QZ D.lie (some y) (some (y+1)),a∈D.lie:=λa m=>Zz m;generalize QZ D.lie (some y) (some (y+1))=N at pc ec mc;generalize QZ rb (some y) (some (y+1))=X at es pc lc ec;have kq:Kp h0 (h0++[O.lst X]):=Kp.app _ _
   have ad:=Qa3 (hs:=h0++[O.lst X]++[O.lst X]) (Qr at0) at0 (by lia:X.length+X.length<=1000000)
   refine⟨h0++[O.lst X]++[O.lst X]++[O.lst (X++X)],(h0++[O.lst X]++[O.lst X]).length,X++X,N++N,?_,(kq.trans (Kp.app _ _)).trans (Kp.app _ _),at0,?_,λa ma=>?_,by rw[Xs];lia⟩
   ·have xj:ex T cf 96 QgE [some .scr,some u,sI (QF ns 1 % 4),sR b,none] h0=some (.ret (.ref (h0++[O.lst X]++[O.lst X]).length),[some .scr,some u,sI (QF ns 1 % 4),sR b,sI y],h0++[O.lst X]++[O.lst X]++[O.lst (X++X)]):=by
     unfold QgE
     rw[YJ,t 1 92,Qi,if_pos (by simp[c1]),QT xs,QI,Qak,Qkn,es 86 h0 hb,Qi,es 86 _ (Qr hb),Qi]
     simp only[opU,ad,Qi]
    rw[QI,xj];rfl
   ·have p1:=Qb (λz z=>ZE (r:=[O.lst X])) pc;have p2:=Qb (λz z=>ZE (r:=[O.lst X])) p1;exact Qb (λz z=>ZE) (Zt p2 p2)
   ·rcases Wo.mp ma with m|m
    ·exact mc a m
    ·exact mc a m
  ·rw[show ∀r,exs T cf 97 (QgE::r) _ h0=exs T cf 96 r _ h0 from λr=>Qp6 (t 1 92) (by simp[c1])]
   obtain⟨us',out,g1,g2,g3,g4⟩:=Qaa (T:=T) (cf:=cf) (d:=83) (u:=u) (y:=QF ns 1 % 4) (λk=>cell k h0) hb pb (by lia) rb.length 0 (rb.length+1) [] [] (by lia) (by lia) (by simp) .nil (by simp)
   have e2:=Qd g2
   refine⟨h0++[O.lst us'],h0.length,us',out,?_,Kp.app _ _,at0,Qb (λz z=>ZE) g2,g3,by lia⟩
   refine Yb (d:=94) ?_;unfold Qqi
   refine Ym (Yl (n:=rb.length) ?_ (by lia)) g1
   simp only[y_bi,evs,Qu,Qi,Xm,Xh,JR hb]
def QkF{rows:List (List Lp)}(h:∀row∈rows,∀lp∈row,lp.ps.length<=8):wtR rows<=8*szR rows:=by
 have one:∀row:List Lp,(∀lp∈row,lp.ps.length<=8)->wtL row<=8*row.length:=by
  intro row
  induction row with
  |nil=>intro _;simp[wtL]
  |cons a r ih=>
   intro h;have h1:=h a Xn;have h2:=ih λb m=>h b (Xl _ m);simp only[wtL,Xo,Vq,Wa]at h2 ⊢;lia
 induction rows with
 |nil=>simp[wtR,szR]
 |cons a r ih=>
  have h1:=one a (h a Xn);have h2:=ih λb m=>h b (Xl _ m);simp only[wtR,szR,Xo,Vq]at h2 ⊢;lia
def QnA{rows:List (List Lp)}{a:Nm}(h:Vr rows a):a∈upN rows:=by
 obtain⟨r,i,row,rfl,e,l⟩:=h;rw[Qej]
 exact⟨r,(Xc.mp e).1,mem_rowN.mpr ⟨rfl,i,by rw[Wt,e];exact l,rfl⟩⟩
def Qj3{D:Wb}(w:WOk D):Bnd D:=by
 have rv:∀row∈D.rows,∀lp∈row,lp.ps.length<=8/\∀a∈lp.ps,Vr D.rows a:=λrow mr lp ml=>by
  obtain⟨r,e⟩:=Vf mr;have h:=w.rv r row e lp ml
  exact⟨h.1,λa m=>by have:=(h.2 a m).app (S:=D.rows.drop r);rwa [List.take_append_drop]at this⟩
 have lw:=QkF (rows:=D.rows) λrow mr lp ml=>(rv row mr lp ml).1;have h1:=w.rl;have h2:=w.rs;have h3:=w.ll;have h4:=w.ol;have h5:=w.kl
 refine⟨by lia,by lia,by lia,?_,λrow mr lp ml a ma=>QnA ((rv row mr lp ml).2 a ma),λr row e lp ml a ma=>?_⟩
 ·unfold Qy Q6;rw[Vs,Xs,Xs];lia
 ·obtain⟨r',i,row',rfl,e',_⟩:=(w.rv r row e lp ml).2 a ma;have:=(Xc.mp e').1;rw[Ve]at this;simp only;lia
theorem QdR{B:Hs}:∀(L:List Nm) (n:Nat),(∀i a,L[i]?=some a->B[n+i]?=some (.tup (nmK a)))->Paired (DN B) (Qav n L.length) L
 |[],n,_=>.nil
 |a::L,n,h=>by
  refine .cons ⟨n,rfl,?_⟩ (QdR L (n+1) λi b hb=>?_)
  ·exact h 0 a rfl
  ·have:=h (i+1) b (by simpa using hb)
   rw[show n+1+i=n+(i+1) by lia]
   exact this
def Qj1{kvs:List (List U×U)}{L:List Nm}(hp:hs[p]?=some (.dct kvs))(ek:kvs.map (·.1)=L.map nmK):
  ∃h2 q us,biU T .list [.ref p] hs=some (.ref q,h2)/\Kp hs h2/\h2[q]?=some (.lst us)/\Paired (DN h2) us L:=by
 refine⟨(hs++kvs.map λp=>O.tup p.1)++[.lst (Qav hs.length kvs.length)],_,_,?_,(Kp.app _ _).trans (Kp.app _ _),at0,?_⟩
 ·unfold biU;simp only[ZF,QjP,hp,Option.map]
 ·have e:kvs.length=L.length:=by have:=congrArg List.length ek;simpa using this
  rw[e];refine QdR _ _ λi a ha=>?_
  rw[Ue,Wg (by lia),Nat.add_sub_cancel_left]
  have h1:(kvs.map λp=>O.tup p.1)[i]?=some (.tup (nmK a)):=by
   have e3:(kvs.map λp=>O.tup p.1)=(kvs.map (·.1)).map O.tup:=by rw[List.map_map];rfl
   rw[e3,ek,Wn,Wn,ha];rfl
  exact Qr h1
def QqK(l:n<=1000000):Qk ((n:Int)*16)=true:=by
 simp only[Qk,Xj,Xq];lia
def QnU(l:n<=1000000):(Qk ((n:Int)*16)&&decide ((0:Int)<=(n:Int)))=true:=by
 rw[QqK l,Bool.true_and];exact Wz (Int.natCast_nonneg n)
def Qlf{f:Ev}{a:E}{i:Int}(h:f a Z hs=some (.int i 0,h1)):Za T f Z (.rngR a) hs=if Qk (i*16)&&decide (0<=i)then some (.rngC (i-1) (-1) i.toNat,h1)else none:=by simp only[Za,h,Qi]
def Qld{f:Ev}{a:E}(h:f a Z hs=some (.int (n:Int) 0,h1))(l:n<=1000000):Za T f Z (.rngR a) hs=some (.rngC ((n:Int) - 1) (-1) n,h1):=by
 rw[Qlf h,QnU l,if_pos rfl,Tq]
noncomputable def Qrd:E:=(.cmp .Eq (.comp (.seq (.ix (.var 5) (.var 4))) false (some (.cmp .NotIn (.var 12) (.var 3))) (.var 12)) (.lst []))
noncomputable def QoH:S:=(.ite (.cmp .NotIn (.var 4) (.var 6)) [(.set 11 Qrd)] [])
noncomputable def Qpq:List S:=[(.set 4 (.tup [(.var 9),(.var 10)])),(.set 11 (.cmp .In (.var 4) (.var 7))),QoH,(.ite (.cmp .NotEq (.var 11) (.cmp .In (.var 4) (.var 3))) [(.ret (.c (.bl false)))] []),(.ite (.var 11) [(.expr (.bm .append (.var 8) [(.var 4)]))] [])]
noncomputable def Qjo:S:=(.loop (.name 10) (.rng (.bi .len [(.ix (.ix (.var 0) (.c (.int 0 0))) (.var 9))])) Qpq)
noncomputable def QqZ:S:=(.loop (.name 9) (.rngR (.bi .len [(.ix (.var 0) (.c (.int 0 0)))])) [Qjo])
def QmS:b20=[(.set 3 .dnewT),(.loop (.name 4) (.seq (.var 2)) [(.put (.var 3) (.var 4) (.c (.bl true)))]),(.set 5 (.call 18 [(.var 0)])),(.set 6 (.call 19 [(.var 0)])),(.set 7 .dnewT),(.loop (.name 4) (.seq (.var 1)) [(.put (.var 7) (.var 4) (.c (.bl true)))]),(.set 8 (.lst [])),QqZ,(.ret (.cmp .Eq (.var 2) (.var 8)))]:=rfl
def Qrv{b c:U}:Qa (tbG xx s) (m+1) 20 [a,b,c] hs=fin (exs (tbG xx s) (Qa (tbG xx s) m) dd b20 [some a,some b,some c,none,none,none,none,none,none,none,none,none] hs):=rfl
noncomputable abbrev R20(u:U)(ln lf p3 pA pH p7 p8:Nat)(o4 o9 o10 o11:Option U):Rho:=[some u,sR ln,sR lf,sR p3,o4,sR pA,sR pH,sR p7,sR p8,o9,o10,o11]
section
variable {a b:E}
def QbT{o:CmpOp}{w:U}(ea:ev T cf d a Z h=some (u,h1))(eb:ev T cf d b Z h1=some (w,h2))(ec:ZC T o u w h2=some c):ev T cf (d+1) (.cmp o a b) Z h=some (.bl c,h2):=by rw[Qam,ea,Qi,eb,Qi,ec];rfl
def QnI(hi:Z[i]?=some (some (.bl c))):evT T cf (d+2) (.var i) Z h=some (c,h):=by rw[QkE,Qc hi,Qi];rfl
def QkT(ea:evT T cf d a Z h=some (false,h1))(eb:evT T cf d b Z h1=some (c,h2)):evT T cf (d+1) (.or a b) Z h=some (c,h2):=by rw[QfK,ea,Qi,if_neg X3,eb]
def Qds(ea:ev T cf d (.call f es) Z h=some (.bl c,h1)):evT T cf (d+2) (.not (.call f es)) Z h=some (!c,h1):=by rw[Qhi,Qdk,ea];rfl
end
def QeJ{p3 pA pH:Nat}{B:Hs}{K:Ky}{F:Fu}{H N G acc:List Nm}{kv3 kvH:List (List U×U)}{ds:List U}{o11:Option U}(kB:Kp B hs)(hA:B[pA]?=some (.dct (kv K)))(df:DF B K F)(ma:((r:Int),(q:Int))∈K.map (·.1))(hH:B[pH]?=some (.dct kvH))(sH:SDk kvH H)(h7:B[p7]?=some (.dct kv7))(s7:SDk kv7 N)(h3:B[p3]?=some (.dct kv3))(s3:SDk kv3 G)(h8:hs[B.length]?=some (.lst ds))(pd:Paired (DN hs) ds acc)(lF:(F ((r:Int),(q:Int))).length<=900000)(la:acc.length<900000)
  (f1:((r:Int),(q:Int))∈H->(((r:Int),(q:Int))∈N↔((r:Int),(q:Int))∈G)) (f2:((r:Int),(q:Int))∉H->((F ((r:Int),(q:Int))).filter (λb=>!decide (b∈G))=[]↔((r:Int),(q:Int))∈G)):
  Xx T cf (d+20) Qpq (R20 u ln lf p3 pA pH p7 B.length o4 (sI r) (sI q) o11) hs λf ρ2 h2=>f=.next/\(∃o4 o11,ρ2=R20 u ln lf p3 pA pH p7 B.length o4 (sI r) (sI q) o11)/\Kp B h2/\∃ds',h2[B.length]?=some (.lst ds')/\Paired (DN h2) ds' (acc++if((r:Int),(q:Int))∈G then [((r:Int),(q:Int))]else []):=by
 have kq:Kp hs (hs++[O.tup [.int r 0,.int q 0]]):=Kp.app _ _;have da:DN (hs++[O.tup [.int r 0,.int q 0]]) (.ref hs.length) ((r:Int),(q:Int)):=⟨_,rfl,at0⟩;generalize hP:hs++[O.tup [.int r 0,.int q 0]]=P at kq da;have kP:=kB.trans kq;generalize ea:((r:Int),(q:Int))=a at *
 obtain⟨z,g⟩:∃z,ex T cf (d+17) QoH (R20 u ln lf p3 pA pH p7 B.length (sR hs.length) (sI r) (sI q) (some (.bl (decide (a∈N))))) P=some (.next,R20 u ln lf p3 pA pH p7 B.length (sR hs.length) (sI r) (sI q) (some (.bl (decide (a∈G)))),P++z):=by
  have nH:=Qec (T:=T) (kP _ _ hH) sH da;by_cases c:a∈H
  ·refine⟨[],?_⟩;rw[W9,show decide (a∈N)=decide (a∈G)from decide_eq_decide.mpr (f1 c)]
   exact Qid (QK (Qc rfl) (Qc rfl) nH) (by simp[c])
  ·obtain⟨j,mj⟩:=Qey ma;have df':=df.kp kP;obtain⟨us,hj,pu⟩:=df'.ls _ mj;have el:=Qd pu;have sb:=Qis (T:=T) (kP _ _ hA) df'.ky mj da
   obtain⟨us',g1,g2⟩:=Qab (T:=T) (cf:=cf) (d:=d+9) (iF:=3) (Z:=R20 u ln lf p3 pA pH p7 B.length (sR hs.length) (sI r) (sI q) (some (.bl (decide (a∈N))))) rfl hj (kP _ _ h3) s3 us (F a) 0 (us.length+1) [] [] rfl pu (by lia) (by simp only at el;simp;lia) .nil
   rw[Vc]at g2;have e2:=Qd g2
   have vx:ev T cf (d+12) (.ix (.var 5) (.var 4)) (R20 u ln lf p3 pA pH p7 B.length (sR hs.length) (sI r) (sI q) (some (.bl (decide (a∈N))))) P=some (.ref j,P):=by simp only[y_ix,Qu,Qi,Xm,Xh,sb,Option.map]
   have vc:=Ym (t:=some (.cmp .NotIn (.var 12) (.var 3))) (el:=.var 12) (ZQ (T:=T) vx hj) (by rw[Qho hj];exact g1)
   have en:=Yj (T:=T) (e:=(P++[O.lst us']).length) (Qr (r:=[O.lst []]) (at0 (hs:=P) (a:=O.lst us'))) at0
   have ef:decide (us'=[])=decide (a∈G):=by
    refine decide_eq_decide.mpr (Iff.trans ?_ (f2 c));rw[<-Tj,<-Tj,e2]
   refine⟨[O.lst us']++[O.lst []],?_⟩;rw[<-Ue];unfold QoH
   rw[YJ,QK (Qc rfl) (Qc rfl) nH,Qi,if_pos (by simp[c])]
   exact QJ (Qa7 (QbT vc (y_lst.trans rfl) (by simp only[ZC,en,ef])))
 have kz:Kp P (P++z):=Kp.app _ _;generalize P++z=Q at g kz;have kQ:=kP.trans kz;have h8Q:=(kq.trans kz) _ _ h8;have dQ:=da.kp kz;have pq:=Qb (λy y=>DN.kp (kq.trans kz)) pd
 refine Q3 (Zl (u:=.ref hs.length) (h1:=P) (by rw[Yk (Qc rfl) (Qc rfl),hP]) (Q3 (Zl (QbT (Qc rfl) (Qc rfl) (QgD (kP _ _ h7) s7 da)) (QhB g (Qdg (c:=false) (h1:=Q) ?_ (QM (Qdg (c:=decide (a∈G)) (h1:=Q) (QnI rfl) ?_)))))))
 ·have:=QK (T:=T) (cf:=cf) (d:=d+13) (o:=.NotEq) (a:=.var 11) (b:=.cmp .In (.var 4) (.var 3)) (Z:=R20 u ln lf p3 pA pH p7 B.length (sR hs.length) (sI r) (sI q) (some (.bl (decide (a∈G))))) (hs:=Q) (Qc rfl) (QbT (Qc rfl) (Qc rfl) (QgD (kQ _ _ h3) s3 dQ)) (c:=false) (by simp only[ZC,show eqA T (.bl (decide (a∈G))) (.bl (decide (a∈G))) Q=some (decide (decide (a∈G)=decide (a∈G)))from rfl,Option.map,decide_true,U6])
  exact this
 by_cases m:a∈G
 ·rw[if_pos (by simp[m]),if_pos m]
  have lp:=(Xc.mp h8Q).1;refine Yv (Qbk (Qc rfl) h8Q (Zl (Qc rfl) ⟨ds,h8Q,?_,QM (QM ⟨rfl,⟨_,_,rfl⟩,kQ.put (Xg _),_,Xz lp,?_⟩)⟩))
  ·rw[Qd pd];lia
  ·have tk:TK Q (Q.set B.length (.lst (ds++[.ref hs.length]))):=TK.set h8Q (by simp)
   exact Qv (dQ.mono tk) (Qb (λy y=>DN.mono tk) pq)
 ·rw[if_neg (by simp[m]),if_neg m,W9]
  exact QM (QM ⟨rfl,⟨_,_,rfl⟩,kQ,ds,h8Q,pq⟩)
def clU{b:U}:Qa (tbG xx s) (m+1) 1 [a,b] hs=fin (exs (tbG xx s) (Qa (tbG xx s) m) dd b1 [some a,some b] hs):=rfl
def Qrp{b:U}:Z8 (tbG xx s) (m+1) 1 [a,b] hs=exsX (tbG xx s) (Qa (tbG xx s) m) dd b1 [some a,some b] hs:=rfl
def Qg1{D:Wb}{N:List Nm}(dw:DW h0 u D)(bn:Bnd D)(hl:h0[ln]?=some (.lst us))(pu:Paired (DN h0) us N)(lN:N.length<=900000)(hN:∀a∈N,a∈D.lie):
  ∃h2 q vs,Qa (tbG xx s) (m+4) 1 [u,.ref ln] h0=some (.ref q,h2)/\Kp h0 h2/\h2[q]?=some (.lst vs)/\Paired (DN h2) vs (fal (FD D) (Qy D) N (dnN D.rows)):=by
 obtain⟨h1,p,kvs,g1,k1,lp,hp,ek⟩:=Qg4 (xx:=xx) (s:=s) (m:=m) dw bn hl pu lN hN;obtain⟨h2,q,vs,g2,k2,hq,pv⟩:=Qj1 (T:=tbG xx s) hp ek;refine⟨h2,q,vs,?_,k1.trans k2,hq,pv⟩;rw[clU];show fin (exs (tbG xx s) (Qa (tbG xx s) (m+3)) 100 [.cal (.ret (.bi .list [.call 5 [.var 0,.var 1]])) 5 [.var 0,.var 1]] _ _)=_
 rw[QI,Qnw (x:=some (.ret (.ref q),[some u,sR ln],h2)) (by rw[Qak,Qkq (Yd rfl g1) g2,Qi])]
 rfl
def QbS{D:Wb}{N:List Nm}(dw:DW h0 u D)(bn:Bnd D)(hl:h0[ln]?=some (.lst us))(pu:Paired (DN h0) us N)(hN:∃a∈N,a∉D.lie)(hy:(tbG xx s).xf 5 [u,.ref ln] h0=some (3,h2)):
  Qa (tbG xx s) (m+4) 1 [u,.ref ln] h0=none/\Z8 (tbG xx s) (m+4) 1 [u,.ref ln] h0=some (3,h2):=by
 have nf:=(JC (xx:=xx) (s:=s) (m:=m) dw bn hl pu hN).1
 have x1:ex (tbG xx s) (Qa (tbG xx s) (m+3)) 99 (.cal (.ret (.bi .list [.call 5 [.var 0,.var 1]])) 5 [.var 0,.var 1]) [some u,sR ln] h0=none:=by
  rw[ex,Qak,y_bi];simp only[evs,y_call,Qu,Qi,Xm,Xh,nf];rfl
 have np:(match (tbG xx s).fns[5]? with|some F=>decide ([u,U.ref ln].length=F.np)|none=>false)=true:=rfl
 refine⟨?_,?_⟩
 ·rw[clU];exact congrArg fin (Qcc x1)
 ·rw[Qrp];refine(QfH x1).trans ?_;rw[exX];simp only[evs,Qu,Qi,Xm,Xh];exact(if_pos np).trans hy
def QgI{p3 pA pH a:Nat}{B:Hs}{K:Ky}{F:Fu}{H N G pre:List Nm}{kv3 kvH:List (List U×U)}{ds:List U}{o10 o11:Option U}(k0:Kp h0 B)(kB:Kp B hs)(hA:B[pA]?=some (.dct (kv K)))(df:DF B K F)(hH:B[pH]?=some (.dct kvH))(sH:SDk kvH H)(h7:B[p7]?=some (.dct kv7))(s7:SDk kv7 N)(h3:B[p3]?=some (.dct kv3))(s3:SDk kv3 G)(lF:∀a,(F a).length<=900000)
  (sa:∀(T:Tbl) hs,Kp h0 hs->QH T u (.int 0 0) hs=sR a) (ha:h0[a]?=some (.lst ra)) (hr:ra[r]?=sR j) (hj:h0[j]?=some (.lst vs)) (mK:∀b∈ZM r vs.length,b∈K.map (·.1)) (f1:∀b∈ZM r vs.length,b∈H->(b∈N↔b∈G)) (f2:∀b∈ZM r vs.length,b∉H->((F b).filter (λb=>!decide (b∈G))=[]↔b∈G))
  (h8:hs[B.length]?=some (.lst ds)) (pd:Paired (DN hs) ds (pre.filter λb=>decide (b∈G))) (ll:pre.length+vs.length<=800000):
  ∃h2 o4' o10' o11' ds',exs T cf (d+22) [Qjo] (R20 u ln lf p3 pA pH p7 B.length o4 (sI r) o10 o11) hs=some (.next,R20 u ln lf p3 pA pH p7 B.length o4' (sI r) o10' o11',h2)/\Kp B h2/\h2[B.length]?=some (.lst ds')/\Paired (DN h2) ds' ((pre++ZM r vs.length).filter λb=>decide (b∈G)):=by
 obtain⟨ρ2,h2,g1,⟨o4',o10',o11',rfl⟩,k2,ds',hp2,pd2⟩:=Yw (T:=T) (w:=.rng 0 vs.length) (t:=.name 10) (body:=exs T cf (d+20) Qpq) (n:=vs.length) (λq Z hs=>(∃o4 o10 o11,Z=R20 u ln lf p3 pA pH p7 B.length o4 (sI r) o10 o11)/\Kp B hs/\∃ds,hs[B.length]?=some (.lst ds)/\Paired (DN hs) ds ((pre++ZM r q).filter λb=>decide (b∈G)))
  (λq hq Z hs z=>by
   obtain⟨⟨o4,o10,o11,e⟩,kB,ds,h8,pd⟩:=z
   subst e;have mq:((r:Int),(q:Int))∈ZM r vs.length:=mem_rowN.mpr ⟨rfl,q,hq,rfl⟩;have le:=List.length_filter_le (λb=>decide (b∈G)) (pre++ZM r q);rw[Xs,Zb]at le
   obtain⟨_,_,h',t1,rfl,⟨o4',o11',rfl⟩,t2,ds',t3,t4⟩:=QeJ (T:=T) (cf:=cf) (d:=d) (u:=u) (ln:=ln) (lf:=lf) (r:=r) (q:=q) (o4:=o4) (o11:=o11) kB hA df (mK _ mq) hH sH h7 s7 h3 s3 h8 pd (lF _) (by lia) (f1 _ mq) (f2 _ mq)
   refine⟨.one (.int q 0),_,_,h',by simp[itm,hq],rfl,t1,⟨_,_,_,rfl⟩,t2,ds',t3,?_⟩
   rw[YR,<-Ue,List.filter_append];by_cases m:((r:Int),(q:Int))∈G
   ·rw[if_pos m]at t4
    rw[U3,if_pos (by simpa using m)]
    exact t4
   ·rw[if_neg m]at t4
    rw[U3,if_neg (by simpa using m)]
    exact t4)
  (λZ hs y=>by simp[itm]) vs.length 0 (vs.length+1) (R20 u ln lf p3 pA pH p7 B.length o4 (sI r) o10 o11) hs (by lia) (by lia) ⟨⟨_,_,_,rfl⟩,kB,ds,h8,by simpa[ZM]using pd⟩
 refine⟨h2,o4',o10',o11',ds',?_,k2,hp2,pd2⟩;have kp:=k0.trans kB
 have s2:QH T (.ref a) (.int (r:Int) 0) hs=sR j:=by simp only[QH,kp _ _ ha];exact JB hr
 refine QJ (d:=d+20) (Qdl (n:=vs.length) ?_ (by lia) g1)
 simp only[y_bi,evs,y_ix,Qu,y_c,Qi,Xm,Xh,sa T hs kp,Option.map,s2,JR (kp _ _ hj)]
def QmM{D:Wb}{N:List Nm}(dw:DW h0 u D)(bn:Bnd D)(hl:h0[ln]?=some (.lst us))(pu:Paired (DN h0) us N)(lN:N.length<=900000)(hN:∀a∈N,a∈D.lie)(hf:h0[lf]?=some (.lst vs))(pv:Paired (DN h0) vs (fal (FD D) (Qy D) N (dnN D.rows))):
  ∃h2,Qa (tbG xx s) (m+2) 20 [u,.ref ln,.ref lf] h0=some (.bl true,h2)/\Kp h0 h2:=by
 obtain⟨a,ra,sa,ha,pa⟩:=Qe1 dw;have el:=Qd pa;have lrw:=bn.lr;have ldn:=Qh3 bn
 have lG:(fal (FD D) (Qy D) N (dnN D.rows)).length<=100000:=by
  have:=QbD (F:=FD D) (H:=Qy D) (N:=N) (dnN D.rows) [];simp only[fal,W5,Vj]at this ⊢;lia
 have F1:=λb (mb:b∈dnN D.rows)=>(QeS bn (N:=N) mb).1;have F2:=λb (mb:b∈dnN D.rows) (h:b∉Qy D)=>(QeS bn (N:=N) mb).2 h λz=>h (Qgw (hN b z));have FI:=Qmy (D:=D) (N:=N);generalize fal (FD D) (Qy D) N (dnN D.rows)=G at *
 have lnN:∀k,k<=D.rows.length->(Ys (gD D.rows.length) D.rows k).length<=100000:=λk hk=>by
  have h1:=JM (g:=gD D.rows.length) (rows:=D.rows) hk;unfold dnN at ldn;lia
 generalize hA1:h0++[O.dct []]=A1
 have k1:Kp h0 A1:=by rw[<-hA1];exact Kp.app _ _
 have hp3:A1[h0.length]?=some (.dct []):=by rw[<-hA1];exact at0
 have lA1:=(Xc.mp hp3).1
 have cf1:∀(T:Tbl) cf,∃o kv3,ZN T (.seqL (.ref lf)) (.name 4) (exs T cf 97 [(.put (.var 3) (.var 4) (.c (.bl true)))]) (Q2 T (.seqL (.ref lf)) A1) 0 [some u,sR ln,sR lf,sR h0.length,none,none,none,none,none,none,none,none] A1=some (.next,List.set [some u,sR ln,sR lf,sR h0.length,none,none,none,none,none,none,none,none] 4 o,A1.set h0.length (.dct kv3))/\SDk kv3 ([]++G):=λT cf=>YE (T:=T) (cf:=cf) (d:=91) (l:=lf) (iD:=3) (iN:=4) (hs:=A1) (us:=vs) (nms:=G) (L:=[]) (kvs:=[]) rfl (by decide) (by simp) hp3 (k1 _ _ hf) (Qb (λy y=>DN.kp k1) pv) Qau (by simp;lia)
 obtain⟨o4,kv3,g1,s3⟩:=cf1 (tbG xx s) (Qa (tbG xx s) (m+1));rw[Vc]at s3;have k2:Kp h0 (A1.set h0.length (.dct kv3)):=k1.put (Xg _);have h3:(A1.set h0.length (.dct kv3))[h0.length]?=some (.dct kv3):=Xz lA1;generalize A1.set h0.length (.dct kv3)=A2 at g1 k2 h3
 obtain⟨A3,pA,K,g3,f3,e3⟩:=Qj2 (xx:=xx) (s:=s) (m:=m) (dw.kp k2) bn.lr (by have:=bn.ls;lia) bn.lw bn.mp
 have dfA:DF A3 K (FD D):=f3.df;have k3:=k2.trans f3.kp;obtain⟨A4,pH,kvH,g4,k4,lpH,hH,sH⟩:=Qfr (xx:=xx) (s:=s) (m:=m) (dw.kp k3) bn.lh;have k04:=k3.trans k4;generalize hA5:A4++[O.dct []]=A5
 have k5:Kp A4 A5:=by rw[<-hA5];exact Kp.app _ _
 have hp7:A5[A4.length]?=some (.dct []):=by rw[<-hA5];exact at0
 have lA5:=(Xc.mp hp7).1
 have cf2:=YE (T:=tbG xx s) (cf:=Qa (tbG xx s) (m+1)) (d:=87) (l:=ln) (iD:=7) (iN:=4) (hs:=A5) (us:=us) (nms:=N) (L:=[]) (kvs:=[]) (Z:=[some u,sR ln,sR lf,sR h0.length,o4,sR pA,sR pH,sR A4.length,none,none,none,none]) rfl (by decide) (by simp) hp7 ((k04.trans k5) _ _ hl) (Qb (λy y=>DN.kp (k04.trans k5)) pu) Qau (by simpa using lN)
 obtain⟨o4',kv7,g5,s7⟩:=cf2;rw[Vc]at s7;have k6:Kp A4 (A5.set A4.length (.dct kv7)):=k5.put (Xg _);have h7:(A5.set A4.length (.dct kv7))[A4.length]?=some (.dct kv7):=Xz lA5;generalize A5.set A4.length (.dct kv7)=B at g5 k6 h7;have k0B:=k04.trans k6;have hAB:=(k4.trans k6) _ _ f3.di;have dfB:=dfA.kp (k4.trans k6);have hHB:=k6 _ _ hH;have h3B:=((f3.kp.trans k4).trans k6) _ _ h3
 have eK:∀b,b∈dnN D.rows->b∈K.map (·.1):=λb mb=>by rw[e3,<-Qek];exact mb
 have k7:Kp B (B++[O.lst []]):=Kp.app _ _
 have w:=λ(T:Tbl) (cf:Cf)=>Yw (T:=T) (w:=.rngC ((ra.length:Int) - 1) (-1) ra.length) (t:=.name 9) (body:=exs T cf 91 [Qjo]) (n:=ra.length) (λi Z hs=>(∃o4 o9 o10 o11,Z=R20 u ln lf h0.length pA pH A4.length B.length o4 o9 o10 o11)/\Kp B hs/\∃ds,hs[B.length]?=some (.lst ds)/\Paired (DN hs) ds ((Ys (gD D.rows.length) D.rows i).filter λb=>decide (b∈G)))
  (λi hi Z hs x=>by
   obtain⟨⟨o4,o9,o10,o11,e⟩,kB,ds,h8,pd⟩:=x
   subst e
   have hg:gD D.rows.length i<D.rows.length:=by unfold gD;lia
   obtain⟨row,hr⟩:∃row,D.rows[gD D.rows.length i]?=some row:=⟨_,Xe hg⟩
   have er:D.rows.getD (gD D.rows.length i) []=row:=by rw[Wt,hr];rfl
   obtain⟨v,hv,j,vs,rfl,hj,pv⟩:=Zu pa hr;have evl:=Qd pv
   have l1':=lnN (i+1) (by lia)
   rw[Zi,Xs,Zb,er,<-evl]at l1'
   have ei:((ra.length:Int) - 1)+(i:Int)*(-1)=((gD D.rows.length i:Nat):Int):=by unfold gD;lia
   have md:∀b∈ZM (gD D.rows.length i) vs.length,b∈dnN D.rows:=λb mb=>by unfold dnN;rw[JN];exact⟨i,by lia,by rw[er,<-evl];exact mb⟩
   obtain⟨h',o4',o10',o11',ds',t1,t2,t3,t4⟩:=QgI (T:=T) (cf:=cf) (d:=69) (u:=u) (ln:=ln) (lf:=lf) (r:=gD D.rows.length i) (pre:=Ys (gD D.rows.length) D.rows i) (o4:=o4) (o10:=o10) (o11:=o11) k0B kB hAB dfB hHB sH h7 s7 h3B s3 (Qia bn) sa ha hv hj (λb mb=>eK b (md b mb)) (λb mb=>F1 b (md b mb)) (λb mb=>F2 b (md b mb)) h8 pd (by lia)
   refine⟨.one (.int ((gD D.rows.length i:Nat):Int) 0),_,_,h',by simp only[itm,hi,Wm,ei],rfl,t1,⟨_,_,_,_,rfl⟩,t2,ds',t3,?_⟩
   rw[Zi,er,<-evl]
   exact t4)
  (λZ hs y=>by simp[itm]) ra.length 0 (ra.length+1) (R20 u ln lf h0.length pA pH A4.length B.length o4' none none none) (B++[O.lst []]) (by lia) (by lia) ⟨⟨_,_,_,_,rfl⟩,k7,[],at0,by simp[Ys];exact .nil⟩
 obtain⟨ρ2,h2,g6,⟨q4,q9,q10,q11,rfl⟩,k8,ds,h8,pd⟩:=w (tbG xx s) (Qa (tbG xx s) (m+1));rw[el]at pd
 have pd:Paired (DN h2) ds G:=by
  have e:(Ys (gD D.rows.length) D.rows D.rows.length).filter (λb=>decide (b∈G))=G:=FI;rw[e]at pd;exact pd
 have k02:=k0B.trans k8;have q:=Qmb (T:=tbG xx s) (k02 _ _ hf) h8 (Qb (λy y=>DN.kp k02) pv) pd;refine⟨h2,?_,k02⟩;rw[Qrv,QmS];show fin (exs (tbG xx s) (Qa (tbG xx s) (m+1)) 100 _ _ _)=_;generalize Qa (tbG xx s) (m+1)=cf at g1 g3 g4 g5 g6 ⊢;generalize tbG xx s=T at g1 g3 g4 g5 g6 q ⊢
 exact(congrArg fin ((Zx (show ev T cf 98 .dnewT _ h0=some (.ref h0.length,A1) by rw[QcF,hA1])).trans ((QT (QU (ZQ (Qc rfl) (k1 _ _ hf)) g1)).trans ((Zx (Yn rfl g3)).trans ((Zx (Yn rfl g4)).trans ((Zx (show ev T cf 94 .dnewT _ A4=some (.ref A4.length,A5) by rw[QcF,hA5])).trans ((QT (QU (ZQ (Qc rfl) ((k04.trans k5) _ _ hl)) g5)).trans ((Zx (y_lst.trans rfl)).trans (QT (QU (Qld (n:=ra.length) (Yc (YL rfl (sa T _ (k0B.trans k7))) ((k0B.trans k7) _ _ ha)) (by lia)) g6)))))))))).trans (Yb (QbT (Qc rfl) (Qc rfl) (by simp only[ZC,q])))
def QmR:b21=[(.set 2 (.c (.bl false))),(.tryS (some 3) 1 [(.var 0),(.var 1)] 0 [(.set 2 (.and (.isi (.var 3) (.cls 3)) (.isi (.var 3) .vale))),(.set 2 (.and (.var 2) (.not (.isiT 3 [2,1,4]))))]),(.ret (.var 2))]:=rfl
def Qru{b:U}:Qa (tbG xx s) (m+1) 21 [a,b] hs=fin (exs (tbG xx s) (Qa (tbG xx s) m) dd b21 [some a,some b,none,none] hs):=rfl
section
variable {a b:E}
def Qdr(ea:ev T cf d a Z h=some (.bl true,h1))(eb:ev T cf d b Z h1=some (u,h2)):ev T cf (d+1) (.and a b) Z h=some (u,h2):=by rw[QfJ,ea,Qi];exact eb
def QkQ{t:Ty}(hi:Z[i]?=some (some u))(e:QbA T t u h=some c):ev T cf (d+2) (.isi (.var i) t) Z h=some (.bl c,h):=by rw[QfI,Qc hi,Qi,e];rfl
def Qig{cs:List Nat}(e:QcS T Z[i]? cs h=some c):ev T cf (d+2) (.not (.isiT i cs)) Z h=some (.bl (!c),h):=by
 rw[QkB,show ev T cf (d+1) (.isiT i cs) Z h=(QcS T Z[i]? cs h).map λb=>(.bl b,h)from rfl,e];rfl
end
def Qfq{l:U}(hf:Qa (tbG xx s) m 1 [u,l] h0=none)(hx:(tbG xx s).xf 1 [u,l] h0=some (3,h2)):Qa (tbG xx s) (m+1) 21 [u,l] h0=some (.bl true,h2++[.err 3]):=by
 have np:(tbG xx s).ers.contains 3=true/\(tbG xx s).esb.contains (3,0)=true/\(match (tbG xx s).fns[1]? with|some F=>decide ([u,l].length=F.np)|none=>false)=true:=⟨rfl,rfl,rfl⟩
 have e0:QaH (.ref h2.length) (h2++[O.err 3])=some (.cls 3):=by simp only[QaH,at0]
 have e1:QbA (tbG xx s) (.cls 3) (.ref h2.length) (h2++[O.err 3])=some true:=by unfold QbA;rw[e0];rfl
 have e2:QbA (tbG xx s) .vale (.ref h2.length) (h2++[O.err 3])=some true:=by unfold QbA;rw[e0];rfl
 have e3:QcS (tbG xx s) (some (sR h2.length)) [2,1,4] (h2++[O.err 3])=some false:=by simp only[QcS,at0];rfl
 have xs:exs (tbG xx s) (Qa (tbG xx s) m) 97 [(.set 2 (.and (.isi (.var 3) (.cls 3)) (.isi (.var 3) .vale))),(.set 2 (.and (.var 2) (.not (.isiT 3 [2,1,4]))))] [some u,some l,some (.bl false),sR h2.length] (h2++[O.err 3])=some (.next,[some u,some l,some (.bl true),sR h2.length],h2++[O.err 3]):=
  (Zx (Qdr (QkQ rfl e1) (QkQ rfl e2))).trans (QJ (Qa7 (Qdr (Qc rfl) (Qig (c:=false) e3))))
 rw[Qru,QmR];refine(congrArg fin ((Zx y_c).trans (QT (ρ':=[some u,some l,some (.bl true),none]) (h1:=h2++[O.err 3]) ?_))).trans (Yb (Qc rfl));rw[ex];simp only[evs,Qu,Qi,We,Wi,Xm,Xh,hf,hx];refine(if_pos np).trans ?_;simp only[QnW,QoV,We,Wi,xs,Qjz]
noncomputable def xE:E:=(.op .Add (.op .Add (.sl (.var 2) none (some (.var 6))) (.lst [(.var 5)])) (.sl (.var 2) (some (.var 6)) none))
noncomputable def tpE:E:=(.tup [(.op .Mod (.op .FloorDiv (.call 6 [(.var 0),(.c (.int 1 0))]) (.c (.int 4 0))) (.op .Add (.bi .len [(.ix (.var 1) (.c (.int 0 0)))]) (.c (.int 1 0)))),(.op .Sub (.op .Mod (.op .FloorDiv (.call 6 [(.var 0),(.c (.int 2 0))]) (.c (.int 3 0))) (.c (.int 10 0))) (.c (.int 1 0)))])
def QmQ:b22=[(.set 1 (.call 16 [(.var 0)])),(.set 2 (.call 17 [(.var 0),(.var 1)])),(.set 3 (.bi .list [(.var 2)])),(.set 4 (.call 1 [(.var 1),(.var 3)])),(.ite (.or (.not (.call 9 [(.var 4)])) (.or (.cmp .NotEq (.var 3) (.var 2)) (.cmp .NotEq (.var 1) (.call 16 [(.var 0)])))) [(.ret (.c (.bl false)))] []),(.ite (.not (.call 20 [(.var 1),(.var 2),(.var 4)])) [(.ret (.c (.bl false)))] []),(.set 5 tpE),(.ite (.cmp .In (.var 5) (.ix (.var 1) (.c (.int 1 0)))) [(.ret (.c (.bl true)))] []),(.set 6 (.op .Mod (.call 6 [(.var 0),(.c (.int 3 0))]) (.op .Add (.bi .len [(.var 2)]) (.c (.int 1 0))))),(.set 7 (.c (.bl false))),(.tryS none 1 [(.var 1),xE] 3 [(.set 7 (.c (.bl true)))]),(.ret (.and (.var 7) (.call 21 [(.var 1),xE])))]:=rfl
def Qrt:Qa (tbG xx s) (m+1) 22 [a] hs=fin (exs (tbG xx s) (Qa (tbG xx s) m) dd b22 [some a,none,none,none,none,none,none,none] hs):=rfl
def Qm0{a:Nm}(L:List Nm):((L.map nmL).any λk=>decide (k=[a.1,a.2]))=decide (a∈L):=by
 rw[List.any_map,Vn,List.any_eq_true,Xq];constructor
 ·rintro⟨b,m,e⟩;simp only[Function.comp,nmL,Xq,T7,and_true]at e;rw[<-Prod.ext (x:=b) (y:=a) e.1 e.2];exact m
 ·intro m
  exact⟨a,m,by simp[nmL]⟩
def QpE{N:List Nm}{b:Nm}(r2:Z[2]?=some (sR ln))(r5:Z[5]?=some (sR p))(r6:Z[6]?=some (sI y))(hl:h[ln]?=some (.lst us))(pu:Paired (DN h) us N)(lN:N.length<=400000)(db:DN h (.ref p) b):
  ∃h' l vs N',ev T cf (d+6) xE Z h=some (.ref l,h')/\Kp h h'/\h'[l]?=some (.lst vs)/\Paired (DN h') vs N'/\b∈N':=by
 have el:=Qd pu;have c1:=QaR (xs:=us) (a:=none) (b:=some y);have c2:=QaR (xs:=us) (a:=some y) (b:=none);have p1:=Ze (a:=none) (b:=some y) pu;have p2:=Ze (a:=some y) (b:=none) pu
 have s1:=λ(h':Hs) (k:h'[ln]?=some (.lst us))=>(by simp only[Qkz,evO,Qu,r2,r6,Qi,Qnc k]:ev T cf (d+4) (.sl (.var 2) none (some (.var 6))) Z h'=some (.ref h'.length,h'++[O.lst (QZ us none (some y))]))
 have s2:=λ(h':Hs) (k:h'[ln]?=some (.lst us))=>(by simp only[Qkz,evO,Qu,r2,r6,Qi,Qnc k]:ev T cf (d+5) (.sl (.var 2) (some (.var 6)) none) Z h'=some (.ref h'.length,h'++[O.lst (QZ us (some y) none)]))
 generalize QZ us none (some y)=X1 at *;generalize QZ us (some y) none=X2 at *;have v1:=s1 h hl;have k1:Kp h (h++[O.lst X1]):=Kp.app _ _
 have v2:ev T cf (d+4) (.lst [(.var 5)]) Z (h++[O.lst X1])=some (.ref (h++[O.lst X1]).length,h++[O.lst X1]++[O.lst [.ref p]]):=by simp only[y_lst,evs,Qu,r5,Qi]
 have k2:Kp (h++[O.lst X1]) (h++[O.lst X1]++[O.lst [.ref p]]):=Kp.app _ _
 have a1:=Qa3 (k2 _ _ (at0 (hs:=h) (a:=O.lst X1))) (at0 (hs:=h++[O.lst X1]) (a:=O.lst [.ref p])) (by simp;lia)
 generalize h++[O.lst X1]++[O.lst [.ref p]]=A2 at v2 k2 a1;have k3:Kp A2 (A2++[O.lst (X1++[.ref p])]):=Kp.app _ _;have h3:(A2++[O.lst (X1++[.ref p])])[A2.length]?=some (.lst (X1++[.ref p])):=at0;generalize A2++[O.lst (X1++[.ref p])]=A3 at k3 h3 a1;have k03:=(k1.trans k2).trans k3;have v4:=s2 A3 (k03 _ _ hl);have k4:Kp A3 (A3++[O.lst X2]):=Kp.app _ _
 have a2:=Qa3 (k4 _ _ h3) (at0 (hs:=A3) (a:=O.lst X2)) (by simp;lia)
 generalize A3++[O.lst X2]=A4 at v4 k4 a2;have k5:Kp A4 (A4++[O.lst (X1++[.ref p]++X2)]):=Kp.app _ _;have kk:=(k03.trans k4).trans k5
 refine⟨_,_,_,QZ N none (some y)++[b]++QZ N (some y) none,Yu (Yu v1 v2 (show opU .Add _ _ _=_ from a1)) v4 (show opU .Add _ _ _=_ from a2),kk,at0,?_,by simp⟩
 exact Zt (Qv (db.kp kk) (Qb (λz z=>DN.kp kk) p1)) (Qb (λz z=>DN.kp kk) p2)
def Qph{x1 x2:Nat->List U->Hs->Option (Nat×Hs)}(es:s=ns.map λn=>U.int n 0)(hX:∀f us hs,xx f us hs=Z8 (tbG x1 s) 4 f us hs)(hY:∀f us hs,x1 f us hs=Z8 (tbG x2 s) 4 f us hs):∃hs',Qa (tbG xx s) 9 22 [.scr] hs=some (.bl true,hs'):=by
 obtain⟨D,wo,WEB⟩:∃D:Wb,WOk D/\∀hs:Hs,∃hs' u,Qa (tbG xx s) 8 16 [.scr] hs=some (u,hs')/\Kp hs hs'/\DW hs' u D:=by subst es;exact Qnx (xx:=xx) (ns:=ns) (m:=4)
 have CEL:∀(k:Nat) (h:Hs),Qa (tbG xx s) 8 6 [.scr,.int (k:Int) 0] h=some (.int (QF ns k) 0,h):=λk h=>by subst es;exact Qft (xx:=xx) (ns:=ns) (m:=7)
 have NAM:∀{h0:Hs} {u:U},DW h0 u D->∃h2 p us N,Qa (tbG xx s) 8 17 [.scr,u] h0=some (.ref p,h2)/\Kp h0 h2/\h2[p]?=some (.lst us)/\Paired (DN h2) us N/\(∀a∈N,a∈D.lie)/\N.length<=400000:=λdw=>by
  subst es
  obtain⟨a,b,c,d,e,f,g,h,i,j⟩:=Qj0 (xx:=xx) (ns:=ns) (m:=6) dw (by have:=wo.ll;lia)
  exact⟨a,b,c,d,e,f,g,h,i,by have:=wo.ll;lia⟩
 have bn:=Qj3 wo;clear es;obtain⟨h1,u,g1,k1,d1⟩:=WEB hs;obtain⟨h2,ln,us,N,g2,k2,hl,pu,hN,lN⟩:=NAM d1
 have REF:∀{m l:Nat} {h:Hs} {vs:List U} {M:List Nm} {b:Nm},Kp h1 h->h[l]?=some (.lst vs)->Paired (DN h) vs M->b∈M->b∉D.lie->Qa (tbG xx s) (m+4) 1 [u,.ref l] h=none/\∃h',(tbG xx s).xf 1 [u,.ref l] h=some (3,h')/\Kp h h':=λ{m l h vs M b} k hv pm mb nb=>by
  have dG:=d1.kp k;have bad:∃a∈M,a∉D.lie:=⟨b,mb,nb⟩;obtain⟨_,hy1,yy1,_⟩:=JC (xx:=x1) (s:=s) (m:=1) dG bn hv pm bad;obtain⟨_,hy2,yy2,ky⟩:=JC (xx:=x2) (s:=s) (m:=1) dG bn hv pm bad;exact⟨(QbS (xx:=xx) (s:=s) (m:=m) dG bn hv pm bad ((hX 5 _ _).trans yy1)).1,hy2,(hX 1 _ _).trans (QbS (xx:=x1) (s:=s) (m:=0) dG bn hv pm bad ((hY 5 _ _).trans yy2)).2,ky⟩
 have g3:biU (tbG xx s) .list [.ref ln] h2=some (.ref h2.length,h2++[O.lst us]):=by
  unfold biU;simp only[ZF,hl]
 have k3:Kp h2 (h2++[O.lst us]):=Kp.app _ _;have h3l:(h2++[O.lst us])[h2.length]?=some (.lst us):=at0;generalize h2++[O.lst us]=h3 at g3 k3 h3l;have pu3:=Qb (λz z=>DN.kp k3) pu
 obtain⟨h4,lf,vs,g4,k4,hf,pv⟩:=Qg1 (xx:=xx) (s:=s) (m:=4) (d1.kp (k2.trans k3)) bn h3l pu3 (by lia) hN
 have g5:=Qg2 (xx:=xx) (s:=s) (m:=5) hf pv;have k5:Kp h4 (h4++[O.lst [],O.lst []]):=Kp.app _ _;generalize h4++[O.lst [],O.lst []]=h5 at g5 k5;have k35:=k4.trans k5;have q1:=Qmb (T:=tbG xx s) (k35 _ _ h3l) ((k3.trans k35) _ _ hl) (Qb (λz z=>DN.kp k35) pu3) (Qb (λz z=>DN.kp k35) pu3);obtain⟨h6,u6,g6,k6,d6⟩:=WEB h5;have k26:=(k3.trans k35).trans k6;have k16:=k2.trans k26;have q6:=QoX (T:=tbG xx s) (d1.kp k16) d6
 obtain⟨h7,g7,k7⟩:=QmM (xx:=xx) (s:=s) (m:=6) (d1.kp k16) bn (k26 _ _ hl) (Qb (λz z=>DN.kp k26) pu) (by lia) hN ((k5.trans k6) _ _ hf) (Qb (λz z=>DN.kp (k5.trans k6)) pv)
 have k17:=k16.trans k7;obtain⟨ia,ra,sa,ha,pa⟩:=Qe1 d1;obtain⟨ib,ik,io,rb,rk,ro,sb,hb,hk,ho,pb,pk,po⟩:=Qkt d1
 have vt:∀d,ev (tbG xx s) (Qa (tbG xx s) 8) (d+8) tpE ([some .scr,some u,sR ln,sR h2.length,sR lf,none,none,none]) h7=some (.ref h7.length,h7++[O.tup [.int (QF ns 1 / 4 % ((ra.length:Int)+1)) 0,.int (QF ns 2 / 3 % 10-1) 0]]):=λd=>
  Yk (Yu (Zq (Yd rfl (CEL 1 _)) (by decide)) (Yu (Yc (YL rfl (sa _ _ k17)) (k17 _ _ ha)) y_c QaB) (Qgo (by lia))) (Yu (Zp (Zq (Yd rfl (CEL 2 _)) (by decide)) (by decide)) y_c Qjk)
 generalize QF ns 1 / 4 % ((ra.length:Int)+1)=e1 at vt;generalize QF ns 2 / 3 % 10-1=e2 at vt;have k8:Kp h7 (h7++[O.tup [.int e1 0,.int e2 0]]):=Kp.app _ _;have d8:DN (h7++[O.tup [.int e1 0,.int e2 0]]) (.ref h7.length) (e1,e2):=⟨_,rfl,at0⟩;generalize h7++[O.tup [.int e1 0,.int e2 0]]=h8 at vt k8 d8;have k18:=k17.trans k8
 have IN:ZC (tbG xx s) .In (.ref h7.length) (.ref ib) h8=some (decide ((e1,e2)∈D.lie)):=by
  obtain⟨i,ei,e8⟩:=d8;cases ei
  have e9:itU h8 (.ref h7.length)=some [e1,e2]:=by simp only[itU,e8,nmK,JV,Option.map]
  have:=Qm0 (a:=(e1,e2)) D.lie;simp only[ZC,ZF,k18 _ _ hb,inX,e9,QhV (Qb (λz z=>DN.kp k18) pb),Option.bind,Option.map,this]
 suffices Cc (tbG xx s) 9 22 [.scr] hs λu z=>u=.bl true from by
  obtain⟨u,h1,a,rfl⟩:=this;exact⟨h1,a⟩
 refine Qh8 Qrt ?_;rw[QmQ]
 refine Q3 (Zl (Yd rfl g1) (Q3 (Zl (Yd rfl g2) (Q3 (Zl (Qkq (Qc rfl) g3) (Q3 (Zl (Yd rfl g4) (Qdg (c:=false) (h1:=h6) (QkT (Qds (Yd rfl g5)) (QkT (QK (Qc rfl) (Qc rfl) (by simp only[ZC,q1,Option.map,U6])) (QK (Qc rfl) (Yd rfl g6) (by simp only[ZC,q6,Option.map,U6])))) (QM (Qdg (c:=false) (h1:=h7) (Qds (Yd rfl g7)) (QM (Q3 (Zl (vt _) (Qdg (QK (Qc rfl) (YL rfl (sb _ _ k18).1) IN) ?_))))))))))))))
 by_cases m:(e1,e2)∈D.lie
 ·rw[if_pos (by simp[m])]
  exact QiN (Zl y_c rfl)
 rw[if_neg (by simp[m])]
 have k28:=(k26.trans k7).trans k8
 have vy:∀{d:Nat} {Z:Rho},Z[0]?=some (some .scr)->Z[2]?=some (sR ln)->ev (tbG xx s) (Qa (tbG xx s) 8) (d+4) (.op .Mod (.call 6 [(.var 0),(.c (.int 3 0))]) (.op .Add (.bi .len [(.var 2)]) (.c (.int 1 0)))) Z h8=some (.int (QF ns 3 % ((us.length:Int)+1)) 0,h8):=λ{d Z} r0 r2=>
  Yu (Yd (by simp only[evs,Qu,r0,y_c,Qi];rfl) (CEL 3 _)) (Yu (Yc (Qc r2) (k28 _ _ hl)) y_c QaB) (Qgo (by lia))
 generalize QF ns 3 % ((us.length:Int)+1)=y at vy;obtain⟨h9,l9,v9,N9,g9,k9,hl9,p9,m9⟩:=QpE (T:=tbG xx s) (cf:=Qa (tbG xx s) 8) (d:=82) (Z:=[some .scr,some u,sR ln,sR h2.length,sR lf,sR h7.length,sI y,some (.bl false)]) rfl rfl rfl (k28 _ _ hl) (Qb (λz z=>DN.kp k28) pu) lN d8;obtain⟨f9,h10,x10,k10⟩:=REF (m:=4) (k18.trans k9) hl9 p9 m9 m;have k810:=k9.trans k10;obtain⟨h11,l11,v11,N11,g11,k11,hl11,p11,m11⟩:=QpE (T:=tbG xx s) (cf:=Qa (tbG xx s) 8) (d:=79) (Z:=[some .scr,some u,sR ln,sR h2.length,sR lf,sR h7.length,sI y,some (.bl true)]) rfl rfl rfl ((k28.trans k810) _ _ hl) (Qb (λz z=>DN.kp (k28.trans k810)) pu) lN (d8.kp k810);obtain⟨f11,h12,x12,_⟩:=REF (m:=3) ((k18.trans k810).trans k11) hl11 p11 m11 m;have r1:=Qfq (xx:=xx) (s:=s) (m:=7) f11 x12
 have np:(tbG xx s).ers.contains 3=true/\(tbG xx s).esb.contains (3,3)=true/\(match (tbG xx s).fns[1]? with|some F=>decide ([u,U.ref l9].length=F.np)|none=>false)=true:=⟨rfl,rfl,rfl⟩
 refine QM (Q3 (Zl (vy rfl rfl) (Q3 (Zl y_c (QhB (ρ1:=[some .scr,some u,sR ln,sR h2.length,sR lf,sR h7.length,sI y,some (.bl true)]) (h1:=h10) ?_ (QiN (Zl (Qdr (Qc rfl) (Yd (us:=[u,.ref l11]) ?_ r1)) rfl)))))))
 ·rw[ex];simp only[evs,Qu,Qi,We,Wi,Xm,Xh,g9,f9,x10];refine(if_pos np).trans ?_;simp only[QnW,QoV,Qjz,QI,Qdi,y_c,Qi,Qal,We,Wi]
 ·simp only[evs,Qu,Qi,Xm,Xh,g11]
def comp(ns:List Int)(hl:ns.length<=63):∃s hs',Paired (λ(u:U) (i:Int)=>∃r m,u=.int r m/\∃q:Int,i=r+m*q) s ns/\Qa (tb (s)) 9 22 [.scr] []=some (.bl true,hs'):=by
 obtain⟨hs',e⟩:=Qph (xx:=Z8 (QkZ (ns.map λn=>U.int n 0)) 4) (s:=ns.map λn=>U.int n 0) (ns:=ns) (x1:=Z8 (tbX (ns.map λn=>U.int n 0)) 4) (x2:=λz z z=>none) rfl (λz z z=>rfl) (λz z z=>rfl) (hs:=[]);exact⟨_,hs',QhG ns,e⟩
noncomputable def hfL:List Addr:=[94,101,106,113,118,123,130,137,144,149,156,163,170,175,182,189,194,199,206,213,218,225,232]
noncomputable def hcL:List Addr:=[24,37,56,68,87]
noncomputable def hkL:List Addr:=[]
noncomputable def adr(a:Addr):Adr:=⟨λi=>hfL.getD i 0,λi=>hcL.getD i 0,λi=>hkL.getD i 0,a⟩
def QbN(s:List U)(x:Nat->List U->Hs->Option (Nat×Hs)):Y9 {tbX s with xf:=x} glo Qno:=Qfu (by repeat (first|exact .nil|refine .cons (by kernel_rfl) ?_))
def QmN(s:List U):Y9 (tb s) glo Qno:=QbN s _
section
variable (w:World)(s:List U)(a:Addr)
def Qq9:AllI (FnA (K w.params) (adr a)) 0 (tbX s).fns:=by(repeat (first|exact .nil|refine .cons ⟨by kernel_rfl,by kernel_rfl,.inl λv=>by kernel_rfl⟩ ?_))
def Qrj:AllI (λz (p:Nat×Df)=>∃fd x q st,FunD (K w.params) x q st ((adr a).f p.1) fd/\Qkx (adr a) (K w.params) fd p.2/\∀F,(tbX s).fns[p.1]?=some F->F.ps=p.2.ps/\F.np=p.2.np) 0 (tbX s).dfl:=.nil
def Qqj:Qkv (λk c=>coB (K w.params) (adr a) ((adr a).k k) c) 0 (tbX s).cons=true:=by kernel_rfl
def Qq5:AllI (λk z=>Qqp (K w.params) w ((adr a).k k)) 0 (tbX s).cons:=by repeat (first|exact .nil|refine .cons (by kernel_rfl) ?_)
def Qqv:QnG (K w.params) (tbX s) (adr a) glo Qno=true:=by kernel_rfl
end
def all_at{l:W.OpenLaw}(w:World){mg:Str->Option Value}{fa:Addr}{h:Heap}(X:(K w.params).In h)(G:h.Ns mainGlobals mg)(hfa:mg "law"=some (.ref fa)):
  ∃fd:FuncData,(∀(s:Shared) (v:Value),BindsTo s fd ⟨[v],[]⟩ [("_law_script",v)])/\∀base:Heap,(K w.params).In base->base.Ns mainGlobals mg->FnOk l.prog w (K w.params) mg base CX0 (0+2+2*4+2+2*4+2*9) fa fd ["_law_script"] (QfY (K w.params)):= by
 have tp:∀(s:List U) (a:Addr),Top (tbX s) (adr a) (K w.params) mg glo Qno:=λs a=>QkX X G (Qq9 w s a) (Qqj w s a) (Qqv w s a) (Qrj w s a) (.cons (QoW (by kernel_rfl) (by kernel_rfl) λz=>rfl) .nil)
 have tab:∀(s:List U) (a:Addr),Qaj l.prog w (tbX s) (adr a) (K w.params):=λs a=>Qk0 (Qqj w s a) (Qq5 w s a)
 cases hfa.symm.trans ((tp [] 0).gfn "law" 22 (by kernel_rfl))
 have hX0:∀(base:Heap) (s:List U) (a:Addr),XOk l.prog w (K w.params) mg base (tbX s) (adr a) 0:=λbase s a=>QqT (tp s a) rfl;have hX1:∀(base:Heap) (s:List U) (a:Addr),XOk l.prog w (K w.params) mg base (QkZ s) (adr a) (0+2+2*4):=λbase s a=>QpC (T:=tbX s) (T':=QkZ s) (m:=4) rfl rfl rfl rfl rfl rfl rfl (tp s a) (tab s a) (QbN s _) (hX0 base s a);have hX:∀(base:Heap) (s:List U) (a:Addr),XOk l.prog w (K w.params) mg base (tb s) (adr a) (0+2+2*4+2+2*4):=λbase s a=>QpC (T:=QkZ s) (T':=tb s) (m:=4) rfl rfl rfl rfl rfl rfl rfl (QkV (tp s a)) (tab s a) (QbN s _) (hX1 base s a)
 exact⟨QcX (K w.params) ((adr 0).f 22),λs v=>.of_eq (by kernel_rfl),λbase z z=>Qmi (tb:=tb) (adr:=adr) (L:=22) (F:=⟨"law","law",(top 30),["_law_script"],N22,1,8,true,b22⟩) (λz=>rfl) (λz=>rfl) rfl rfl (λz=>rfl) (λz=>rfl) (λs a=>QkV (tp s a)) (λs a=>tab s a) QmN (hX base) (QeL (F:=⟨"law","law",(top 30),["_law_script"],N22,1,8,true,b22⟩) (by kernel_rfl) (by kernel_rfl)).1 comp⟩
def walk{l:W.OpenLaw}{q:Program}{loose:List Str}{XP:(Str->Option Value)->Heap->Prop}{YP:World->Heap->Prop}{d:DefRec}{K:Params->W.Frag}(hn:l.most=some 63)(hdf:d.params.defaults=[])
  (hY:∀(w:World) (h:Heap),YP w h->(K w.params).In h)
  (F:∀(w:World) (mg:Str->Option Value) (fa:Addr) (h:Heap),(K w.params).In h->h.Ns mainGlobals mg->mg d.name=some (.ref fa) ->
   ∃fd:FuncData,(∀(s:Shared) (u:Value),BindsTo s fd ⟨[u],[]⟩ [("_law_script",u)])/\∀base:Heap,(K w.params).In base->base.Ns mainGlobals mg->FnOk l.prog w (K w.params) mg base CX0 (0+2+2*4+2+2*4+2*9) fa fd ["_law_script"] (QfY (K w.params))):
  W.WalkO q loose XP YP l.row.toRowW d [] (λf vs=>PySem.call f vs):=
 L2.walk_of (n:=63) (k:=(0+2+2*4+2+2*4+2*9)) (x:="_law_script") (CX:=λy=>CX0) (sp:=λw=>QfY (K w.params)) hn (by decide) hdf ⟨rfl,by decide,by decide⟩ hY F (λy y a ns hl hO hS=>⟨a,ns,rfl,hS,hO,hl,λy=>rfl⟩) λy y y y y z=>z
end K32
open PySem PySem.W PyProof.Rows
set_option maxRecDepth 100000 in
set_option maxHeartbeats 0 in
theorem PySem.Challenge.cw_stitchroom_k32_undone_holds : PySem.Challenge.rw_stitchroom_k32_undone.Holds := by
 w_on;refine W.holds_law (by kernel_rfl) λsaid=>?_
 refine holds_open (q:=K32.hq) (loose:=K32.hlo) (Xt:=K32.hXt) (XP:=XL K32.hq []) (Yf:=K32.hYf) (Ya:=K32.hYa) (YP:=Hook.says (kHook K32.K K32.KA K32.hKA)) (N:=3762) K32.hleft (Hook.of (kHook K32.K K32.KA K32.hKA)) (Hook.keeps (kHook K32.K K32.KA K32.hKA)) (λs e=>xl_of s (Bool.and_eq_true_iff.mp e).1) XL.keeps (by rfl) (by rfl) (by rfl) (λs e=>recFacts_of (Bool.and_eq_true_iff.mp e).2) (by rfl) (by first|assumption|decide +kernel) (by decide +kernel) ⟨rfl,rfl,rfl,rfl,rfl,by decide +kernel⟩ ?hw ?hc
 (case hw=>w_witness2)
 refine K32.walk (l:=PySem.Challenge.rw_stitchroom_k32_undone) rfl rfl (λw h Yyy=>W.kIn_of Yyy) ?F
 case F=>
  intro w mg fa h KX G hmg;exact K32.all_at w KX G hmg
