import PyProof.Rows.All
import KE.KDictOf
import KE.KIntText
import KE.KRevIter
import KE.KSortAsk
import KE.KTryMore
import KE.KTurns
import KE.LcSums
import PySem.Challenge.RW_stitchroom_k12_parts_counted
set_option Elab.async false
set_option linter.all false
set_option maxRecDepth 100000
set_option maxHeartbeats 4000000
set_option bootstrap.genMatcherCode false
set_option compiler.extract_closed false
set_option genSizeOf false
def Xa:=@PySem.wpAny_bind
def Xb:=@Option.bind_eq_some_iff
def Xc:=@Option.map_eq_some_iff
def Xd:=@PySem.Heap.get?_push_of_some
def Xe:=@Bool.and_eq_true
def Xf:=@PySem.wpAny_pure
def Xg:=@List.mem_cons
def Xh:=@List.getElem?_eq_some_iff
def Xi:=@Nat.le_refl
def Xj:=@List.mem_cons_of_mem
def Xk:=@PySem.Heap.lt_size
def Xl:=@List.not_mem_nil
def Xm:=@List.mem_cons_self
def Xn:=@Bool.false_ne_true
def Xo:=@PySem.wpAny_mono
def Xp:=@List.getElem?_eq_getElem
def Xq:=@List.length_map
def Xr:=@Nat.lt_of_lt_of_le
def Xs:=@decide_eq_true_eq
def Xu:=@PySem.Heap.get?_push_size
def Xv:=@List.size_toArray
def Xw:=@Option.some.inj
def Xy:=@Option.ite_none_right_eq_some
def Xz:=@List.all_eq_true
def X0:=@List.mem_append_right
def X1:=@Nat.ne_of_lt
def X2:=@List.mem_of_getElem?
def X3:=@List.getElem?_set_ne
def X4:=@List.getElem?_append_left
def X5:=@or_false
def X6:=@decide_eq_false
def X7:=@Nat.le_trans
def X8:=@PySem.wpAny_Call_Name_kw
def X9:=@List.getElem?_set_self
def Wg:=@if_true
def Wh:=@PySem.wpAny_holding
def Wi:=@List.getElem?_append_right
def Wj:=@beq_iff_eq
def Wl:=@PySem.wpAny_field
def Wm:=@List.length_cons
def Wn:=@List.length_append
def Wo:=@PySem.Heap.get?_update_other
def Wp:=@Bool.false_eq_true
def Wq:=@beq_eq_false_iff_ne
def Wr:=@Ne.symm
def Ws:=@PySem.wpAny_newObj_type
def Wt:=@of_decide_eq_true
def Wu:=@Nat.lt_irrefl
def Wv:=@decide_eq_true
def Ww:=@List.of_mem_zip
def Wx:=@List.mem_singleton
def Wy:=@Option.isSome_iff_exists
def Wz:=@PySem.Heap.get?_update_self
def W2:=@List.length_nil
def W3:=@PyProof.Rows.callWith_type1
def W4:=@Nat.lt_succ_self
def W5:=@Option.getD_some
def W6:=@List.lookup_cons
def W7:=@PySem.Heap.size_push
def W8:=@Nat.zero_le
def W9:=@PySem.wpAny_seqItems
def Vl:=@Array.length_toList
def Vm:=@List.set_append_right
def Vn:=@if_false
def Vo:=@Nat.zero_add
def Vq:=@PySem.codeAny_call_builtin
def Vr:=@Bool.and_eq_true_iff
def Vs:=@Option.some.injEq
def Vt:=@Bool.not_eq_true'
def Vu:=@List.append_nil
def Vv:=@List.replicate_succ
def Vw:=@List.map_cons
def Vx:=@PySem.wpAny_call
def Vy:=@PySem.F.excBase_ValueError
def Vz:=@List.length_take
def V0:=@List.contains_iff_mem
def V1:=@PySem.codeAny_mono
def V2:=@PySem.Around.under_plainId
def V3:=@List.getElem?_of_mem
def V4:=@PySem.W.kia_one
def V5:=@List.all_cons
def V6:=@PySem.wpAny_callSpecial?_slot
def V7:=@List.length_drop
def V8:=@PySem.F.plain_max_loop
def V9:=@List.take_of_length_le
def Ua:=@PySem.F.attrBase_ValueError
def Ub:=@PySem.wpAny_setField_rec
def Uc:=@PySem.codeAny_builtin
def Ud:=@List.lookup_cons_self
def Ue:=@List.getElem?_eq_none
def Uf:=@PySem.F.slot_tuple_iterator_next
def Ug:=@PySem.wpAny_truthy_bool
def Uh:=@PySem.wpAny_pyIter_list
def Ui:=@List.getElem?_map
def Uj:=@List.flatten_cons
def Uk:=@Nat.le_succ
def Ul:=@PySem.mem_of_lookup
def Um:=@PyProof.Rows.slot_tuple_getitem
def Uo:=@PySem.wpAny_standAt
def Up:=@Option.map_some
def Uq:=@List.mem_append
def Ur:=@PySem.wpAny_pyIter_tuple
def Us:=@PySem.Obj.data_mapFields
def Ut:=@Bool.or_eq_true
def Uu:=@List.length_zip
def Uv:=@PySem.wpAny_loadPart_at
def Uw:=@Nat.sub_self
def Ux:=@List.map_map
def Uy:=@PySem.Heap.get?_none_of_le
def Uz:=@PySem.wpAny_call_entry
def U0:=@List.getElem_mem
def U1:=@PySem.Calls.Name_function_global
def U2:=@PySem.plainId_quiet
def U3:=@Bool.and_true
def U4:=@PySem.wpAny_attempt
def U5:=@Array.getElem?_eq_some_iff
def U6:=@Bool.and_self
def U7:=@PySem.sizeLine_eq
def U8:=@PySem.wpAny_letGo
def U9:=@List.filterMap_cons
def Ta:=@PySem.wpAny_passesOwn
def Tb:=@List.getElem?_eq_none_iff
def Tc:=@PySem.W.callWith_K
def Td:=@PySem.W.looks_findIn
def Tf:=@PySem.wpAny_tryCatch
def Th:=@List.getElem?_replicate
def Tj:=@PySem.F.plainAttrs_list
def Tk:=@PySem.Calls.callWith_builtin
def Tn:=@PySem.wpAny_of_eq
def To:=@Nat.le_of_not_lt
def Tp:=@List.countP_cons
def Tq:=@List.length_replicate
def Ts:=@PySem.Obj.isFreed_of_fields
def Tt:=@List.mem_filter
def Tu:=@PySem.wpAny_execs_nil
def Tv:=@Bool.eq_iff_iff
def Tw:=@List.nodup_cons
def Tx:=@Int.natCast_mul
def Tz:=@PySem.F.slot_zip_next
def T0:=@List.mem_map
def T1:=@List.drop_eq_nil_iff
def T3:=@List.length_zipWith
def T4:=@List.mem_filterMap
def T5:=@Int.mul_assoc
def T6:=@Bool.true_and
def Znn{α:Type}{P:Prop}{x:α}(h:(none:Option α)=some x):P:=nomatch h
namespace Iv
open PySem PySem.W PySem.Spec PyProof.Rows
variable {α β Y:Type}
noncomputable def YY(tb:String->Option Builtin)(p:Program)(w:World)(n₀:Nat)(ann:Option Value):Nat->SharedT->Thread->Option SharedT
 |0,_,_=>none
 |n+1,s,t=>match through t with
  |true=>some s
  |false=>match stepOk n₀ ann t with
   |false=>none
   |true=>match stepT (denote tb) p w s t with
    |some (s',t')=>YY tb p w n₀ ann n s' t'
    |none=>none
theorem Qax:∀{n:Nat} {s s':SharedT} {t:Thread},YY tb p w n₀ ann n s t=some s'->topRun tb p w n₀ ann n s.abs t=some s'.abs
 |0,_,_,_,h=>by cases h
 |n+1,s,s',t,h=>by
  unfold YY at h;unfold topRun
  cases he:through t with
  |true=>rw[he]at h;cases h;rfl
  |false=>
   rw[he]at h
   cases hk:stepOk n₀ ann t with
   |false=>rw[hk]at h;cases h
   |true=>
    rw[hk]at h
    cases hs:stepT (denote tb) p w s t with
    |none=>rw[hs]at h;cases h
    |some r=>obtain⟨s₂,t₂⟩:=r;rw[hs]at h;rw[stepT_spec hs];exact Qax h
structure BootT where
 t:Params->BT
 n:Nat
 life:Life
noncomputable def BootT.at(B:BootT)(w:World)(os:OsState):SharedT:=⟨B.t w.params,B.n,B.life,Array.mk [],boot_drawn,boot_toks,os⟩
noncomputable abbrev RunT(p q:Program)(loose:List Str)(Xt:Shared->Bool){α:Type}(Yf:Shared->α)(Ya:World->α)(N:Nat)(g0:Bool)(B:BootT)(m₀:Nat)(ann:Option Value)(w:World):Prop :=
 ∀os:OsState,(YY treeTable p w m₀ ann N (B.at w os) (topStub p)).map (λs=>((staticsOk (importedModules p.main.body) (boot_heap w.params) s.abs.heap&&namesBound p s.abs.heap&&gensDone s.abs&&laidKept (boot_heap w.params) s.abs.heap),openSeen q loose (importedModules p.main.body) Xt g0 s.abs,Yf s.abs))=some (true,openGood q loose,Ya w)
def left_tree
  (op:opening p=plainProg p.main.scope.names) (hN:Nat.ble 600 N=true) (fm:∀s,fenceModules? p s=some s)
  (hB:∀w:World,absHeap (B.t w.params) B.n B.life=boot_heap w.params)
  (size:∀w:World,((boot_heap w.params).isNs mainGlobals,(boot_heap w.params).objs.size,(boot_heap w.params).nsMap mainGlobals "__annotations__")=(true,m₀,ann))
  (run:∀w,RunT p q loose Xt Yf Ya N g0 B m₀ ann w):LeftO p q loose Xt Yf Ya N g0:=λw=>by
 obtain⟨⟨h,gs,d,k,os⟩,e,e'⟩:=Xc.mp (boot_open (N:=N) op hN fm w)
 obtain⟨rfl,rfl,rfl,rfl⟩:h=boot_heap w.params/\gs=Array.mk []/\d=boot_drawn/\k=boot_toks:=by simpa using e'
 obtain⟨z1,z2,z3⟩:_/\_/\_:=by simpa only[Prod.mk.injEq]using size w
 obtain⟨s1,r,l⟩:=Xc.mp (run w os)
 obtain⟨l1,l2,l3⟩:_/\_/\_:=by simpa only[Prod.mk.injEq]using l
 have r:=Qax r
 have ab:(B.at w os).abs=⟨boot_heap w.params,Array.mk [],boot_drawn,boot_toks,os⟩:=by
  unfold BootT.at SharedT.abs;rw[hB w]
 rw[ab]at r
 have t:topFrom treeTable p w N ⟨boot_heap w.params,Array.mk [],boot_drawn,boot_toks,os⟩=some s1.abs:=by
  unfold topFrom;dsimp only;rw[z1,z2,z3,r]
  show(match staticsOk (importedModules p.main.body) (boot_heap w.params) s1.abs.heap&&namesBound p s1.abs.heap&&gensDone s1.abs&&laidKept (boot_heap w.params) s1.abs.heap with|true=>_|false=>_)=_
  rw[l1]
 unfold openEnds;rw[e];show(topFrom treeTable p w N _).map _=_;rw[t];exact congrArg some (Prod.ext l2 l3)
def Qdp{x:Option Y}{f:Y->α}{g:Y->β}{a:α}{b:β}(h1:x.map f=some a)(h2:x.map g=some b):x.map (λs=>(f s,g s))=some (a,b):=by
 cases x with
 |none=>cases h1
 |some s=>cases h1;cases h2;rfl
def Qfi{x:Option Y}{f:Y->α×β}{a:α×β}(h1:x.map (λs=>(f s).1)=some a.1)(h2:x.map (λs=>(f s).2)=some a.2):x.map f=some a:=by
 cases x with
 |none=>cases h1
 |some s=>
  simp only[Up,Vs]at h1 h2 ⊢;exact Prod.ext h1 h2
def QgE{γ δ τ:Type}{x:Option Y}{f:Y->α×β}{e:Y->τ×γ}{g:Y->δ}{a:α}{b:β}{c:γ}{d:δ}{t:τ}(h0:x.map e=some (t,c))(h1:x.map f=some (a,b))(h2:x.map g=some d):x.map (λs=>(e s).1)=some t/\x.map (λs=>((f s).1,(f s).2,(e s).2,g s))=some (a,b,c,d):=by
 cases x with
 |none=>cases h1
 |some s=>
  simp only[Up,Vs]at h0 h1 h2 ⊢;rw[h0,h1,h2];exact⟨rfl,rfl⟩
section
variable (p q:Program)(loose:List Str)(Xt:Shared->Bool)(N:Nat)(g0:Bool)(B:BootT)(m₀:Nat)(ann:Option Value)
noncomputable abbrev Qje(w:World)(os:OsState):Option SharedT:=YY treeTable p w m₀ ann N (B.at w os) (topStub p)
def PAt(w:World):Prop:=∀os:OsState,(Qje p N B m₀ ann w os).map (λs=>(staticsOk (importedModules p.main.body) (boot_heap w.params) s.abs.heap&&namesBound p s.abs.heap&&gensDone s.abs&&laidKept (boot_heap w.params) s.abs.heap,tabsOk q s.abs))=some (true,true)
def PB1(w:World):Prop:=∀os:OsState,(Qje p N B m₀ ann w os).map (λs=>(openSeen q loose (importedModules p.main.body) Xt g0 s.abs).1)=some (openGood q loose).1
def PB2(w:World):Prop:=∀os:OsState,(Qje p N B m₀ ann w os).map (λz=>let s:=z.abs;(s.heap.bltView,s.heap.keysOk (looseW q loose) ((recsOf q).map (·.name)) ((litsOf q).map (·.1)) ((clssOf q (looseW q loose)).map (·.name))&&s.heap.accountedOkI (importedModules p.main.body)&&s.heap.isNs mainGlobals&&s.heap.isNs builtinsNs&&tablesOk q s.heap&&Xt s&&(if g0 then s.gens.size==0 else !leftWithCleanup s.gens)))=some (bltViewBooted,true)
def PB3(w:World):Prop:=∀os:OsState,(Qje p N B m₀ ann w os).map (λz=>let s:=z.abs;(pinSeenD q (drecsOf q) s,plainSeenE q (looseW q loose) s,plainSeenD q loose s,wideSeen q s,clsSeenW q loose s))=some (pinGoodD (drecsOf q),plainGoodE q (looseW q loose),plainGoodD q loose,wideGood q,clsGoodW q loose)
abbrev PC(as:List Addr)(bs:List (Option Obj))(w:World):Prop:=∀os:OsState,(Qje p N B m₀ ann w os).map (λs=>as.map λa=>s.abs.heap.get? a)=some bs
variable {p q loose Xt N g0 B m₀ ann}
def parts_run{as:List Addr}{Ya:World->List (Option Obj)}{w:World}(a:PAt p q N B m₀ ann w)(b1:PB1 p q loose Xt N g0 B m₀ ann w)(b2:PB2 p q loose Xt N g0 B m₀ ann w)(b3:PB3 p q loose N B m₀ ann w)(c:PC p N B m₀ ann as (Ya w) w):
  RunT p q loose Xt (λs=>as.map s.heap.get?) Ya N g0 B m₀ ann w:=λos=>Qdp (QgE (a os) (b2 os) (b3 os)).1 (Qdp (Qfi (b1 os) (QgE (a os) (b2 os) (b3 os)).2) (c os))
abbrev PL(p q:Program)(loose:List Str)(Xt:Shared->Bool)(N:Nat)(g0:Bool)(B:BootT)(m₀:Nat)(ann:Option Value)(w:World):Prop:=∀os:OsState,(Qje p N B m₀ ann w os).map (λs=>((staticsOk (importedModules p.main.body) (boot_heap w.params) s.abs.heap&&namesBound p s.abs.heap&&gensDone s.abs&&laidKept (boot_heap w.params) s.abs.heap),openSeen q loose (importedModules p.main.body) Xt g0 s.abs))=some (true,openGood q loose)
end
abbrev PX(p:Program)(N:Nat)(B:BootT)(m₀:Nat)(ann:Option Value){α:Type}(f:Shared->α)(a:α)(w:World):Prop:=∀os:OsState,(Qje p N B m₀ ann w os).map (λs=>f s.abs)=some a
noncomputable abbrev f1(q:Program)(s:Shared):=seen ((recsOf q).map (·.name)) (ownsOf q) [] {s with gens:=#[]}
noncomputable abbrev f2(s:Shared):=s.heap.bltView
noncomputable abbrev f3(q:Program)(loose:List Str)(s:Shared):Bool:=s.heap.keysOk (looseW q loose) ((recsOf q).map (·.name)) ((litsOf q).map (·.1)) ((clssOf q (looseW q loose)).map (·.name))
noncomputable abbrev f4(q:Program)(mods:List Str)(Xt:Shared->Bool)(g0:Bool)(s:Shared):Bool:=s.heap.accountedOkI mods&&s.heap.isNs mainGlobals&&s.heap.isNs builtinsNs&&tablesOk q s.heap&&Xt s&&(if g0 then s.gens.size==0 else !leftWithCleanup s.gens)
noncomputable abbrev f5(q:Program)(s:Shared):Bool:=tabsOk q s
noncomputable abbrev f6(q:Program)(loose:List Str)(s:Shared):=(pinSeenD q (drecsOf q) s,plainSeenE q (looseW q loose) s,plainSeenD q loose s)
noncomputable abbrev f7(q:Program)(loose:List Str)(s:Shared):=(wideSeen q s,clsSeenW q loose s)
noncomputable abbrev fA(p:Program)(w:World)(s:Shared):Bool:=staticsOk (importedModules p.main.body) (boot_heap w.params) s.heap&&namesBound p s.heap&&gensDone s&&laidKept (boot_heap w.params) s.heap
abbrev Lk1(p q:Program)(N:Nat)(B:BootT)(m₀:Nat)(ann:Option Value)(w:World):Prop:=PX p N B m₀ ann (λs=>(fA p w s,f1 q s,f2 s)) (true,expectedOf q,bltViewBooted) w
abbrev Lk2(p q:Program)(loose:List Str)(Xt:Shared->Bool)(N:Nat)(g0:Bool)(B:BootT)(m₀:Nat)(ann:Option Value)(w:World):Prop:=PX p N B m₀ ann (λs=>(f3 q loose s,f4 q (importedModules p.main.body) Xt g0 s,f5 q s,f6 q loose s,f7 q loose s)) (true,true,true,(pinGoodD (drecsOf q),plainGoodE q (looseW q loose),plainGoodD q loose),(wideGood q,clsGoodW q loose)) w
abbrev Lk3(p q:Program)(loose:List Str)(N:Nat)(B:BootT)(m₀:Nat)(ann:Option Value)(w:World):Prop:=PX p N B m₀ ann (λs=>(f3 q loose s,f5 q s)) (true,true) w
abbrev Lk5(p q:Program)(Xt:Shared->Bool)(N:Nat)(g0:Bool)(B:BootT)(m₀:Nat)(ann:Option Value)(w:World):Prop:=PX p N B m₀ ann (f4 q (importedModules p.main.body) Xt g0) true w
abbrev Lk4(p q:Program)(loose:List Str)(N:Nat)(B:BootT)(m₀:Nat)(ann:Option Value)(w:World):Prop:=PX p N B m₀ ann (λs=>(f6 q loose s,f7 q loose s)) ((pinGoodD (drecsOf q),plainGoodE q (looseW q loose),plainGoodD q loose),(wideGood q,clsGoodW q loose)) w
noncomputable abbrev Qm9(p q:Program)(loose:List Str)(Xt:Shared->Bool){α:Type}(Yf:Shared->α)(g0:Bool)(w:World)(s:Shared):=((staticsOk (importedModules p.main.body) (boot_heap w.params) s.heap&&namesBound p s.heap&&gensDone s&&laidKept (boot_heap w.params) s.heap),openSeen q loose (importedModules p.main.body) Xt g0 s,Yf s)
noncomputable abbrev vF(p q:Program)(w:World)(s:SharedT):=(fA p w s.abs,f1 q s.abs,f2 s.abs)
noncomputable abbrev gF(q:Program):=(true,expectedOf q,bltViewBooted)
noncomputable abbrev vK(p q:Program)(loose:List Str)(Xt:Shared->Bool)(g0:Bool)(s:SharedT):=(f3 q loose s.abs,f4 q (importedModules p.main.body) Xt g0 s.abs,f5 q s.abs)
noncomputable abbrev vL(q:Program)(loose:List Str)(s:SharedT):=(f6 q loose s.abs,f7 q loose s.abs)
noncomputable abbrev gL(q:Program)(loose:List Str):=((pinGoodD (drecsOf q),plainGoodE q (looseW q loose),plainGoodD q loose),(wideGood q,clsGoodW q loose))
end Iv
namespace L2
open PySem PySem.Spec PyProof.Rows
noncomputable def Ql(s:Stmt)(j:Nat):Stmt:=match s with
 |.ClassDef _ _ _ body _ _ _ _ _ _ _=>body.getD j (.Pass ⟨0,0,0,0⟩)
 |_=>.Pass ⟨0,0,0,0⟩
noncomputable def QbC(s:Stmt):Arguments:=match s with
 |.FunctionDef _ a _ _ _ _ _ _ _ _=>a
 |_=>{posonlyargs:=[],args:=[],vararg:=none,kwonlyargs:=[],kw_defaults:=[],kwarg:=none,defaults:=[]}
noncomputable def Ze(s:Stmt):List Stmt:=match s with
 |.FunctionDef _ _ b _ _ _ _ _ _ _=>b
 |_=>[]
noncomputable def Qg(s:Stmt):Scope:=match s with
 |.FunctionDef _ _ _ _ _ _ sc _ _ _=>sc
 |_=>{kind:=.function,names:=[],isGenerator:=false,isCoroutine:=false}
end L2
namespace K12
open PySem Iv L2
noncomputable def top(i:Nat):Stmt:=PySem.Challenge.pw_stitchroom_k12_parts_counted.main.body.getD i (.Pass ⟨0,0,0,0⟩)
noncomputable abbrev so(x:String):Str:=Str.ofString x
noncomputable abbrev rf(a:Addr):Value:=.ref a
noncomputable abbrev sv(x:String)(n:Nat):Value:=.str (Str.ofString x) n
noncomputable abbrev dk(P:Params)(x:String)(n:Nat)(v:Value):DictEntry:=DictEntry.mk (PyData.keyHash P (Str.ofString x)) (.str (Str.ofString x) n) v
noncomputable abbrev tu(xs:Array Value)(n:Nat):Obj:=Obj.mk (.type "tuple") none (Data.seq xs n) #[]
noncomputable abbrev ob(c:String)(d:Data):Obj:=Obj.mk (.type c) none d #[]
noncomputable abbrev en(P:Params)(x:Str)(k v:Value):DictEntry:=DictEntry.mk (PyData.keyHash P x) k v
noncomputable abbrev de(P:Params)(x:Str)(n:Nat)(v:Value):DictEntry:=DictEntry.mk (PyData.keyHash P x) (.str x n) v
noncomputable abbrev fo(x q:String)(s:Stmt)(d:Value)(m:String)(n c:Nat):Obj:=⟨.type "function",none,.func (W.fnOf (so x) (so q) (QbC s) (Ze s) (Qg s) d .none .none (sv m n) none (rf c) .none),#[]⟩
noncomputable abbrev z0:Value:=.int 0 0
noncomputable abbrev i0(n:Int):Value:=.int n 0
noncomputable abbrev hF:Value:=.bool false
noncomputable abbrev hT:Value:=.bool true
noncomputable abbrev sr(a:Addr):Option Value:=some (.ref a)
noncomputable abbrev hC(n:Nat):Value:=.str (Str.ofString "/claim/cut.py") n
noncomputable abbrev oc(d:Array Value):Obj:=Obj.mk (.type "code") none (Data.fields d) #[]
noncomputable abbrev cO(x q:String)(a l:Nat)(n r s u v y t:Value)(m d:Nat):Obj:=oc (#[sv x a,sv q (a+1),hC (a+2),i0 l,n,z0,z0,i0 3,r,hT,i0 181,s,u,v,y,t,i0 m,i0 l,hC d])
noncomputable abbrev dm(P:Params)(n:Nat)(x:String)(m:Nat):DictEntry:=dk P "__module__" n (sv x m)
noncomputable abbrev dq(P:Params)(n:Nat)(x:String)(m:Nat):DictEntry:=dk P "__qualname__" n (sv x m)
noncomputable abbrev hD(P:Params)(n:Nat):DictEntry:=dk P "__doc__" n .none
noncomputable abbrev dl(P:Params)(n:Nat)(x:Int)(m:Nat):DictEntry:=dk P "__firstlineno__" n (.int x m)
noncomputable abbrev ds(P:Params)(n:Nat)(a:Addr):DictEntry:=dk P "__static_attributes__" n (.ref a)
noncomputable abbrev dR(P:Params)(x:String)(n:Nat)(a:Addr):DictEntry:=dk P x n (.ref a)
noncomputable abbrev hp:Program:=PySem.Challenge.pw_stitchroom_k12_parts_counted
noncomputable abbrev hr:W.RowW:=(PySem.Challenge.rw_stitchroom_k12_parts_counted).row.toRowW
noncomputable def hB:Iv.BootT:=⟨λP=>(.node (W.boot_o_0 P) (.node (W.boot_o_1 P) (.node (W.boot_o_3 P) (.node (W.boot_o_7 P) .nil .nil) .nil) (.node (W.boot_o_5 P) (.node (W.boot_o_9 P) .nil .nil) .nil)) (.node (W.boot_o_2 P) (.node (W.boot_o_4 P) (.node (W.boot_o_8 P) .nil .nil) .nil) (.node (W.boot_o_6 P) (.node (W.boot_o_10 P) .nil .nil) .nil))),11,{}⟩
noncomputable def hq:Program:=W.view hp [0,2,3,4,5,6,7,8,9,10,11,12,13,14,16,17,18,19,20,21,22,24,25,26,27,28,29,31,32,33,34,35,36,38,39,40,41,42,43,44,45,46,47,48,49,51,52,53,54,55,56,57,58,59,60,61,62]
noncomputable abbrev hlo:List Str:=["SIDE_SIGNS","CROSS_SIGNS","NoSum","SIDES","CROSS_SIDES","MANY","CROSSED"]
noncomputable def hA(a:Nat)(o:Obj)(r:W.Frag):W.Frag:=(a,o)::r
noncomputable def fA(x q:String)(a l n c m:Nat)(s:Stmt)(v:Value)(u:String×Nat)(r:W.Frag):W.Frag:=(c,cO x q a l (i0 n) (rf (c-5)) (rf (c-4)) .none (rf (c-3)) (rf (c-2)) (rf (c-1)) m (m+1))::(c+1,fo x q s v u.1 u.2 c)::r
noncomputable def fB(x q:String)(a l n c m:Nat)(s:Stmt)(v:Value)(u:String×Nat)(r:W.Frag):W.Frag:=(c,cO x q a l (i0 n) (rf (c-3)) (rf (c-2)) .none .none .none (rf (c-1)) m (m+1))::(c+1,fo x q s v u.1 u.2 c)::r
noncomputable def fC(x:String)(a l n c m k:Nat)(u:String×Nat)(r:W.Frag):W.Frag:=fA x x a l n c m (top k) .none u r
noncomputable def fD(x:String)(a l n c m k:Nat)(u:String×Nat)(r:W.Frag):W.Frag:=fB x x a l n c m (top k) .none u r
noncomputable def oC(x:String)(c d t v:Nat)(b:List Value)(r:W.Frag):W.Frag:=(c,Obj.mk (.type "type") none (Data.cls (ClassData.mk (so x) [.type "object"] [rf c,.type "object"] d (so x) true [] b false none false)) #[none,none,some (sv x t),some (sv x v),some (.builtin "object.__new__"),some hT])::r
noncomputable def eC(x:String)(e c d y t v:Nat)(r:W.Frag):W.Frag:=(c,Obj.mk (.type "type") none (Data.cls (ClassData.mk (so x) [rf e] [rf c,rf e,.type "ValueError",.type "Exception",.type "BaseException",.type "object"] d (so x) true [] [] false none false)) #[sr y,none,some (sv x t),some (sv x v),some (.builtin "ValueError.__new__"),some hT])::r
noncomputable def gS(a c t:Nat)(u:Nat)(r:W.Frag):W.Frag:=(a,ob "getset_descriptor" (Data.fields #[sv "__dict__" t,rf c,.builtin "function.__dict__",.builtin "function.__dict__#set"]))::(a+1,ob "getset_descriptor" (Data.fields #[sv "__weakref__" u,rf c,.builtin "ExceptionGroup.__weakref__",.none]))::r
noncomputable abbrev mo0:String×Nat:=("stitchroom.stitches",194)
noncomputable abbrev mo1:String×Nat:=("stitchroom.errors",838)
noncomputable abbrev mo2:String×Nat:=("stitchroom.sums",980)
noncomputable abbrev mo3:String×Nat:=("stitchroom.counts",1021)
noncomputable abbrev mo4:String×Nat:=("stitchroom.marks",1062)
noncomputable abbrev mo5:String×Nat:=("law_stitchroom_k12_parts_counted",1159)
noncomputable def K:Params->W.Frag:=λP=>
 hA 2 (Obj.mk .none none (Data.dict #[] 0) #[]) <|
 hA 3 (ob "dict" (Data.dict #[(dk P "__name__" 165 (sv "law_stitchroom_k12_parts_counted" 1159)),(hD P 166),(dk P "__package__" 167 .none),(dk P "__loader__" 168 (.builtin "__main__.__loader__#opaque")),(dk P "__spec__" 169 .none),(dR P "__annotations__" 170 6),(dR P "__builtins__" 171 4),(dk P "__file__" 173 (hC 172)),(dk P "__cached__" 174 .none),(dR P "_wall" 193 21),(dR P "KEEPERS" 200 22),(dR P "SIDE_SIGNS" 208 23),(dR P "CROSS_SIGNS" 216 24),(dR P "Stitch" 250 48),(dR P "Plain" 317 111),(dR P "Slip" 375 165),(dR P "Over" 433 219),(dR P "Lean" 505 280),(dR P "Grow" 573 339),(dR P "Cross" 645 398),(dR P "Off" 703 452),(dR P "Keep" 770 513),(dR P "Fetch" 837 574),(dR P "StitchError" 857 586),(dR P "NoStitch" 873 599),(dR P "NoSum" 898 619),(dR P "NoPattern" 914 631),(dR P "TooMany" 930 643),(dR P "Miscount" 963 662),(dR P "NoChart" 979 674),(dR P "NOUGHT" 987 677),(dR P "plain_sum" 994 684),(dR P "total" 1000 689),(dR P "product" 1008 696),(dR P "repeated" 1014 701),(dR P "is_sized" 1020 706),(dR P "counts" 1028 711),(dR P "part_counts" 1035 718),(dR P "stitch_counts" 1041 723),(dR P "counts_added" 1049 730),(dR P "totals" 1055 735),(dR P "counts_times" 1061 740),(dR P "SIDES" 1071 741),(dR P "CROSS_SIDES" 1079 742),(dR P "LEAN_WAYS" 1082 743),(dR P "CROSS_WAYS" 1085 744),(dR P "MANY" 1095 745),(dR P "CROSSED" 1108 746),(dR P "stitch" 1116 753),(dR P "stitch_of_text" 1124 760),(dR P "bare_stitch" 1131 767),(dR P "keeper_stitch" 1139 774),(dR P "sided_stitch" 1148 781),(dR P "crossing" 1158 788),(dR P "_law_mark" 1169 795),(dR P "_law_counted" 1177 802),(dR P "_law_sum" 1187 809),(dR P "_law_times" 1193 814),(dR P "_law_added" 1199 819),(dR P "_law_together" 1205 824),(dR P "_law_parts" 1211 829),(dR P "_law_sum_told" 1221 836),(dR P "_law_told" 1232 843),(dR P "_law_class_told" 1240 850),(dR P "_law_refused" 1249 857),(dR P "law" 1255 862)] 66)) <|
 hA 22 (tu #[(sv "w" 196),(sv "x" 197),(sv "y" 198),(sv "z" 199)] 0) <|
 hA 23 (ob "dict" (Data.dict #[(DictEntry.mk 1 (.int 1 201) (sv "k" 202)),(DictEntry.mk (-2) (.int (-1) 204) (sv "p" 205))] 2)) <|
 hA 24 (ob "dict" (Data.dict #[(DictEntry.mk 1 (.int 1 209) (sv "c" 210)),(DictEntry.mk (-2) (.int (-1) 212) (sv "q" 213))] 2)) <|
 fA "ties" "Stitch.ties" 229 10 1 37 233 (Ql (top 5) 0) .none mo0 <|
 fA "ends" "Stitch.ends" 236 13 1 44 240 (Ql (top 5) 1) .none mo0 <|
 hA 47 (ob "dict" (Data.dict #[(dm P 224 "stitchroom.stitches" 194),(dl P 228 8 227),(dR P "ties" 235 38),(dR P "ends" 242 45),(ds P 243 46),(dR P "__dict__" 245 49),(dR P "__weakref__" 247 50),(hD P 248)] 4)) <|
 oC "Stitch" 48 47 217 225 [(rf 111),(rf 165),(rf 219),(rf 280),(rf 339),(rf 398),(rf 452),(rf 513),(rf 574)] <|
 gS 49 48 244 246 <|
 fA "__init__" "Plain.__init__" 263 17 2 65 268 (Ql (top 6) 0) .none mo0 <|
 fA "takes" "Plain.takes" 271 20 1 72 275 (Ql (top 6) 1) .none mo0 <|
 fA "gives" "Plain.gives" 278 23 1 79 282 (Ql (top 6) 2) .none mo0 <|
 fA "ties" "Plain.ties" 285 26 1 86 289 (Ql (top 6) 3) .none mo0 <|
 hA 110 (ob "dict" (Data.dict #[(dm P 258 "stitchroom.stitches" 194),(dl P 262 15 261),(dR P "__init__" 270 66),(dR P "takes" 277 73),(dR P "gives" 284 80),(dR P "ties" 291 87),(dR P "mark" 298 94),(dR P "mirrored" 305 101),(dR P "turned" 312 108),(ds P 314 109),(hD P 315)] 2)) <|
 hA 111 (Obj.mk (.type "type") none (Data.cls (ClassData.mk (so "Plain") [(rf 48)] [(rf 111),(rf 48),(.type "object")] 110 (so "Plain") true [] [] false none false)) #[(sr 53),none,(some (sv "Plain" 251)),(some (sv "Plain" 259)),(some (.builtin "object.__new__")),(some hT)]) <|
 fA "takes" "Slip.takes" 330 39 1 126 334 (Ql (top 7) 0) .none mo0 <|
 fA "gives" "Slip.gives" 337 42 1 133 341 (Ql (top 7) 1) .none mo0 <|
 fA "ties" "Slip.ties" 344 45 1 140 348 (Ql (top 7) 2) .none mo0 <|
 hA 164 (ob "dict" (Data.dict #[(dm P 325 "stitchroom.stitches" 194),(dl P 329 37 328),(dR P "takes" 336 127),(dR P "gives" 343 134),(dR P "ties" 350 141),(dR P "mark" 357 148),(dR P "mirrored" 364 155),(dR P "turned" 371 162),(ds P 372 163),(hD P 373)] 2)) <|
 hA 165 (Obj.mk (.type "type") none (Data.cls (ClassData.mk (so "Slip") [(rf 48)] [(rf 165),(rf 48),(.type "object")] 164 (so "Slip") true [] [] false none false)) #[(sr 114),none,(some (sv "Slip" 318)),(some (sv "Slip" 326)),(some (.builtin "object.__new__")),(some hT)]) <|
 fA "takes" "Over.takes" 388 58 1 180 392 (Ql (top 8) 0) .none mo0 <|
 fA "gives" "Over.gives" 395 61 1 187 399 (Ql (top 8) 1) .none mo0 <|
 fA "ties" "Over.ties" 402 64 1 194 406 (Ql (top 8) 2) .none mo0 <|
 hA 218 (ob "dict" (Data.dict #[(dm P 383 "stitchroom.stitches" 194),(dl P 387 56 386),(dR P "takes" 394 181),(dR P "gives" 401 188),(dR P "ties" 408 195),(dR P "mark" 415 202),(dR P "mirrored" 422 209),(dR P "turned" 429 216),(ds P 430 217),(hD P 431)] 2)) <|
 hA 219 (Obj.mk (.type "type") none (Data.cls (ClassData.mk (so "Over") [(rf 48)] [(rf 219),(rf 48),(.type "object")] 218 (so "Over") true [] [] false none false)) #[(sr 168),none,(some (sv "Over" 376)),(some (sv "Over" 384)),(some (.builtin "object.__new__")),(some hT)]) <|
 fA "__init__" "Lean.__init__" 446 77 4 234 453 (Ql (top 9) 0) .none mo0 <|
 fA "takes" "Lean.takes" 456 82 1 241 460 (Ql (top 9) 1) .none mo0 <|
 fA "gives" "Lean.gives" 463 85 1 248 467 (Ql (top 9) 2) .none mo0 <|
 fA "ties" "Lean.ties" 470 88 1 255 475 (Ql (top 9) 3) .none mo0 <|
 hA 279 (ob "dict" (Data.dict #[(dm P 441 "stitchroom.stitches" 194),(dl P 445 75 444),(dR P "__init__" 455 235),(dR P "takes" 462 242),(dR P "gives" 469 249),(dR P "ties" 477 256),(dR P "mark" 484 263),(dR P "mirrored" 491 270),(dR P "turned" 498 277),(ds P 502 278),(hD P 503)] 2)) <|
 hA 280 (Obj.mk (.type "type") none (Data.cls (ClassData.mk (so "Lean") [(rf 48)] [(rf 280),(rf 48),(.type "object")] 279 (so "Lean") true [] [] false none false)) #[(sr 222),none,(some (sv "Lean" 434)),(some (sv "Lean" 442)),(some (.builtin "object.__new__")),(some hT)]) <|
 fA "__init__" "Grow.__init__" 518 105 3 295 524 (Ql (top 10) 0) .none mo0 <|
 fA "takes" "Grow.takes" 527 109 1 302 531 (Ql (top 10) 1) .none mo0 <|
 fA "gives" "Grow.gives" 534 112 1 309 538 (Ql (top 10) 2) .none mo0 <|
 fB "ties" "Grow.ties" 541 115 1 314 544 (Ql (top 10) 3) .none mo0 <|
 hA 338 (ob "dict" (Data.dict #[(dm P 513 "stitchroom.stitches" 194),(dl P 517 103 516),(dR P "__init__" 526 296),(dR P "takes" 533 303),(dR P "gives" 540 310),(dR P "ties" 546 315),(dR P "mark" 553 322),(dR P "mirrored" 560 329),(dR P "turned" 567 336),(ds P 570 337),(hD P 571)] 2)) <|
 hA 339 (Obj.mk (.type "type") none (Data.cls (ClassData.mk (so "Grow") [(rf 48)] [(rf 339),(rf 48),(.type "object")] 338 (so "Grow") true [] [] false none false)) #[(sr 283),none,(some (sv "Grow" 506)),(some (sv "Grow" 514)),(some (.builtin "object.__new__")),(some hT)]) <|
 fA "__init__" "Cross.__init__" 586 128 5 354 594 (Ql (top 11) 0) .none mo0 <|
 fA "takes" "Cross.takes" 597 134 1 361 601 (Ql (top 11) 1) .none mo0 <|
 fA "gives" "Cross.gives" 604 137 1 368 608 (Ql (top 11) 2) .none mo0 <|
 fB "ties" "Cross.ties" 611 140 1 373 614 (Ql (top 11) 3) .none mo0 <|
 hA 397 (ob "dict" (Data.dict #[(dm P 581 "stitchroom.stitches" 194),(dl P 585 126 584),(dR P "__init__" 596 355),(dR P "takes" 603 362),(dR P "gives" 610 369),(dR P "ties" 616 374),(dR P "mark" 623 381),(dR P "mirrored" 630 388),(dR P "turned" 637 395),(ds P 642 396),(hD P 643)] 2)) <|
 hA 398 (Obj.mk (.type "type") none (Data.cls (ClassData.mk (so "Cross") [(rf 48)] [(rf 398),(rf 48),(.type "object")] 397 (so "Cross") true [] [] false none false)) #[(sr 342),none,(some (sv "Cross" 574)),(some (sv "Cross" 582)),(some (.builtin "object.__new__")),(some hT)]) <|
 fA "takes" "Off.takes" 658 156 1 413 662 (Ql (top 12) 0) .none mo0 <|
 fA "gives" "Off.gives" 665 159 1 420 669 (Ql (top 12) 1) .none mo0 <|
 fA "ends" "Off.ends" 672 162 1 427 676 (Ql (top 12) 2) .none mo0 <|
 hA 451 (ob "dict" (Data.dict #[(dm P 653 "stitchroom.stitches" 194),(dl P 657 154 656),(dR P "takes" 664 414),(dR P "gives" 671 421),(dR P "ends" 678 428),(dR P "mark" 685 435),(dR P "mirrored" 692 442),(dR P "turned" 699 449),(ds P 700 450),(hD P 701)] 2)) <|
 hA 452 (Obj.mk (.type "type") none (Data.cls (ClassData.mk (so "Off") [(rf 48)] [(rf 452),(rf 48),(.type "object")] 451 (so "Off") true [] [] false none false)) #[(sr 401),none,(some (sv "Off" 646)),(some (sv "Off" 654)),(some (.builtin "object.__new__")),(some hT)]) <|
 fA "__init__" "Keep.__init__" 716 175 2 467 721 (Ql (top 13) 0) .none mo0 <|
 fA "takes" "Keep.takes" 724 178 1 474 728 (Ql (top 13) 1) .none mo0 <|
 fA "gives" "Keep.gives" 731 181 1 481 735 (Ql (top 13) 2) .none mo0 <|
 fA "ends" "Keep.ends" 738 184 1 488 742 (Ql (top 13) 3) .none mo0 <|
 hA 512 (ob "dict" (Data.dict #[(dm P 711 "stitchroom.stitches" 194),(dl P 715 173 714),(dR P "__init__" 723 468),(dR P "takes" 730 475),(dR P "gives" 737 482),(dR P "ends" 744 489),(dR P "mark" 751 496),(dR P "mirrored" 758 503),(dR P "turned" 765 510),(ds P 767 511),(hD P 768)] 2)) <|
 hA 513 (Obj.mk (.type "type") none (Data.cls (ClassData.mk (so "Keep") [(rf 48)] [(rf 513),(rf 48),(.type "object")] 512 (so "Keep") true [] [] false none false)) #[(sr 455),none,(some (sv "Keep" 704)),(some (sv "Keep" 712)),(some (.builtin "object.__new__")),(some hT)]) <|
 fA "__init__" "Fetch.__init__" 783 197 2 528 788 (Ql (top 14) 0) .none mo0 <|
 fA "takes" "Fetch.takes" 791 200 1 535 795 (Ql (top 14) 1) .none mo0 <|
 fA "gives" "Fetch.gives" 798 203 1 542 802 (Ql (top 14) 2) .none mo0 <|
 fA "ties" "Fetch.ties" 805 206 1 549 809 (Ql (top 14) 3) .none mo0 <|
 hA 573 (ob "dict" (Data.dict #[(dm P 778 "stitchroom.stitches" 194),(dl P 782 195 781),(dR P "__init__" 790 529),(dR P "takes" 797 536),(dR P "gives" 804 543),(dR P "ties" 811 550),(dR P "mark" 818 557),(dR P "mirrored" 825 564),(dR P "turned" 832 571),(ds P 834 572),(hD P 835)] 2)) <|
 hA 574 (Obj.mk (.type "type") none (Data.cls (ClassData.mk (so "Fetch") [(rf 48)] [(rf 574),(rf 48),(.type "object")] 573 (so "Fetch") true [] [] false none false)) #[(sr 516),none,(some (sv "Fetch" 771)),(some (sv "Fetch" 779)),(some (.builtin "object.__new__")),(some hT)]) <|
 hA 585 (ob "dict" (Data.dict #[(dm P 847 "stitchroom.errors" 838),(dl P 851 218 850),(ds P 852 584),(dR P "__weakref__" 854 587),(hD P 855)] 3)) <|
 hA 586 (Obj.mk (.type "type") none (Data.cls (ClassData.mk (so "StitchError") [(.type "ValueError")] [(rf 586),(.type "ValueError"),(.type "Exception"),(.type "BaseException"),(.type "object")] 585 (so "StitchError") true [] [(rf 599),(rf 619),(rf 631),(rf 643),(rf 662),(rf 674)] false none false)) #[(sr 577),none,(some (sv "StitchError" 840)),(some (sv "StitchError" 848)),(some (.builtin "ValueError.__new__")),(some hT)]) <|
 hA 587 (ob "getset_descriptor" (Data.fields #[(sv "__weakref__" 853),(rf 586),(.builtin "ExceptionGroup.__weakref__"),.none])) <|
 hA 598 (ob "dict" (Data.dict #[(dm P 865 "stitchroom.errors" 838),(dl P 869 220 868),(ds P 870 597),(hD P 871)] 2)) <|
 eC "NoStitch" 586 599 598 590 858 866 <|
 hA 609 (tu #[.none] 0) <|
 fA "__init__" "NoSum.__init__" 886 224 2 615 891 (Ql (top 18) 0) (rf 609) mo1 <|
 hA 618 (ob "dict" (Data.dict #[(dm P 881 "stitchroom.errors" 838),(dl P 885 222 884),(dR P "__init__" 893 616),(ds P 895 617),(hD P 896)] 2)) <|
 eC "NoSum" 586 619 618 602 874 882 <|
 hA 630 (ob "dict" (Data.dict #[(dm P 906 "stitchroom.errors" 838),(dl P 910 227 909),(ds P 911 629),(hD P 912)] 2)) <|
 eC "NoPattern" 586 631 630 622 899 907 <|
 hA 642 (ob "dict" (Data.dict #[(dm P 922 "stitchroom.errors" 838),(dl P 926 229 925),(ds P 927 641),(hD P 928)] 2)) <|
 eC "TooMany" 586 643 642 634 915 923 <|
 hA 661 (ob "dict" (Data.dict #[(dm P 938 "stitchroom.errors" 838),(dl P 942 231 941),(dR P "__init__" 954 659),(ds P 960 660),(hD P 961)] 2)) <|
 eC "Miscount" 586 662 661 646 931 939 <|
 hA 673 (ob "dict" (Data.dict #[(dm P 971 "stitchroom.errors" 838),(dl P 975 240 974),(ds P 976 672),(hD P 977)] 2)) <|
 eC "NoChart" 586 674 673 665 964 972 <|
 hA 677 (tu #[(.int 0 982),(.int 0 983),(.int 0 984),(.int 0 985),(.int 0 986)] 0) <|
 fC "plain_sum" 988 244 1 683 992 25 mo2 <|
 fD "total" 995 246 2 688 998 26 mo2 <|
 fC "product" 1001 248 2 695 1006 27 mo2 <|
 fD "repeated" 1009 254 2 700 1012 28 mo2 <|
 fD "is_sized" 1015 256 1 705 1018 29 mo2 <|
 fD "counts" 1023 259 1 710 1026 31 mo3 <|
 fC "part_counts" 1029 264 1 717 1033 32 mo3 <|
 fD "stitch_counts" 1036 268 1 722 1039 33 mo3 <|
 fC "counts_added" 1042 274 2 729 1047 34 mo3 <|
 fD "totals" 1050 276 2 734 1053 35 mo3 <|
 fD "counts_times" 1056 278 2 739 1059 36 mo3 <|
 hA 741 (ob "dict" (Data.dict #[(dk P "k" 1064 (.int 1 1065)),(dk P "p" 1066 (.int (-1) 1068))] 2)) <|
 hA 742 (ob "dict" (Data.dict #[(dk P "c" 1072 (.int 1 1073)),(dk P "q" 1074 (.int (-1) 1076))] 2)) <|
 hA 743 (tu #[(sv "r" 1080),(sv "l" 1081)] 0) <|
 hA 744 (tu #[(sv "f" 1083),(sv "b" 1084)] 0) <|
 hA 745 (ob "dict" (Data.dict #[(dk P "2" 1086 (.int 2 1087)),(dk P "3" 1088 (.int 3 1089)),(dk P "4" 1090 (.int 4 1091))] 3)) <|
 hA 746 (ob "dict" (Data.dict #[(dk P "1" 1096 (.int 1 1097)),(dk P "2" 1098 (.int 2 1099)),(dk P "3" 1100 (.int 3 1101)),(dk P "4" 1102 (.int 4 1103))] 4)) <|
 fC "stitch" 1109 289 1 752 1114 44 mo4 <|
 fC "stitch_of_text" 1117 294 1 759 1122 45 mo4 <|
 fC "bare_stitch" 1125 305 1 766 1129 46 mo4 <|
 fC "keeper_stitch" 1132 315 2 773 1137 47 mo4 <|
 fC "sided_stitch" 1140 323 3 780 1146 48 mo4 <|
 fC "crossing" 1149 331 4 787 1156 49 mo4 <|
 fC "_law_mark" 1161 336 1 794 1167 51 mo5 <|
 fC "_law_counted" 1170 348 1 801 1175 52 mo5 <|
 fC "_law_sum" 1178 370 1 808 1185 53 mo5 <|
 fD "_law_times" 1188 384 2 813 1191 54 mo5 <|
 fD "_law_added" 1194 394 2 818 1197 55 mo5 <|
 fD "_law_together" 1200 396 1 823 1203 56 mo5 <|
 fD "_law_parts" 1206 401 1 828 1209 57 mo5 <|
 fC "_law_sum_told" 1212 421 2 835 1219 58 mo5 <|
 fC "_law_told" 1222 428 2 842 1230 59 mo5 <|
 fC "_law_class_told" 1233 438 1 849 1238 60 mo5 <|
 fC "_law_refused" 1241 443 1 856 1247 61 mo5 <|
 fD "law" 1250 450 1 861 1253 62 mo5 []
noncomputable def KA:List Addr:=[2,3,22,23,24,37,38,44,45,47,48,49,50,65,66,72,73,79,80,86,87,110,111,126,127,133,134,140,141,164,165,180,181,187,188,194,195,218,219,234,235,241,242,248,249,255,256,279,280,295,296,302,303,309,310,314,315,338,339,354,355,361,362,368,369,373,374,397,398,413,414,420,421,427,428,451,452,467,468,474,475,481,482,488,489,512,513,528,529,535,536,542,543,549,550,573,574,585,586,587,598,599,609,615,616,618,619,630,631,642,643,661,662,673,674,677,683,684,688,689,695,696,700,701,705,706,710,711,717,718,722,723,729,730,734,735,739,740,741,742,743,744,745,746,752,753,759,760,766,767,773,774,780,781,787,788,794,795,801,802,808,809,813,814,818,819,823,824,828,829,835,836,842,843,849,850,856,857,861,862]
def hKA:∀P,KA=(K P).map (·.1):=λz=>by kernel_rfl
noncomputable abbrev hXt:Shared->Bool:=λs=>W.xlAt hq [] s&&W.recOk (W.RowW.records hr) s
def hop:W.opening hp=W.plainProg hp.main.scope.names:=by kernel_rfl
def hfm:∀s,PySem.fenceModules? hp s=some s:=λs=>by kernel_rfl
def hbo:∀w:World,W.absHeap (hB.t w.params) hB.n hB.life=W.boot_heap w.params:=λw=>by kernel_rfl
def hsz:∀w:World,((W.boot_heap w.params).isNs mainGlobals,(W.boot_heap w.params).objs.size,(W.boot_heap w.params).nsMap mainGlobals "__annotations__")=(true,11,some (.ref 6)):=λw=>by kernel_rfl
noncomputable abbrev hYf:Shared->List (Option Obj):=λs=>KA.map s.heap.get?
noncomputable abbrev hYa:World->List (Option Obj):=λw=>(K w.params).map λp=>some p.2
noncomputable abbrev hN:Nat:=13804
noncomputable abbrev hn6:Option Value:=some (.ref 6)
abbrev hS(w:World):Prop:=Iv.RunT hp hq hlo hXt hYf hYa 13804 true hB 11 (some (.ref 6)) w
noncomputable abbrev wF(w:World):World:=w.withFollow "special-get-raises" false
noncomputable abbrev wT(w:World):World:=w.withFollow "special-get-raises" true
def QiR(w:World):Iv.PC hp hN hB 11 hn6 KA (hYa (wF w)) (wF w):=λos=>by kernel_rfl
def QlB(w:World):Iv.PAt hp hq hN hB 11 hn6 (wF w):=λos=>by kernel_rfl
def QlA(w:World):Iv.PB1 hp hq hlo hXt hN true hB 11 hn6 (wF w):=λos=>by kernel_rfl
def Qlz(w:World):Iv.PB2 hp hq hlo hXt hN true hB 11 hn6 (wF w):=λos=>by kernel_rfl
def Qly(w:World):Iv.PB3 hp hq hlo hN hB 11 hn6 (wF w):=λos=>by kernel_rfl
def Qn0(w:World):hS (wF w):=Iv.parts_run (QlB w) (QlA w) (Qlz w) (Qly w) (QiR w)
def QiQ(w:World):Iv.PC hp hN hB 11 hn6 KA (hYa (wT w)) (wT w):=λos=>by kernel_rfl
def Qlx(w:World):Iv.PAt hp hq hN hB 11 hn6 (wT w):=λos=>by kernel_rfl
def Qlw(w:World):Iv.PB1 hp hq hlo hXt hN true hB 11 hn6 (wT w):=λos=>by kernel_rfl
def Qlv(w:World):Iv.PB2 hp hq hlo hXt hN true hB 11 hn6 (wT w):=λos=>by kernel_rfl
def Qlu(w:World):Iv.PB3 hp hq hlo hN hB 11 hn6 (wT w):=λos=>by kernel_rfl
def QnZ(w:World):hS (wT w):=Iv.parts_run (Qlx w) (Qlw w) (Qlv w) (Qlu w) (QiQ w)
def Qqe:∀w,hS w:=W.byRow2 "special-get-raises" Qn0 QnZ
def hleft:W.LeftO hp hq hlo hXt hYf hYa 13804 true:=Iv.left_tree hop (by decide) hfm hbo hsz Qqe
end K12
namespace L2
open PySem PySem.Spec PyProof.Rows
section
abbrev Key:=Sum Int Str
noncomputable def Qbr:Key->Value->Bool
 |.inl k,v=>Value.isInt k v
 |.inr x,v=>Value.isStrOf x v
noncomputable def Qo3(w:World):Key->Int
 |.inl k=>hashInt k
 |.inr x=>hashStr w x
def QF:∀{k:Key} {v:Value},Qbr k v=true->(∃i t,k=Sum.inl i/\v=Value.int i t)\/(∃x t,k=Sum.inr x/\v=Value.str x t)
 |.inl i,v,h=>by
  obtain⟨t,e⟩:=Value.isInt_shape (k:=i) (v:=v) h;exact .inl ⟨i,t,rfl,e⟩
 |.inr x,v,h=>by
  obtain⟨t,e⟩:=Value.isStrOf_shape (x:=x) (v:=v) h;exact .inr ⟨x,t,rfl,e⟩
def QaM(i:Int)(t:Tok):Qbr (.inl i) (.int i t)=true:=by simp[Qbr,Value.isInt]
def QaL(x:Str)(t:Tok):Qbr (.inr x) (.str x t)=true:=by simp[Qbr,Value.isStrOf]
def Qlm(a b:Int):decide ((Sum.inl a:Key)=Sum.inl b)=(a==b):=by
 by_cases e:a=b
 ·subst e;simp
 ·have h:¬(Sum.inl a:Key)=Sum.inl b:=λq=>e (Sum.inl.inj q);rw[X6 h];exact(Wq.mpr e).symm
def Qlj(a b:Str):decide ((Sum.inr a:Key)=Sum.inr b)=decide (a=b):=by
 by_cases e:a=b
 ·subst e;simp
 ·have h:¬(Sum.inr a:Key)=Sum.inr b:=λq=>e (Sum.inr.inj q);rw[X6 h,X6 e]
def Qll(a:Int)(b:Str):decide ((Sum.inl a:Key)=Sum.inr b)=false:=X6 (λq=>nomatch q)
def Qlk(a:Str)(b:Int):decide ((Sum.inr a:Key)=Sum.inl b)=false:=X6 (λq=>nomatch q)
noncomputable def ZD(prog:Program)(w:World):PySem.KeyKind prog w Key where
 is:=Qbr
 hash:=Qo3 w
 inj:=λv a b ha hb=>by
  rcases QF ha with⟨i,t,rfl,rfl⟩|⟨x,t,rfl,rfl⟩
  ·rcases QF hb with⟨j,u,rfl,e⟩|⟨y,u,rfl,e⟩
   ·injection e with e1 _;rw[e1]
   ·exact nomatch e
  ·rcases QF hb with⟨j,u,rfl,e⟩|⟨y,u,rfl,e⟩
   ·exact nomatch e
   ·injection e with e1 _;rw[e1]
 byValue:=λk v h=>by
  rcases QF h with⟨i,t,rfl,rfl⟩|⟨x,t,rfl,rfl⟩<;>rfl
 pyHash:=λhv h=>by
  rcases QF hv with⟨i,t,rfl,rfl⟩|⟨x,t,rfl,rfl⟩
  ·exact wpAny_pyHash_int h
  ·exact wpAny_pyHash_str h
 eqBool:=λhu hv h=>by
  rcases QF hu with⟨i,t,rfl,rfl⟩|⟨x,t,rfl,rfl⟩
  ·rcases QF hv with⟨j,u,rfl,rfl⟩|⟨y,u,rfl,rfl⟩
   ·rw[Qlm]at h;exact wpAny_eqBool_int h
   ·rw[Qll]at h;exact SeqAt.EqAt.int_str i t y u _ _ _ _ h
  ·rcases QF hv with⟨j,u,rfl,rfl⟩|⟨y,u,rfl,rfl⟩
   ·rw[Qlk]at h;exact SeqAt.EqAt.str_int x t j u _ _ _ _ h
   ·rw[Qlj]at h;exact wpAny_eqBool_str h
 «strs»:=λk x t v h=>by
  rcases QF h with⟨i,u,rfl,e⟩|⟨y,u,rfl,e⟩
  ·exact nomatch e
  ·injection e with e1 _;subst e1;cases v<;>rfl
def Qbk(prog:Program)(w:World)(i:Int)(t:Tok):(ZD prog w).is (.inl i) (.int i t)=true:=QaM i t
def Qbj(prog:Program)(w:World)(x:Str)(t:Tok):(ZD prog w).is (.inr x) (.str x t)=true:=QaL x t
end
section
variable {a:Addr}{h h':Heap}{us:List Value}{P:Program}{α β:Type}{w:World}
inductive V where
 |non|bl (b:Bool)|int (i:Int)|str (x:Str)|byt (b:Array UInt8)|flt (b:UInt64)|ref (a:Addr)|ty (n:String)
 deriving DecidableEq
def RelV:V->Value->Prop
 |.non,u=>u=Value.none
 |.bl b,u=>u=Value.bool b
 |.int i,u=>∃t,u=Value.int i t
 |.str x,u=>∃t,u=Value.str x t
 |.byt b,u=>∃t,u=Value.bytes b t
 |.flt b,u=>∃t,u=Value.float b t
 |.ref a,u=>u=Value.ref a
 |.ty n,u=>u=Value.type n
abbrev Vals:List V->List Value->Prop:=Paired RelV
theorem Vals.length{xs:List V}(r:Vals xs us):xs.length=us.length:=Paired.length r
def Qdw{P:α->β->Prop}{l l':List α}{r r':List β}(h:Paired P l r)(h':Paired P l' r'):Paired P (l++l') (r++r'):=by
 induction h with
 |nil=>exact h'
 |cons a _ ih=>exact .cons a ih
def Qbe{P:α->β->Prop}{l:List α}{r:List β}(h:Paired P l r)(n:Nat):Paired P (l.take n) (r.take n):=by
 induction h generalizing n with
 |nil=>rw[List.take_nil,List.take_nil];exact .nil
 |cons a _ ih=>
  cases n with
  |zero=>exact .nil
  |succ n=>exact .cons a (ih n)
def Y4{P:α->β->Prop}{l:List α}{r:List β}(h:Paired P l r)(n:Nat):Paired P (l.drop n) (r.drop n):=by
 induction h generalizing n with
 |nil=>rw[List.drop_nil,List.drop_nil];exact .nil
 |cons a t ih=>
  cases n with
  |zero=>exact .cons a t
  |succ n=>exact ih n
def Y3{P:α->β->Prop}{l:List α}{r:List β}{i:Nat}{a:α}(h:Paired P l r)(e:l[i]?=some a):∃b,r[i]?=some b/\P a b:=by
 induction h generalizing i with
 |nil=>cases e
 |cons x _ ih=>
  cases i with
  |zero=>cases(show some _=some _ from e);exact⟨_,rfl,x⟩
  |succ i=>exact ih e
def Vals.get{xs:List V}{i:Nat}{x:V}(h:Vals xs us)(e:xs[i]?=some x):∃u,us[i]?=some u/\RelV x u:=Y3 h e
theorem Vals.set{x:V}{u:Value}(r:RelV x u):∀{xs:List V} {us:List Value} (i:Nat),Vals xs us->Vals (xs.set i x) (us.set i u)
 |_,_,_,.nil=>.nil
 |_,_,0,.cons _ t=>.cons r t
 |_,_,i+1,.cons q t=>.cons q (Vals.set r i t)
def Vals.append(h:Vals xs us)(h':Vals ys ws):Vals (xs++ys) (us++ws):=Qdw h h'
theorem Vals.take(n:Nat)(h:Vals xs us):Vals (xs.take n) (us.take n):=Qbe h n
theorem Vals.drop(n:Nat)(h:Vals xs us):Vals (xs.drop n) (us.drop n):=Y4 h n
def RelO:Option V->Option Value->Prop
 |some v,some u=>RelV v u
 |none,none=>True
 |_,_=>False
def KV{κ:Type}:List (κ×V)->List (κ×Value)->Prop:=Paired λ(p:κ×V) (q:κ×Value)=>p.1=q.1/\RelV p.2 q.2
noncomputable def kV:Key->V
 |.inl i=>.int i
 |.inr x=>.str x
inductive HO where
 /-- a list -/
 |lst (xs:List V)
 /-- a tuple (never changes) -/
 |tup (xs:List V)
 /-- a dict whose keys are ints and texts;one whose keys are tuples of ints and texts (the empty one is both) -/
 |dK (kvs:List (Key×V))|dT (kvs:List (List Key×V))
 /-- a set of ints: its members,its size -/
 |set (S:Int->Bool) (n:Nat)
 /-- an instance of the class at C,its dict at dx,its attributes -/
 |ins (C dx:Addr) (fs:List (Str×V))
 /-- the dict of the instance at x -/
 |own (x:Addr)
 /-- the dict of an exception -/
 |xd (fs:List (Str×V))
 /-- a bound method,f of x -/
 |met (f x:Addr)
 /-- a range object lo,lo+1,.. below hi -/
 |rng (lo hi:Int)
 /-- a thing that is known to the object (the script;a dict while a loop walks it): read,never written while it is so -/
 |frz (o:Obj) (u:HO)
 /-- a code object's table -/
 |tbl (ps:Array Value)
 /-- any other thing,by what is true of its one object (a def of one's own: SetO a S n:=HO.ext λh=>..) -/
 |ext (φ:Heap->Prop)
abbrev Hp:=Addr->Option HO
noncomputable def upd(H:Hp)(a:Addr)(o:HO):Hp:=λb=>if b=a then some o else H b
def Qh{H:Hp}{o:HO}:upd H a o a=some o:=by unfold upd;rw[if_pos rfl]
def Qd{H:Hp}{b:Addr}{o:HO}(h:b≠a):upd H a o b=H b:=by unfold upd;rw[if_neg h]
def Qhp{H:Hp}{o u:HO}:upd (upd H a o) a u=upd H a u:=by
 funext b;unfold upd;split<;>rfl
def Zo{H:Hp}{b:Addr}{o:HO}(h:H a=some o)(h':H b=none):a≠b:=by
 intro e;subst e;rw[h]at h';cases h'
section
variable (P:Program)(w:World)
def ObjOk(H:Hp)(h:Heap)(a:Addr):HO->Prop
 |.lst xs=>xs.length<=sizeLine/\∃(its:List Value) (n:Nat),Vals xs its/\h.get? a=some {cls:=.type "list",data:=.seq its.toArray n}
 |.tup xs=>xs.length<=sizeLine/\∃its:List Value,Vals xs its/\IsTup h a its.toArray
 |.dK kvs=>kvs.length<=sizeLine/\(a==sysModules)=false/\∃vs,KV kvs vs/\h.DictOf (ZD P w) a vs
 |.dT kvs=>kvs.length<=sizeLine/\(a==sysModules)=false/\∃xs:List (List Key×Addr×Value),
   Paired (λ(p:List Key×V) (q:List Key×Addr×Value)=>p.1=q.1/\H q.2.1=some (.tup (p.1.map kV))/\RelV p.2 q.2.2) kvs xs /\
   ∃o es ep,h.get? a=some o/\o.ExactDict/\o.data=.dict es ep/\es.toList=xs.map (entryOfKey (tupleKind (ZD P w)))/\(xs.map (·.1)).Nodup
 |.set S n=>h.SetOf (intKind P w) a S n
 |.ins C dx fs=>H dx=some (.own a)/\fs.length<=1000/\dx≠a/\h.get? a=some (W.instObj C dx) /\
   ∃mA,h.Ns1 dx mA/\(∀f,RelO (fs.lookup f) (mA f))/\PySem.Within mA (fs.map (·.1))
 |.own _=>∃o,h.get? a=some o
 |.xd fs=>∃mA,h.Ns1 a mA/\∀f,RelO (fs.lookup f) (mA f)
 |.rng lo hi=>∃t u v,h.get? a=some {cls:=.type "range",data:=.fields #[.int lo t,.int hi u,.int 1 v]}
 |.frz o u=>h.get? a=some o/\ObjOk H h a u
 |.tbl ps=>h.get? a=some {cls:=.none,data:=.fields ps}
 |.met f x=>h.get? a=some (W.methodObj (.ref f) (.ref x))
 |.ext φ=>φ h/\(∃o,h.get? a=some o)/\∀h1 h2:Heap,φ h1->(∀o,h1.get? a=some o->h2.get? a=some o)->φ h2
def HOk(H:Hp)(h:Heap):Prop:=∀a o,H a=some o->ObjOk P w H h a o
end
section
variable {H H':Hp}{o:HO}
theorem ObjOk.lt(x:ObjOk P w H h a o):a<h.objs.size:=by
 cases o with
 |lst xs=>obtain⟨_,_,_,_,e⟩:=x;exact Xk e
 |tup xs=>obtain⟨_,_,_,p⟩:=x;exact p.lt
 |dK kvs=>obtain⟨_,_,_,_,o,_,_,e,_⟩:=x;exact Xk e
 |dT kvs=>obtain⟨_,_,_,_,o,_,_,e,_⟩:=x;exact Xk e
 |set S n=>obtain⟨o,_,_,_,e,_⟩:=x;exact Xk e
 |ins C dx fs=>obtain⟨_,_,_,e,_⟩:=x;exact Xk e
 |own y=>obtain⟨_,e⟩:=x;exact Xk e
 |xd fs=>obtain⟨_,⟨_,_,_,e,_⟩,_⟩:=x;exact Xk e
 |rng lo hi=>obtain⟨_,_,_,e⟩:=x;exact Xk e
 |frz ob u=>obtain⟨e,_⟩:=x;exact Xk e
 |tbl ps=>exact Xk (show h.get? a=some _ from x)
 |met f y=>exact Xk (show h.get? a=some _ from x)
 |ext φ=>obtain⟨_,⟨_,e⟩,_⟩:=x;exact Xk e
def Paired.mapP(h:Paired F l₁ l₂)(f:∀a b,F a b->G a b):Paired G l₁ l₂:=PySem.Paired.mono f h
def ObjOk.stay(x:ObjOk P w H h a o)(k:∀b u,(b=a\/H b=some (.own a))->h.get? b=some u->h'.get? b=some u)
  (ho:∀b,H b=some (.own a)->H' b=some (.own a)) (ht:∀b xs,H b=some (.tup xs)->H' b=some (.tup xs)):ObjOk P w H' h' a o:=by
 induction o with
 |lst xs=>obtain⟨z,its,n,r,e⟩:=x;exact⟨z,its,n,r,k _ _ (.inl rfl) e⟩
 |tup xs=>obtain⟨z,its,r,ob,e,c⟩:=x;exact⟨z,its,r,ob,k _ _ (.inl rfl) e,c⟩
 |dK kvs=>obtain⟨z,y,vs,r,ob,es,ep,e,c⟩:=x;exact⟨z,y,vs,r,ob,es,ep,k _ _ (.inl rfl) e,c⟩
 |dT kvs=>
  obtain⟨z,y,xs,r,ob,es,ep,e,c⟩:=x;exact⟨z,y,xs,Paired.mapP r λp q z=>⟨z.1,ht _ _ z.2.1,z.2.2⟩,ob,es,ep,k _ _ (.inl rfl) e,c⟩
 |set S n=>obtain⟨ob,es,ep,t,e,c⟩:=x;exact⟨ob,es,ep,t,k _ _ (.inl rfl) e,c⟩
 |ins C dx fs=>
  obtain⟨d,z,ne,e,mA,⟨od,es,ep,e2,c⟩,r⟩:=x;exact⟨ho _ d,z,ne,k _ _ (.inl rfl) e,mA,⟨od,es,ep,k _ _ (.inr d) e2,c⟩,r⟩
 |own y=>obtain⟨ob,e⟩:=x;exact⟨ob,k _ _ (.inl rfl) e⟩
 |xd fs=>obtain⟨mA,⟨od,es,ep,e,c⟩,r⟩:=x;exact⟨mA,⟨od,es,ep,k _ _ (.inl rfl) e,c⟩,r⟩
 |rng lo hi=>obtain⟨t,u,v,e⟩:=x;exact⟨t,u,v,k _ _ (.inl rfl) e⟩
 |frz ob u ih=>obtain⟨e,q⟩:=x;exact⟨k _ _ (.inl rfl) e,ih q⟩
 |tbl ps=>
  have e:h.get? a=some {cls:=.none,data:=.fields ps}:=x;show h'.get? a=some {cls:=.none,data:=.fields ps};exact k a _ (.inl rfl) e
 |met f y=>
  have e:h.get? a=some (W.methodObj (.ref f) (.ref y)):=x;show h'.get? a=some (W.methodObj (.ref f) (.ref y));exact k a _ (.inl rfl) e
 |ext φ=>obtain⟨p,⟨o,e⟩,st⟩:=x;exact⟨st _ _ p λo q=>k _ _ (.inl rfl) q,⟨o,k _ _ (.inl rfl) e⟩,st⟩
theorem HOk.lt(x:HOk P w H h)(e:H a=some o):a<h.objs.size:=(x a o e).lt
def HOk.fresh(x:HOk P w H h)(e:h.objs.size<=a):H a=none:=by
 cases q:H a with
 |none=>rfl
 |some u=>exact absurd (Xr (x.lt q) e) (Wu _)
def HOk.kept(x:HOk P w H h)(k:∀b u,h.get? b=some u->h'.get? b=some u):HOk P w H h':=λa o e=>
 (x a o e).stay (λb u z q=>k b u q) (λz q=>q) λz z q=>q
def HOk.laid(x:HOk P w H h)(k:∀b u,h.get? b=some u->h'.get? b=some u)(hp:h.objs.size<=a)(new:ObjOk P w (upd H a o) h' a o):HOk P w (upd H a o) h':=λb u e=>by
 have hn:=x.fresh hp;by_cases hb:b=a
 ·subst hb;rw[Qh]at e;cases e;exact new
 ·rw[Qd hb]at e
  exact(x b u e).stay (λc v z q=>k c v q) (λc q=>by rw[Qd (Zo q hn)];exact q) λc xs q=>by rw[Qd (Zo q hn)];exact q
end
def Rd(H:Hp)(a:Addr)(u:HO):Prop:=H a=some u\/∃o,H a=some (.frz o u)
def Rd.ok{H:Hp}{u:HO}(r:Rd H a u)(x:HOk P w H h):ObjOk P w H h a u:=by
 rcases r with r|⟨o,r⟩
 ·exact x a u r
 ·obtain⟨_,q⟩:=x a _ r;exact q
def Mut:Option HO->Prop
 |some (.lst _)=>True
 |some (.dK _)=>True
 |some (.dT _)=>True
 |some (.set _ _)=>True
 |some (.ins _ _ _)=>True
 |some (.ext _)=>True
 |_=>False
section
variable {H:Hp}{x e:Addr}{o':HO}
def HOk.write(ok:HOk P w H h)(mu:Mut (H x))(he:e=x\/H e=some (.own x))(k:∀b u,b≠e->h.get? b=some u->h'.get? b=some u)(heo:∃u,h'.get? e=some u)
  (new:ObjOk P w (upd H x o') h' x o'):HOk P w (upd H x o') h':=λb u q=>by
 have nown:∀c y,H c=some (.own y)->c≠x:=λc y r z=>by subst z;rw[r]at mu;exact mu
 have ntup:∀c xs,H c=some (.tup xs)->c≠x:=λc xs r z=>by subst z;rw[r]at mu;exact mu
 by_cases hb:b=x
 ·subst hb;rw[Qh]at q;cases q;exact new
 ·rw[Qd hb]at q;by_cases hbe:b=e
  ·have q':H b=some (.own x):=by
    rcases he with z|z
    ·exact absurd (hbe.trans z) hb
    ·rw[hbe];exact z
   rw[q]at q';cases q';obtain⟨v,hv⟩:=heo
   exact⟨v,by rw[hbe];exact hv⟩
  ·refine(ok b u q).stay (λc v hc r=>k c v ?_ r) (λc r=>by rw[Qd (nown c b r)];exact r) λc xs r=>by rw[Qd (ntup c xs r)];exact r
   rcases hc with rfl|hc
   ·exact hbe
   ·rintro rfl
    rcases he with z|z
    ·exact nown c b hc z
    ·rw[hc]at z;cases z;exact hb rfl
end
structure Un(fs ex:List Addr)(H H':Hp)(h h':Heap):Prop where
 keep:∀b o,h.get? b=some o->H b=none->b∉fs->b∉ex->h'.get? b=some o
 slot:∀b o,h.get? b=some o->H b=none->b∈fs->b∉ex->∃sl,h'.get? b=some {o with slots:=sl}
 free:∀b o,h.get? b=some o->H b=none->b∉ex->H' b=none
 there:∀b o,h.get? b=some o->b∉ex->∃o',h'.get? b=some o'
 tups:∀b xs,H b=some (.tup xs)->H' b=some (.tup xs)
 frzs:∀b o u,H b=some (.frz o u)->H' b=some (.frz o u)
 tbls:∀b ps,H b=some (.tbl ps)->∃more,H' b=some (.tbl (ps++more))
section
variable {fs ex:List Addr}{H H1:Hp}{h1:Heap}{x e:Addr}{o:HO}
def Un.any(u:Un fs ex H H1 h h1){b:Addr}{ob:Obj}(q:h.get? b=some ob)(n:H b=none)(hx:b∉ex):∃sl,h1.get? b=some {ob with slots:=sl}:=by
 by_cases hb:b∈fs
 ·exact u.slot b ob q n hb hx
 ·exact⟨ob.slots,u.keep b ob q n hb hx⟩
def Un.kept(k:∀b u,h.get? b=some u->h'.get? b=some u):Un fs ex H H h h' :=
 ⟨λb ob q z z z=>k b ob q,λb ob q z z z=>⟨ob.slots,k b ob q⟩,λz z z n z=>n,λb ob q z=>⟨ob,k b ob q⟩,λz z q=>q,λz z z q=>q,λz ps q=>⟨#[],by rw[q];simp⟩⟩
def Un.refl:Un fs ex H H h h:=Un.kept λz z q=>q
def Un.laid(k:∀b u,h.get? b=some u->h'.get? b=some u)(hp:h.objs.size<=a)(hn:H a=none):Un fs ex H (upd H a o) h h' where
 keep:=λb u q z z z=>k b u q
 slot:=λb u q z z z=>⟨u.slots,k b u q⟩
 free:=λb u q n z=>by rw[Qd (X1 (Xr (Xk q) hp))];exact n
 there:=λb u q z=>⟨u,k b u q⟩
 tups:=λb xs q=>by rw[Qd (Zo q hn)];exact q
 frzs:=λb u xs q=>by rw[Qd (Zo q hn)];exact q
 tbls:=λb ps q=>⟨#[],by rw[Qd (Zo q hn),q];simp⟩
def Un.write(mu:Mut (H x))(he:e=x\/H e=some (.own x))(k:∀b u,b≠e->h.get? b=some u->h'.get? b=some u)(heo:∃u,h'.get? e=some u):Un fs ex H (upd H x o) h h':=by
 have hx:∀b,H b=none->b≠x:=λb n z=>by subst z;rw[n]at mu;exact mu
 have hb:∀b,H b=none->b≠e:=λb n z=>by
  subst z
  rcases he with r|r
  ·exact hx b n r
  ·rw[n]at r;cases r
 have hm:∀b u,H b=some u->¬Mut (some u)->b≠x:=λb u q nm z=>by subst z;rw[q]at mu;exact nm mu
 refine⟨λb u q n y y=>k b u (hb b n) q,λb u q n y y=>⟨u.slots,k b u (hb b n) q⟩,λb u q n y=>by rw[Qd (hx b n)];exact n,λb u q y=>?_,
  λb xs q=>by rw[Qd (hm b _ q λz=>z)];exact q,λb u xs q=>by rw[Qd (hm b _ q λz=>z)];exact q,λb ps q=>⟨#[],by rw[Qd (hm b _ q λz=>z),q];simp⟩⟩
 by_cases hbe:b=e
 ·subst hbe;exact heo
 ·exact⟨u,k b u hbe q⟩
end
noncomputable def trk(h:Heap)(H:Hp):List Addr:=(List.range h.objs.size).filter λa=>(H a).isSome
noncomputable def QfZ(h:Heap)(H:Hp):Heap:=W.hideAll h (trk h H)
def Qd5(h:Heap)(H:Hp):(QfZ h H).objs.size=h.objs.size:=W.hideAll_size _ _
def QfY(e:h.get? b=some o)(n:H b=none):(QfZ h H).get? b=some o :=
 W.hideAll_get _ e λhm=>by
  have q:(H b).isSome=true:=(Tt.mp hm).2;rw[n]at q;simp at q
def Qiu(e:(QfZ h H).get? b=some o):h.get? b=some o/\H b=none:=by
 have e':h.get? b=some o:=W.of_hideAll (trk h H) e;refine⟨e',?_⟩
 cases q:H b with
 |none=>rfl
 |some x=>
  have hm:b∈trk h H:=Tt.mpr ⟨List.mem_range.mpr (Xk e'),by simp[q]⟩
  have z:(QfZ h H).get? b=none:=W.hideAll_none (trk h H) hm;rw[z]at e;cases e
end
section
variable {A:Around}{M:Model}{i t':Nat}{x:Str}
structure Mod(K:W.Frag)(mg:Str->Option Value)(base:Heap):Prop where
 kin:K.In base
 glob:base.Ns mainGlobals mg
 blt:∃mb,base.Ns builtinsNs mb/\∀x:Str,x≠"__name__"->mb x=bootBuiltins x
 nolimit:base.NoLimit
structure Cx where
 prog:Program
 w:World
 K:W.Frag
 mg:Str->Option Value
 base:Heap
 A:Around
 N:List Str
 s₀:Shared
 H₀:Hp
 env:Env
 outer:List Env
 stack:List Env
 ex:List Addr
 fn:Str->Bool
 calm:Bool
 pn:List (Addr×Obj)
 xe:Value->Shared->Prop
noncomputable def frs(l:List Env):List Addr:=l.filterMap (·.frame)
noncomputable abbrev Cx.fs(X:Cx):List Addr:=frs X.outer
def Vis(sc:Scope)(x:Str):Prop:=sc.names.lookup x=some .local\/sc.names.lookup x=some .cell\/sc.names.lookup x=some .free
def Loc(sc:Scope)(x:Str):Prop:=sc.names.lookup x=some .local\/sc.names.lookup x=some .cell
noncomputable def Qq4(env:Env)(h:Heap)(m:Str->Option Value)(x:Str)(u:Value):Prop :=
 (env.kindOf x=some .local/\m x=some u)\/((env.kindOf x=some .cell\/env.kindOf x=some .free)/\∃c,env.cells.lookup x=some c/\h.IsCell c (some u))
structure Cx.Ok(X:Cx):Prop where
 mod:Mod X.K X.mg X.base
 kind:X.env.scope.kind=.function
 glob:X.env.globals=mainGlobals
 blt:X.env.builtins=builtinsNs
 above:X.s₀.heap.objs.size<=X.env.locals
 inj:∀x y c,X.env.cells.lookup x=some c->X.env.cells.lookup y=some c->x=y
 has:∀x,(X.env.kindOf x=some .cell\/X.env.kindOf x=some .free)->∃c,X.env.cells.lookup x=some c
 cab:∀x c,X.fn x=true->X.env.cells.lookup x=some c->X.s₀.heap.objs.size<=c
 hd:X.calm=true->X.A.handled=none
 frames:X.A.frames=some X.stack
 stk:X.stack=X.outer\/(X.stack=X.env::X.outer/\X.env.frame=some X.env.locals)
 exf:∀b∈X.ex,b≠X.env.locals/\∀x c,X.env.cells.lookup x=some c->c≠b
 bs:∀b o,X.base.get? b=some o->X.s₀.heap.get? b=some o/\X.H₀ b=none
 bsz:X.base.objs.size<=X.s₀.heap.objs.size
 noex:∀b o,X.base.get? b=some o->b∉X.ex
 exfs:∀b∈X.ex,b∉X.fs
 funs:X.s₀.heap.FunFrames X.base X.outer
 frf:∀b∈X.fs,X.H₀ b=none
structure Inv(X:Cx)(pins:List (Addr×Obj))(Y:List (Option V))(H:Hp)(s:Shared):Prop where
 ok:X.Ok
 os:s.os=X.s₀.os
 bare:AllBare s.gens
 base:Un X.fs X.ex X.H₀ H X.s₀.heap s.heap
 loc:∃m,s.heap.Ns X.env.locals m/\∀(i:Nat) (x:Str) (v:V),X.N[i]?=some x->Y[i]?=some (some v)->Vis X.env.scope x->∃u,RelV v u/\Qq4 X.env s.heap m x u
 cell:∀x c,X.env.cells.lookup x=some c->∃v,s.heap.IsCell c v
 free:H X.env.locals=none
 freeC:∀x c,X.env.cells.lookup x=some c->H c=none
 pin:∀p∈X.pn++pins,s.heap.get? p.1=some p.2/\H p.1=none/\p.1≠X.env.locals/\p.1∉X.fs/\∀v,p.2.data≠.cell v
 hok:HOk X.prog X.w H s.heap
 len:Y.length=X.N.length
section
variable {X:Cx}{pins:List (Addr×Obj)}{Y:List (Option V)}{H H':Hp}{s:Shared}{h':Heap}
def Cx.Ok.nofr(ok:X.Ok)(e:X.base.get? b=some o):b∉X.fs:=λhb=>by
 have:=(ok.funs.mem hb).1;rw[e]at this;cases this
theorem Inv.bs(I:Inv X pins Y H s):∀b o,X.base.get? b=some o->s.heap.get? b=some o/\H b=none:=λb o e=>
 ⟨I.base.keep b o (I.ok.bs b o e).1 (I.ok.bs b o e).2 (I.ok.nofr e) (I.ok.noex b o e),I.base.free b o (I.ok.bs b o e).1 (I.ok.bs b o e).2 (I.ok.noex b o e)⟩
def Inv.bk(I:Inv X pins Y H s):∀b o,X.base.get? b=some o->s.heap.get? b=some o:=λb o e=>(I.bs b o e).1
theorem Inv.mod(I:Inv X pins Y H s):Mod X.K X.mg X.base:=I.ok.mod
def Inv.kIn(I:Inv X pins Y H s):X.K.In s.heap:=I.ok.mod.kin.keeps I.bk
theorem Inv.lt(I:Inv X pins Y H s):X.env.locals<s.heap.objs.size:=by obtain⟨_,hn,_⟩:=I.loc;exact hn.lt
def Inv.sz(I:Inv X pins Y H s):X.s₀.heap.objs.size<=s.heap.objs.size:=X7 I.ok.above (Nat.le_of_lt I.lt)
def Inv.nofs(I:Inv X pins Y H s)(h:s.heap.objs.size<=a):a∉X.fs:=λhb=>by
 obtain⟨_,o,ho,_⟩:=I.ok.funs.mem hb;exact absurd (Xr (Xk ho) (X7 I.sz h)) (Wu _)
def Inv.cne(I:Inv X pins Y H s):∀x c,X.env.cells.lookup x=some c->c≠X.env.locals:=λx c e z=>by
 obtain⟨v,o,ho,hd⟩:=I.cell x c e;obtain⟨m,⟨o',es,ep,ho',hd',_⟩,_⟩:=I.loc;rw[z,ho']at ho;cases ho;rw[hd']at hd;cases hd
theorem Inv.funs(I:Inv X pins Y H s):s.heap.FunFrames X.base X.outer:=by
 have all:∀(l:List Env),(∀b∈frs l,b∈X.fs)->X.s₀.heap.FunFrames X.base l->s.heap.FunFrames X.base l:=by
  intro l
  induction l with
  |nil=>intro _ _;trivial
  |cons env r ih=>
   intro hs hl;obtain⟨hk,⟨L,o,hf,hn,ho,hd⟩,hr⟩:=hl
   have hL:L∈X.fs:=hs L (by unfold frs;rw[U9,hf];exact Xm)
   obtain⟨sl,e⟩:=I.base.slot L o ho (I.ok.frf L hL) hL λz=>I.ok.exfs L z hL
   exact⟨hk,⟨L,_,hf,hn,e,hd⟩,ih (λb hb=>hs b (by unfold frs;rw[U9,hf];exact Xj _ hb)) hr⟩
 exact all X.outer (λy hb=>hb) I.ok.funs
theorem Inv.stack(I:Inv X pins Y H s):s.heap.FunFrames X.base X.stack:=by
 rcases I.ok.stk with e|⟨e,hf⟩
 ·rw[e];exact I.funs
 ·rw[e];obtain⟨m,hn,_⟩:=I.loc
  refine .cons (by rw[I.ok.kind];decide) hf hn ?_ I.funs
  exact Uy (X7 I.ok.bsz I.ok.above)
def Inv.stkSub(I:Inv X pins Y H s):∀b∈frs X.stack,b∈X.env.locals::X.fs:=λb hb=>by
 rcases I.ok.stk with e|⟨e,hf⟩
 ·rw[e]at hb;exact Xj _ hb
 ·rw[e]at hb;unfold frs at hb;rw[U9,hf]at hb;exact hb
def Inv.stkFree(I:Inv X pins Y H s):∀b∈frs X.stack,H b=none:=λb hb=>by
 rcases Xg.mp (I.stkSub b hb)with e|hb
 ·rw[e];exact I.free
 ·obtain⟨_,o,ho,_⟩:=I.ok.funs.mem hb;exact I.base.free b o ho (I.ok.frf b hb) λz=>I.ok.exfs b z hb
def Inv.step{g':Array GenState}{d':Drawn}{ch:List Addr}(I:Inv X pins Y H s)
  (hch:∀b∈ch,(b∈X.ex\/X.s₀.heap.objs.size<=b)/\b≠X.env.locals/\(∀x c,X.env.cells.lookup x=some c->c≠b)/\∀p∈X.pn++pins,p.1≠b)
  (keep:∀b o,b≠X.env.locals->b∉X.fs->b∉ch->s.heap.get? b=some o->H b=none->h'.get? b=some o)
  (slot:∀b o,b≠X.env.locals->b∈X.fs->b∉ch->s.heap.get? b=some o->H b=none->∃sl,h'.get? b=some {o with slots:=sl}) (free:∀b o,b∉ch->s.heap.get? b=some o->H b=none->H' b=none)
  (there:∀b o,b∉ch->s.heap.get? b=some o->∃o',h'.get? b=some o')
  (tups:∀b xs,H b=some (.tup xs)->H' b=some (.tup xs)) (frzs:∀b o u,H b=some (.frz o u)->H' b=some (.frz o u)) (tbls:∀b ps,H b=some (.tbl ps)->∃more,H' b=some (.tbl (ps++more)))
  (ns:∀m,s.heap.Ns X.env.locals m->h'.Ns X.env.locals m) (hok:HOk X.prog X.w H' h') (hg:AllBare g'):
  Inv X pins Y H' {s with heap:=h',gens:=g',drawn:=d',toks:=t'}:=by
 have neL:∀b o,X.s₀.heap.get? b=some o->b≠X.env.locals:=λb o e=>X1 (Xr (Xk e) I.ok.above)
 have neC:∀b o,X.s₀.heap.get? b=some o->b∉X.ex->b∉ch:=λb o e hx hb=>by
  rcases (hch b hb).1 with z|z
  ·exact hx z
  ·exact absurd (Xr (Xk e) z) (Wu _)
 have cellK:∀x c,X.env.cells.lookup x=some c->∀v,s.heap.IsCell c v->h'.IsCell c v:=λx c e v y=>by
  obtain⟨o,ho,hd⟩:=y
  have nch:c∉ch:=λz=>(hch c z).2.2.1 x c e rfl;by_cases hc:c∈X.fs
  ·obtain⟨sl,q⟩:=slot c o (I.cne x c e) hc nch ho (I.freeC x c e);exact⟨_,q,hd⟩
  ·exact⟨o,keep c o (I.cne x c e) hc nch ho (I.freeC x c e),hd⟩
 refine⟨I.ok,I.os,hg,⟨λb o e n hb hx=>?_,λb o e n hb hx=>?_,λb o e n hx=>?_,λb o e hx=>?_,λb xs e=>tups b xs (I.base.tups b xs e),λb o xs e=>frzs b o xs (I.base.frzs b o xs e),λb ps e=>?_⟩,?_,λx c e=>?_,?_,λx c e=>?_,λp hp=>?_,hok,I.len⟩
 ·exact keep b o (neL b o e) hb (neC b o e hx) (I.base.keep b o e n hb hx) (I.base.free b o e n hx)
 ·obtain⟨sl,e1⟩:=I.base.slot b o e n hb hx;obtain⟨sl',e2⟩:=slot b _ (neL b o e) hb (neC b o e hx) e1 (I.base.free b o e n hx);exact⟨sl',e2⟩
 ·obtain⟨o',e1⟩:=I.base.there b o e hx;exact free b o' (neC b o e hx) e1 (I.base.free b o e n hx)
 ·obtain⟨o',e1⟩:=I.base.there b o e hx;exact there b o' (neC b o e hx) e1
 ·obtain⟨m1,e1⟩:=I.base.tbls b ps e;obtain⟨m2,e2⟩:=tbls b _ e1
  exact⟨m1++m2,by rw[e2,Array.append_assoc]⟩
 ·obtain⟨m,hn,hl⟩:=I.loc;refine⟨m,ns m hn,λi x v e1 e2 e3=>?_⟩;obtain⟨u,r,l⟩:=hl i x v e1 e2 e3;refine⟨u,r,?_⟩
  rcases l with l|⟨k,c,e,z⟩
  ·exact .inl l
  ·exact .inr ⟨k,c,e,cellK x c e _ z⟩
 ·obtain⟨v,z⟩:=I.cell x c e;exact⟨v,cellK x c e v z⟩
 ·obtain⟨m,⟨o,_,_,ho,_⟩,_⟩:=I.loc;exact free _ o (λz=>(hch _ z).2.1 rfl) ho I.free
 ·obtain⟨v,o,ho,hd⟩:=I.cell x c e;exact free c o (λz=>(hch c z).2.2.1 x c e rfl) ho (I.freeC x c e)
 ·obtain⟨e,n,ne,nf,d⟩:=I.pin p hp;have nch:p.1∉ch:=λz=>(hch p.1 z).2.2.2 p hp rfl;exact⟨keep p.1 p.2 ne nf nch e n,free p.1 p.2 nch e n,ne,nf,d⟩
def Inv.un(I:Inv X pins Y H s)(u:Un X.fs [] H H' s.heap h')(hok:HOk X.prog X.w H' h'):Inv X pins Y H' {s with heap:=h',toks:=t'}:=by
 obtain⟨m,⟨o,es,ep,ho,r⟩,_⟩:=id I.loc
 obtain⟨sl,hL⟩:=u.any ho I.free (by simp)
 exact I.step (g':=s.gens) (d':=s.drawn) (ch:=[]) (λy z=>nomatch z) (λb o y hb y e n=>u.keep b o e n hb (by simp)) (λb o y hb y e n=>u.slot b o e n hb (by simp)) (λb o y e n=>u.free b o e n (by simp)) (λb o y e=>u.there b o e (by simp)) u.tups u.frzs u.tbls (λm' hm=>by
  obtain⟨o',es',ep',ho',r'⟩:=hm;rw[ho]at ho';cases ho'
  exact⟨_,es',ep',hL,r'⟩) hok I.bare
def Inv.call{g':Array GenState}{d':Drawn}{ch:List Addr}(I:Inv X pins Y H s)(u:Un (frs X.stack) ch H H' s.heap h')(hok:HOk X.prog X.w H' h')(hg:AllBare g')
  (hch:∀b∈ch,(b∈X.ex\/X.s₀.heap.objs.size<=b)/\b≠X.env.locals/\(∀x c,X.env.cells.lookup x=some c->c≠b)/\∀p∈X.pn++pins,p.1≠b):
  Inv X pins Y H' {s with heap:=h',gens:=g',drawn:=d',toks:=t'}:=by
 obtain⟨m,⟨o,es,ep,ho,r⟩,_⟩:=id I.loc;obtain⟨sl,hL⟩:=u.any ho I.free λz=>(hch _ z).2.1 rfl
 exact I.step (ch:=ch) hch (λb o hL hb hc e n=>u.keep b o e n (λz=>(Xg.mp (I.stkSub b z)).elim hL hb) hc) (λb o y y hc e n=>u.any e n hc) (λb o hc e n=>u.free b o e n hc) (λb o hc e=>u.there b o e hc) u.tups u.frzs u.tbls (λm' hm=>by
  obtain⟨o',es',ep',ho',r'⟩:=hm;rw[ho]at ho';cases ho'
  exact⟨_,es',ep',hL,r'⟩) hok hg
def Inv.turned{it:Addr}(I:Inv X pins Y H s)(k:∀b o,b≠it->s.heap.get? b=some o->h'.get? b=some o)(hn:H it=none)(hL:it≠X.env.locals)
  (h1:it∈X.ex\/X.s₀.heap.objs.size<=it) (h2:∀x c,X.env.cells.lookup x=some c->c≠it) (h3:∀p∈X.pn++pins,p.1≠it):Inv X pins Y H {s with heap:=h',toks:=t'}:=by
 have nit:∀b u,H b=some u->b≠it:=λb u e z=>by rw[z,hn]at e;cases e
 refine I.step (g':=s.gens) (d':=s.drawn) (ch:=[it]) (λb hb=>?_) (λb o y y hc e y=>k b o (λz=>hc (by simp[z])) e) (λb o y y hc e y=>⟨o.slots,k b o (λz=>hc (by simp[z])) e⟩) (λy y y y n=>n)
  (λb o hc e=>⟨o,k b o (λz=>hc (by simp[z])) e⟩) (λy y e=>e) (λy y y e=>e) (λb ps e=>⟨#[],by rw[e];simp⟩) (λm hm=>?_) (λb u e=>?_) I.bare
 ·have e:b=it:=by simpa using hb
  subst e;exact⟨h1,hL,h2,h3⟩
 ·obtain⟨o,es,ep,ho,r⟩:=hm;exact⟨o,es,ep,k _ o (Wr hL) ho,r⟩
 ·refine(I.hok b u e).stay (λc v hc q=>k c v ?_ q) (λy q=>q) λy y q=>q
  rcases hc with z|z
  ·rw[z];exact nit b u e
  ·exact nit c _ z
def Inv.tok(I:Inv X pins Y H s)(t:Nat):Inv X pins Y H {s with toks:=t}:=I.un (h':=s.heap) (t':=t) Un.refl I.hok
theorem Inv.kept(I:Inv X pins Y H s)(k:∀b u,s.heap.get? b=some u->h'.get? b=some u):Inv X pins Y H {s with heap:=h',toks:=t'}:=I.un (Un.kept k) (I.hok.kept k)
theorem Inv.laid{a:Addr}{o:HO}(I:Inv X pins Y H s)(k:∀b u,s.heap.get? b=some u->h'.get? b=some u)(hp:s.heap.objs.size<=a)(new:ObjOk X.prog X.w (upd H a o) h' a o):
  Inv X pins Y (upd H a o) {s with heap:=h',toks:=t'}:=I.un (Un.laid k hp (I.hok.fresh hp)) (I.hok.laid k hp new)
theorem Inv.write{x e:Addr}{o:HO}(I:Inv X pins Y H s)(mu:Mut (H x))(he:e=x\/H e=some (.own x))(k:∀b u,b≠e->s.heap.get? b=some u->h'.get? b=some u)(heo:∃u,h'.get? e=some u)
  (new:ObjOk X.prog X.w (upd H x o) h' x o):Inv X pins Y (upd H x o) {s with heap:=h',toks:=t'}:=I.un (Un.write mu he k heo) (I.hok.write mu he k heo new)
def Inv.pins_of(I:Inv X pins Y H s)(h:∀p∈pins',s.heap.get? p.1=some p.2/\H p.1=none/\p.1≠X.env.locals/\p.1∉X.fs/\∀v,p.2.data≠.cell v):Inv X pins' Y H s :=
 ⟨I.ok,I.os,I.bare,I.base,I.loc,I.cell,I.free,I.freeC,λp hp=>(Uq.mp hp).elim (λz=>I.pin p (List.mem_append_left _ z)) (h p),I.hok,I.len⟩
def Qag{N:List Str}(hN:N.Nodup){j:Nat}(a:N[i]?=some x)(b:N[j]?=some x):i=j:=by
 obtain⟨h1,e1⟩:=Xh.mp a;obtain⟨h2,e2⟩:=Xh.mp b;exact(List.getElem_inj hN).mp (e1.trans e2.symm)
def Qdg{E:Value->Shared->Prop}{v:V}{u:Value}{Q:Unit->Shared->Prop}(I:Inv X pins Y H s)(hN:X.N.Nodup)(hi:X.N[i]?=some x)(hx:Loc X.env.scope x)(r:RelV v u)
  (h:∀s',Inv X pins (Y.set i (some v)) H s'->(∃a,Heap.SameBut a s.heap s'.heap/\(a=X.env.locals\/X.env.cells.lookup x=some a))->Q () s') (hf:X.fn x=true\/X.env.scope.names.lookup x=some .local:=by first|exact .inl rfl|exact .inr rfl|assumption):wpAny M A (storeName X.env x u) Q E s:=by
 obtain⟨m,hn,hl⟩:=id I.loc
 have hcls:(X.env.scope.kind==.class||(X.env.scope.kind==.module&&X.env.locals != X.env.globals))=false:=by rw[I.ok.kind];rfl
 have hiY:i < Y.length:=by rw[I.len];exact(Xh.mp hi).1
 have cne:=I.cne
 have tracked:∀{a:Addr} {h':Heap},(∃o,s.heap.get? a=some o/\H a=none)->Heap.SameBut a s.heap h'->HOk X.prog X.w H h':=λ{a h'} ha hs b ob e=>by
  obtain⟨_,_,hfree⟩:=ha;refine(I.hok b ob e).stay (λc w' hc q=>(hs.2 c ?_).trans q) (λt q=>q) λt t q=>q;rintro rfl
  rcases hc with rfl|hc
  ·rw[hfree]at e;cases e
  ·rw[hfree]at hc;cases hc
 rcases hx with hk|hk
 ·refine wpAny_storeName_local hk hn (λh' hn' hs=>?_) hcls;obtain⟨oL,_,_,hoL,_⟩:=id hn
  refine h _ ⟨I.ok,I.os,I.bare,⟨λb o e n hb hx=>?_,λb o e n hb hx=>?_,I.base.free,λb o e hx=>?_,I.base.tups,I.base.frzs,I.base.tbls⟩,⟨_,hn',λj y v' e1 e2 e3=>?_⟩,λy c e=>?_,I.free,I.freeC,λp hp=>?_,tracked ⟨oL,hoL,I.free⟩ hs,by simpa using I.len⟩ ⟨_,hs,.inl rfl⟩
  ·exact(hs.2 b (X1 (Xr (Xk e) I.ok.above))).trans (I.base.keep b o e n hb hx)
  ·obtain⟨sl,e1⟩:=I.base.slot b o e n hb hx;exact⟨sl,(hs.2 b (X1 (Xr (Xk e) I.ok.above))).trans e1⟩
  ·obtain⟨o',e1⟩:=I.base.there b o e hx;exact⟨o',(hs.2 b (X1 (Xr (Xk e) I.ok.above))).trans e1⟩
  ·by_cases hj:j=i
   ·subst hj;rw[hi]at e1;cases e1;rw[X9 hiY]at e2;cases e2
    exact⟨u,r,.inl ⟨hk,by simp⟩⟩
   ·rw[X3 (Wr hj)]at e2;obtain⟨u',r',q⟩:=hl j y v' e1 e2 e3;refine⟨u',r',?_⟩
    rcases q with⟨k,e⟩|⟨k,c,e,z⟩
    ·refine .inl ⟨k,?_⟩;have:y≠x:=λe=>hj (Qag hN e1 (e▸hi));simp[this,e]
    ·exact .inr ⟨k,c,e,z.sameBut hs (cne y c e)⟩
  ·obtain⟨w',z⟩:=I.cell y c e;exact⟨w',z.sameBut hs (cne y c e)⟩
  ·obtain⟨e,n,ne,nf,d⟩:=I.pin p hp;exact⟨(hs.2 p.1 ne).trans e,n,ne,nf,d⟩
 ·have hfn:X.fn x=true:=by
   rcases hf with z|z
   ·exact z
   ·rw[z]at hk;cases hk
  obtain⟨c,hc⟩:=I.ok.has x (.inl hk);obtain⟨w',z⟩:=I.cell x c hc;refine wpAny_storeName_cell I.ok.kind hk hc z (λh' hc' hs=>?_);obtain⟨oc,hoc,hocd⟩:=id z
  refine h {s with heap:=h'} ⟨I.ok,I.os,I.bare,⟨λb o e n hb hx=>?_,λb o e n hb hx=>?_,I.base.free,λb o e hx=>?_,I.base.tups,I.base.frzs,I.base.tbls⟩,⟨m,hn.sameBut hs (Wr (cne x c hc)),λj y v' e1 e2 e3=>?_⟩,λy c' e=>?_,I.free,I.freeC,λp hp=>?_,tracked ⟨oc,hoc,I.freeC x c hc⟩ hs,by simpa using I.len⟩ ⟨c,hs,.inr hc⟩
  ·exact(hs.2 b (X1 (Xr (Xk e) (I.ok.cab x c hfn hc)))).trans (I.base.keep b o e n hb hx)
  ·obtain⟨sl,e1⟩:=I.base.slot b o e n hb hx;exact⟨sl,(hs.2 b (X1 (Xr (Xk e) (I.ok.cab x c hfn hc)))).trans e1⟩
  ·obtain⟨o',e1⟩:=I.base.there b o e hx;exact⟨o',(hs.2 b (X1 (Xr (Xk e) (I.ok.cab x c hfn hc)))).trans e1⟩
  ·by_cases hj:j=i
   ·subst hj;rw[hi]at e1;cases e1;rw[X9 hiY]at e2;cases e2;exact⟨u,r,.inr ⟨.inl hk,c,hc,hc'⟩⟩
   ·rw[X3 (Wr hj)]at e2;obtain⟨u',r',q⟩:=hl j y v' e1 e2 e3;refine⟨u',r',?_⟩
    rcases q with q|⟨k,c',e,z'⟩
    ·exact .inl q
    ·refine .inr ⟨k,c',e,z'.sameBut hs ?_⟩;rintro rfl;exact hj (Qag hN e1 (I.ok.inj _ _ _ e hc▸hi))
  ·by_cases hcc:c'=c
   ·subst hcc;exact⟨_,hc'⟩
   ·obtain⟨w2,z2⟩:=I.cell y c' e;exact⟨w2,z2.sameBut hs hcc⟩
  ·obtain⟨e,n,ne,nf,d⟩:=I.pin p hp;refine⟨(hs.2 p.1 ?_).trans e,n,ne,nf,d⟩;intro q;rw[q,hoc]at e;have q':oc=p.2:=Xw e
   exact d w' (by rw[<-q'];exact hocd)
def JV(I:Inv X pins Y H s)(hN:X.N.Nodup)(hi:X.N[i]?=some x)(hx:Loc X.env.scope x)(r:RelV v u)
  (h:∀s',Inv X pins (Y.set i (some v)) H s'->Q () s') (hf:X.fn x=true\/X.env.scope.names.lookup x=some .local:=by first|exact .inl rfl|exact .inr rfl|assumption):wpAny M A (storeName X.env x u) Q E s :=
 Qdg I hN hi hx r (λs' I' z=>h s' I') hf
def Inv.call'(I:Inv X pins Y H s)(ho:s'.os=s.os)(u:Un (frs X.stack) ch H H' s.heap s'.heap)(hok:HOk X.prog X.w H' s'.heap)(hg:AllBare s'.gens)
  (hch:∀b∈ch,(b∈X.ex\/X.s₀.heap.objs.size<=b)/\b≠X.env.locals/\(∀x c,X.env.cells.lookup x=some c->c≠b)/\∀p∈X.pn++pins,p.1≠b):Inv X pins Y H' s':=by
 obtain⟨h',g',d',t',o'⟩:=s';have e:o'=s.os:=ho;subst e;exact I.call (g':=g') (t':=t') (d':=d') u hok hg hch
end
abbrev XK:=Value->Option Addr->Hp->Prop
abbrev St:=List (Option V)
abbrev VK:=V->Hp->Prop
abbrev TE:=St->Hp->VK->Prop
abbrev TT:=St->Hp->(Bool->Hp->Prop)->Prop
abbrev TA:=St->Hp->(List V->Hp->Prop)->Prop
structure Ends where
 nx:St->Hp->Prop
 rt:VK
 bk:St->Hp->Prop:=λ_ _=>False
 ct:St->Hp->Prop:=λ_ _=>False
abbrev TS:=Ends->St->Hp->Prop
def EP(X:Cx)(pins:List (Addr×Obj))(Y:St)(Q:VK)(u:Value)(s':Shared):Prop:=∃v H',Inv X pins Y H' s'/\RelV v u/\Q v H'
def TP(X:Cx)(pins:List (Addr×Obj))(Y:St)(Q:Bool->Hp->Prop)(b:Bool)(s':Shared):Prop:=∃H',Inv X pins Y H' s'/\Q b H'
def AP(X:Cx)(pins:List (Addr×Obj))(Y:St)(Q:List V->Hp->Prop)(us:List Value)(s':Shared):Prop:=∃vs H',Inv X pins Y H' s'/\Vals vs us/\Q vs H'
noncomputable def SP(X:Cx)(pins:List (Addr×Obj))(D:Ends)(f:Flow)(s':Shared):Prop :=
 match f with
 |.next=>∃Y' H',Inv X pins Y' H' s'/\D.nx Y' H'
 |.brk=>∃Y' H',Inv X pins Y' H' s'/\D.bk Y' H'
 |.cont=>∃Y' H',Inv X pins Y' H' s'/\D.ct Y' H'
 |.ret u=>∃v Y' H',Inv X pins Y' H' s'/\RelV v u/\D.rt v H'
noncomputable def PE(X:Cx)(e:Expr)(t:TE):Prop :=
 ∀(pins:List (Addr×Obj)) (s:Shared) (Y:St) (H:Hp) (Q:VK),Inv X pins Y H s->t Y H Q->wpAny (model X.prog X.w) X.A (eval e X.env) (EP X pins Y Q) X.xe s
noncomputable def PT(X:Cx)(e:Expr)(t:TT):Prop :=
 ∀(pins:List (Addr×Obj)) (s:Shared) (Y:St) (H:Hp) (Q:Bool->Hp->Prop),Inv X pins Y H s->t Y H Q->wpAny (model X.prog X.w) X.A (isTrue e X.env (eval e X.env)) (TP X pins Y Q) X.xe s
noncomputable def PW(X:Cx)(e:Expr)(t:TT):Prop :=
 ∀(whole:Sem Value) (pins:List (Addr×Obj)) (s:Shared) (Y:St) (H:Hp) (Q:Bool->Hp->Prop),Inv X pins Y H s->t Y H Q->wpAny (model X.prog X.w) X.A (isTrue e X.env whole) (TP X pins Y Q) X.xe s
def PW.pt(h:PW X e t):PT X e t:=h _
noncomputable def PA(X:Cx)(es:List Expr)(t:TA):Prop :=
 ∀(pos:Pos) (pins:List (Addr×Obj)) (s:Shared) (Y:St) (H:Hp) (Q:List V->Hp->Prop),Inv X pins Y H s->t Y H Q->wpAny (model X.prog X.w) X.A (spliced (backTo pos (starEach es X.env))) (AP X pins Y Q) X.xe s
noncomputable def PS(X:Cx)(st:Stmt)(t:TS):Prop :=
 ∀(pins:List (Addr×Obj)) (s:Shared) (Y:St) (H:Hp) (D:Ends),Inv X pins Y H s->t D Y H->wpAny (model X.prog X.w) X.A (exec st X.env) (SP X pins D) X.xe s
noncomputable def PSs(X:Cx)(st:List Stmt)(t:TS):Prop :=
 ∀(pins:List (Addr×Obj)) (s:Shared) (Y:St) (H:Hp) (D:Ends),Inv X pins Y H s->t D Y H->wpAny (model X.prog X.w) X.A (execs st X.env) (SP X pins D) X.xe s
def thn{α:Type}{t:Sem α}{Q Q':α->Shared->Prop}{E:Value->Shared->Prop}{s:Shared}(h:wpAny M A t Q E s)(hQ:∀a s,Q a s->Q' a s):wpAny M A t Q' E s:=Xo h hQ λz z x=>x
end
section
variable {pos:Pos}{x:Str}{u:Value}
section
variable {X:Cx}
def Qmg(i:Nat):TE:=λY H Q=>∃v,Y[i]?=some (some v)/\Q v H
def tC(v:V):TE:=λz H Q=>Q v H
def QdD(hN:X.N[i]?=some x)(hv:Vis X.env.scope x)(hd:(x==("__debug__":Str))=false:=by decide)(hcd:(x==("__classdict__":Str))=false:=by decide):PE X (.Name x pos) (Qmg i):=by
 intro pins s Y H Q I h;obtain⟨v,e,h⟩:=h;obtain⟨m,hn,hl⟩:=I.loc;obtain⟨u,r,l⟩:=hl i x v hN e hv;have fin:EP X pins Y Q u s:=⟨v,H,I,r,h⟩
 rcases l with⟨hk,hm⟩|⟨hk,c,hc,hcell⟩
 ·exact wpAny_Name (wpAny_loadName_local I.ok.kind hk hn hm fin) hd
 ·rcases hk with hk|hk
  ·exact wpAny_Name (wpAny_loadName_cell I.ok.kind hk hc hcell fin) hd
  ·exact wpAny_Name (wpAny_loadName_free I.ok.kind hk hc hcell fin hcd) hd
def QkK{i j pos}:PE X (.Constant (.int i) j pos) (tC (.int i)):=λz z z H z I h=>wpAny_Constant_int ⟨.int i,H,I.tok _,⟨_,rfl⟩,h⟩
def Qnz{b j pos}:PE X (.Constant (.bool b) j pos) (tC (.bl b)):=λz z z H z I h=>Constant_bool ⟨.bl b,H,I,rfl,h⟩
def QgQ{j pos}:PE X (.Constant .none j pos) (tC .non):=λz z z H z I h=>Constant_none ⟨.non,H,I,rfl,h⟩
def QgO{x j pos}:PE X (.Constant (.str x) j pos) (tC (.str x)):=λz z z H z I h=>Calls.Constant_str ⟨.str x,H,I.tok _,⟨_,rfl⟩,h⟩
def Gl(X:Cx)(x:Str):Prop:=X.env.kindOf x=some .globalImplicit
def Zd(I:Inv X pins Y H s)(hg:Gl X x)(hm:X.mg x=some u)(h:Q u s)
  (hd:(x==("__debug__":Str))=false:=by decide):wpAny (model X.prog X.w) X.A (eval (.Name x pos) X.env) Q E s :=
 U1 I.ok.kind hg (Calls.loadGlobal_global (by rw[I.ok.glob];exact I.mod.glob.keeps I.bk) hm h) hd
def Yc(I:Inv X pins Y H s)(hg:Gl X x)(hm:X.mg x=none)(hv:bootBuiltins x=some u)(h:Q u s)
  (hn:x≠"__name__":=by decide) (hd:(x==("__debug__":Str))=false:=by decide):wpAny (model X.prog X.w) X.A (eval (.Name x pos) X.env) Q E s:=by
 obtain⟨mb,h1,h2⟩:=I.mod.blt
 exact U1 I.ok.kind hg (Calls.loadGlobal_builtin (by rw[I.ok.glob];exact I.mod.glob.keeps I.bk) hm (by rw[I.ok.blt];exact h1.keeps I.bk) ((h2 x hn).trans hv) h) hd
def Qbg(hg:Gl X x)(hm:X.mg x=some u)(r:RelV v u)(hd:(x==("__debug__":Str))=false:=by decide):PE X (.Name x pos) (tC v):=
 λz z z H z I h=>Zd I hg hm ⟨v,H,I,r,h⟩ hd
def Qij(hg:Gl X x)(hm:X.mg x=none)(hv:bootBuiltins x=some u)(r:RelV v u)(hn:x≠"__name__":=by decide)(hd:(x==("__debug__":Str))=false:=by decide):PE X (.Name x pos) (tC v):=
 λz z z H z I h=>Yc I hg hm hv ⟨v,H,I,r,h⟩ hn hd
variable {a b:Expr}{ta tb:TE}
variable {tA tB':TT}{rest:List Expr}
def QpM(t u:TT):TT:=λY H Q=>t Y H λc H1=>if c=true then u Y H1 Q else Q false H1
def tOr(t u:TT):TT:=λY H Q=>t Y H λc H1=>if c=true then Q true H1 else u Y H1 Q
def QpG(t:TT):TT:=λY H Q=>t Y H λc H1=>Q (!c) H1
def Qh0(ha:PT X a tA):PW X (.BoolOp .And [a] pos) tA:=by
 intro wh pins s Y H Q I h;refine isTrue_and (thn (ha pins s Y H Q I h) λc s1 e=>?_)
 cases c with
 |true=>exact isTrue_and_nil e
 |false=>exact e
def Qkx(ha:PT X a tA):PW X (.BoolOp .Or [a] pos) tA:=by
 intro wh pins s Y H Q I h;refine isTrue_or (thn (ha pins s Y H Q I h) λc s1 e=>?_)
 cases c with
 |false=>exact isTrue_or_nil e
 |true=>exact e
def Qky(ha:PT X a tA)(hb:PW X (.BoolOp .And (b::rest) pos) tB'):PW X (.BoolOp .And (a::b::rest) pos) (QpM tA tB'):=by
 intro wh pins s Y H Q I h;refine isTrue_and (thn (ha pins s Y H _ I h) λc s1 z=>?_);obtain⟨H1,I1,q1⟩:=z
 cases c with
 |true=>exact hb wh pins s1 Y H1 Q I1 q1
 |false=>exact⟨H1,I1,q1⟩
def Qnp(ha:PT X a tA)(hb:PW X (.BoolOp .Or (b::rest) pos) tB'):PW X (.BoolOp .Or (a::b::rest) pos) (tOr tA tB'):=by
 intro wh pins s Y H Q I h;refine isTrue_or (thn (ha pins s Y H _ I h) λc s1 z=>?_);obtain⟨H1,I1,q1⟩:=z
 cases c with
 |true=>exact⟨H1,I1,q1⟩
 |false=>exact hb wh pins s1 Y H1 Q I1 q1
def QkB(ha:PT X a tA):PT X (.UnaryOp .Not a pos) (QpG tA):=by
 intro pins s Y H Q I h;exact isTrue_not (ha pins s Y H (λc H1=>Q (!c) H1) I h)
def Qm2(ta tb:TE):TE:=λY H Q=>ta Y H λx H1=>∃c,x=.bl c/\if c=true then tb Y H1 Q else Q (.bl false) H1
def QpF(ta tb:TE):TE:=λY H Q=>ta Y H λx H1=>∃c,x=.bl c/\if c=true then Q (.bl true) H1 else tb Y H1 Q
def QgP{op}(h:PE X a t):PE X (.BoolOp op [a] pos) t:=λpins s Y H Q I hw=>BoolOp_one (h pins s Y H Q I hw)
def QkN(ha:PE X a ta)(hb:PE X (.BoolOp .And (b::rest) pos) tb):PE X (.BoolOp .And (a::b::rest) pos) (Qm2 ta tb):=by
 intro pins s Y H Q I h;refine BoolOp_and (thn (ha pins s Y H _ I h) λv s1 z=>?_);obtain⟨x,H1,I1,r1,q1⟩:=z;obtain⟨c,rfl,q1⟩:=q1;cases r1;refine Ug ?_
 cases c with
 |true=>exact hb pins s1 Y H1 Q I1 q1
 |false=>exact⟨.bl false,H1,I1,rfl,q1⟩
def Qnv(ha:PE X a ta)(hb:PE X (.BoolOp .Or (b::rest) pos) tb):PE X (.BoolOp .Or (a::b::rest) pos) (QpF ta tb):=by
 intro pins s Y H Q I h;refine BoolOp_or (thn (ha pins s Y H _ I h) λv s1 z=>?_);obtain⟨x,H1,I1,r1,q1⟩:=z;obtain⟨c,rfl,q1⟩:=q1;cases r1;refine Ug ?_
 cases c with
 |false=>exact hb pins s1 Y H1 Q I1 q1
 |true=>exact⟨.bl true,H1,I1,rfl,q1⟩
def tIf(t:TT)(ta tb:TE):TE:=λY H Q=>t Y H λc H1=>if c=true then ta Y H1 Q else tb Y H1 Q
def Qb3{c:Expr}(hc:PT X c tA)(ha:PE X a ta)(hb:PE X b tb):PE X (.IfExp c a b pos) (tIf tA ta tb):=by
 intro pins s Y H Q I h;refine wpAny_IfExp (thn (hc pins s Y H _ I h) λd s1 z=>?_);obtain⟨H1,I1,q1⟩:=z
 cases d with
 |true=>exact ha pins s1 Y H1 Q I1 q1
 |false=>exact hb pins s1 Y H1 Q I1 q1
end
end
section
variable {X:Cx}{e tg:Expr}{H:Hp}{pins:List (Addr×Obj)}{pos:Pos}{P:Program}{s:Shared}{Y:St}{te:TE}{u:Value}{w:World}
noncomputable def SqL(K:W.Frag)(H:Hp)(a:Addr)(xs:List V):Prop :=
 Rd H a (.lst xs) \/
  ∃(o:Obj) (its:Array Value) (n:Nat),K.lookup a=some o/\o.cls=.type "list"/\o.dict=none/\o.data=.seq its n/\its.size<=sizeLine/\Vals xs its.toList
noncomputable def SqT(K:W.Frag)(H:Hp)(a:Addr)(xs:List V):Prop :=
 Rd H a (.tup xs) \/
  ∃(o:Obj) (its:Array Value) (n:Nat),K.lookup a=some o/\o.cls=.type "tuple"/\o.data=.seq its n/\its.size<=sizeLine/\Vals xs its.toList
noncomputable def Qq0:Value->Option V
 |.none=>some .non
 |.bool b=>some (.bl b)
 |.int i _=>some (.int i)
 |.str x _=>some (.str x)
 |.bytes b _=>some (.byt b)
 |.float b _=>some (.flt b)
 |.ref a=>some (.ref a)
 |.type n=>some (.ty n)
 |_=>none
def RelV.abs(r:RelV x u):Qq0 u=some x:=by
 cases x with
 |non=>cases r;rfl
 |bl _=>cases r;rfl
 |int _=>obtain⟨t,rfl⟩:=r;rfl
 |str _=>obtain⟨t,rfl⟩:=r;rfl
 |byt _=>obtain⟨t,rfl⟩:=r;rfl
 |flt _=>obtain⟨t,rfl⟩:=r;rfl
 |ref _=>cases r;rfl
 |ty _=>cases r;rfl
def RelV.inj(r:RelV x u)(q:RelV y u):x=y:=Xw (r.abs.symm.trans q.abs)
theorem Vals.inj{xs ys:List V}{us:List Value}(h:Vals xs us)(h':Vals ys us):xs=ys:=by
 induction h generalizing ys with
 |nil=>cases h';rfl
 |cons r _ ih=>
  cases h' with
  |cons r' t'=>rw[r.inj r',ih t']
section
variable {a:Addr}{xs ys:List V}
def SqL.of{K:W.Frag}(h:H a=some (.lst xs)):SqL K H a xs:=.inl (.inl h)
def SqT.of{K:W.Frag}(h:H a=some (.tup xs)):SqT K H a xs:=.inl (.inl h)
def Inv.list(I:Inv X pins Y H s)(h:SqL X.K H a xs):∃its:List Value,Vals xs its/\PlainL s.heap a its.toArray/\xs.length<=sizeLine:=by
 rcases h with h|⟨o,its,n,hk,hc,hd,hs,hz,r⟩
 ·obtain⟨z,its,n,r,e⟩:=h.ok I.hok;exact⟨its,r,⟨_,n,e,rfl,rfl,rfl⟩,z⟩
 ·refine⟨its.toList,r,⟨o,n,I.kIn a o hk,hc,hd,by simpa using hs⟩,?_⟩
  have e:=r.length;simp only[Vl]at e;omega
def Inv.tuple(I:Inv X pins Y H s)(h:SqT X.K H a xs):∃its:List Value,Vals xs its/\IsTup s.heap a its.toArray/\xs.length<=sizeLine:=by
 rcases h with h|⟨o,its,n,hk,hc,hs,hz,r⟩
 ·obtain⟨z,its,r,p⟩:=h.ok I.hok;exact⟨its,r,p,z⟩
 ·refine⟨its.toList,r,⟨o,I.kIn a o hk,hc,n,by simpa using hs⟩,?_⟩
  have e:=r.length;simp only[Vl]at e;omega
def Inv.list_inj(I:Inv X pins Y H s)(h:SqL X.K H a xs)(h':SqL X.K H a ys):xs=ys:=by
 obtain⟨its,r,⟨o,n,e,_,_,d⟩,_⟩:=I.list h;obtain⟨its',r',⟨o',n',e',_,_,d'⟩,_⟩:=I.list h';rw[e]at e';cases e';rw[d]at d';injection d' with d1 _
 have:its=its':=by simpa using congrArg Array.toList d1
 subst this;exact r.inj r'
def Inv.tuple_inj(I:Inv X pins Y H s)(h:SqT X.K H a xs)(h':SqT X.K H a ys):xs=ys:=by
 obtain⟨its,r,⟨o,e,_,n,d⟩,_⟩:=I.tuple h;obtain⟨its',r',⟨o',e',_,n',d'⟩,_⟩:=I.tuple h';rw[e]at e';cases e';rw[d]at d';injection d' with d1 _
 have:its=its':=by simpa using congrArg Array.toList d1
 subst this;exact r.inj r'
end
noncomputable abbrev Cx.wish(X:Cx)(E:Value->Shared->Prop):Cx:={X with xe:=E}
noncomputable abbrev Cx.nox(X:Cx):Cx:=X.wish λz z=>False
theorem Cx.Ok.wish(ok:X.Ok)(E:Value->Shared->Prop):(X.wish E).Ok :=
 ⟨ok.mod,ok.kind,ok.glob,ok.blt,ok.above,ok.inj,ok.has,ok.cab,ok.hd,ok.frames,ok.stk,ok.exf,ok.bs,ok.bsz,ok.noex,ok.exfs,ok.funs,ok.frf⟩
def Cx.Ok.unwish(ok:(X.wish E).Ok):X.Ok :=
 ⟨ok.mod,ok.kind,ok.glob,ok.blt,ok.above,ok.inj,ok.has,ok.cab,ok.hd,ok.frames,ok.stk,ok.exf,ok.bs,ok.bsz,ok.noex,ok.exfs,ok.funs,ok.frf⟩
section
variable {E:Value->Shared->Prop}
theorem Inv.wish(I:Inv X pins Y H s)(E:Value->Shared->Prop):Inv (X.wish E) pins Y H s:=⟨I.ok.wish E,I.os,I.bare,I.base,I.loc,I.cell,I.free,I.freeC,I.pin,I.hok,I.len⟩
theorem Inv.unwish(I:Inv (X.wish E) pins Y H s):Inv X pins Y H s:=⟨I.ok.unwish,I.os,I.bare,I.base,I.loc,I.cell,I.free,I.freeC,I.pin,I.hok,I.len⟩
theorem SP.unwish(h:SP (X.wish E) pins D f s'):SP X pins D f s':=by
 cases f with
 |next=>obtain⟨Y',H',I,q⟩:=h;exact⟨Y',H',I.unwish,q⟩
 |brk=>obtain⟨Y',H',I,q⟩:=h;exact⟨Y',H',I.unwish,q⟩
 |cont=>obtain⟨Y',H',I,q⟩:=h;exact⟨Y',H',I.unwish,q⟩
 |ret u=>obtain⟨v,Y',H',I,r,q⟩:=h;exact⟨v,Y',H',I.unwish,r,q⟩
theorem PE.nox(h:PE X.nox e t):PE X e t:=λpins s Y H Q I hw=>
 Xo (h pins s Y H Q (I.wish _) hw) (λy y x=>by obtain⟨v,H',I',r,q⟩:=x;exact⟨v,H',I'.unwish,r,q⟩) λy y z=>False.elim z
theorem PT.nox(h:PT X.nox e t):PT X e t:=λpins s Y H Q I hw=>
 Xo (h pins s Y H Q (I.wish _) hw) (λy y x=>by obtain⟨H',I',q⟩:=x;exact⟨H',I'.unwish,q⟩) λy y z=>False.elim z
theorem PSs.nox{st:List Stmt}{t:TS}(h:PSs X.nox st t):PSs X st t:=λpins s Y H D I hw=>
 Xo (h pins s Y H D (I.wish _) hw) (λy y q=>q.unwish) λy y z=>False.elim z
end
section
variable {st:Stmt}{rest:List Stmt}{t u:TS}
def QhA:TS:=λD Y H=>D.nx Y H
def QpD(t u:TS):TS:=λD Y H=>t {D with nx:=u D} Y H
def Qbc:PSs X [] QhA:=λz z Y H z I h=>Tu ⟨Y,H,I,h⟩
def ZP(h1:PS X st t)(h2:PSs X rest u):PSs X (st::rest) (QpD t u):=by
 intro pins s Y H D I h;refine wpAny_execs_cons (thn (h1 pins s Y H {D with nx:=u D} I h) λf s1 q=>?_)
 cases f with
 |next=>
  obtain⟨Y',H',I',q⟩:=q;exact h2 pins s1 Y' H' D I' q
 |ret v=>exact q
 |brk=>exact q
 |cont=>exact q
def Qdt(h1:PS X st t):PSs X [st] t:=by
 intro pins s Y H D I h;refine wpAny_execs_cons (thn (h1 pins s Y H D I h) λf s1 q=>?_)
 cases f with
 |next=>exact Tu q
 |ret v=>exact q
 |brk=>exact q
 |cont=>exact q
def Qj2:TS:=λD Y H=>D.bk Y H
def Qm1:TS:=λD Y H=>D.ct Y H
def Qh3:PS X (.Pass pos) QhA:=λz z Y H z I h=>wpAny_Pass ⟨Y,H,I,h⟩
def Qfq:PS X (.Break pos) Qj2:=λz z Y H z I h=>wpAny_Break ⟨Y,H,I,h⟩
def Qbd:PS X (.Continue pos) Qm1:=λz z Y H z I h=>wpAny_Continue ⟨Y,H,I,h⟩
def Inv.quiet(I:Inv X pins Y H s):interactive X.env=false:=by simp[interactive,I.ok.kind]
def QkD{x j pos pos'}:PS X (.Expr (.Constant (.str x) j pos) pos') QhA:=λz s Y H z I h=>wpAny_Expr (Calls.Constant_str (show SP X _ _ .next {s with toks:=s.toks+1}from⟨Y,H,I.tok _,h⟩)) I.quiet
def Qm0(te:TE):TS:=λD Y H=>te Y H λz H1=>D.nx Y H1
def Qab(he:PE X e te)(hs:swapsWith e none pos.line X.env=pure false:=by rfl):PS X (.Expr e pos) (Qm0 te):=by
 intro pins s Y H D I h;exact wpAny_Expr_any (thn (he pins s Y H _ I h) λv s1 z=>by obtain⟨x,H1,I1,r1,q1⟩:=z;exact⟨Y,H1,I1,q1⟩) I.quiet hs
def QpE(te:TE):TS:=λD Y H=>te Y H D.rt
def Qdu(he:PE X e te):PS X (.Return (some e) pos) (QpE te):=by
 intro pins s Y H D I h;exact wpAny_Return_some (thn (he pins s Y H _ I h) λv s1 z=>by obtain⟨x,H1,I1,r1,q1⟩:=z;exact⟨x,Y,H1,I1,r1,q1⟩)
def QmW:TS:=λD z H=>D.rt .non H
def Qh2:PS X (.Return none pos) QmW:=λz z Y H z I h=>wpAny_Return_none ⟨.non,Y,H,I,rfl,h⟩
def QpI(c:TT)(t u:TS):TS:=λD Y H=>c Y H λb H1=>if b=true then t D Y H1 else u D Y H1
def Qh4{c:Expr}{a b:List Stmt}{tc:TT}(hc:PT X c tc)(ha:PSs X a t)(hb:PSs X b u):PS X (.If c a b pos) (QpI tc t u):=by
 intro pins s Y H D I h;refine wpAny_If (thn (hc pins s Y H _ I h) λd s1 z=>?_);obtain⟨H1,I1,q1⟩:=z
 cases d with
 |true=>exact ha pins s1 Y H1 D I1 q1
 |false=>exact hb pins s1 Y H1 D I1 q1
end
abbrev TG:=V->St->Hp->(St->Hp->Prop)->Prop
abbrev TGs:=List V->St->Hp->(St->Hp->Prop)->Prop
noncomputable def PG(X:Cx)(target:Expr)(t:TG):Prop :=
 ∀(pins:List (Addr×Obj)) (s:Shared) (Y:St) (H:Hp) (v:V) (u:Value) (Q:St->Hp->Prop),Inv X pins Y H s->RelV v u->t v Y H Q ->
  wpAny (model X.prog X.w) X.A (assign target X.env u) (λz s'=>∃Y' H',Inv X pins Y' H' s'/\Q Y' H') X.xe s
noncomputable def PGs(X:Cx)(ts:List Expr)(t:TGs):Prop :=
 ∀(pins:List (Addr×Obj)) (s:Shared) (Y:St) (H:Hp) (vs:List V) (us:List Value) (Q:St->Hp->Prop),Inv X pins Y H s->Vals vs us->t vs Y H Q ->
  wpAny (model X.prog X.w) X.A (assignInOrder ((assignEach ts X.env).map (·.2)) us) (λz s'=>∃Y' H',Inv X pins Y' H' s'/\Q Y' H') X.xe s
abbrev QmC:=V->V->V->Hp->(Hp->Prop)->Prop
noncomputable def Qju(X:Cx)(t:QmC):Prop :=
 ∀(pins:List (Addr×Obj)) (s:Shared) (Y:St) (H:Hp) (o i v:V) (ov iv u:Value) (Q:Hp->Prop),Inv X pins Y H s->RelV o ov->RelV i iv->RelV v u->t o i v H Q ->
  wpAny (model X.prog X.w) X.A (setItem ov iv u) (λz s'=>∃H',Inv X pins Y H' s'/\Q H') X.xe s
abbrev TIp:=V->V->Hp->VK->Prop
section

def Qbu(i:Nat):TG:=λv Y H Q=>Q (Y.set i (some v)) H
def Yp(hN:X.N.Nodup)(hi:X.N[i]?=some x)(hx:Loc X.env.scope x)(hf:X.fn x=true\/X.env.scope.names.lookup x=some .local:=by first|exact .inl rfl|exact .inr rfl|assumption):PG X (.Name x pos) (Qbu i):=by
 intro pins s Y H v u Q I r h;exact wpAny_assign_Name (JV I hN hi hx r (λs' I'=>⟨_,H,I',h⟩) hf)
def Qo9:TGs:=λvs Y H Q=>vs=[]/\Q Y H
def QiY(t:TG)(u:TGs):TGs:=λvs Y H Q=>∃v r,vs=v::r/\t v Y H λY' H'=>u r Y' H' Q
def Qbf:PGs X [] Qo9:=by
 intro pins s Y H vs us Q I r h;obtain⟨e,h⟩:=h;subst e;cases r;exact assignInOrder_nil ⟨Y,H,I,h⟩
def ZQ{es:List Expr}{t:TG}{u:TGs}(h1:PG X e t)(h2:PGs X es u)
  (hs:(assignEach (e::es) X.env).map (·.2)=assign e X.env::(assignEach es X.env).map (·.2):=by rfl):PGs X (e::es) (QiY t u):=by
 intro pins s Y H vs us Q I r h;obtain⟨v,vr,e1,h⟩:=h;subst e1
 cases r with
 |cons r rr=>
  rw[hs];refine assignInOrder_cons (thn (h1 pins s Y H _ _ _ I r h) λz s1 y=>?_);obtain⟨σ1,H1,I1,q1⟩:=y;exact h2 pins s1 σ1 H1 _ _ Q I1 rr q1
def Qo8(K:W.Frag)(n:Nat)(t:TGs):TG:=λv Y H Q=>∃a xs,v=.ref a/\SqT K H a xs/\xs.length=n/\t xs Y H Q
def QdC(hc:X.calm=true)(h:PGs X es t)
  (hn:(assignEach es X.env).length=n:=by rfl) (hst:(assignEach es X.env).findIdx? (·.1)=none:=by rfl):PG X (.Tuple es k pos) (Qo8 X.K n t):=by
 intro pins s Y H v u Q I r hw;obtain⟨a,xs,e1,hq,hl,hw⟩:=hw;subst e1;cases r;obtain⟨its,rv,ht,hz⟩:=I.tuple hq
 refine assign_Tuple_tuple (I.ok.hd hc) ht (by simp[hn,<-hl,rv.length]) hst λh' hx=>?_
 have I1:Inv X pins Y H {s with heap:=h'}:=I.kept (t':=s.toks) λb o e=>hx b o (X1 (Xk e)) e
 exact h pins _ Y H xs _ Q I1 (by simpa using rv) hw
def Qqi(to ti:TE)(t:QmC):TG:=λv Y H Q=>to Y H λo H1=>ti Y H1 λi H2=>t o i v H2 λH3=>Q Y H3
def QkI{o i:Expr}{to ti:TE}{t:QmC}(ho:PE X o to)(hi:PE X i ti)(hs:Qju X t)
  (ha:∀v,assign (.Subscript o i pos) X.env v=(do
   let ov <-holding [v] (eval o X.env);let iv <-holding [v,ov] (eval i X.env)
   standAt pos
   holding [v,ov,iv] (setItem ov iv v)
   release [v,ov,iv] []):=by intro _;rfl):PG X (.Subscript o i pos) (Qqi to ti t):=by
 intro pins s Y H v u Q I r h;rw[ha];refine Xa (Wh (thn (ho pins s Y H _ I h) λov s1 z=>?_));obtain⟨x,H1,I1,r1,q1⟩:=z;refine Xa (Wh (thn (hi pins s1 Y H1 _ I1 q1) λiv s2 w=>?_));obtain⟨y,H2,I2,r2,q2⟩:=w;refine Xa (Uo (Xa (Wh (thn (hs pins s2 Y H2 x y v ov iv u _ I2 r1 r2 r q2) λq s3 p=>?_))));obtain⟨H3,I3,q3⟩:=p;exact wpAny_release ⟨Y,H3,I3,q3⟩
def QoL(te:TE)(g:TG):TS:=λD Y H=>te Y H λx H1=>g x Y H1 D.nx
def QgK{g:TG}(he:PE X e te)(hg:PG X tg g)(hs:swapsWithSole [tg] e pos.line X.env=pure false:=by rfl)(hw:swappedStores [tg] e X.env=pure none:=by rfl)
  (h1:(assignEach [tg] X.env).map (·.2)=[assign tg X.env]:=by rfl):PS X (.Assign [tg] e pos) (QoL te g):=by
 intro pins s Y H D I h;refine wpAny_Assign_stores (thn (he pins s Y H _ I h) λv s1 z=>?_) hs hw;obtain⟨x,H1,I1,r1,q1⟩:=z;rw[h1];exact thn (hg pins s1 Y H1 x v _ I1 r1 q1) λy s2 q=>q
def JB(hN:X.N.Nodup)(hi:X.N[i]?=some x)(hx:Loc X.env.scope x)(he:PE X e te)(hs:swapsWith e (some (.Name x pos')) pos.line X.env=pure false:=by rfl)(hf:X.fn x=true\/X.env.scope.names.lookup x=some .local:=by first|exact .inl rfl|exact .inr rfl|assumption):
  PS X (.Assign [.Name x pos'] e pos) (QoL te (Qbu i)):=by
 intro pins s Y H D I h;refine wpAny_Assign_Name (thn (he pins s Y H _ I h) λv s1 z=>?_) hs;obtain⟨y,H1,I1,r1,q1⟩:=z;exact JV I1 hN hi hx r1 (λs2 I2=>⟨_,H1,I2,q1⟩) hf
end
section

end
structure It where
 go:Nat->Hp->Prop
 yld:Nat->Hp->V->Hp->Prop
 stop:Nat->Hp->Prop
noncomputable def Js(X:Cx)(pins:List (Addr×Obj))(H:Hp)(b:Addr):Prop :=
 H b=none/\b≠X.env.locals/\b∉X.fs/\(b∈X.ex\/X.s₀.heap.objs.size<=b)/\(∀x c,X.env.cells.lookup x=some c->c≠b)/\∀p∈X.pn++pins,p.1≠b
def Inv.fpOk(I:Inv X pins Y H s)(hb:s.heap.objs.size<=b)(hn:H' b=none):Js X pins H' b:=by
 refine⟨hn,Nat.ne_of_gt (Xr I.lt hb),I.nofs hb,.inr (X7 I.sz hb),λx c e z=>?_,λp hp z=>?_⟩
 ·obtain⟨v,q⟩:=I.cell x c e
  exact absurd (Xr q.lt (by rw[z];exact hb)) (Wu _)
 ·exact absurd (Xr (Xk (I.pin p hp).1) (by rw[z];exact hb)) (Wu _)
structure Turn(P:Program)(w:World)(K:W.Frag)(tg:Expr)(J:It)(fp:List Addr)(it:Addr)(tn:Nat->Heap->Prop):Prop where
 mem:it∈fp
 obj:∀i h,tn i h->∀b∈fp,∃o,h.get? b=some o/\∀v,o.data≠.cell v
 keep:∀i h h',tn i h->(∀b∈fp,∀o,h.get? b=some o->h'.get? b=some o)->tn i h'
 item:∀(X:Cx),X.prog=P->X.w=w->X.K=K->X.calm=true->∀(i:Nat) (pins:List (Addr×Obj)) (s:Shared) (Y:St) (H:Hp) (E:Value->Shared->Prop),Inv X pins Y H s->(∀b∈fp,Js X pins H b)->tn i s.heap->J.go i H ->
  wpAny (model P w) X.A (pyNext (.ref it)) (λr s1=>∃u,r=some u /\
   wpAny (model P w) X.A (letOwnedTupleGo tg (.ref it) u) (λ_ s2=>∃x H',Inv X pins Y H' s2/\RelV x u/\J.yld i H x H'/\tn (i+1) s2.heap/\∀b∈fp,H' b=none) E s1) E s
 done:∀(X:Cx),X.prog=P->X.w=w->X.K=K->X.calm=true->∀(i:Nat) (pins:List (Addr×Obj)) (s:Shared) (Y:St) (H:Hp) (E:Value->Shared->Prop),Inv X pins Y H s->(∀b∈fp,Js X pins H b)->tn i s.heap->J.stop i H ->
  wpAny (model P w) X.A (pyNext (.ref it)) (λr s1=>r=none/\Inv X pins Y H s1) E s
 self:∀(A:Around) (i:Nat) (s:Shared) (Q:Value->Shared->Prop) (E:Value->Shared->Prop),tn i s.heap->Q (.ref it) s->wpAny (model P w) A (pyIter (.ref it)) Q E s
abbrev TI:=St->Hp->(It->Hp->Prop)->Prop
noncomputable def PIE(X:Cx)(pins:List (Addr×Obj))(Y:St)(tg:Expr)(R:It->Hp->Prop)(itv:Value)(s2:Shared):Prop :=
 ∃(it:Addr) (fp:List Addr) (tn:Nat->Heap->Prop) (J:It) (H':Hp),itv=.ref it/\Inv X pins Y H' s2/\Turn X.prog X.w X.K tg J fp it tn/\tn 0 s2.heap/\(∀b∈fp,Js X pins H' b)/\R J H'
noncomputable def PI(X:Cx)(tg iter:Expr)(wi:TI):Prop :=
 ∀(pins:List (Addr×Obj)) (s:Shared) (Y:St) (H:Hp) (R:It->Hp->Prop),Inv X pins Y H s->wi Y H R ->
  wpAny (model X.prog X.w) X.A (eval iter X.env) (λv s1=>wpAny (model X.prog X.w) X.A (pyIter v) (PIE X pins Y tg R) X.xe s1) X.xe s
def QiU(ho:s.heap.get? it=some o)(hc:o.cls=.type n)(hd:o.data=.fields vs)
  (hn:["enumerate","zip","dict_itemiterator","dict_reverseitemiterator","odict_iterator","itertools.zip_longest","itertools.pairwise"].contains n=false) (hQ:Q () s):wpAny M A (letOwnedTupleGo tg (.ref it) u) Q E s:=by
 unfold letOwnedTupleGo
 cases tg<;>first
  |exact Xf hQ
  | (cases u<;>first
    |exact Xf hQ
    | (refine Xa (wpAny_load ho ?_)
       rw[hc,hd];show wpAny M A (if(["enumerate","zip","dict_itemiterator","dict_reverseitemiterator","odict_iterator","itertools.zip_longest","itertools.pairwise"].contains n&&vs[0]?==some (rawInt _))=true then _ else _) Q E s
       rw[if_neg (by intro h;rw[hn,Bool.false_and]at h;cases h)]
       exact Xf hQ))
noncomputable def Itl(K:W.Frag)(a:Addr):It :=
 ⟨λi H=>∃xs x,SqL K H a xs/\xs[i]?=some x,λi H x H'=>H'=H/\∀xs,SqL K H a xs->xs[i]?=some x,λi H=>∃xs,SqL K H a xs/\xs.length<=i⟩
noncomputable def Itt(K:W.Frag)(a:Addr):It :=
 ⟨λi H=>∃xs x,SqT K H a xs/\xs[i]?=some x,λi H x H'=>H'=H/\∀xs,SqT K H a xs->xs[i]?=some x,λi H=>∃xs,SqT K H a xs/\xs.length<=i⟩
noncomputable def Itr(lo:Int)(n:Nat):It:=⟨λi z=>i<n,λi H x H'=>H'=H/\x=.int (lo+i),λi z=>n<=i⟩
def Qc9{K:W.Frag}(a it:Addr):Turn P w K tg (Itl K a) [it] it (λi h=>h.IsListIter it a i) where
 mem:=by simp
 obj:=λi h st b hb=>by
  have e:b=it:=by simpa using hb
  subst e;obtain⟨o,e,c,d⟩:=st
  exact⟨o,e,λv z=>by rw[d]at z;cases z⟩
 keep:=λi h h' st k=>st.at λo e=>k it (by simp) o e
 item:=by
  intro X hP hw hK hc i pins s Y H E I hf st hg;subst hP hw hK;obtain⟨xs,x,hq,hx⟩:=hg;obtain⟨its,rv,p,hz⟩:=I.list hq;obtain⟨u,hu,ru⟩:=rv.get hx
  obtain⟨f0,f1,f2,f3,f4,f5⟩:=hf it (by simp)
  refine wpAny_pyNext_list_item st p.isList (x:=u) (by simpa using hu) λh' st' sb=>?_
  have I1:Inv X pins Y H {s with heap:=h'}:=I.turned (t':=s.toks) (λb o hb e=>(sb.2 b hb).trans e) f0 f1 f3 f4 f5;obtain⟨o,e,c,d⟩:=id st'
  exact⟨u,rfl,QiU (s:={s with heap:=h'}) e c d (by decide) ⟨x,H,I1,ru,⟨rfl,λys hy=>by rw[I.list_inj hy hq];exact hx⟩,st',λb hb=>(hf b hb).1⟩⟩
 done:=by
  intro X hP hw hK hc i pins s Y H E I hf st hg;subst hP hw hK;obtain⟨xs,hq,hx⟩:=hg;obtain⟨its,rv,p,hz⟩:=I.list hq
  obtain⟨f0,f1,f2,f3,f4,f5⟩:=hf it (by simp)
  have hl:=rv.length
  exact wpAny_pyNext_list_end (I.ok.hd hc) st p.isList (by simp;omega) λh' eb=>⟨rfl,I.turned (t':=s.toks) (λb o hb e=>eb b o hb e) f0 f1 f3 f4 f5⟩
 self:=λy y y y y st h=>wpAny_pyIter_listiter st h
def Qco{K:W.Frag}(a it:Addr):Turn P w K tg (Itt K a) [it] it (λi h=>h.IsTupleIter it a i) where
 mem:=by simp
 obj:=λi h st b hb=>by
  have e:b=it:=by simpa using hb
  subst e;obtain⟨o,e,c,d⟩:=st
  exact⟨o,e,λv z=>by rw[d]at z;cases z⟩
 keep:=λi h h' st k=>st.at λo e=>k it (by simp) o e
 item:=by
  intro X hP hw hK hc i pins s Y H E I hf st hg;subst hP hw hK;obtain⟨xs,x,hq,hx⟩:=hg;obtain⟨its,rv,p,hz⟩:=I.tuple hq;obtain⟨u,hu,ru⟩:=rv.get hx
  obtain⟨f0,f1,f2,f3,f4,f5⟩:=hf it (by simp)
  refine wpAny_pyNext_tuple_item st (show s.heap.IsTuple a its.toArray from p) (x:=u) (by simpa using hu) λh' st' sb=>?_
  have I1:Inv X pins Y H {s with heap:=h'}:=I.turned (t':=s.toks) (λb o hb e=>(sb.2 b hb).trans e) f0 f1 f3 f4 f5;obtain⟨o,e,c,d⟩:=id st'
  exact⟨u,rfl,QiU (s:={s with heap:=h'}) e c d (by decide) ⟨x,H,I1,ru,⟨rfl,λys hy=>by rw[I.tuple_inj hy hq];exact hx⟩,st',λb hb=>(hf b hb).1⟩⟩
 done:=by
  intro X hP hw hK hc i pins s Y H E I hf st hg;subst hP hw hK;obtain⟨xs,hq,hx⟩:=hg;obtain⟨its,rv,p,hz⟩:=I.tuple hq
  obtain⟨f0,f1,f2,f3,f4,f5⟩:=hf it (by simp)
  have hl:=rv.length
  exact wpAny_pyNext_tuple_end (I.ok.hd hc) st (show s.heap.IsTuple a its.toArray from p) (by simp;omega) λh' eb=>⟨rfl,I.turned (t':=s.toks) (λb o hb e=>eb b o hb e) f0 f1 f3 f4 f5⟩
 self:=λy y y y y st h=>wpAny_pyIter_tupleiter st h
def Qcp{K:PySem.W.Frag}(it:Addr)(lo:Int)(n:Nat):Turn P w K tg (Itr lo n) [it] it (λi h=>IsRangeIter h it (lo+(i:Nat)*1) ((n:Int) - (i:Nat)) 1) where
 mem:=by simp
 obj:=λi h st b hb=>by
  have e:b=it:=by simpa using hb
  subst e
  exact⟨_,st,λv z=>by
   have z':Data.fields _=Data.cell v:=z
   cases z'⟩
 keep:=λi h h' st k=>k it (by simp) _ st
 item:=by
  intro X hP hw hK hc i pins s Y H E I hf st hg;subst hP hw hK
  obtain⟨f0,f1,f2,f3,f4,f5⟩:=hf it (by simp)
  have W:=Walks.range (prog:=X.prog) (w:=X.w) (I.ok.hd hc) it lo 1 n;refine W.item i s _ _ hg st λv h' tk hv st' kk=>?_;obtain⟨t,rfl⟩:=hv
  have I1:Inv X pins Y H {s with heap:=h',toks:=tk}:=I.turned (λb o hb e=>kk b o (by simpa using hb) e) f0 f1 f3 f4 f5
  refine⟨_,rfl,QiU (s:={s with heap:=h',toks:=tk}) (n:="range_iterator") st' rfl rfl (by decide) ⟨.int (lo+i),H,I1,⟨t,?_⟩,⟨rfl,rfl⟩,st',λb hb=>(hf b hb).1⟩⟩
  rw[Int.mul_one]
 done:=by
  intro X hP hw hK hc i pins s Y H E I hf st hg;subst hP hw hK
  obtain⟨f0,f1,f2,f3,f4,f5⟩:=hf it (by simp)
  exact wpAny_pyNext_range_end (I.ok.hd hc) st (by have:n<=i:=hg;omega) λh' eb=>⟨rfl,I.turned (t':=s.toks) (λb o hb e=>eb b o hb e) f0 f1 f3 f4 f5⟩
 self:=λy y y y y st h=>wpAny_pyIter_rangeiter st h
end
section
variable {H:Hp}{pins:List (Addr×Obj)}{fp:List Addr}{pos:Pos}{s:Shared}{Y:St}
section
variable {X:Cx}{tg:Expr}
def QnX(K:W.Frag)(tl:TE):TI:=λY H R=>tl Y H λx H1=>∃a,x=.ref a/\(∃xs,SqL K H1 a xs)/\R (Itl K a) H1
def Qqc(K:W.Frag)(tl:TE):TI:=λY H R=>tl Y H λx H1=>∃a,x=.ref a/\(∃xs,SqT K H1 a xs)/\R (Itt K a) H1
def Qib{l:Expr}{tl:TE}(hl:PE X l tl):PI X tg l (QnX X.K tl):=by
 intro pins s Y H R I h;refine thn (hl pins s Y H _ I h) λv s1 z=>?_;obtain⟨x,H1,I1,r1,q1⟩:=z;obtain⟨a,e,⟨xs,hq⟩,q⟩:=q1;subst e;cases r1;obtain⟨its,rv,p,hz⟩:=I1.list hq;refine Uh p.isList ?_;refine⟨s1.heap.objs.size,[s1.heap.objs.size],_,_,H1,rfl,I1.kept (t':=s1.toks) λb o e=>Xd _ e,Qc9 a _,⟨_,Xu _ rfl,rfl,rfl⟩,λb hb=>?_,q⟩
 have e:b=s1.heap.objs.size:=by simpa using hb
 subst e;exact I1.fpOk (Xi _) (I1.hok.fresh (Xi _))
def QkF{l:Expr}{tl:TE}(hl:PE X l tl):PI X tg l (Qqc X.K tl):=by
 intro pins s Y H R I h;refine thn (hl pins s Y H _ I h) λv s1 z=>?_;obtain⟨x,H1,I1,r1,q1⟩:=z;obtain⟨a,e,⟨xs,hq⟩,q⟩:=q1;subst e;cases r1;obtain⟨its,rv,p,hz⟩:=I1.tuple hq;refine Ur (show s1.heap.IsTuple a its.toArray from p) ?_;refine⟨s1.heap.objs.size,[s1.heap.objs.size],_,_,H1,rfl,I1.kept (t':=s1.toks) λb o e=>Xd _ e,Qco a _,⟨_,Xu _ rfl,rfl,rfl⟩,λb hb=>?_,q⟩
 have e:b=s1.heap.objs.size:=by simpa using hb
 subst e;exact I1.fpOk (Xi _) (I1.hok.fresh (Xi _))
def QbZ{R:It->Hp->Prop}{E:Value->Shared->Prop}{lo hi:Int}{t u v:Tok}{tk:Nat}(I:Inv X pins Y H s)(h1:-(2 ^ 62)<=lo)(h2:lo<2 ^ 62)(h3:-(2 ^ 62)<=hi)(h4:hi<2 ^ 62)
  (q:R (Itr lo (hi-lo).toNat) H):wpAny (model X.prog X.w) X.A (pyIter (.ref s.heap.objs.size)) (PIE X pins Y tg R) E {s with heap:=s.heap.push {cls:=.type "range",data:=.fields #[.int lo t,.int hi u,.int 1 v]},toks:=tk}:=by
 refine wpAny_pyIter_range (IsRange.new ..) (small_one h1 h2 h3 h4) ?_;have I1:Inv X pins Y H {s with heap:=s.heap.push {cls:=.type "range",data:=.fields #[.int lo t,.int hi u,.int 1 v]},toks:=tk}:=I.kept λb o e=>Xd _ e
 refine⟨(s.heap.push {cls:=.type "range",data:=.fields #[.int lo t,.int hi u,.int 1 v]}).objs.size,[(s.heap.push {cls:=.type "range",data:=.fields #[.int lo t,.int hi u,.int 1 v]}).objs.size],_,_,H,rfl,
  I1.kept (t':=tk) λb o e=>Xd _ e,Qcp _ lo (hi-lo).toNat,?_,λb hb=>?_,q⟩
 ·have e1:lo+((0:Nat):Int)*1=lo:=by simp
  have e2:(((hi-lo).toNat:Nat):Int) - ((0:Nat):Int)=Builtin.Range.rangeSize lo hi 1:=by rw[rangeSize_one];split<;>omega
  show IsRangeIter _ _ (lo+((0:Nat):Int)*1) ((((hi-lo).toNat:Nat):Int) - ((0:Nat):Int)) 1;rw[e1,e2];exact Xu _ rfl
 ·have e:b=(s.heap.push {cls:=.type "range",data:=.fields #[.int lo t,.int hi u,.int 1 v]}).objs.size:=by simpa using hb
  subst e;exact I1.fpOk (Xi _) (I1.hok.fresh (Xi _))
def QnW(ta:TA):TI:=λY H R=>ta Y H λvs H1=>∃j:Int,vs=[.int j]/\-(2 ^ 62)<=j/\j<2 ^ 62/\R (Itr 0 j.toNat) H1
def QnV(ta:TA):TI:=λY H R=>ta Y H λvs H1=>∃i j:Int,vs=[.int i,.int j]/\(-(2 ^ 62)<=i/\i<2 ^ 62/\-(2 ^ 62)<=j/\j<2 ^ 62)/\R (Itr i (j-i).toNat) H1
def QdB{a:Expr}{ta:TA}{p:Pos}(hg:Gl X "range")(hm:X.mg "range"=none)(ha:PA X [a] ta)(hs:starEach [a] X.env=[(false,eval a X.env)]:=by rfl):PI X tg (.Call (.Name "range" p) [a] [] pos) (QnW ta):=by
 intro pins s Y H R I h;refine Call_ (Yc I hg hm boot_range (W3 (thn (ha pos pins s Y H _ I h) λus s1 z=>?_) hs rfl));obtain⟨vs,H1,I1,r1,q1⟩:=z;obtain⟨j,e,q1,q2,q⟩:=q1;subst e
 cases r1 with
 |cons r rr=>
  cases rr;obtain⟨t,rfl⟩:=r
  exact call_range_1 (QbZ I1 (by omega) (by omega) q1 q2 (by simpa using q))
def QdA(hg:Gl X "range")(hm:X.mg "range"=none)(ha:PA X [a,b] ta)(hs:starEach [a,b] X.env=[(false,eval a X.env),(false,eval b X.env)]:=by rfl)(hs2:starEach [b] X.env=[(false,eval b X.env)]:=by rfl):
  PI X tg (.Call (.Name "range" p) [a,b] [] pos) (QnV ta):=by
 intro pins s Y H R I h
 refine Call_ (Yc I hg hm boot_range (W3 (thn (ha pos pins s Y H _ I h) λus s1 z=>?_) (by rw[hs,hs2]) (by rw[hs2];rfl)));obtain⟨vs,H1,I1,r1,q1⟩:=z
 obtain⟨i,j,e,⟨q1,q2,q3,q4⟩,q⟩:=q1;subst e
 cases r1 with
 |cons r rr=>
  cases rr with
  |cons r' rr=>
   cases rr;obtain⟨t,rfl⟩:=r;obtain⟨t',rfl⟩:=r';exact call_range_2 (QbZ I1 q1 q2 q3 q4 q)
def QpJ(wi:TI)(g:TG)(tb:TS):TS:=λD Y H=>wi Y H λJ H1=>∃W:Nat->Nat->St->Hp->Prop,(∃m,W 0 m Y H1)/\∀i m Y H,W i m Y H ->
 (J.stop i H/\D.nx Y H)\/(J.go i H/\∃N:St->Hp->Prop,(∀Y' H',N Y' H'->∃m',m'<m/\W (i+1) m' Y' H')/\∀x H',J.yld i H x H'->g x Y H' λσ2 H2=>tb {D with nx:=N,ct:=N,bk:=D.nx} σ2 H2)
noncomputable def ZW(fp:List Addr)(h:Heap):List (Addr×Obj):=fp.filterMap λb=>(h.get? b).map λo=>(b,o)
def QX(hb:b∈fp)(e:h.get? b=some o):(b,o)∈ZW fp h:=T4.mpr ⟨b,hb,by rw[e];rfl⟩
def QdJ(hp:p∈ZW fp h):p.1∈fp/\h.get? p.1=some p.2:=by
 obtain⟨b,hb,e⟩:=T4.mp hp
 cases q:h.get? b with
 |none=>rw[q]at e;cases e
 |some o=>
  rw[q]at e;have e':(b,o)=p:=Xw e;subst e';exact⟨hb,q⟩
def Inv.pinned(I:Inv X pins Y H s)(hf:∀b∈fp,Js X pins H b)(ho:∀b∈fp,∃o,s.heap.get? b=some o/\∀v,o.data≠.cell v):Inv X (pins++ZW fp s.heap) Y H s :=
 I.pins_of λp hp=>(Uq.mp hp).elim (λz=>I.pin p (X0 _ z)) λz=>by
  obtain⟨hb,e⟩:=QdJ z;obtain⟨f0,f1,f2,_⟩:=hf p.1 hb;obtain⟨o,e',d⟩:=ho p.1 hb;rw[e]at e';cases e';exact⟨e,f0,f1,f2,d⟩
def Inv.unpinned(I:Inv X (pins++pl) Y H s):Inv X pins Y H s:=I.pins_of λp hp=>I.pin p (X0 _ (List.mem_append_left _ hp))
def QgJ(hp:PassesOwn (model X.prog X.w) X.A X.env X.xe)(hc:X.calm=true)(hi:PI X tg iter wi)(hg:PG X tg g)(hb:PSs X body tb)
  (hs:∀x,foldedSetIterable iter X.env x=pure x:=by intro _;rfl):PS X (.For tg iter body [] pos) (QpJ wi g tb):=by
 intro pins s Y H D I h;refine wpAny_For (thn (hi pins s Y H _ I h) λv s1 h1=>thn h1 λitv s2 h2=>?_) hs;obtain⟨it,fp,tn,J,H2,e,I2,T,st2,f2,W,⟨m0,w0⟩,turn⟩:=h2;subst e
 have stat:∀{H':Hp},(∀b∈fp,H' b=none)->∀b∈fp,Js X pins H' b:=λhn b hb=>⟨hn b hb,(f2 b hb).2⟩;refine codeAny_forLoop_any (λn s'=>∃i Y' H',Inv X pins Y' H' s'/\tn i s'.heap/\(∀b∈fp,H' b=none)/\W i n Y' H') ?_ m0 ⟨0,Y,H2,I2,st2,λb hb=>(f2 b hb).1,w0⟩;rintro n s3 ⟨i,σ3,H3,I3,st3,fr3,w3⟩
 rcases turn i n σ3 H3 w3 with⟨stop,qn⟩|⟨go,N,hN,step⟩
 ·refine Ta hp (thn (T.done X rfl rfl rfl hc i pins s3 σ3 H3 X.xe I3 (stat fr3) st3 stop) λr s4 z=>?_);obtain⟨hr,I4⟩:=z;subst hr;exact Tu ⟨σ3,H3,I4,qn⟩
 ·refine Ta hp (thn (T.item X rfl rfl rfl hc i pins s3 σ3 H3 X.xe I3 (stat fr3) st3 go) λr s4 y=>?_);obtain⟨u,hr,h4⟩:=y;subst hr;refine Ta hp (thn h4 λt s5 q=>?_);obtain⟨x,H5,I5,r5,y5,st5,fr5⟩:=q;have I5':=I5.pinned (stat fr5) (T.obj _ _ st5);refine Ta hp (thn (hg _ s5 σ3 H5 x u _ I5' r5 (step x H5 y5)) λt s6 p=>?_);obtain⟨σ6,H6,I6,q6⟩:=p;refine Ta hp (thn (hb _ s6 σ6 H6 _ I6 q6) λf s7 q7=>?_)
  have again:∀{σ7:St} {H7:Hp},Inv X (pins++ZW fp s5.heap) σ7 H7 s7->N σ7 H7->∃m,m<n/\∃i Y' H',Inv X pins Y' H' s7/\tn i s7.heap/\(∀b∈fp,H' b=none)/\W i m Y' H':=λ{σ7 H7} I7 n7=>by
   obtain⟨m',hm,w7⟩:=hN σ7 H7 n7;refine⟨m',hm,i+1,σ7,H7,I7.unpinned,T.keep _ _ _ st5 λb hb o e=>(I7.pin (b,o) (X0 _ (X0 _ (QX hb e)))).1,λb hb=>?_,w7⟩;obtain⟨o,e,d⟩:=T.obj _ _ st5 b hb;exact(I7.pin (b,o) (X0 _ (X0 _ (QX hb e)))).2.1
  cases f with
  |next=>obtain⟨σ7,H7,I7,n7⟩:=q7;exact again I7 n7
  |cont=>obtain⟨σ7,H7,I7,n7⟩:=q7;exact again I7 n7
  |brk=>obtain⟨σ7,H7,I7,q7⟩:=q7;exact⟨σ7,H7,I7.unpinned,q7⟩
  |ret v=>obtain⟨x7,σ7,H7,I7,r7,q7⟩:=q7;exact⟨x7,σ7,H7,I7.unpinned,r7,q7⟩
end
end
section
variable {op:CmpOp}{f:Value->Value->Sem Value}
abbrev R2:=V->V->Hp->VK->Prop
noncomputable def OpR(X:Cx)(f:Value->Value->Sem Value)(r:R2):Prop :=
 ∀(pins:List (Addr×Obj)) (s:Shared) (Y:St) (H:Hp) (x y:V) (v u:Value) (Q:VK),Inv X pins Y H s->RelV x v->RelV y u->r x y H Q ->
  wpAny (model X.prog X.w) X.A (f v u) (EP X pins Y Q) X.xe s
noncomputable def UnR(X:Cx)(f:Value->Sem Value)(r:V->Hp->VK->Prop):Prop :=
 ∀(pins:List (Addr×Obj)) (s:Shared) (Y:St) (H:Hp) (x:V) (v:Value) (Q:VK),Inv X pins Y H s->RelV x v->r x H Q ->
  wpAny (model X.prog X.w) X.A (f v) (EP X pins Y Q) X.xe s
noncomputable def CallR(X:Cx)(f:Value)(r:List V->Hp->VK->Prop):Prop :=
 ∀(pins:List (Addr×Obj)) (s:Shared) (Y:St) (H:Hp) (xs:List V) (us:List Value) (Q:VK),Inv X pins Y H s->Vals xs us->r xs H Q ->
  wpAny (model X.prog X.w) X.A (call f us) (EP X pins Y Q) X.xe s
noncomputable def Qq1(X:Cx)(r:V->Hp->(Bool->Hp->Prop)->Prop):Prop :=
 ∀(pins:List (Addr×Obj)) (s:Shared) (Y:St) (H:Hp) (x:V) (v:Value) (Q:Bool->Hp->Prop),Inv X pins Y H s->RelV x v->r x H Q ->
  wpAny (model X.prog X.w) X.A (truthy v) (TP X pins Y Q) X.xe s
def tOp(r:R2)(ta tb:TE):TE:=λY H Q=>ta Y H λx H1=>tb Y H1 λy H2=>r x y H2 Q
def tUn(r:V->Hp->VK->Prop)(ta:TE):TE:=λY H Q=>ta Y H λx H1=>r x H1 Q
def rI(C:Int->Int->Prop)(g:Int->Int->V):R2:=λx y H Q=>∃i j,x=.int i/\y=.int j/\C i j/\Q (g i j) H
def rI0(g:Int->Int->V):R2:=λx y H Q=>∃i j,x=.int i/\y=.int j/\Q (g i j) H
def rU(g:Int->V):V->Hp->VK->Prop:=λx H Q=>∃i,x=.int i/\Q (g i) H
section
variable {X:Cx}{a b:Expr}{ta tb:TE}{pos:Pos}
def Qoo(ha:PE X a ta)(hb:PE X b tb){pins:List (Addr×Obj)}{s:Shared}{Y:St}{H:Hp}{R:V->V->Hp->Prop}(I:Inv X pins Y H s)
  (h:ta Y H λx H1=>tb Y H1 λy H2=>R x y H2) {Q:Value->Shared->Prop}
  (hf:∀v u s2 x y H2,Inv X pins Y H2 s2->RelV x v->RelV y u->R x y H2->wpAny (model X.prog X.w) X.A (f v u) Q X.xe s2):
  wpAny (model X.prog X.w) X.A (eval a X.env) (λv s₁=>wpAny (model X.prog X.w) X.A (eval b X.env) (λu s₂=>wpAny (model X.prog X.w) X.A (f v u) Q X.xe s₂) X.xe s₁) X.xe s:=by
 refine thn (ha pins s Y H _ I h) λv s1 z=>?_;obtain⟨x,H1,I1,r1,q1⟩:=z;refine thn (hb pins s1 Y H1 _ I1 q1) λu s2 t=>?_;obtain⟨y,H2,I2,r2,q2⟩:=t;exact hf v u s2 x y H2 I2 r1 r2 q2
def Qnw{op:Operator}{r:R2}(ho:OpR X (binaryOp op) r)(ha:PE X a ta)(hb:PE X b tb):PE X (.BinOp a op b pos) (tOp r ta tb):=by
 intro pins s Y H Q I h;exact wpAny_BinOp (Qoo ha hb I h λv u s2 x y H2 I2 rx ry q=>ho pins s2 Y H2 x y v u Q I2 rx ry q)
def Qnu{op:UnaryOp}{r:V->Hp->VK->Prop}(ho:UnR X (unaryOp op) r)(ha:PE X a ta):PE X (.UnaryOp op a pos) (tUn r ta):=by
 intro pins s Y H Q I h;exact UnaryOp_ (thn (ha pins s Y H _ I h) λv s1 z=>by obtain⟨x,H1,I1,r1,q1⟩:=z;exact ho pins s1 Y H1 x v Q I1 r1 q1)
def opI{C:Int->Int->Prop}{g:Int->Int->Int}
  (rule:∀(i j:Int) (t u:Tok) (s:Shared) (Q:Value->Shared->Prop) (E:Value->Shared->Prop),C i j->Q (.int (g i j) s.toks) {s with toks:=s.toks+1}->wpAny (model X.prog X.w) X.A (f (.int i t) (.int j u)) Q E s):
  OpR X f (rI C λi j=>.int (g i j)):=by
 intro pins s Y H x y v u Q I rx ry h;obtain⟨i,j,rfl,rfl,hc,q⟩:=h;obtain⟨t,rfl⟩:=rx;obtain⟨t',rfl⟩:=ry;exact rule i j t t' s _ _ hc ⟨.int (g i j),H,I.tok _,⟨_,rfl⟩,q⟩
def QoZ{g:Int->Int->Int}
  (rule:∀(i j:Int) (t u:Tok) (s:Shared) (Q:Value->Shared->Prop) (E:Value->Shared->Prop),Q (.int (g i j) s.toks) {s with toks:=s.toks+1}->wpAny (model X.prog X.w) X.A (f (.int i t) (.int j u)) Q E s):
  OpR X f (rI0 λi j=>.int (g i j)):=by
 intro pins s Y H x y v u Q I rx ry h;obtain⟨i,j,rfl,rfl,q⟩:=h;obtain⟨t,rfl⟩:=rx;obtain⟨t',rfl⟩:=ry;exact rule i j t t' s _ _ ⟨.int (g i j),H,I.tok _,⟨_,rfl⟩,q⟩
def Qmp{g:Int->Int->Bool}
  (rule:∀(i j:Int) (t u:Tok) (s:Shared) (Q:Value->Shared->Prop) (E:Value->Shared->Prop),Q (.bool (g i j)) s->wpAny (model X.prog X.w) X.A (f (.int i t) (.int j u)) Q E s):
  OpR X f (rI0 λi j=>.bl (g i j)):=by
 intro pins s Y H x y v u Q I rx ry h;obtain⟨i,j,rfl,rfl,q⟩:=h;obtain⟨t,rfl⟩:=rx;obtain⟨t',rfl⟩:=ry;exact rule i j t t' s _ _ ⟨.bl (g i j),H,I,rfl,q⟩
def Qq5(i j:Int):Prop:=0<=j/\j<=1000000/\i.natAbs<2 ^ 64
def CMul(i j:Int):Prop:=(-(2 ^ 64) < i/\i<2 ^ 64)\/(-(2 ^ 64) < j/\j<2 ^ 64)
def CMul.ok{i j:Int}(h:CMul i j):IntMulOk i j:=by
 rcases h with⟨h1,h2⟩|⟨h1,h2⟩
 ·exact .of_left (intBits_le_64 h1 h2)
 ·exact .of_right (intBits_le_64 h1 h2)
def Qk1:OpR X (binaryOp .Add) (rI0 λi j=>.int (i+j)):=QoZ λz z z z z z z q=>add_int q
def QkO:OpR X (binaryOp .Sub) (rI0 λi j=>.int (i-j)):=QoZ λz z z z z z z q=>sub_int q
def QkV:OpR X (binaryOp .Mod) (rI (λz j=>0<j) λi j=>.int (i % j)):=opI λi j z z z z z hc q=>by
 have h1:(0:Int) < j:=hc
 exact mod_int' (by omega) (by rw[Int.fmod_eq_emod_of_nonneg i (by omega)];exact q)
def QkQ:OpR X (binaryOp .Pow) (rI Qq5 λi j=>.int (i ^ j.toNat)):=opI λz z z z z z z hc q=>pow_int_small hc.1 hc.2.1 hc.2.2 q
def unI{f:Value->Sem Value}{g:Int->Int}
  (rule:∀(i:Int) (t:Tok) (s:Shared) (Q:Value->Shared->Prop) (E:Value->Shared->Prop),Q (.int (g i) s.toks) {s with toks:=s.toks+1}->wpAny (model X.prog X.w) X.A (f (.int i t)) Q E s):
  UnR X f (rU λi=>.int (g i)):=by
 intro pins s Y H x v Q I rx h;obtain⟨i,rfl,q⟩:=h;obtain⟨t,rfl⟩:=rx;exact rule i t s _ _ ⟨.int (g i),H,I.tok _,⟨_,rfl⟩,q⟩
def QjN:UnR X (unaryOp .USub) (rU λi=>.int (-i)):=unI λz z z z z q=>neg_int q
end
noncomputable def Qna:V->V->Bool
 |.non,.non=>true|.non,.int _=>true|.int _,.non=>true|.non,.bl _=>true|.bl _,.non=>true|.non,.str _=>true|.str _,.non=>true
 |.int _,.int _=>true|.bl _,.bl _=>true|.str _,.str _=>true|.byt _,.byt _=>true
 |.int _,.str _=>true|.str _,.int _=>true|.bl _,.str _=>true|.str _,.bl _=>true
 |_,_=>false
def rEq:R2:=λx y H Q=>Qna x y=true/\Q (.bl (decide (x=y))) H
def rNe:R2:=λx y H Q=>Qna x y=true/\Q (.bl (!decide (x=y))) H
def Qej:decide (V.int i=V.int j)=(i==j):=by
 rw[Tv];simp
def Qg8:decide (V.bl i=V.bl j)=(i==j):=by
 rw[Tv];simp
def Qei:decide (V.str i=V.str j)=(i==j):=by
 rw[Tv];simp
def Qek:decide (V.byt i=V.byt j)=(i.toList==j.toList):=by
 rw[Tv];cases i;cases j;simp
section
variable {X:Cx}{a b c:Expr}{ta tb:TE}{pos:Pos}
def Qv(I:Inv X pins Y H s)(q:Q (.bl k) H)(e:k=k'):EP X pins Y Q (.bool k') s:=by
 subst e;exact⟨.bl k,H,I,rfl,q⟩
def QnH:OpR X (compareOp .Eq) rEq:=by
 intro pins s Y H x y v u Q I rx ry h;obtain⟨hs,q⟩:=h
 cases x with
 |non=>
  cases rx
  cases y with
  |non=>cases ry;exact PySem.EqNone.eq_none_none (Qv I q (by simp))
  |bl j=>cases ry;exact PySem.EqNone.eq_none_bool (Qv I q (by simp))
  |int j=>obtain⟨t',rfl⟩:=ry;exact PySem.EqNone.eq_none_int (Qv I q (by simp))
  |str j=>obtain⟨t',rfl⟩:=ry;exact PySem.EqNone.eq_none_str (Qv I q (by simp))
  |_=>exact absurd (show false=true from hs) Xn
 |bl i=>
  cases rx
  cases y with
  |non=>cases ry;exact PySem.EqNone.eq_bool_none (Qv I q (by simp))
  |bl j=>cases ry;exact eq_bool (Qv I q Qg8)
  |str j=>obtain⟨t',rfl⟩:=ry;exact PySem.EqMixed.eq_bool_str (Qv I q (by simp))
  |_=>exact absurd (show false=true from hs) Xn
 |int i=>
  obtain⟨t,rfl⟩:=rx
  cases y with
  |non=>cases ry;exact PySem.EqNone.eq_int_none (Qv I q (by simp))
  |int j=>obtain⟨t',rfl⟩:=ry;exact eq_int (Qv I q Qej)
  |str j=>obtain⟨t',rfl⟩:=ry;exact PySem.EqMixed.eq_int_str (Qv I q (by simp))
  |_=>exact absurd (show false=true from hs) Xn
 |str i=>
  obtain⟨t,rfl⟩:=rx
  cases y with
  |non=>cases ry;exact PySem.EqNone.eq_str_none (Qv I q (by simp))
  |bl j=>cases ry;exact PySem.EqMixed.eq_str_bool (Qv I q (by simp))
  |int j=>obtain⟨t',rfl⟩:=ry;exact PySem.EqMixed.eq_str_int (Qv I q (by simp))
  |str j=>obtain⟨t',rfl⟩:=ry;exact eq_str (Qv I q Qei)
  |_=>exact absurd (show false=true from hs) Xn
 |byt i=>
  obtain⟨t,rfl⟩:=rx
  cases y with
  |byt j=>obtain⟨t',rfl⟩:=ry;exact W.eq_bytes (Qv I q Qek)
  |_=>exact absurd (show false=true from hs) Xn
 |_=>cases y<;>exact absurd (show false=true from hs) Xn
def QnC:OpR X (compareOp .NotEq) rNe:=by
 intro pins s Y H x y v u Q I rx ry h;obtain⟨hs,q⟩:=h
 cases x with
 |non=>
  cases rx
  cases y with
  |non=>cases ry;exact PySem.EqNone.ne_none_none (Qv I q (by simp))
  |bl j=>cases ry;exact PySem.EqNone.ne_none_bool (Qv I q (by simp))
  |int j=>obtain⟨t',rfl⟩:=ry;exact PySem.EqNone.ne_none_int (Qv I q (by simp))
  |str j=>obtain⟨t',rfl⟩:=ry;exact PySem.EqNone.ne_none_str (Qv I q (by simp))
  |_=>exact absurd (show false=true from hs) Xn
 |bl i=>
  cases rx
  cases y with
  |non=>cases ry;exact PySem.EqNone.ne_bool_none (Qv I q (by simp))
  |bl j=>cases ry;exact ne_bool (Qv I q (congrArg not Qg8))
  |str j=>obtain⟨t',rfl⟩:=ry;exact PySem.EqMixed.ne_bool_str (Qv I q (by simp))
  |_=>exact absurd (show false=true from hs) Xn
 |int i=>
  obtain⟨t,rfl⟩:=rx
  cases y with
  |non=>cases ry;exact PySem.EqNone.ne_int_none (Qv I q (by simp))
  |int j=>obtain⟨t',rfl⟩:=ry;exact ne_int (Qv I q (congrArg not Qej))
  |str j=>obtain⟨t',rfl⟩:=ry;exact PySem.EqMixed.ne_int_str (Qv I q (by simp))
  |_=>exact absurd (show false=true from hs) Xn
 |str i=>
  obtain⟨t,rfl⟩:=rx
  cases y with
  |non=>cases ry;exact PySem.EqNone.ne_str_none (Qv I q (by simp))
  |bl j=>cases ry;exact PySem.EqMixed.ne_str_bool (Qv I q (by simp))
  |int j=>obtain⟨t',rfl⟩:=ry;exact PySem.EqMixed.ne_str_int (Qv I q (by simp))
  |str j=>obtain⟨t',rfl⟩:=ry;exact ne_str (Qv I q (congrArg not Qei))
  |_=>exact absurd (show false=true from hs) Xn
 |byt i=>
  obtain⟨t,rfl⟩:=rx
  cases y with
  |byt j=>obtain⟨t',rfl⟩:=ry;exact W.ne_bytes (Qv I q (congrArg not Qek))
  |_=>exact absurd (show false=true from hs) Xn
 |_=>cases y<;>exact absurd (show false=true from hs) Xn
def QnD:OpR X (compareOp .Lt) (rI0 λi j=>.bl (decide (i<j))):=Qmp λz z z z z z z q=>lt_int q
def QnE:OpR X (compareOp .LtE) (rI0 λi j=>.bl (decide (i<=j))):=Qmp λz z z z z z z q=>le_int q
def QnF:OpR X (compareOp .Gt) (rI0 λi j=>.bl (decide (j<i))):=Qmp λz z z z z z z q=>gt_int q
def QnG:OpR X (compareOp .GtE) (rI0 λi j=>.bl (decide (j<=i))):=Qmp λz z z z z z z q=>ge_int q
def QgT:OpR X (compareOp .Is) (λx y H Q=>y=.non/\Q (.bl (decide (x=.non))) H):=by
 intro pins s Y H x y v u Q I rx ry h;obtain⟨rfl,q⟩:=h;cases ry;refine is_none_gen (Qv I q ?_)
 cases x<;>first
  | (cases rx;rfl)
  | (obtain⟨t,rfl⟩:=rx;rfl)
def Qim:OpR X (compareOp .IsNot) (λx y H Q=>y=.non/\Q (.bl (!decide (x=.non))) H):=by
 intro pins s Y H x y v u Q I rx ry h;obtain⟨rfl,q⟩:=h;cases ry;refine isnot_none_gen (Qv I q ?_)
 cases x<;>first
  | (cases rx;rfl)
  | (obtain⟨t,rfl⟩:=rx;rfl)
def OpR.or(h:OpR X f r)(h':OpR X f r'):OpR X f (λx y H Q=>r x y H Q\/r' x y H Q):=by
 intro pins s Y H x y v u Q I rx ry q
 rcases q with q|q
 ·exact h pins s Y H x y v u Q I rx ry q
 ·exact h' pins s Y H x y v u Q I rx ry q
def Qk3(b:Expr)(h:op≠.In:=by decide)(h2:op≠.NotIn:=by decide):behindInMarks op b=false:=by
 have e1:(op==CmpOp.In)=false:=by cases op<;>first|rfl|exact absurd rfl h
 have e2:(op==CmpOp.NotIn)=false:=by cases op<;>first|rfl|exact absurd rfl h2
 cases b<;>simp[behindInMarks,e1,e2]
def Qih{r:R2}(ho:OpR X (compareOp op) r)(ha:PE X a ta)(hb:PE X b tb)(hm:behindInMarks op b=false):PE X (.Compare a [op] [b] pos) (tOp r ta tb):=by
 intro pins s Y H Q I h;exact wpAny_Compare1 (Qoo ha hb I h λv u s2 x y H2 I2 rx ry q=>ho pins s2 Y H2 x y v u Q I2 rx ry q) hm
def Qj0(t:TE):TT:=λY H Q=>t Y H λx H'=>∃k,x=.bl k/\Q k H'
def Qds(ho:OpR X (compareOp op) r)(ha:PE X a ta)(hb:PE X b tb)(hm:behindInMarks op b=false):PT X (.Compare a [op] [b] pos) (Qj0 (tOp r ta tb)):=by
 intro pins s Y H Q I h
 refine wpAny_isTrue_Compare1 (thn (ha pins s Y H _ I h) λv s1 ⟨x,H1,I1,r1,q1⟩=>thn (hb pins s1 Y H1 _ I1 q1) λu s2 ⟨y,H2,I2,r2,q2⟩=>
  thn (ho pins s2 Y H2 x y v u _ I2 r1 r2 q2) λc s3 ⟨z,H3,I3,r3,k,e,q3⟩=>?_) hm
 subst e;cases r3;exact Ug ⟨H3,I3,q3⟩
noncomputable def QmA(K:W.Frag)(x:V)(H:Hp)(k:Bool):Prop :=
 match x with
 |.non=>k=false
 |.bl b=>k=b
 |.int i=>k=(i != 0)
 |.str y=>y.length<=sizeLine/\k=((y.length:Int) != 0)
 |.byt y=>y.size<=sizeLine/\k=((y.size:Int) != 0)
 |.ref p=>(∃xs,SqL K H p xs/\k=!xs.isEmpty)\/(∃xs,SqT K H p xs/\k=!xs.isEmpty)\/∃kvs,H p=some (.dK kvs)/\k=!kvs.isEmpty
 |_=>False
def QcH{κ:Type}{kvs:List (κ×V)}{vs:List (κ×Value)}(r:KV kvs vs):(!vs.isEmpty)=!kvs.isEmpty:=by
 cases r<;>rfl
def JI(r:Vals xs its):(!its.toArray.isEmpty)=!xs.isEmpty:=by
 cases r<;>simp
def Y9:(sizeLine:Nat) < 2 ^ 63:=by rw[U7];decide
def Qgy:Qq1 X (λx H Q=>∃k,QmA X.K x H k/\Q k H):=by
 intro pins s Y H x v Q I rx h;obtain⟨k,e,q⟩:=h;have hl:=Y9;have hs:sizeLine=16777216:=U7
 cases x with
 |non=>
  cases rx;have e':k=false:=e;subst e';exact truthy_none ⟨H,I,q⟩
 |bl b=>
  cases rx;have e':k=b:=e;subst e';exact Ug ⟨H,I,q⟩
 |int i=>
  obtain⟨t,rfl⟩:=rx;have e':k=(i != 0):=e;subst e';exact PySem.P.truthy_int ⟨H,I,q⟩
 |str y=>
  obtain⟨t,rfl⟩:=rx;obtain⟨hy,e'⟩:y.length<=sizeLine/\k=((y.length:Int) != 0):=e;subst e'
  exact PySem.P.truthy_str (by omega) ⟨H,I.tok _,q⟩
 |byt y=>
  obtain⟨t,rfl⟩:=rx;obtain⟨hy,e'⟩:y.size<=sizeLine/\k=((y.size:Int) != 0):=e;subst e'
  exact W.truthy_bytes (by omega) ⟨H,I.tok _,q⟩
 |ref p=>
  cases rx;have e':(∃xs,SqL X.K H p xs/\k=!xs.isEmpty)\/(∃xs,SqT X.K H p xs/\k=!xs.isEmpty)\/∃kvs,H p=some (.dK kvs)/\k=!kvs.isEmpty:=e
  rcases e' with⟨xs,hx,e'⟩|⟨xs,hx,e'⟩|⟨kvs,hx,e'⟩
  ·subst e';obtain⟨its,r,pl,hz⟩:=I.list hx;have hlen:=r.length
   exact wpAny_truthy_list pl.isList (by simp only[Xv];omega) ⟨H,I.tok _,by rw[JI r];exact q⟩
  ·subst e';obtain⟨its,r,pl,hz⟩:=I.tuple hx;have hlen:=r.length
   exact truthy_tuple pl (by simp only[Xv];omega) ⟨H,I.tok _,by rw[JI r];exact q⟩
  ·subst e';obtain⟨hz,hS,vs,r,m⟩:kvs.length<=sizeLine/\(p==sysModules)=false/\∃vs,KV kvs vs/\s.heap.DictOf (ZD X.prog X.w) p vs:=I.hok p _ hx;have hlen:kvs.length=vs.length:=Paired.length r
   exact wpAny_truthy_dict hS m (by omega) ⟨H,I.tok _,by rw[QcH r];exact q⟩
 |_=>exact(show False from e).elim
def Qfo(ha:PE X a ta)(he:∀whole,isTrue a X.env whole=(do let v <-whole;standAt a.pos;holding [v] (truthy v))):
  PT X a (λY H Q=>ta Y H λx H'=>∃k,QmA X.K x H' k/\Q k H'):=by
 intro pins s Y H Q I h;exact isTrue_plain (thn (ha pins s Y H _ I h) λv s1 z=>by obtain⟨x,H1,I1,r1,q1⟩:=z;exact Qgy pins s1 Y H1 x v Q I1 r1 q1) (he _)
def Qcy:OpR X (binaryOp .Add) (λx y H Q=>∃i j,x=.str i/\y=.str j/\i.length+j.length<=sizeLine/\Q (.str (i++j)) H):=by
 intro pins s Y H x y v u Q I rx ry h;obtain⟨i,j,rfl,rfl,hz,q⟩:=h;obtain⟨t,rfl⟩:=rx;obtain⟨t',rfl⟩:=ry;exact add_str (λt' tk=>⟨.str (i++j),H,I.tok _,⟨_,rfl⟩,q⟩) hz
def Qaq(r:Vals [x] us):∃u,us=[u]/\RelV x u:=by
 cases r with
 |cons r1 r2=>cases r2;exact⟨_,rfl,r1⟩
def Qc6(r:Vals [x,y] us):∃u w',us=[u,w']/\RelV x u/\RelV y w':=by
 cases r with
 |cons r1 r2=>
  cases r2 with
  |cons r3 r4=>cases r4;exact⟨_,_,rfl,r1,r3⟩
def Qev(hc:X.calm=true): CallR X (.builtin "max") (λxs H Q=>∃i j,xs=[.int i,.int j]/\Q (.int (if j>i then j else i)) H):= by
 intro pins s Y H xs us Q I r h;obtain⟨i,j,rfl,q⟩:=h;obtain⟨u,w',rfl,⟨t,rfl⟩,⟨t',rfl⟩⟩:=Qc6 r;refine max_two_ints (I.ok.hd hc) λh' tk k=>⟨_,H,I.kept k,?_,q⟩;by_cases hj:j>i
 ·rw[if_pos hj,if_pos hj];exact⟨_,rfl⟩
 ·rw[if_neg hj,if_neg hj];exact⟨_,rfl⟩
def Qey:CallR X (.type "int") (λxs H Q=>(∃i,xs=[.int i]/\Q (.int i) H)\/∃k,xs=[.bl k]/\Q (.int (if k then 1 else 0)) H):= by
 intro pins s Y H xs us Q I r h
 rcases h with⟨i,rfl,q⟩|⟨k,rfl,q⟩
 ·obtain⟨u,rfl,t,rfl⟩:=Qaq r;exact call_int_int ⟨.int i,H,I,⟨_,rfl⟩,q⟩
 ·obtain⟨u,rfl,r1⟩:=Qaq r;cases r1;exact call_int_bool ⟨.int (if k then 1 else 0),H,I.tok _,⟨_,rfl⟩,q⟩
end
end
section
variable {C dx:Addr}{A:Around}{X:Cx}{h:Heap}{H:Hp}{s:Shared}{f:Str}{mA:Str->Option Value}{v:V}{u:Value}{Q:Value->Shared->Prop}{w:World}
structure ObjM(h:Heap)(x dx C:Addr)(mA:Str->Option Value):Prop where
 obj:h.get? x=some (W.instObj C dx)
 ns:h.Ns1 dx mA
 ne:dx≠x
def QaJ(n:h.Ns1 dx mA):∃od,h.get? dx=some od/\∀name,W.lookIn name od=some (mA name):=by
 obtain⟨o,es,ep,ho,hd,hk,_,hm⟩:=n;refine⟨o,ho,λname=>?_⟩;have e:=hm name;unfold nsFind findBy at e;rw[<-Array.find?_toList]at e;unfold W.lookIn;rw[hd];dsimp only;split
 ·rename_i y q;rw[q]at e;exact congrArg some e
 ·rename_i q;rw[q]at e
  have a:es.toList.any (·.refKey)=false:=by
   rw[List.any_eq_false];intro y hy;obtain⟨z,t,hkey⟩:=hk y (Array.mem_toList_iff.mp hy);simp[DictEntry.refKey,hkey]
  have a':¬es.toList.any (·.refKey)=true:=by rw[a];exact Xn
  rw[if_neg a'];exact congrArg some e
def ObjM.look(I:ObjM h x dx C mA):∃od,W.InstAt h x (W.instObj C dx) C (some od)/\∀name,W.lookIn name od=some (mA name):=
 let ⟨od,ho,hl⟩:=QaJ I.ns
 ⟨od,⟨I.obj,rfl,rfl,ho⟩,hl⟩
section
variable {prog:Program}{E:Value->Shared->Prop}{K:W.Frag}{x f:Addr}{name:Str}{v:Value}
def QiV(X:K.In s.heap)(I:ObjM s.heap x dx C mA)(hg:W.plainGet K C name=true)(hh:W.hasDictIn K C=true)
  (ha:W.findIn K (.ref C) name=some none) (hv:mA name=some v) (hv':W.handedIn v=true) (h:Q v {s with toks:=s.toks+1}):
  wpAny (model prog w) A (getAttr (.ref x) name expr) Q E s:=by
 obtain⟨od,J,hl⟩:=I.look
 exact W.get_value X J (W.plainGet_of hg).1 (W.findObj_own hh ha rfl (by rw[hl,hv])) hv' h
def Qf4{pl:Sem Bool}{Q:Value×List Value->Shared->Prop}(X:K.In s.heap)(I:ObjM s.heap x dx C mA)(hg:W.plainGet K C name=true)
  (hf:W.findIn K (.ref C) name=some (some (.ref f))) (ht:W.isFn K (.ref f)=true) (hv:mA name=none) (h:Q (.ref f,[.ref x]) s):
  wpAny (model prog w) A (getMethod (.ref x) name pl) Q E s:=by
 obtain⟨od,J,hl⟩:=I.look
 exact W.method_fn X J (W.plainGet_of hg).1 (W.plainGet_of hg).2 hf (Wj.mp ht) (by show(W.lookIn name od).map (·.isSome)=some false;rw[hl,hv];rfl) h
def QhN{ns:List Str}{Q:Unit->Shared->Prop}(X:K.In s.heap)(I:ObjM s.heap x dx C mA)
  (hs:W.findIn K (.ref C) "__setattr__"=some (some (.builtin "object.__setattr__"))) (hp:W.plainOver K C=true) (ht:W.takerIn K C name=some none) (hh:W.hasDictIn K C=true)
  (hw:PySem.Within mA ns) (hsz:ns.length<=sizeLine)
  (h:∀h',ObjM h' x dx C (λy=>if y=name then some v else mA y)->Heap.SameBut dx s.heap h'->Q () {s with heap:=h',toks:=s.toks+2}):
  wpAny (model prog w) A (setAttr (.ref x) name v) Q E s:=by
 obtain⟨od,J,hl⟩:=I.look;refine W.set_plain X J hs (W.osa_open (s:={s with toks:=s.toks+1}) (r:=none) X J hp ht λb=>?_);obtain⟨cd,hc,hd'⟩:=W.any_some hh;have hx:s.heap.get? x=some ⟨.ref C,some dx,.plain,#[]⟩:=I.obj;refine Xa (Xf (Xa (Xa (wpAny_loadPart hx (Xa (W.Looks.here (s:={s with toks:=s.toks+1}) (W.looks_clsIn X hc) ?_))))));rw[hd'];refine Xf (a:=some dx) (Xa (Xf (Xa ?_)));refine wpAny_nsSet1 (s:={s with toks:=s.toks+1}) I.ns λh' hn2 hs2=>?_;obtain⟨oD,esD,epD,hoD,hdD,hcD⟩:=hn2.count (PySem.Within.cons name v hw)
 refine Xa (wpAny_lookBehind hoD (by rw[hdD];exact pastItsLine_dict (X7 hcD (by rw[Wm];omega))) ?_)
 exact Xf (h _ ⟨(hs2.2 _ (Wr I.ne)).trans I.obj,hn2,I.ne⟩ hs2)
def QfP(X:K.In s.heap)(hm:W.makesIn K C=true)
  (hi:W.findIn K (.ref C) "__init__"=some (some (.ref f))) (hf:W.typeIn K (.ref f)=some (.type "function"))
  (h:codeAny (model prog w) (A.under (.builtin "type.__call__" ⟨.ref C::vs,kw⟩)) (.call (.ref f) ⟨.ref (s.heap.objs.size+1)::vs,kw⟩) (W.InitBack (s.heap.objs.size+1) R)
   {s with heap:=(s.heap.push W.emptyDict).push (W.instObj C s.heap.objs.size)}):
  codeAny (model prog w) A (.call (.ref C) ⟨vs,kw⟩) R s:=by
 obtain⟨hh,g,d,t,os⟩:=s;exact W.make_core (W.makes_of X hm) (W.looks_findIn X hi) (λself=>W.bind_fn X self hf) (.inl rfl) h
def QdW(X:K.In s.heap)(hm:W.makesIn K C=true)
  (hi:W.findIn K (.ref C) "__init__"=some (some (.builtin "object.__init__")))
  (hb:∀self,W.Looks (model prog w) s.heap (bindSpecial (.builtin "object.__init__") self) (.builtin "object.__init__",[self]))
  (h:codeAny (model prog w) (A.under (.builtin "type.__call__" ⟨[.ref C],[]⟩)) (.call (.builtin "object.__init__") ⟨[.ref (s.heap.objs.size+1)],[]⟩) (W.InitBack (s.heap.objs.size+1) R)
   {s with heap:=(s.heap.push W.emptyDict).push (W.instObj C s.heap.objs.size)}):
  codeAny (model prog w) A (.call (.ref C) ⟨[],[]⟩) R s:=by
 obtain⟨hh,g,d,t,os⟩:=s;exact W.make_core (W.makes_of X hm) (W.looks_findIn X hi) hb (.inr ⟨rfl,rfl⟩) h
end
noncomputable def Qaa(f:Str)(v:V):List (Str×V)->List (Str×V)
 |[]=>[(f,v)]
 | (g,x)::r=>if g=f then(g,v)::r else(g,x)::Qaa f v r
theorem Y8(f g:Str)(v:V):∀fs:List (Str×V),(Qaa f v fs).lookup g=if g=f then some v else fs.lookup g
 |[]=>by
  show List.lookup g [(f,v)]=_;by_cases h:g=f
  ·have hb:(g==f)=true:=Wj.mpr h;simp only[List.lookup,hb,if_pos h]
  ·have hb:(g==f)=false:=Wq.mpr h;simp only[List.lookup,hb,if_neg h]
 | (k,x)::r=>by
  have ih:=Y8 f g v r;rw[show Qaa f v ((k,x)::r)=(if k=f then(k,v)::r else(k,x)::Qaa f v r)from rfl];by_cases hk:k=f
  ·rw[if_pos hk];by_cases h:g=k
   ·have hb:(g==k)=true:=Wj.mpr h;simp only[List.lookup,hb,if_pos (h.trans hk)]
   ·have hb:(g==k)=false:=Wq.mpr h;simp only[List.lookup,hb,if_neg (λe:g=f=>h (e.trans hk.symm))]
  ·rw[if_neg hk];by_cases h:g=k
   ·have hb:(g==k)=true:=Wj.mpr h;simp only[List.lookup,hb,if_neg (λe:g=f=>hk (h.symm.trans e))]
   ·have hb:(g==k)=false:=Wq.mpr h;simp only[List.lookup,hb];exact ih
theorem Jb(f:Str)(v:V):∀fs:List (Str×V),f∈(Qaa f v fs).map (·.1)/\∀g,g∈fs.map (·.1)->g∈(Qaa f v fs).map (·.1)
 |[]=>⟨by simp[Qaa],λg h=>by simp at h⟩
 | (k,x)::r=>by
  obtain⟨i1,i2⟩:=Jb f v r;rw[show Qaa f v ((k,x)::r)=(if k=f then(k,v)::r else(k,x)::Qaa f v r)from rfl];by_cases hk:k=f
  ·rw[if_pos hk];subst hk
   exact⟨by simp,λg h=>by simpa using h⟩
  ·rw[if_neg hk];refine⟨?_,λg h=>?_⟩
   ·rw[Vw];exact Xj _ i1
   ·rw[Vw]at h ⊢
    rcases Xg.mp h with e|e
    ·exact Xg.mpr (.inl e)
    ·exact Xj _ (i2 g e)
theorem Ja(f:Str)(v:V):∀fs:List (Str×V),(Qaa f v fs).length<=fs.length+1
 |[]=>by simp[Qaa]
 | (k,x)::r=>by
  have ih:=Ja f v r;rw[show Qaa f v ((k,x)::r)=(if k=f then(k,v)::r else(k,x)::Qaa f v r)from rfl];by_cases hk:k=f
  ·rw[if_pos hk,Wm,Wm];omega
  ·rw[if_neg hk,Wm,Wm];omega
def RelO.some_of(r:RelO (some v) o):∃u,o=some u/\RelV v u:=by
 cases o with
 |none=>exact(show False from r).elim
 |some u=>exact⟨u,rfl,r⟩
def RelO.none_of(r:RelO none o):o=none:=by
 cases o with
 |none=>rfl
 |some u=>exact(show False from r).elim
def QaQ(r:RelV v u):W.handedIn u=true:=by
 cases v with
 |non=>cases(show u=Value.none from r);rfl
 |bl b=>cases(show u=Value.bool b from r);rfl
 |int i=>obtain⟨t,e⟩:=(show ∃t,u=Value.int i t from r);cases e;rfl
 |str x=>obtain⟨t,e⟩:=(show ∃t,u=Value.str x t from r);cases e;rfl
 |byt b=>obtain⟨t,e⟩:=(show ∃t,u=Value.bytes b t from r);cases e;rfl
 |flt b=>obtain⟨t,e⟩:=(show ∃t,u=Value.float b t from r);cases e;rfl
 |ref a=>cases(show u=Value.ref a from r);rfl
 |ty n=>cases(show u=Value.type n from r);rfl
section
variable {P:Program}{a:Addr}{fs:List (Str×V)}
def Qai(hok:HOk P w H h)(e:H a=some (.ins C dx fs)):∃mA,ObjM h a dx C mA/\(∀f,RelO (fs.lookup f) (mA f))/\PySem.Within mA (fs.map (·.1))/\fs.length<=1000/\H dx=some (.own a):=by
 obtain⟨d,z,ne,ob,mA,n,r,q⟩:=(show ObjOk P w H h a (.ins C dx fs)from hok a _ e);exact⟨mA,⟨ob,n,ne⟩,r,q,z,d⟩
end
structure Cls(K:W.Frag)(C:Addr):Prop where
 pg:W.plainGet K C Str.empty=true
 hd:W.hasDictIn K C=true
 po:W.plainOver K C=true
 sa:W.findIn K (.ref C) "__setattr__"=some (some (.builtin "object.__setattr__"))
def Cls.get{K:W.Frag}(c:Cls K C)(f:Str):W.plainGet K C f=true:=c.pg
def NoAttr(K:W.Frag)(C:Addr)(f:Str):Prop:=W.findIn K (.ref C) f=some none
def NoAttr.taker{K:W.Frag}(n:NoAttr K C f):W.takerIn K C f=some none:=by
 unfold W.takerIn;rw[show W.findIn K (.ref C) f=some none from n];rfl
structure Meth(K:W.Frag)(C:Addr)(m:Str)(f:Addr):Prop where
 at_:W.findIn K (.ref C) m=some (some (.ref f))
 fn:W.isFn K (.ref f)=true
 kp:W.keepIn K (.ref f)=true
section
variable {pins:List (Addr×Obj)}{Y:St}{a:Addr}{fs:List (Str×V)}{E:Value->Shared->Prop}
def QcJ(I:Inv X pins Y H s)(e:H a=some (.ins C dx fs))(c:Cls X.K C)(n:NoAttr X.K C f)(l:fs.lookup f=some v)
  (h:∀u s',Inv X pins Y H s'->RelV v u->Q u s'):wpAny (model X.prog X.w) A (getAttr (.ref a) f b) Q E s:=by
 obtain⟨mA,O,r,_,_,_⟩:=Qai I.hok e
 obtain⟨u,hu,ru⟩:=RelO.some_of (v:=v) (o:=mA f) (by rw[<-l];exact r f)
 exact QiV I.kIn O (c.get f) c.hd n hu (QaQ ru) (h u _ (I.tok _) ru)
def QcI{m:Str}{g:Addr}{pl:Sem Bool}{Q:Value×List Value->Shared->Prop}(I:Inv X pins Y H s)(e:H a=some (.ins C dx fs))(c:Cls X.K C)(k:Meth X.K C m g)(l:fs.lookup m=none)
  (h:Q (.ref g,[.ref a]) s):wpAny (model X.prog X.w) A (getMethod (.ref a) m pl) Q E s:=by
 obtain⟨mA,O,r,_,_,_⟩:=Qai I.hok e
 have hn:mA m=none:=RelO.none_of (by rw[<-l];exact r m)
 exact Qf4 I.kIn O (c.get m) k.at_ k.fn hn h
def Qct{y:V}{Q:Unit->Shared->Prop}(I:Inv X pins Y H s)(e:H a=some (.ins C dx fs))(c:Cls X.K C)(n:NoAttr X.K C f)(hl:fs.length<1000)(ry:RelV y u)
  (h:∀s',Inv X pins Y (upd H a (.ins C dx (Qaa f y fs))) s'->Q () s'):wpAny (model X.prog X.w) A (setAttr (.ref a) f u) Q E s:=by
 obtain⟨mA,O,r,wi,_,ho⟩:=Qai I.hok e
 have hz:(fs.map (·.1)).length<=sizeLine:=by rw[Xq,U7];omega
 refine QhN I.kIn O c.sa c.po n.taker c.hd wi hz λh' O' sb=>h _ ?_;have hd:∃o,h'.get? dx=some o:=let ⟨o,_,_,e',_⟩:=O'.ns;⟨o,e'⟩
 refine I.write (x:=a) (e:=dx) (by rw[e];exact True.intro) (.inr ho) (λb q hb z=>(sb.2 b hb).trans z) hd ?_
 refine⟨by rw[Qd O.ne];exact ho,?_,O.ne,O'.obj,_,O'.ns,λg=>?_,λg hg=>?_⟩
 ·have:=Ja f y fs;omega
 ·show RelO ((Qaa f y fs).lookup g) (if g=f then some u else mA g);rw[Y8];by_cases q:g=f
  ·rw[if_pos q,if_pos q];exact ry
  ·rw[if_neg q,if_neg q];exact r g
 ·by_cases q:g=f
  ·rw[q];exact(Jb f y fs).1
  ·refine(Jb f y fs).2 g (wi g λz=>hg ?_);show(if g=f then some u else mA g)=none;rw[if_neg q];exact z
def Inv.made(I:Inv X pins Y H s):Inv X pins Y (upd (upd H s.heap.objs.size (.own (s.heap.objs.size+1))) (s.heap.objs.size+1) (.ins C s.heap.objs.size []))
  {s with heap:=(s.heap.push W.emptyDict).push (W.instObj C s.heap.objs.size)}:=by
 have e1:(s.heap.push W.emptyDict).get? s.heap.objs.size=some W.emptyDict:=Xu s.heap rfl
 have e2:((s.heap.push W.emptyDict).push (W.instObj C s.heap.objs.size)).get? (s.heap.objs.size+1)=some (W.instObj C s.heap.objs.size):=by
  have:=Xu (s.heap.push W.emptyDict) (o:=W.instObj C s.heap.objs.size) rfl;rwa [W7]at this
 have e3:(s.heap.push W.emptyDict).Ns s.heap.objs.size (λz=>none):=⟨W.emptyDict,#[],_,e1,rfl,(λe he=>absurd he (by simp)),λz=>rfl⟩
 have I1:=I.laid (a:=s.heap.objs.size) (o:=.own (s.heap.objs.size+1)) (h':=s.heap.push W.emptyDict) (t':=s.toks) (λb u q=>Xd _ q) (Xi _) ⟨_,e1⟩;refine I1.laid (a:=s.heap.objs.size+1) (o:=.ins C s.heap.objs.size []) (t':=s.toks) (λb u q=>Xd _ q) (Nat.le_of_eq (W7 _ _)) ?_;have ne:s.heap.objs.size≠s.heap.objs.size+1:=X1 (W4 _)
 refine⟨by rw[Qd ne,Qh],W8 _,ne,e2,λz=>none,(Heap.Ns1.of_empty e3).at λo q=>Xd _ q,λz=>True.intro,λy hy=>absurd rfl hy⟩
def QeI(hb:attributeBase e f env (eval e env)=eval e env)
  (h:wpAny (model prog w) A (eval e env) (λo s₁=>wpAny (model prog w) A (getAttr o f true) Q E s₁) E s):wpAny (model prog w) A (eval (.Attribute e f pos) env) Q E s :=
 Attribute_any_ h (by rw[arm_eval_Attribute,hb])
end
def QpK(K:W.Frag)(ta:TE)(f:Str):TE:=λY H Q=>ta Y H λx H1=>∃a C dx fs v,x=.ref a/\H1 a=some (.ins C dx fs)/\Cls K C/\NoAttr K C f/\fs.lookup f=some v/\Q v H1
def QpV(K:W.Frag)(ta tv:TE)(f:Str):TS:=λD Y H=>tv Y H λy H1=>ta Y H1 λx H2=>∃a C dx fs,x=.ref a/\H2 a=some (.ins C dx fs)/\Cls K C/\NoAttr K C f/\fs.length<1000 /\
 D.nx Y (upd H2 a (.ins C dx (Qaa f y fs)))
section
variable {o e value:Expr}{pos pos':Pos}{ta tv:TE}
def QkL(he:PE X e ta)(hb:attributeBase e f X.env (eval e X.env)=eval e X.env):PE X (.Attribute e f pos) (QpK X.K ta f):=by
 intro pins s Y H Q I h;refine QeI hb (thn (he pins s Y H _ I h) λu s1 z=>?_);obtain⟨x,H1,I1,rx,a,C,dx,fs,v,ex,ea,c,n,l,q⟩:=z;subst ex;obtain rfl:u=Value.ref a:=rx;exact QcJ I1 ea c n l λu' s2 I2 ru=>⟨v,H1,I2,ru,q⟩
def QkC(ha:PE X o ta)(hv:PE X value tv)(hs:swapsWith value (some (.Attribute o f pos')) pos.line X.env=pure false):PS X (.Assign [.Attribute o f pos'] value pos) (QpV X.K ta tv f):=by
 intro pins s Y H D I h;refine plainObj_wpAny_Assign_Attribute (thn (hv pins s Y H _ I h) λu s1 ⟨y,H1,I1,ry,q⟩=>thn (ha pins s1 Y H1 _ I1 q) λov s2 z=>?_) hs;obtain⟨x,H2,I2,rx,a,C,dx,fs,ex,ea,c,n,l,q2⟩:=z;subst ex;obtain rfl:ov=Value.ref a:=rx;exact Qct I2 ea c n l ry λs3 I3=>⟨Y,_,I3,q2⟩
end
section
variable {pins:List (Addr×Obj)}{Y:St}{E:Value->Shared->Prop}{c:Value}{b:Bool}
inductive TyOf(K:W.Frag)(H:Hp):V->Value->Prop where
 |non:TyOf K H .non (.type "NoneType")
 |bl (x:Bool):TyOf K H (.bl x) (.type "bool")
 |int (i:Int):TyOf K H (.int i) (.type "int")
 |str (x:Str):TyOf K H (.str x) (.type "str")
 |flt (x:UInt64):TyOf K H (.flt x) (.type "float")
 |lst {a:Addr} {xs:List V} (e:H a=some (.lst xs)):TyOf K H (.ref a) (.type "list")
 |frz {a:Addr} {o:Obj} {xs:List V} (e:H a=some (.frz o (.lst xs))):TyOf K H (.ref a) (.type "list")
 |tup {a:Addr} {xs:List V} (e:H a=some (.tup xs)):TyOf K H (.ref a) (.type "tuple")
 |dK {a:Addr} {kvs:List (Key×V)} (e:H a=some (.dK kvs)):TyOf K H (.ref a) (.type "dict")
 |dT {a:Addr} {kvs:List (List Key×V)} (e:H a=some (.dT kvs)):TyOf K H (.ref a) (.type "dict")
 |ins {a C dx:Addr} {fs:List (Str×V)} (e:H a=some (.ins C dx fs)) (cl:Cls K C) (ha:W.findIn K (.ref C) "__class__"=some (some (.builtin "object.__class__")))
   (hn:W.specialIn K (.builtin "object.__class__") "__get__"=some (some (.builtin "getset_descriptor.__get__"))) (htk:W.takesIn K (.builtin "object.__class__")=some true)
   (hm:W.mroIn K C (.type "object")=some true):TyOf K H (.ref a) (.ref C)
def Qd3(I:Inv X pins Y H s)(rx:RelV x u)(ty:TyOf X.K H x t)(e:W.kitOne X.K t c=some b)(h:∀tk,Q (.bool b) {s with toks:=tk}):
  wpAny (model X.prog X.w) A (call (.builtin "isinstance") [u,c]) Q E s:=by
 cases ty with
 |non=>cases(show u=Value.none from rx);exact V4 W.kitx_none I.kIn True.intro e (λz=>nomatch z) h
 |bl y=>cases(show u=Value.bool y from rx);exact V4 W.kitx_bool I.kIn True.intro e (λz=>nomatch z) h
 |int i=>obtain⟨t,q⟩:=(show ∃t,u=Value.int i t from rx);cases q;exact V4 W.kitx_int I.kIn True.intro e (λz=>nomatch z) h
 |str y=>obtain⟨t,q⟩:=(show ∃t,u=Value.str y t from rx);cases q;exact V4 W.kitx_str I.kIn True.intro e (λz=>nomatch z) h
 |flt y=>obtain⟨t,q⟩:=(show ∃t,u=Value.float y t from rx);cases q;exact V4 W.kitx_float I.kIn True.intro e (λz=>nomatch z) h
 | @lst a xs ea=>
  cases(show u=Value.ref a from rx);obtain⟨_,_,n,_,h1⟩:=(show ObjOk X.prog X.w H s.heap a (.lst xs)from I.hok a _ ea);exact V4 W.kitx_list I.kIn ⟨_,h1,rfl⟩ e (λz=>nomatch z) h
 | @frz a ob xs ea=>
  cases(show u=Value.ref a from rx);obtain⟨_,_,_,n,_,h1⟩:=(show ObjOk X.prog X.w H s.heap a (.frz ob (.lst xs))from I.hok a _ ea);exact V4 W.kitx_list I.kIn ⟨_,h1,rfl⟩ e (λz=>nomatch z) h
 | @tup a xs ea=>
  cases(show u=Value.ref a from rx);obtain⟨_,_,_,p⟩:=(show ObjOk X.prog X.w H s.heap a (.tup xs)from I.hok a _ ea);obtain⟨o,h1,h2,_⟩:=p;exact V4 W.kitx_tuple I.kIn ⟨o,h1,h2⟩ e (λz=>nomatch z) h
 | @dK a kvs ea=>
  cases(show u=Value.ref a from rx);obtain⟨_,_,vs,_,p⟩:=(show ObjOk X.prog X.w H s.heap a (.dK kvs)from I.hok a _ ea);obtain⟨o,es,ep,h1,h2,_⟩:=p;exact V4 W.kitx_dict I.kIn ⟨o,h1,h2.1⟩ e (λz=>nomatch z) h
 | @dT a kvs ea=>
  cases(show u=Value.ref a from rx);obtain⟨_,_,xs,_,o,es,ep,h1,h2,_⟩:=(show ObjOk X.prog X.w H s.heap a (.dT kvs)from I.hok a _ ea);exact V4 W.kitx_dict I.kIn ⟨o,h1,h2.1⟩ e (λz=>nomatch z) h
 | @ins a C dx fs ea cl ha hn htk hm=>
  cases(show u=Value.ref a from rx);obtain⟨mA,O,_⟩:=Qai I.hok ea;obtain⟨od,J,_⟩:=O.look;exact V4 (W.kitx_own (cl.get _) cl.hd ha hn htk hm) I.kIn J e (λz=>nomatch z) h
end
end
section
variable {C f:Addr}{A:Around}{X:Cx}{e:Expr}{fd:FuncData}{base:Heap}{H:Hp}{pins:List (Addr×Obj)}{es:List Expr}{ps:List Str}{vs:List V}{us:List Value}{k:Nat}{pos:Pos}{P:Program}{s:Shared}{Y:St}{x:Str}{mg:Str->Option Value}{t:TA}{Q:VK}{w:World}
structure Room(k:Nat)(A:Around):Prop where
 hd:A.handled=none
 dp:A.depth+3*k+5<recursionLimit
 un:A.units+16*k+200<cLine
def Room.mono(r:Room k A)(h:j<=k):Room j A:=⟨r.hd,by have:=r.dp;omega,by have:=r.un;omega⟩
theorem Room.deeper(r:Room (k+1) A)(env:Env):Room k (A.deeper env):=
 ⟨r.hd,by have:=r.dp;show A.depth+1+3*k+5<_;omega,by have:=r.un;show A.units+3+16*k+200<_;omega⟩
def QcF:(A.under (.builtin "type.__call__" ⟨.ref C::us,kw⟩)).depth=A.depth+1:=by
 first|rfl|simp[Around.under,Code.weight,Code.isCreation,Code.isGuard,Code.isCaller,Code.frames,Code.isFrame,guardIds]
def QcE:(A.under (.builtin "type.__call__" ⟨.ref C::us,kw⟩)).units=A.units+1:=by
 first|rfl|simp[Around.under,Code.cUnits,Code.frames,Code.isFrame]
def Room.make(r:Room (k+1) A)(C:Addr)(us:List Value)(kw:List (Str×Value)):Room k (A.under (.builtin "type.__call__" ⟨.ref C::us,kw⟩)):=
 ⟨r.hd,by have:=r.dp;rw[QcF];omega,by have:=r.un;rw[QcE];omega⟩
theorem Room.depth(r:Room k A):A.depth<recursionLimit:=by have:=r.dp;omega
theorem Room.units(r:Room k A):A.units+64<cLine:=by have:=r.un;omega
def Qmh:TA:=λz H Q=>Q [] H
def QhC(ta:TE)(tr:TA):TA:=λY H Q=>ta Y H λx H1=>tr Y H1 λxs H2=>Q (x::xs) H2
section
variable {te:TE}
def JD:PA X [] Qmh:=λz z z z H Q I h=>Calls.spliced_nil ⟨[],H,I,.nil,h⟩
def Zk(ha:PE X e te)(hr:PA X es t)(hs:starEach (e::es) X.env=(false,eval e X.env)::starEach es X.env:=by rfl):PA X (e::es) (QhC te t):=by
 intro pos pins s Y H Q I h;rw[hs];show wpAny _ _ (spliced ((false,eval e X.env)::backTo pos (starEach es X.env))) _ _ s;refine Calls.spliced_cons (thn (ha pins s Y H _ I h) λu s1 z=>?_);obtain⟨x,H1,I1,r1,q1⟩:=z;exact thn (hr pos pins s1 Y H1 _ I1 q1) λus s2 y=>by obtain⟨xs,H2,I2,r2,q2⟩:=y;exact⟨x::xs,H2,I2,.cons r1 r2,q2⟩
def QpC(t:TA):TE:=λY H Q=>t Y H λxs H1=>xs.length<=sizeLine/\∀p,H1 p=none->Q (.ref p) (upd H1 p (.tup xs))
def QpH(t:TA):TE:=λY H Q=>t Y H λxs H1=>xs.length<=sizeLine/\∀p,H1 p=none->Q (.ref p) (upd H1 p (.lst xs))
def QgN{x1}(h:PA X es t):PE X (.Tuple es x1 pos) (QpC t):=by
 intro pins s Y H Q I hq
 refine wpAny_Tuple_spliced (thn (h pos pins s Y H _ I hq) λus s1 ⟨xs,H1,I1,r,z,q⟩=>⟨by rw[<-r.length];exact z,?_⟩)
 have hf:H1 s1.heap.objs.size=none:=I1.hok.fresh (Xi _);refine⟨.ref s1.heap.objs.size,upd H1 s1.heap.objs.size (.tup xs),I1.laid (t':=s1.toks) (λb u e=>Xd _ e) (Xi _) ?_,rfl,q _ hf⟩;exact⟨z,us,r,⟨_,Xu _ rfl,rfl,_,rfl⟩⟩
def QkJ(h:PA X es t):PE X (.List es pos) (QpH t):=by
 intro pins s Y H Q I hq
 refine wpAny_List_spliced (thn (h pos pins s Y H _ I hq) λus s1 ⟨xs,H1,I1,r,z,q⟩=>⟨by rw[<-r.length];exact z,?_⟩)
 have hf:H1 s1.heap.objs.size=none:=I1.hok.fresh (Xi _);refine⟨.ref s1.heap.objs.size,upd H1 s1.heap.objs.size (.lst xs),I1.laid (t':=s1.toks) (λb u e=>Xd _ e) (Xi _) ?_,rfl,q _ hf⟩;exact⟨z,us,0,r,Xu _ rfl⟩
end
abbrev Sp:=List V->Hp->VK->XK->Prop
abbrev CXT:=List Env->Hp->Shared->XK->Value->Shared->Prop
structure Env0(P:Program)(w:World)(K:W.Frag)(mg:Str->Option Value)(base:Heap)(A:Around)(outer:List Env)(s:Shared)(H:Hp):Prop where
 frames:A.frames=some outer
 mod:Mod K mg base
 bs:∀b o,base.get? b=some o->s.heap.get? b=some o/\H b=none
 bsz:base.objs.size<=s.heap.objs.size
 funs:s.heap.FunFrames base outer
 frf:∀b∈frs outer,H b=none
 hok:HOk P w H s.heap
 bare:AllBare s.gens
noncomputable def CE(outer:List Env)(P:Program)(w:World)(H:Hp)(s:Shared)(Q:VK)(u:Value)(s':Shared):Prop :=
 ∃v H',s'.os=s.os/\AllBare s'.gens/\Un (frs outer) [] H H' s.heap s'.heap/\HOk P w H' s'.heap/\RelV v u/\Q v H'
noncomputable def CR(CX:CXT)(outer:List Env)(P:Program)(w:World)(H:Hp)(s:Shared)(Q:VK)(E:XK)(r:Result)(s':Shared):Prop :=
 match r with
 |.ok (.ret u)=>CE outer P w H s Q u s'
 |.ok _=>False
 |.error e=>CX outer H s E e s'
structure FnOk(P:Program)(w:World)(K:W.Frag)(mg:Str->Option Value)(base:Heap)(CX:CXT)(k:Nat)(f:Addr)(fd:FuncData)(ps:List Str)(sp:Sp):Prop where
 len:∀vs H Q E,sp vs H Q E->vs.length=ps.length
 run:∀(A:Around) (outer:List Env) (s:Shared) (H:Hp) (args:Args) (us:List Value) (vs:List V) (Q:VK) (E:XK),Room k A->Env0 P w K mg base A outer s H->BindsTo s fd args (ps.zip us)->Vals vs us->sp vs H Q E ->
  codeAny (model P w) A (.call (.ref f) args) (CR CX outer P w H s Q E) s
theorem FnOk.mono{K:W.Frag}{CX:CXT}{j:Nat}{sp:Sp}(F:FnOk P w K mg base CX j f fd ps sp)(h:j<=k):
  FnOk P w K mg base CX k f fd ps sp:=⟨F.len,λA outer s H args us vs Q E hr=>F.run A outer s H args us vs Q E (hr.mono h)⟩
def FnOk.imp{K:W.Frag}{CX:CXT}{sp sp':Sp}(F:FnOk P w K mg base CX k f fd ps sp)
  (h:∀vs H Q E,sp' vs H Q E->sp vs H Q E):FnOk P w K mg base CX k f fd ps sp' :=
 ⟨λvs H Q E q=>F.len vs H Q E (h _ _ _ _ q),λA outer s H args us vs Q E hr he hb hv hs=>F.run A outer s H args us vs Q E hr he hb hv (h _ _ _ _ hs)⟩
def Env0.make{K:W.Frag}{outer:List Env}(e:Env0 P w K mg base A outer s H)(C:Addr)(us:List Value)(kw:List (Str×Value)):
  Env0 P w K mg base (A.under (.builtin "type.__call__" ⟨.ref C::us,kw⟩)) outer s H:=⟨by first|exact e.frames|(simpa[Around.under,Code.envs,Code.isFrame,pushEnvs]using e.frames),e.mod,e.bs,e.bsz,e.funs,e.frf,e.hok,e.bare⟩
section
variable {s':Shared}
def Inv.env0(I:Inv X pins Y H s):Env0 X.prog X.w X.K X.mg X.base X.A X.stack s H :=
 ⟨I.ok.frames,I.ok.mod,I.bs,X7 I.ok.bsz I.sz,I.stack,I.stkFree,I.hok,I.bare⟩
def Inv.after{u:Value}(I:Inv X pins Y H s)(h:CE X.stack X.prog X.w H s Q u s'):EP X pins Y Q u s':=by
 obtain⟨v,H',os,bare,un,hok,r,q⟩:=h;obtain⟨hh,g,d,t,os'⟩:=s';obtain rfl:os'=s.os:=os
 exact⟨v,H',I.call (h':=hh) (g':=g) (d':=d) (t':=t) (ch:=[]) un hok bare (λb z=>absurd z (by simp)),r,q⟩
end
def QhD(sp:Sp)(dvs:List V)(E:XK)(t:TA):TE:=λY H Q=>t Y H λvs H1=>sp (vs++dvs) H1 Q E
def Qj1(C:Addr)(sp:Sp)(dvs:List V)(E:XK)(t:TA):TE:=λY H Q=>t Y H λvs H1=>∀x dx,H1 x=none->H1 dx=none->dx≠x ->
 sp (.ref x::(vs++dvs)) (upd (upd H1 dx (.own x)) x (.ins C dx [])) (λv H2=>v=.non/\Q (.ref x) H2) E
noncomputable def Binds(K:W.Frag)(fd:FuncData)(ps:List Str)(ds:List Value):Prop :=
 ∀(s:Shared) (us:List Value),K.In s.heap->(us++ds).length=ps.length->BindsTo s fd ⟨us,[]⟩ (ps.zip (us++ds))
def Binds.all{K:W.Frag}(h:∀us:List Value,us.length=ps.length->bindArgs fd ⟨us,[]⟩=pure (ps.zip us)):Binds K fd ps []:=λs us z hl=>by
 rw[Vu]at hl ⊢;exact .of_eq (h us hl)
def Yh(CX:CXT)(X:Cx)(E:XK):Prop:=∀(pins:List (Addr×Obj)) (Y:St) (H:Hp) (s:Shared) (e:Value) (s':Shared),Inv X pins Y H s->CX X.stack H s E e s'->X.xe e s'
section
variable {CX:CXT}{sp:Sp}{dvs:List V}{ds:List Value}{E:XK}{p:Pos}
def Qdo(F:FnOk X.prog X.w X.K X.mg X.base CX k f fd ps sp)(hr:Room k X.A)(hb:Binds X.K fd ps ds)(hd:Vals dvs ds)(hx:Yh CX X E)
  (I:Inv X pins Y H s) (r:Vals vs us) (h:sp (vs++dvs) H Q E):wpAny (model X.prog X.w) X.A (call (.ref f) us) (EP X pins Y Q) X.xe s:=by
 have r2:Vals (vs++dvs) (us++ds):=r.append hd
 have hl:(us++ds).length=ps.length:=by rw[<-r2.length];exact F.len _ _ _ _ h
 refine Vx (V1 (F.run X.A X.stack s H ⟨us,[]⟩ (us++ds) (vs++dvs) Q E hr I.env0 (hb s us I.kIn hl) r2 h) λr s' hq=>?_)
 cases r with
 |error e=>exact hx pins Y H s e s' I hq
 |ok fl=>
  cases fl with
  |ret u=>exact I.after hq
  |next=>exact False.elim hq
  |brk=>exact False.elim hq
  |cont=>exact False.elim hq
def Qii(F:FnOk X.prog X.w X.K X.mg X.base CX k f fd ps sp)(hr:Room k X.A)(hg:Gl X x)(hm:X.mg x=some (.ref f))(hk:W.keepIn X.K (.ref f)=true)(hb:Binds X.K fd ps ds)(hd:Vals dvs ds)(hx:Yh CX X E)
  (ha:PA X (e::es) t) (hdb:(x==("__debug__":Str))=false:=by decide) (he:starEach (e::es) X.env=(false,eval e X.env)::starEach es X.env:=by rfl) (hpl:(backTo pos (starEach es X.env)).any (·.1)=false:=by rfl):
  PE X (.Call (.Name x p) (e::es) [] pos) (QhD sp dvs E t):=by
 intro pins s Y H Q I h;refine X8 (Zd I hg hm ?_ hdb);refine Tc (h₀:=X.base) I.ok.mod.kin hk (thn (ha pos pins s Y H _ I h) λus s1 ⟨vs,H1,I1,r,q⟩=>⟨I1.kIn,?_⟩) he hpl;exact Qdo F hr hb hd hx I1 r q
def Qfv(F:FnOk X.prog X.w X.K X.mg X.base CX k f fd ps sp)(hr:Room k X.A)(hg:Gl X x)(hm:X.mg x=some (.ref f))(hk:W.keepIn X.K (.ref f)=true)(hb:Binds X.K fd ps ds)(hd:Vals dvs ds)(hx:Yh CX X E)
  (hdb:(x==("__debug__":Str))=false:=by decide):PE X (.Call (.Name x p) [] [] pos) (QhD sp dvs E Qmh):=by
 intro pins s Y H Q I h;refine X8 (Zd I hg hm ?_ hdb);exact W.callWith_K0 I.kIn hk (Qdo (us:=[]) F hr hb hd hx I .nil h)
structure Mk(K:W.Frag)(C f:Addr):Prop where
 makes:W.makesIn K C=true
 init:W.findIn K (.ref C) "__init__"=some (some (.ref f))
 fn:W.isFn K (.ref f)=true
 kp:W.keepIn K (.ref C)=true
def QbX(M:Mk X.K C f)(F:FnOk X.prog X.w X.K X.mg X.base CX k f fd ps sp)(hr:Room (k+1) X.A)(hb:Binds X.K fd ps ds)(hd:Vals dvs ds)
  (hx:Yh CX X E) (I:Inv X pins Y H s) (r:Vals vs us)
  (h:∀x dx,H x=none->H dx=none->dx≠x->sp (.ref x::(vs++dvs)) (upd (upd H dx (.own x)) x (.ins C dx [])) (λv H2=>v=.non/\Q (.ref x) H2) E):
  wpAny (model X.prog X.w) X.A (call (.ref C) us) (EP X pins Y Q) X.xe s:=by
 have hq:=h (s.heap.objs.size+1) s.heap.objs.size (I.hok.fresh (Uk _)) (I.hok.fresh (Xi _)) (X1 (W4 _));have I2:=Inv.made (C:=C) I;have r2:Vals (V.ref (s.heap.objs.size+1)::(vs++dvs)) (Value.ref (s.heap.objs.size+1)::(us++ds)):=.cons rfl (r.append hd)
 have hl:(Value.ref (s.heap.objs.size+1)::us++ds).length=ps.length:=by
  have e:=r2.length;rw[F.len _ _ _ _ hq]at e;exact e.symm
 refine Vx (QfP (f:=f) I.kIn M.makes M.init (Wj.mp M.fn) (V1 (F.run _ X.stack _ _ ⟨Value.ref (s.heap.objs.size+1)::us,[]⟩ (Value.ref (s.heap.objs.size+1)::(us++ds)) _ _ E (hr.make C us [])
  (I2.env0.make C us []) (hb _ (Value.ref (s.heap.objs.size+1)::us) I2.kIn hl) r2 hq) λr s' hq'=>?_))
 cases r with
 |error e=>exact hx pins Y _ _ e s' I2 hq'
 |ok fl=>
  cases fl with
  |ret u=>
   obtain⟨v,H',I3,rv,ev,q3⟩:=I2.after hq';subst ev;exact⟨rv,⟨V.ref (s.heap.objs.size+1),H',I3,rfl,q3⟩⟩
  |next=>exact False.elim hq'
  |brk=>exact False.elim hq'
  |cont=>exact False.elim hq'
def Qie(M:Mk X.K C f)(F:FnOk X.prog X.w X.K X.mg X.base CX k f fd ps sp)(hr:Room (k+1) X.A)(hg:Gl X x)(hm:X.mg x=some (.ref C))(hb:Binds X.K fd ps ds)(hd:Vals dvs ds)(hx:Yh CX X E)
  (ha:PA X (e::es) t) (hdb:(x==("__debug__":Str))=false:=by decide) (he:starEach (e::es) X.env=(false,eval e X.env)::starEach es X.env:=by rfl) (hpl:(backTo pos (starEach es X.env)).any (·.1)=false:=by rfl):
  PE X (.Call (.Name x p) (e::es) [] pos) (Qj1 C sp dvs E t):=by
 intro pins s Y H Q I h;refine X8 (Zd I hg hm ?_ hdb);refine Tc (h₀:=X.base) I.ok.mod.kin M.kp (thn (ha pos pins s Y H _ I h) λus s1 ⟨vs,H1,I1,r,q⟩=>⟨I1.kIn,?_⟩) he hpl;exact QbX M F hr hb hd hx I1 r q
def Qfu(M:Mk X.K C f)(F:FnOk X.prog X.w X.K X.mg X.base CX k f fd ps sp)(hr:Room (k+1) X.A)(hg:Gl X x)(hm:X.mg x=some (.ref C))(hb:Binds X.K fd ps ds)(hd:Vals dvs ds)(hx:Yh CX X E)
  (hdb:(x==("__debug__":Str))=false:=by decide):PE X (.Call (.Name x p) [] [] pos) (Qj1 C sp dvs E Qmh):=by
 intro pins s Y H Q I h;refine X8 (Zd I hg hm ?_ hdb);exact W.callWith_K0 I.kIn M.kp (QbX (us:=[]) M F hr hb hd hx I .nil h)
end
structure FnScope(N P:List Str)(sc:Scope):Prop where
 kind:sc.kind=.function
 co:sc.isCoroutine=false
 gen:sc.isGenerator=false
 nd:N.Nodup
 pre:N.take P.length=P
 par:∀x∈P,sc.names.lookup x=some .local\/sc.names.lookup x=some .cell
 nofree:∀y∈sc.names,y.2≠.free
theorem Qa1{kindOf:Str->Option NameKind}{x:Str}:∀{binds:List (Str×Value)} {m:Str->Option Value},(∀v,(x,v)∉binds)->bindL kindOf binds m x=m x
 |[],_,_=>rfl
 | (n,v)::r,m,h=>by
  unfold bindL;rw[Qa1 λw hw=>h w (Xj _ hw)];split
  ·have:x≠n:=by rintro rfl;exact h v Xm
   simp[this]
  ·rfl
theorem Qa3{kindOf:Str->Option NameKind}{x:Str}:∀{binds:List (Str×Value)} {m:Str->Option Value},(∀v,(x,v)∉binds)->bindC kindOf binds m x=m x
 |[],_,_=>rfl
 | (n,v)::r,m,h=>by
  unfold bindC;rw[Qa3 λw hw=>h w (Xj _ hw)];split
  ·rfl
  ·have:x≠n:=by rintro rfl;exact h v Xm
   simp[this]
theorem Qa2{kindOf:Str->Option NameKind}{x:Str}{v:Value}:∀{P:List Str} {vs:List Value} {i:Nat} {m:Str->Option Value},P.Nodup->P[i]?=some x->vs[i]?=some v->kindOf x=some .local ->
  bindL kindOf (P.zip vs) m x=some v
 |[],_,_,_,_,h,_,_=>by simp at h
 |_::_,[],_,_,_,_,h,_=>by simp at h
 |p::P,w::vs,0,m,nd,h1,h2,hk=>by
  simp at h1 h2;subst h1;subst h2;show bindL kindOf ((p,w)::P.zip vs) m p=_;unfold bindL;rw[Qa1 λv hv=>(Tw.mp nd).1 (Ww hv).1,if_pos hk];simp
 |p::P,w::vs,i+1,m,nd,h1,h2,hk=>by
  show bindL kindOf ((p,w)::P.zip vs) m x=_;unfold bindL
  exact Qa2 (i:=i) (Tw.mp nd).2 (by simpa using h1) (by simpa using h2) hk
theorem Qa4{kindOf:Str->Option NameKind}{x:Str}{v:Value}:∀{P:List Str} {vs:List Value} {i:Nat} {m:Str->Option Value},P.Nodup->P[i]?=some x->vs[i]?=some v->kindOf x≠some .local ->
  bindC kindOf (P.zip vs) m x=some v
 |[],_,_,_,_,h,_,_=>by simp at h
 |_::_,[],_,_,_,_,h,_=>by simp at h
 |p::P,w::vs,0,m,nd,h1,h2,hk=>by
  simp at h1 h2;subst h1;subst h2;show bindC kindOf ((p,w)::P.zip vs) m p=_;unfold bindC;rw[Qa3 λv hv=>(Tw.mp nd).1 (Ww hv).1,if_neg hk];simp
 |p::P,w::vs,i+1,m,nd,h1,h2,hk=>by
  show bindC kindOf ((p,w)::P.zip vs) m x=_;unfold bindC
  exact Qa4 (i:=i) (Tw.mp nd).2 (by simpa using h1) (by simpa using h2) hk
noncomputable def start(N:List Str)(vs:List V):St:=vs.map some++List.replicate (N.length-vs.length) none
noncomputable def Qao(CX:CXT)(P:Program)(w:World)(K:W.Frag)(mg:Str->Option Value)(base:Heap)(N:List Str)(qual:Str)(scope:Scope)(f:Addr)(cd:Value)(A:Around)(outer:List Env)(s:Shared)(H:Hp)(E:XK):Cx where
 prog:=P
 w:=w
 K:=K
 mg:=mg
 base:=base
 A:=A.deeper (envOfC qual scope s.heap.objs.size f cd)
 N:=N
 s₀:=s
 H₀:=H
 env:=envOfC qual scope s.heap.objs.size f cd
 outer:=outer
 stack:=envOfC qual scope s.heap.objs.size f cd::outer
 ex:=[]
 calm:=true
 fn:=λz=>true
 pn:=[]
 xe:=λe s'=>wpAny (model P w) (A.deeper (envOfC qual scope s.heap.objs.size f cd)) (leaving (envOfC qual scope s.heap.objs.size f cd) e) (λz s''=>CX outer H s E e s'') (λe' s''=>CX outer H s E e' s'') s'
def Qci{sc:Scope}{n:Nat}(h:sc.names.lookup x=some .cell):∃c,(cellsFrom n sc.names []).lookup x=some c:=by
 have q:=W.cellsFrom_some sc.names n [] (.inl h);exact Wy.mp q
def QaP{CX:CXT}{K:W.Frag}{N:List Str}{qual:Str}{scope:Scope}{cd:Value}{outer:List Env}{s1:Shared}{E:XK}
  (S:FnScope N ps scope) (hd:A.handled=none) (e0:Env0 P w K mg base A outer s H) (hl:vs.length=ps.length) (r:Vals vs us)
  (x:InCallC s s.heap.objs.size (bindL (envOfC qual scope s.heap.objs.size f cd).kindOf (ps.zip us) λt=>none) (cellsFrom (s.heap.objs.size+1) scope.names []) (bindC (envOfC qual scope s.heap.objs.size f cd).kindOf (ps.zip us) λt=>none) s1):
  Inv (Qao CX P w K mg base N qual scope f cd A outer s H E) [] (start N vs) H s1:=by
 have hpl:ps.length<=N.length:=by have:=congrArg List.length S.pre;rw[Vz]at this;omega
 obtain⟨h1,tk,rfl,hk⟩:=x.done
 have noA:∀b:Addr,b∉(Qao CX P w K mg base N qual scope f cd A outer s H E).ex:=λb z=>absurd (show b∈([]:List Addr)from z) (by simp)
 refine⟨⟨e0.mod,S.kind,rfl,rfl,Xi _,λy z c h1 h2=>?_,λy hy=>?_,λy c t h=>?_,λt=>hd,Around.frames_deeper e0.frames,.inr ⟨rfl,rfl⟩,λb z=>absurd z (noA b),e0.bs,e0.bsz,λb t t=>noA b,λb z=>absurd z (noA b),e0.funs,e0.frf⟩,
  rfl,e0.bare,Un.kept hk,⟨_,x.toInCall.ns,λi y v h1 h2 h3=>?_⟩,λy c h=>⟨_,x.cell y c h⟩,e0.hok.fresh (Xi _),λy c h=>?_,λp hp=>absurd (show p∈([]:List (Addr×Obj))from hp) (by simp),e0.hok.kept hk,?_⟩
 ·exact name_of_addr x.apart (Ul h1) (Ul h2)
 ·have hy:scope.names.lookup y=some .cell\/scope.names.lookup y=some .free:=hy
  rcases hy with hy|hy
  ·exact Qci hy
  ·exact absurd rfl (S.nofree _ (Ul hy))
 ·exact Nat.le_of_lt (x.above y c (Ul h))
 ·have hi:i<vs.length:=by
   unfold start at h2;by_cases hi:i<vs.length
   ·exact hi
   ·rw[Wi (by simpa using hi)]at h2
    rw[Th]at h2;split at h2<;>cases h2
  have ha:vs[i]?=some v:=by
   unfold start at h2
   rw[X4 (by simpa using hi),Ui]at h2
   cases e:vs[i]? with
   |none=>rw[e]at h2;cases h2
   |some a=>rw[e]at h2;cases h2;rfl
  obtain⟨u,hu,rv⟩:=r.get ha
  have hp:ps[i]?=some y:=by
   rw[<-S.pre,List.getElem?_take_of_lt (by omega)];exact h1
  have ndP:ps.Nodup:=by rw[<-S.pre];exact S.nd.sublist (List.take_sublist _ _)
  refine⟨u,rv,?_⟩
  rcases S.par y (X2 hp)with k|k
  ·exact .inl ⟨k,Qa2 ndP hp hu k⟩
  ·obtain⟨c,e⟩:=Qci (n:=s.heap.objs.size+1) k;refine .inr ⟨.inl k,c,e,?_⟩;have q:=x.cell y c e
   rw[Qa4 ndP hp hu (by show scope.names.lookup y≠_;rw[k];decide)]at q
   exact q
 ·exact e0.hok.fresh (Nat.le_of_lt (x.above y c (Ul h)))
 ·unfold start;show _=N.length;rw[Wn,Xq,Tq];omega
def Qi0{CX:CXT}{K:W.Frag}{name qual:Str}{params:Arguments}{body:List Stmt}{scope:Scope}{dV kV doc pm cdv ct oc:Value}{an od:Option Addr}
  {osl:Array (Option Value)} {N:List Str} {sp:Sp} (lk:K.lookup f=some ⟨oc,od,.func (W.fnOf name qual params body scope dV kV doc pm an cdv ct),osl⟩) (hcd:W.codeIn K cdv qual=true) (S:FnScope N ps scope)
  (len:∀vs H Q E,sp vs H Q E->vs.length=ps.length)
  (hbody:∀(A:Around) (outer:List Env) (s:Shared) (H:Hp) (vs:List V) (Q:VK) (E:XK),Room k (A.deeper (envOfC qual scope s.heap.objs.size f cdv))->sp vs H Q E ->
   ∃t,PSs (Qao CX P w K mg base N qual scope f cdv A outer s H E) body t/\t {nx:=λz H'=>Q .non H',rt:=Q} (start N vs) H):
  FnOk P w K mg base CX (k+1) f (W.fnOf name qual params body scope dV kV doc pm an cdv ct) ps sp:=by
 refine⟨len,λA outer s H args us vs Q E hr e0 hb r hsp=>?_⟩;have hl:=len _ _ _ _ hsp;have KX:K.In s.heap:=e0.mod.kin.keeps λb o e=>(e0.bs b o e).1;have lim:s.heap.NoLimit:=e0.mod.nolimit.keeps λb o e=>(e0.bs b o e).1
 have hkind:∀y∈ps.zip us,scope.names.lookup y.1=some .local\/(scope.names.lookup y.1=some .cell/\((cellsFrom (s.heap.objs.size+1) scope.names []).lookup y.1).isSome=true):=λp hy=>by
  obtain⟨n,v⟩:=p
  rcases S.par n (Ww hy).1 with q|q
  ·exact .inl q
  ·exact .inr ⟨q,W.cellsFrom_some _ _ _ (.inl q)⟩
 refine codeAny_call_function hr.depth (KX _ _ lk) rfl S.co S.gen rfl (W.codeRec_of KX hcd) (hb _ _ _ _ ?_);refine wpAny_newFunctionEnv_cells S.kind hkind λenv he s1 x=>?_;subst he;refine⟨lim.keeps x.toInCall.keep,codeAny_func ?_⟩;obtain⟨t,ht,hq⟩:=hbody A outer s H vs Q E (hr.deeper _) hsp;have I:Inv (Qao CX P w K mg base N qual scope f cdv A outer s H E) [] (start N vs) H s1:=QaP S hr.hd e0 hl r x;refine Xo (ht [] s1 (start N vs) H _ I hq) (λfl s' hs=>?_) λe s' hs=>hs
 have fin:∀{Y':St} {H':Hp} {v:V} {u:Value},Inv (Qao CX P w K mg base N qual scope f cdv A outer s H E) [] Y' H' s'->RelV v u->Q v H'->CE outer P w H s Q u s' :=
  λ{Y' H' v u} J rv q=>⟨v,H',J.os,J.bare,J.base,J.hok,rv,q⟩
 cases fl with
 |ret u=>
  obtain⟨v,Y',H',J,rv,q⟩:=hs;exact fin J rv q
 |next=>
  obtain⟨Y',H',J,q⟩:=hs;exact fin (v:=V.non) (u:=Value.none) J rfl q
 |brk=>
  obtain⟨_,_,_,q⟩:=hs;exact False.elim q
 |cont=>
  obtain⟨_,_,_,q⟩:=hs;exact False.elim q
end
section
section
variable {X:Cx}{x:Str}{p pos:Pos}{e:Expr}{es:List Expr}{t:TA}{id T:String}{r:List V->Hp->VK->Prop}
def tCB(r:List V->Hp->VK->Prop)(t:TA):TE:=λY H Q=>t Y H λvs H1=>r vs H1 Q
def YL(hc:CallR X (.builtin id) r)(hg:Gl X x)(hm:X.mg x=none)(hv:bootBuiltins x=some (.builtin id))(ha:PA X (e::es) t)(hn:x≠"__name__":=by decide)(hdb:(x==("__debug__":Str))=false:=by decide)
  (he:starEach (e::es) X.env=(false,eval e X.env)::starEach es X.env:=by rfl) (hpl:(backTo pos (starEach es X.env)).any (·.1)=false:=by rfl):PE X (.Call (.Name x p) (e::es) [] pos) (tCB r t):=by
 intro pins s Y H Q I h;refine X8 (Yc I hg hm hv ?_ hn hdb);exact PyProof.Rows.callWith_builtin1 (thn (ha pos pins s Y H _ I h) λus s1 z=>by obtain⟨vs,H1,I1,r1,q1⟩:=z;exact hc pins s1 Y H1 vs us Q I1 r1 q1) he hpl
def QaD(hc:CallR X (.type T) r)(hg:Gl X x)(hm:X.mg x=none)(hv:bootBuiltins x=some (.type T))(ha:PA X (e::es) t)(hn:x≠"__name__":=by decide)(hdb:(x==("__debug__":Str))=false:=by decide)
  (he:starEach (e::es) X.env=(false,eval e X.env)::starEach es X.env:=by rfl) (hpl:(backTo pos (starEach es X.env)).any (·.1)=false:=by rfl):PE X (.Call (.Name x p) (e::es) [] pos) (tCB r t):=by
 intro pins s Y H Q I h;refine X8 (Yc I hg hm hv ?_ hn hdb);exact W3 (thn (ha pos pins s Y H _ I h) λus s1 z=>by obtain⟨vs,H1,I1,r1,q1⟩:=z;exact hc pins s1 Y H1 vs us Q I1 r1 q1) he hpl
end
end
end L2
namespace HT
open PySem PyProof.Rows
section
open PySem.SeqAt
open PySem.AutoSeq1 (wpAny_loadPart')
open PySem.MeetsSeq PySem.MeetsSeq2 PySem.MeetsSeq3
end
section
variable {prog:Program}{w:World}{A:Around}{E:Value->Shared->Prop}{s:Shared}
noncomputable def sIx(n d:Nat):Option Int->Nat
 |none=>d
 |some v=>if v<0 then(v+(n:Int)).toNat else min v.toNat n
def Qko(n d:Nat)(hd:d<=n)(o:Option Int):sIx n d o<=n:=by
 cases o with
 |none=>exact hd
 |some v=>
  show(if v<0 then(v+(n:Int)).toNat else min v.toNat n)<=n;by_cases hv:v<0
  ·rw[if_pos hv];omega
  ·rw[if_neg hv];exact Nat.min_le_right _ _
def Qes(v:Int)(n d:Nat):(if v<0 then max (v+(n:Int)) 0 else min v (n:Int))=((sIx n d (some v):Nat):Int):=by
 show(if v<0 then max (v+(n:Int)) 0 else min v (n:Int))=(((if v<0 then(v+(n:Int)).toNat else min v.toNat n):Nat):Int);by_cases hv:v<0
 ·simp only[if_pos hv];omega
 ·simp only[if_neg hv];omega
def QcP(lo hi:Option Int)(n:Nat):Builtin.Slice.sliceAdjust lo hi 1 (n:Int)=(((sIx n 0 lo:Nat):Int),((sIx n n hi:Nat):Int)):=by
 have h1:¬((1:Int) < 0):=by omega
 unfold Builtin.Slice.sliceAdjust;simp only[h1,Vn];refine Prod.ext ?_ ?_
 ·cases lo with
  |none=>rfl
  |some v=>exact Qes v n 0
 ·cases hi with
  |none=>rfl
  |some v=>exact Qes v n n
def Qcw(i j:Nat):Builtin.Slice.slicePlaces (i:Int) (j:Int) 1=j-i:=by
 unfold Builtin.Slice.slicePlaces
 have h1:(1:Int) > 0:=by omega
 simp only[h1,Wg,Int.ediv_one];split<;>omega
def JA{v:Value}{o:Option Int}{Q:Option Int->Shared->Prop}(p:IsPart v o)(h:Q o s):wpAny (model prog w) A (Builtin.Slice.slicePartIndex v) Q E s:=by
 cases p with
 |none=>exact slicePart_none h
 |int i t=>exact slicePart_int h
def YD{sl:Addr}{vl vu:Value}{lo hi:Option Int}{n:Nat}{Q:Int×Int×Nat->Shared->Prop}(hs:s.heap.IsSliceOf sl vl vu .none)(pl:IsPart vl lo)(pu:IsPart vu hi)
  (h:Q (((sIx n 0 lo:Nat):Int),1,sIx n n hi-sIx n 0 lo) s):wpAny (model prog w) A (Builtin.Slice.sliceApplied (.ref sl) (pure (n:Int))) Q E s:=by
 obtain⟨os,hos,hcs,hds⟩:=id hs;unfold Builtin.Slice.sliceApplied Builtin.Slice.sliceFields;refine Xa (Xa (Wl hos hds (x:=vl) rfl (Xa (Wl hos hds (x:=vu) rfl (Xa (Wl hos hds (x:=.none) rfl (Xf ?_)))))));refine Xa (slicePart_none ?_);show wpAny _ _ (if((1:Int)==0)=true then _ else _) _ _ s
 rw[if_neg (by decide)]
 refine Xa (JA pl (Xa (JA pu (Xa (Xf ?_)))))
 show wpAny _ _ (match Builtin.Slice.sliceAdjust lo hi 1 (n:Int)with|(lo,hi)=>pure (lo,(1:Int),Builtin.Slice.slicePlaces lo hi 1)) _ _ s
 rw[QcP lo hi n];show wpAny _ _ (pure (((sIx n 0 lo:Nat):Int),(1:Int),Builtin.Slice.slicePlaces ((sIx n 0 lo:Nat):Int) ((sIx n n hi:Nat):Int) 1)) _ _ s;rw[Qcw];exact Xf h
def Qfs(xs:Array Value)(i k:Nat):((List.range k).filterMap λ(m:Nat)=>xs[((i:Int)+(m:Int)*1).toNat]?).toArray=((xs.toList.drop i).take k).toArray:=by
 have e:(λ(m:Nat)=>xs[((i:Int)+(m:Int)*1).toNat]?)=λm=>xs[i+m]?:=by
  funext m
  have:((i:Int)+(m:Int)*1).toNat=i+m:=by omega
  rw[this]
 rw[e];have:=pick_run xs i k;rw[List.filterMap_map]at this;have e2:((λx=>xs[x]?)∘λx=>i+x)=λm=>xs[i+m]?:=rfl;rw[e2]at this;rw[this]
def getItem_tuple_cut{t sl:Addr}{items:Array Value}{vl vu:Value}{lo hi:Option Int}{Q:Value->Shared->Prop}(ht:IsTup s.heap t items)(hs:s.heap.IsSliceOf sl vl vu .none)(pl:IsPart vl lo)(pu:IsPart vu hi)
  (hw:¬(sIx items.size 0 lo=0/\sIx items.size items.size hi=items.size))
  (h:Q (.ref s.heap.objs.size) {s with heap:=s.heap.push {cls:=.type "tuple",data:=.seq ((items.toList.drop (sIx items.size 0 lo)).take (sIx items.size items.size hi-sIx items.size 0 lo)).toArray} })
  (hsz:items.size<=sizeLine):wpAny (model prog w) A (getItem (.ref t) (.ref sl)) Q E s:=by
 have htake:sizeOk (.seq ((items.toList.drop (sIx items.size 0 lo)).take (sIx items.size items.size hi-sIx items.size 0 lo)).toArray):=by
  show((items.toList.drop (sIx items.size 0 lo)).take (sIx items.size items.size hi-sIx items.size 0 lo)).toArray.size<=sizeLine;rw[Xv,Vz,V7,Vl];omega
 have hj:sIx items.size items.size hi<=items.size:=Qko _ _ (Xi _) hi;obtain⟨os,hos,hcs,hds⟩:=id hs;have hTs:s.TypeIs (.ref sl) "slice":=⟨os,hos,hcs⟩;unfold getItem
 try with_reducible refine Wh ?_
 first|refine Xa (Xf ?_)|skip
 refine Xa (wpAny_sequenceKey ht.typeIs (by decide) ?_)
 refine Xa (V6 (name:=Str.ofString "__getitem__") ht.typeIs Um
  (Uz Um ht.typeIs entry_tuple_getitem ?_ (args_tuple_getitem _ _)))
 show wpAny _ _ (Builtin.Tuple.tupleItemsOf (.ref t) >>= _) _ _ s;refine Xa (tupleItemsOf_ ht ?_);refine Xa (wpAny_typeOf hTs ?_)
 rw[if_pos (by decide)]
 refine Xa (YD hs pl pu ?_)
 have hno:¬((((sIx items.size 0 lo:Nat):Int)==0&&(1:Int)==1&&(sIx items.size items.size hi-sIx items.size 0 lo)==items.size)=true):=by
  intro q;rw[Xe,Xe]at q;have q1:((sIx items.size 0 lo:Nat):Int)=0:=eq_of_beq q.1.1;have q2:sIx items.size items.size hi-sIx items.size 0 lo=items.size:=eq_of_beq q.2
  exact hw ⟨by omega,by omega⟩
 show wpAny _ _ (if(((sIx items.size 0 lo:Nat):Int)==0&&(1:Int)==1&&(sIx items.size items.size hi-sIx items.size 0 lo)==items.size)=true then _ else _) _ _ s;rw[if_neg hno,Qfs]
 first
  |exact Xa (m:=Builtin.Tuple.tupleExact _) (Ws (Xf ⟨_,rfl,Xf h⟩) htake)
  |exact Xa (m:=Builtin.Tuple.tupleExact _) (Ws (Xa (Xf (Xf ⟨_,rfl,Xf h⟩))) htake)
  |exact Xa (Xa (m:=Builtin.Tuple.tupleExact _) (Ws (Xf (Xf ⟨_,rfl,Xf h⟩)) htake))
  |exact Xa (Xa (m:=Builtin.Tuple.tupleExact _) (Ws (Xf ⟨_,rfl,Xf h⟩) htake))
end
end HT
namespace L2
open PySem PySem.Spec PyProof.Rows
section
abbrev TO:=St->Hp->(Option Int->Hp->Prop)->Prop
noncomputable def PO(X:Cx)(e:Option Expr)(t:TO):Prop :=
 ∀(pins:List (Addr×Obj)) (s:Shared) (Y:St) (H:Hp) (Q:Option Int->Hp->Prop),Inv X pins Y H s->t Y H Q ->
  wpAny (model X.prog X.w) X.A (evalPart e X.env) (λu s'=>∃o H',Inv X pins Y H' s'/\IsPart u o/\Q o H') X.xe s
def Qhz:TO:=λz H Q=>Q none H
def QmX(t:TE):TO:=λY H Q=>t Y H λx H1=>∃i,x=.int i/\Q (some i) H1
def JJ:∀{us:List Value},Vals (ns.map V.int) us->IntsAre us ns:=by
 induction ns with
 |nil=>intro us r;rw[List.map_nil]at r;cases r;exact .nil
 |cons n ns ih=>
  intro us r;rw[Vw]at r
  cases r with
  |cons r1 r2=>
   obtain⟨t,e⟩:=r1;subst e;exact .cons n t (ih r2)
section
variable {X:Cx}{e:Expr}{te:TE}{lo hi:Option Expr}{tl th:TO}{pos p2:Pos}
def Qh8:PO X none Qhz:=by
 intro pins s Y H Q I h;rw[evalPart_none];exact Xf ⟨none,H,I,.none,h⟩
def Qh7(h:PE X e te):PO X (some e) (QmX te):=by
 intro pins s Y H Q I hw;rw[evalPart_some];refine thn (h pins s Y H _ I hw) λu s1 z=>?_;obtain⟨x,H1,I1,r1,q1⟩:=z;obtain⟨i,rfl,q⟩:=q1;obtain⟨t,rfl⟩:=r1;exact⟨some i,H1,I1,.int i t,q⟩
noncomputable def SlR(X:Cx)(r:V->Option Int->Option Int->Hp->VK->Prop):Prop :=
 ∀(pins:List (Addr×Obj)) (s:Shared) (Y:St) (H:Hp) (x:V) (v vl vu:Value) (lo hi:Option Int) (sl:Addr) (Q:VK),Inv X pins Y H s->RelV x v->s.heap.IsSliceOf sl vl vu .none->IsPart vl lo->IsPart vu hi->r x lo hi H Q ->
  ∃T id,typeLookup (.type T) "__getitem__"=pure (some (.builtin id))/\s.TypeIs v T/\wpAny (model X.prog X.w) X.A (getItem v (.ref sl)) (EP X pins Y Q) X.xe s
def SlR.or(h:SlR X r)(h':SlR X r'):SlR X (λx lo hi H Q=>r x lo hi H Q\/r' x lo hi H Q):=by
 intro pins s Y H x v vl vu lo hi sl Q I rx hs pl pu q
 rcases q with q|q
 ·exact h pins s Y H x v vl vu lo hi sl Q I rx hs pl pu q
 ·exact h' pins s Y H x v vl vu lo hi sl Q I rx hs pl pu q
def tSl(r:V->Option Int->Option Int->Hp->VK->Prop)(te:TE)(tl th:TO):TE:=λY H Q=>te Y H λx H1=>tl Y H1 λl H2=>th Y H2 λu H3=>r x l u H3 Q
def Qft(hr:SlR X r)(he:PE X e te)(hl:PO X lo tl)(hu:PO X hi th):PE X (.Subscript e (.Slice lo hi none p2) pos) (tSl r te tl th):=by
 intro pins s Y H Q I h;refine Subscript_ (thn (he pins s Y H _ I h) λv s1 z=>?_);obtain⟨x,H1,I1,r1,q1⟩:=z;refine wpAny_Slice (thn (hl pins s1 Y H1 _ I1 q1) λvl s2 ⟨l,H2,I2,pl,q2⟩=>thn (hu pins s2 Y H2 _ I2 q2) λvu s3 y=>?_);obtain⟨u,H3,I3,pu,q3⟩:=y;rw[evalPart_none];refine Xf ?_;have I4:Inv X pins Y H3 {s3 with heap:=s3.heap.push {cls:=.type "slice",data:=.fields #[vl,vu,.none]} }:=I3.kept (t':=s3.toks) λb ob q=>Xd _ q;obtain⟨T,id,hT,ht,hg⟩:=hr pins {s3 with heap:=s3.heap.push {cls:=.type "slice",data:=.fields #[vl,vu,.none]} } Y H3 x v vl vu l u s3.heap.objs.size Q I4 r1 (Heap.IsSliceOf.new ..) pl pu q3;show wpAny (model X.prog X.w) X.A (subscriptTail e (.Slice lo hi none p2) v (.ref s3.heap.objs.size)) (EP X pins Y Q) X.xe {s3 with heap:=s3.heap.push {cls:=.type "slice",data:=.fields #[vl,vu,.none]} }
 exact tail_any (ops:=[.ref s3.heap.objs.size,v]) ht hT hg (by with_unfolding_all rfl)
noncomputable def Qg9(xs:List V)(lo hi:Option Int):List V:=(xs.drop (HT.sIx xs.length 0 lo)).take (HT.sIx xs.length xs.length hi-HT.sIx xs.length 0 lo)
def Jg(xs:List V)(lo hi:Option Int):(Qg9 xs lo hi).length<=xs.length:=by
 unfold Qg9;rw[Vz,V7];omega
def QoR(K:W.Frag):V->Option Int->Option Int->Hp->VK->Prop:=λx lo hi H Q=>∃a xs,x=.ref a/\SqT K H a xs /\
 ¬(HT.sIx xs.length 0 lo=0/\HT.sIx xs.length xs.length hi=xs.length)/\∀p,H p=none->Q (.ref p) (upd H p (.tup (Qg9 xs lo hi)))
def Qj7:SlR X (QoR X.K):=by
 intro pins s Y H x v vl vu lo hi sl Q I rx hs pl pu h;obtain⟨a,xs,rfl,hx,hw,q⟩:=h;cases rx;obtain⟨its,r,ht,hz⟩:=I.tuple hx
 have hlen:its.toArray.size=xs.length:=by rw[Xv];exact r.length.symm
 refine⟨"tuple",_,Um.lookup,ht.typeIs,?_⟩
 refine HT.getItem_tuple_cut ht hs pl pu (by rw[hlen];exact hw) ?_ (by rw[hlen];exact hz)
 rw[hlen];refine⟨.ref s.heap.objs.size,_,I.laid (t':=s.toks) (o:=.tup (Qg9 xs lo hi)) (λb ob q=>Xd _ q) (Xi _) ?_,rfl,q _ (I.hok.fresh (Xi _))⟩;exact⟨X7 (Jg xs lo hi) hz,_,(r.drop (HT.sIx xs.length 0 lo)).take (HT.sIx xs.length xs.length hi-HT.sIx xs.length 0 lo),IsTup.new _ _⟩
end
end
section
variable {H:Hp}{pins:List (Addr×Obj)}{s:Shared}{Y:St}{x:V}
noncomputable def ixN(n:Nat)(i:Int):Option Nat:=if 0<=i then(if i<n then some i.toNat else none)else if -(n:Int)<=i then some (i+n).toNat else none
noncomputable def atI{α:Type}(xs:List α)(i:Int):Option α:=(ixN xs.length i).bind λj=>xs[j]?
def Qd2{n:Nat}{i:Int}{j:Nat}(h:ixN n i=some j):seqIndex? i n=some j/\j<n/\-(n:Int)<=i/\i<n:=by
 unfold ixN at h;by_cases h0:0<=i
 ·rw[if_pos h0]at h;by_cases h1:i<n
  ·rw[if_pos h1]at h;have e:i.toNat=j:=Xw h
   exact⟨by rw[seqIndex_of h0 h1,e],by omega,by omega,h1⟩
  ·rw[if_neg h1]at h;cases h
 ·rw[if_neg h0]at h;by_cases h1:-(n:Int)<=i
  ·rw[if_pos h1]at h;have e:(i+n).toNat=j:=Xw h
   exact⟨by rw[seqIndex_neg (by omega) h1,e],by omega,h1,by omega⟩
  ·rw[if_neg h1]at h;cases h
def QbF{α:Type}{xs:List α}{i:Int}{v:α}(h:atI xs i=some v):∃j,seqIndex? i xs.length=some j/\xs[j]?=some v/\j<xs.length/\-(xs.length:Int)<=i/\i<xs.length:=by
 unfold atI at h
 cases e:ixN xs.length i with
 |none=>rw[e]at h;cases h
 |some j=>
  rw[e]at h;obtain⟨h1,h2,h3,h4⟩:=Qd2 e;exact⟨j,h1,h,h2,h3,h4⟩
def QeK(b:Expr):Prop:=∀o i,subscripted b false o i=operate [o,i] (getItem o i)
noncomputable def IxR(X:Cx)(r:R2):Prop :=
 ∀(value slice:Expr) (pins:List (Addr×Obj)) (s:Shared) (Y:St) (H:Hp) (x y:V) (v u:Value) (Q:VK),Inv X pins Y H s->RelV x v->RelV y u->r x y H Q ->
  subscripted slice false v u=operate [v,u] (getItem v u)->wpAny (model X.prog X.w) X.A (subscriptTail value slice v u) (EP X pins Y Q) X.xe s
noncomputable def MtR(X:Cx)(id:String)(r:V->List V->Hp->VK->Prop):Prop :=
 ∀(pins:List (Addr×Obj)) (s:Shared) (Y:St) (H:Hp) (x:V) (xs:List V) (v:Value) (us:List Value) (Q:VK),Inv X pins Y H s->RelV x v->Vals xs us->r x xs H Q ->
  wpAny (model X.prog X.w) X.A (call (.builtin id) (v::us)) (EP X pins Y Q) X.xe s
section
variable {X:Cx}{a b:Expr}{ta tb:TE}{pos:Pos}
def IxR.or(h:IxR X r)(h':IxR X r'):IxR X (λx y H Q=>r x y H Q\/r' x y H Q):=by
 intro value slice pins s Y H x y v u Q I rx ry q hs
 rcases q with q|q
 ·exact h value slice pins s Y H x y v u Q I rx ry q hs
 ·exact h' value slice pins s Y H x y v u Q I rx ry q hs
def Qnx{r:R2}(hr:IxR X r)(ha:PE X a ta)(hb:PE X b tb)(hs:QeK b):PE X (.Subscript a b pos) (tOp r ta tb):=by
 intro pins s Y H Q I h;exact Subscript_ (Qoo ha hb I h λv u s2 x y H2 I2 rx ry q=>hr a b pins s2 Y H2 x y v u Q I2 rx ry q (hs _ _))
def QoW(K:W.Frag):R2:=λx y H Q=>∃p xs i v,x=.ref p/\y=.int i/\SqL K H p xs/\atI xs i=some v/\Q v H
def QoU(K:W.Frag):R2:=λx y H Q=>∃p xs i v,x=.ref p/\y=.int i/\SqT K H p xs/\atI xs i=some v/\Q v H
def QoV:R2:=λx y H Q=>∃z i c,x=.str z/\y=.int i/\z.length<=sizeLine/\atI z.cps.toList i=some c/\Q (.str ⟨#[c]⟩) H
def ix_list:IxR X (QoW X.K):=by
 intro value slice pins s Y H x y v u Q I rx ry h hs;obtain⟨p,xs,i,z,rfl,rfl,hq,he,q⟩:=h;cases rx;obtain⟨t,rfl⟩:=ry;obtain⟨its,r,pl,hz⟩:=I.list hq;obtain⟨j,h1,h2,h3,h4,h5⟩:=QbF he;obtain⟨w,ew,rw'⟩:=r.get h2;have hl:=r.length;have hn:=Y9;have fin:EP X pins Y Q w s:=⟨z,H,I,rw',q⟩;by_cases h0:0<=i
 ·have hj:i.toNat=j:=by
   rw[seqIndex_of h0 h5]at h1;exact Xw h1
  exact item_listR pl.isList h0 (by omega) (by rw[hj];simpa using ew) fin hs
 ·have hj:(i+(its.toArray.size:Int)).toNat=j:=by
   rw[seqIndex_neg (by omega) h4]at h1
   rw[Xv,<-hl];exact Xw h1
  exact subscriptTail_builtinR (x:=w) pl.isList.typeIs slot_list_getitem.lookup
   (wpAny_getItem_list_neg (Q:=λr s'=>r=w/\EP X pins Y Q r s') pl.isList (by omega) (by rw[Xv]<;>omega) (by omega) (by rw[hj];simpa using ew) ⟨rfl,fin⟩) hs
def ix_tup:IxR X (QoU X.K):=by
 intro value slice pins s Y H x y v u Q I rx ry h hs;obtain⟨p,xs,i,z,rfl,rfl,hq,he,q⟩:=h;cases rx;obtain⟨t,rfl⟩:=ry;obtain⟨its,r,pl,hz⟩:=I.tuple hq;obtain⟨j,h1,h2,h3,h4,h5⟩:=QbF he;obtain⟨w,ew,rw'⟩:=r.get h2;have hl:=r.length;have hn:=Y9;have fin:EP X pins Y Q w s:=⟨z,H,I,rw',q⟩
 exact subscriptTail_builtinR (x:=w) pl.typeIs slot_tuple_getitem.lookup
  (getItem_tuple (j:=j) (Q:=λr s'=>r=w/\EP X pins Y Q r s') pl (by omega) (by omega) (by rw[Xv,<-hl];exact h1) (by simpa using ew) ⟨rfl,fin⟩) hs
def Qlp:IxR X QoV:=by
 intro value slice pins s Y H x y v u Q I rx ry h hs;obtain⟨z,i,c,rfl,rfl,hz,he,q⟩:=h;obtain⟨t,rfl⟩:=rx;obtain⟨t',rfl⟩:=ry;obtain⟨j,h1,h2,h3,h4,h5⟩:=QbF he
 have hl:z.cps.toList.length=z.length:=by simp[Str.length]
 rw[hl]at h1 h4 h5;have hn:=Y9
 exact tail_any (typeIs_str s z t) slot_str_getitem.lookup (getItem_str (c:=c) (by
  have e1:decide (i < -(2 ^ 63:Int))=false:=X6 (by omega)
  have e2:decide (i≥2 ^ 63)=false:=X6 (by omega)
  rw[e1,e2,Bool.or_false]) (by rw[h1];simpa using h2) ⟨.str ⟨#[c]⟩,H,I.tok _,⟨_,rfl⟩,q⟩) hs
def rIx(K:W.Frag):R2:=λx y H Q=>QoW K x y H Q\/QoU K x y H Q\/QoV x y H Q
def ix_seq:IxR X (rIx X.K):=ix_list.or (ix_tup.or Qlp)
def QcD(its:List Value)(n j:Nat)(u:Value):Obj.mapSeq (·.setIfInBounds j u) {cls:=.type "list",data:=.seq its.toArray n}={cls:=.type "list",data:=.seq (its.set j u).toArray n}:=by
 simp[Obj.mapSeq]
theorem Inv.lst{p:Addr}{xs:List V}(I:Inv X pins Y H s)(h:H p=some (.lst xs)):
  ∃(its:List Value) (n:Nat),Vals xs its/\s.heap.get? p=some {cls:=.type "list",data:=.seq its.toArray n}/\xs.length<=sizeLine:=by
 obtain⟨z,its,n,r,e⟩:=I.hok p _ h;exact⟨its,n,r,e,z⟩
def Inv.lstUpd{p:Addr}{xs ys:List V}{its its':List Value}{n n':Nat}{f:Obj->Obj}(I:Inv X pins Y H s)(h:H p=some (.lst xs))
  (ho:s.heap.get? p=some {cls:=.type "list",data:=.seq its.toArray n}) (hf:f {cls:=.type "list",data:=.seq its.toArray n}={cls:=.type "list",data:=.seq its'.toArray n'}) (r:Vals ys its') (hz:ys.length<=sizeLine) (t:Nat):
  Inv X pins Y (upd H p (.lst ys)) {s with heap:=s.heap.update p f,toks:=t}:=by
 have e:(s.heap.update p f).get? p=some {cls:=.type "list",data:=.seq its'.toArray n'}:=by
  rw[Wz f ho (by rw[hf]<;>rfl),hf]
 refine I.write (x:=p) (e:=p) (by rw[h];trivial) (.inl rfl) (λb u hb q=>(Wo _ _ (Wr hb)).trans q) ⟨_,e⟩ ?_
 exact⟨hz,its',n',r,e⟩
def Qnk:V->V->V->Hp->(Hp->Prop)->Prop:=λo i v H Q=>∃p xs k j,o=.ref p/\i=.int k/\H p=some (.lst xs)/\ixN xs.length k=some j/\Q (upd H p (.lst (xs.set j v)))
def Qff:Qju X Qnk:=by
 intro pins s Y H o i v ov iv u Q I ro ri rv h;obtain⟨p,xs,k,j,rfl,rfl,hp,hj,q⟩:=h;cases ro;obtain⟨t,rfl⟩:=ri;obtain⟨its,n,r,ho,hz⟩:=I.lst hp;obtain⟨h1,h2,h3,h4⟩:=Qd2 hj;have hl:=r.length;have hn:=Y9
 have I':Inv X pins Y (upd H p (.lst (xs.set j v))) {s with heap:=s.heap.update p (Obj.mapSeq (·.setIfInBounds j u))}:=
  I.lstUpd hp ho (QcD its n j u) (r.set rv j) (by rw[List.length_set];exact hz) s.toks
 by_cases h0:0<=k
 ·have hk:k.toNat=j:=by
   rw[seqIndex_of h0 h4]at h1;exact Xw h1
  exact W.ki_setAt ho h0 (by omega) (by rw[Xv,<-hl];exact h4) (by rw[hk];exact⟨_,I',q⟩)
 ·have hk:(k+(its.toArray.size:Int)).toNat=j:=by
   rw[seqIndex_neg (by omega) h3]at h1
   rw[Xv,<-hl];exact Xw h1
  exact W.ki_setBack ho (by omega) (by rw[Xv,<-hl];exact h3) (by omega) (by rw[hk];exact⟨_,I',q⟩)
def QaA(lo hi:Option Int)(n:Nat):(sliceBounds lo hi none n).1=((HT.sIx n 0 lo:Nat):Int)/\(sliceBounds lo hi none n).2.1=((HT.sIx n n hi:Nat):Int)/\(sliceBounds lo hi none n).2.2=1:=by
 refine⟨?_,?_,rfl⟩
 ·cases lo with
  |none=>simp[sliceBounds,HT.sIx]
  |some i=>
   simp only[sliceBounds,HT.sIx,Option.getD_none,show(1:Int) > 0 by decide,Wg]
   by_cases h:i<0
   ·simp only[h,Wg]<;>omega
   ·simp only[h,Vn]<;>omega
 ·cases hi with
  |none=>simp[sliceBounds,HT.sIx]
  |some i=>
   simp only[sliceBounds,HT.sIx,Option.getD_none,show(1:Int) > 0 by decide,Wg]
   by_cases h:i<0
   ·simp only[h,Wg]<;>omega
   ·simp only[h,Vn]<;>omega
def JY(its:List Value)(lo hi:Option Int):slicePick its.toArray lo hi none=((its.drop (HT.sIx its.length 0 lo)).take (HT.sIx its.length its.length hi-HT.sIx its.length 0 lo)).toArray:=by
 obtain⟨h1,h2,h3⟩:=QaA lo hi its.toArray.size;unfold slicePick;rw[h1,h2,h3];simp only[sliceRange_one,pick_run,Xv]<;>rfl
def QoS(K:W.Frag):V->Option Int->Option Int->Hp->VK->Prop:=λx lo hi H Q=>∃a xs,x=.ref a/\SqL K H a xs/\∀p,H p=none->Q (.ref p) (upd H p (.lst (Qg9 xs lo hi)))
def sl_list:SlR X (QoS X.K):=by
 intro pins s Y H x v vl vu lo hi sl Q I rx hs pl pu h;obtain⟨a,xs,rfl,hx,q⟩:=h;cases rx;obtain⟨its,r,ht,hz⟩:=I.list hx;have hlen:=r.length;refine⟨"list",_,slot_list_getitem.lookup,ht.isList.typeIs,?_⟩
 refine wpAny_getItem_list_slice ht.isList hs pl pu .none (by simp) ?_ (by rw[Xv]<;>omega)
 rw[JY,<-hlen];refine⟨.ref s.heap.objs.size,_,I.laid (t':=s.toks) (o:=.lst (Qg9 xs lo hi)) (λb ob q=>Xd _ q) (Xi _) ?_,rfl,q _ (I.hok.fresh (Xi _))⟩;exact⟨X7 (Jg xs lo hi) hz,_,0,(r.drop (HT.sIx xs.length 0 lo)).take (HT.sIx xs.length xs.length hi-HT.sIx xs.length 0 lo),Xu _ rfl⟩
noncomputable def Jw:V->Bool
 |.non=>true
 |.bl _=>true
 |.int _=>true
 |.str _=>true
 |_=>false
noncomputable def eqV:V->V->Bool
 |.non,.non=>true
 |.bl a,.bl b=>a==b
 |.bl a,.int b=>(if a then 1 else 0)==b
 |.int a,.bl b=>a==(if b then 1 else 0)
 |.int a,.int b=>a==b
 |.str a,.str b=>a==b
 |_,_=>false
def QlL(ry:RelV y u)(rx:RelV x v)(fy:Jw y=true)(fx:Jw x=true):SeqAt.EqAt A s u v (eqV y x):=by
 cases y with
 |non=>
  cases ry
  cases x with
  |non=>cases rx;exact SeqAt.EqAt.same _
  |bl b=>cases rx;exact SeqAt.EqAt.none_bool b
  |int b=>obtain⟨t,rfl⟩:=rx;exact SeqAt.EqAt.none_int b t
  |str b=>obtain⟨t,rfl⟩:=rx;exact SeqAt.EqAt.none_str b t
  |_=>exact absurd (show false=true from fx) Xn
 |bl a=>
  cases ry
  cases x with
  |non=>cases rx;exact SeqAt.EqAt.bool_none a
  |bl b=>cases rx;exact SeqAt.EqAt.bool_bool a b
  |int b=>obtain⟨t,rfl⟩:=rx;exact SeqAt.EqAt.bool_int a b t
  |str b=>obtain⟨t,rfl⟩:=rx;exact SeqAt.EqAt.bool_str a b t
  |_=>exact absurd (show false=true from fx) Xn
 |int a=>
  obtain⟨t',rfl⟩:=ry
  cases x with
  |non=>cases rx;exact SeqAt.EqAt.int_none a t'
  |bl b=>cases rx;exact SeqAt.EqAt.int_bool a t' b
  |int b=>obtain⟨t,rfl⟩:=rx;exact SeqAt.EqAt.int_int a t' b t
  |str b=>obtain⟨t,rfl⟩:=rx;exact SeqAt.EqAt.int_str a t' b t
  |_=>exact absurd (show false=true from fx) Xn
 |str a=>
  obtain⟨t',rfl⟩:=ry
  cases x with
  |non=>cases rx;exact SeqAt.EqAt.str_none a t'
  |bl b=>cases rx;exact SeqAt.EqAt.str_bool a t' b
  |int b=>obtain⟨t,rfl⟩:=rx;exact SeqAt.EqAt.str_int a t' b t
  |str b=>obtain⟨t,rfl⟩:=rx;exact SeqAt.EqAt.str_str a t' b t
  |_=>exact absurd (show false=true from fx) Xn
 |_=>exact absurd (show false=true from fy) Xn
noncomputable def eqU(x:V)(u:Value):Bool:=match u with
 |.none=>eqV .non x
 |.bool b=>eqV (.bl b) x
 |.int i _=>eqV (.int i) x
 |.str z _=>eqV (.str z) x
 |_=>false
def Qg6(r:RelV y u)(f:Jw y=true):eqU x u=eqV y x:=by
 cases y with
 |non=>cases r;rfl
 |bl b=>cases r;rfl
 |int i=>obtain⟨t,rfl⟩:=r;rfl
 |str z=>obtain⟨t,rfl⟩:=r;rfl
 |_=>exact absurd (show false=true from f) Xn
theorem Jn:∀{xs:List V} {us:List Value},Vals xs us->xs.all Jw=true->us.any (eqU x)=xs.any λy=>eqV y x
 |_,_,.nil,_=>rfl
 |y::xs,u::us,.cons r t,f=>by
  rw[V5,Xe]at f;rw[List.any_cons,List.any_cons,Qg6 r f.1,Jn t f.2]
theorem Yb(rx:RelV x v)(fx:Jw x=true):∀{xs:List V} {us:List Value},Vals xs us->xs.all Jw=true->∀u∈us,SeqAt.EqAt A s u v (eqU x u)
 |_,_,.nil,_=>λu hu=>by cases hu
 |y::xs,u::us,.cons r t,f=>λu' hu=>by
  rw[V5,Xe]at f
  rcases Xg.mp hu with rfl|hu
  ·rw[Qg6 r f.1];exact QlL r rx f.1 fx
  ·exact Yb rx fx t f.2 u' hu
noncomputable def inV(x:V)(xs:List V):Bool:=xs.any λy=>eqV y x
def rIn(K:W.Frag)(neg:Bool):R2:=λx y H Q=>∃p xs,y=.ref p/\(SqL K H p xs\/SqT K H p xs)/\Jw x=true/\xs.all Jw=true/\Q (.bl (if neg then !inV x xs else inV x xs)) H
def QdH:OpR X (compareOp .In) (rIn X.K false):=by
 intro pins s Y H x y v u Q I rx ry h;obtain⟨p,xs,rfl,hq,fx,fs,q⟩:=h;cases ry
 rcases hq with hq|hq
 ·obtain⟨its,r,pl,hz⟩:=I.list hq
  refine SeqAt.in_listAt (eqU x) pl.isList (λw hw=>Yb rx fx r fs w (by simpa using hw)) ⟨.bl _,H,I,rfl,?_⟩
  rw[show its.toArray.any (eqU x)=its.any (eqU x) by simp,Jn r fs]
  exact q
 ·obtain⟨its,r,pl,hz⟩:=I.tuple hq
  refine SeqAt.in_tupleAt (eqU x) pl (λw hw=>Yb rx fx r fs w (by simpa using hw)) ⟨.bl _,H,I,rfl,?_⟩
  rw[show its.toArray.any (eqU x)=its.any (eqU x) by simp,Jn r fs]
  exact q
def QaF:OpR X (compareOp .NotIn) (rIn X.K true):=by
 intro pins s Y H x y v u Q I rx ry h;obtain⟨p,xs,rfl,hq,fx,fs,q⟩:=h;cases ry
 rcases hq with hq|hq
 ·obtain⟨its,r,pl,hz⟩:=I.list hq
  refine SeqAt.notIn_listAt (eqU x) pl.isList (λw hw=>Yb rx fx r fs w (by simpa using hw)) ⟨.bl _,H,I,rfl,?_⟩
  rw[show its.toArray.any (eqU x)=its.any (eqU x) by simp,Jn r fs]
  exact q
 ·obtain⟨its,r,pl,hz⟩:=I.tuple hq
  refine SeqAt.notIn_tupleAt (eqU x) pl (λw hw=>Yb rx fx r fs w (by simpa using hw)) ⟨.bl _,H,I,rfl,?_⟩
  rw[show its.toArray.any (eqU x)=its.any (eqU x) by simp,Jn r fs]
  exact q
def QaW:CallR X (.builtin "len") (λxs H Q=>∃p ys,xs=[.ref p]/\(SqL X.K H p ys\/SqT X.K H p ys)/\Q (.int ys.length) H):= by
 intro pins s Y H xs us Q I r h;obtain⟨p,ys,rfl,hq,q⟩:=h;obtain⟨u,rfl,rx⟩:=Qaq r;cases rx;have hn:=Y9
 rcases hq with hq|hq
 ·obtain⟨its,r',pl,hz⟩:=I.list hq;have hlen:=r'.length
  exact Calls.call_len_list pl.isList (by simp only[Xv]<;>omega) ⟨.int ys.length,H,I.tok _,⟨s.toks+1,by rw[Xv,hlen]⟩,q⟩
 ·obtain⟨its,r',pl,hz⟩:=I.tuple hq;have hlen:=r'.length
  exact len_tuple pl (by simp only[Xv]<;>omega) ⟨.int ys.length,H,I.tok _,⟨s.toks+1,by rw[Xv,hlen]⟩,q⟩
def QaV:CallR X (.builtin "len") (λxs H Q=>∃z,xs=[.str z]/\z.length<=sizeLine/\Q (.int z.length) H):= by
 intro pins s Y H xs us Q I r h;obtain⟨z,rfl,hz,q⟩:=h;obtain⟨u,rfl,t,rfl⟩:=Qaq r;have hn:=Y9
 exact len_str (by omega) ⟨.int z.length,H,I.tok _,⟨_,rfl⟩,q⟩
def CallR.or(h:CallR X f r)(h':CallR X f r'):CallR X f (λxs H Q=>r xs H Q\/r' xs H Q):=by
 intro pins s Y H xs us Q I rs q
 rcases q with q|q
 ·exact h pins s Y H xs us Q I rs q
 ·exact h' pins s Y H xs us Q I rs q
def Qal:CallR X (.type "tuple") (λxs H Q=>∃p ys,xs=[.ref p]/\((SqL X.K H p ys/\∀l,H l=none->Q (.ref l) (upd H l (.tup ys)))\/(SqT X.K H p ys/\Q (.ref p) H))):= by
 intro pins s Y H xs us Q I r h;obtain⟨p,ys,rfl,h⟩:=h;obtain⟨u,rfl,rx⟩:=Qaq r;cases rx
 rcases h with⟨hq,q⟩|⟨hq,q⟩
 ·obtain⟨its,r',pl,hz⟩:=I.list hq;have hlen:=r'.length
  refine call_tuple_list pl.isList (λh' kp=>?_) (by simp only[Xv]<;>omega)
  have I1:Inv X pins Y H {s with heap:=h'}:=I.kept (t':=s.toks) kp
  have I2:Inv X pins Y (upd H h'.objs.size (.tup ys)) {s with heap:=h'.push {cls:=.type "tuple",data:=.seq its.toArray} }:=
   I1.laid (t':=s.toks) (λb o e=>Xd _ e) (Xi _) (show ObjOk X.prog X.w _ _ _ (.tup ys)from⟨hz,its,r',IsTup.new _ _⟩)
  exact⟨.ref h'.objs.size,_,I2,rfl,q _ (I1.hok.fresh (Xi _))⟩
 ·obtain⟨its,r',pl,hz⟩:=I.tuple hq;exact call_tuple_same pl ⟨.ref p,H,I,rfl,q⟩
def tyV(K:W.Frag)(T:String)(x:V)(H:Hp):Prop:=match x with
 |.str _=>T="str"
 |.int _=>T="int"
 |.ref p=>(T="list"/\∃xs,SqL K H p xs)\/(T="tuple"/\∃o,K.lookup p=some o/\o.cls=.type "tuple"/\o.dict=none) \/
   (T="dict"/\((∃kvs,H p=some (.dK kvs))\/∃kvs,H p=some (.dT kvs)))\/(T="set"/\∃S n,H p=some (.set S n))
 |_=>False
def Qgu(I:Inv X pins Y H s)(r:RelV x v)(ty:tyV X.K T x H):
  s.TypeIs v T/\∀a,v=.ref a->∃ob,s.heap.get? a=some ob/\ob.dict=none:=by
 cases x with
 |str z=>
  obtain⟨t,rfl⟩:=r;cases(show T="str" from ty);exact⟨typeIs_str s z t,λy e=>nomatch e⟩
 |int i=>
  obtain⟨t,rfl⟩:=r;cases(show T="int" from ty);exact⟨typeIs_int s i t,λy e=>nomatch e⟩
 |ref p=>
  cases r
  rcases ty with⟨rfl,xs,hq⟩|⟨rfl,o,hk,hc,hd⟩|⟨rfl,hk⟩|⟨rfl,S,n,hk⟩
  ·obtain⟨its,_,pl,_⟩:=I.list hq;refine⟨pl.isList.typeIs,λa e=>?_⟩;cases e;obtain⟨o,n,e,c,hd,_⟩:=pl;exact⟨o,e,hd⟩
  ·refine⟨⟨o,I.kIn p o hk,hc⟩,λa e=>?_⟩;cases e;exact⟨o,I.kIn _ o hk,hd⟩
  ·have z:∃o,s.heap.get? p=some o/\o.ExactDict:=by
    rcases hk with⟨kvs,hk⟩|⟨kvs,hk⟩
    ·obtain⟨_,_,_,_,o,_,_,e,ex,_⟩:=I.hok p _ hk;exact⟨o,e,ex⟩
    ·obtain⟨_,_,_,_,o,_,_,e,ex,_⟩:=I.hok p _ hk;exact⟨o,e,ex⟩
   obtain⟨o,e,ex⟩:=z;refine⟨⟨o,e,ex.1⟩,λa e2=>?_⟩;cases e2;exact⟨o,e,ex.2.1⟩
  ·obtain⟨o,_,_,_,e,ex,_⟩:=I.hok p _ hk;refine⟨⟨o,e,ex.1⟩,λa e2=>?_⟩;cases e2;exact⟨o,e,ex.2.1⟩
 |_=>exact False.elim ty
def QpL(K:W.Frag)(T:String)(r:V->List V->Hp->VK->Prop)(to:TE):TE:=λY H Q=>to Y H λx H1=>tyV K T x H1/\r x [] H1 Q
def tBM(K:W.Frag)(T:String)(r:V->List V->Hp->VK->Prop)(to:TE)(t:TA):TE:=λY H Q=>to Y H λx H1=>tyV K T x H1/\t Y H1 λxs H2=>r x xs H2 Q
variable {o e:Expr}{es:List Expr}{to:TE}{t:TA}{name:Str}{apos cpos:Pos}{T id:String}{r:V->List V->Hp->VK->Prop}
def QkM(pa:PlainAttrs T)(slot:Slot T name id)(hty:typeOf (.builtin id)=pure (.type "method_descriptor"))(hm:MtR X id r)(ho:PE X o to)
  (hbase:attributeBase o name X.env (eval o X.env)=eval o X.env:=by rfl) (hline:(apos.endLine==cpos.line)=true:=by rfl):PE X (.Call (.Attribute o name apos) [] [] cpos) (QpL X.K T r to):=by
 intro pins s Y H Q I h;refine wpAny_Call_method0_late hbase hline (thn (ho pins s Y H _ I h) λv s1 z=>?_);obtain⟨x,H1,I1,r1,ty,q1⟩:=z;obtain⟨h1,h2⟩:=Qgu I1 r1 ty;exact⟨T,id,pa,slot,hty,h1,h2,Tk rfl (PySem.evalArgs_none (hm pins s1 Y H1 x [] v [] Q I1 r1 .nil q1))⟩
def Qny(pa:PlainAttrs T)(slot:Slot T name id)(hty:typeOf (.builtin id)=pure (.type "method_descriptor"))(hm:MtR X id r)(ho:PE X o to)(ha:PA X (e::es) t)
  (hbase:attributeBase o name X.env (eval o X.env)=eval o X.env:=by rfl)
  (hfew:((backTo cpos (starEach (e::es) X.env)).all (λx=>!x.1)&&(backToKw cpos (keywordEach [] X.env)).all (λx=>x.1.isSome)
   && decide ((e::es).length+([]:List Keyword).length+(if([]:List Keyword).isEmpty then 0 else 1) < 30))=true:=by rfl)
  (hline:(apos.endLine==cpos.line)=true:=by rfl) (hs:starEach (e::es) X.env=(false,eval e X.env)::starEach es X.env:=by rfl) (hplain:(backTo cpos (starEach es X.env)).any (·.1)=false:=by rfl):
  PE X (.Call (.Attribute o name apos) (e::es) [] cpos) (tBM X.K T r to t):=by
 intro pins s Y H Q I h;refine wpAny_Call_method_late hbase hfew hline rfl (thn (ho pins s Y H _ I h) λv s1 z=>?_);obtain⟨x,H1,I1,r1,ty,q1⟩:=z;obtain⟨h1,h2⟩:=Qgu I1 r1 ty;refine⟨T,id,pa,slot,hty,h1,h2,?_⟩;have hA:=ha cpos pins s1 Y H1 _ I1 q1;rw[hs]at hA ⊢
 refine Tk (by show(false||(backTo cpos (starEach es X.env)).any (·.1))=false;rw[hplain]<;>rfl) (Calls.evalArgs_plain ?_)
 exact thn hA λus s2 y=>by obtain⟨vs,H2,I2,r2,q2⟩:=y;exact hm pins s2 Y H2 x vs v us Q I2 r1 r2 q2
end
end
section
variable {X:Cx}
noncomputable def MtM(X:Cx)(id:String)(r:V->List V->Hp->VK->Prop):Prop :=
 ∀(pins:List (Addr×Obj)) (s:Shared) (Y:St) (H:Hp) (x:V) (xs:List V) (v:Value) (us:List Value) (Q:VK),Inv X pins Y H s->RelV x v->Vals xs us->r x xs H Q ->
  wpAny (model X.prog X.w) X.A (call (.builtin id) (v::us)) (EP X pins Y Q) X.xe s
def Vals.one(h:Vals [x] us):∃u,us=[u]/\RelV x u:=by
 cases h with
 |cons r t=>cases t;exact⟨_,rfl,r⟩
def Vals.two(h:Vals [x,y] us):∃u v,us=[u,v]/\RelV x u/\RelV y v:=by
 cases h with
 |cons r t=>obtain⟨v,rfl,q⟩:=Vals.one t;exact⟨_,_,rfl,r,q⟩
def Vals.zero:∀{us:List Value},Vals [] us->us=[]
 |_,.nil=>rfl
theorem Vals.rep(h:Vals xs us):∀k:Nat,Vals (List.replicate k xs).flatten (List.replicate k us).flatten
 |0=>.nil
 |k+1=>by
  rw[Vv,Vv,Uj,Uj];exact Vals.append h (Vals.rep h k)
theorem QaR(its:List Value):∀(k:Nat) (acc:List Value),
  List.foldl (λx1 x2=>x1++x2) acc.toArray (List.replicate k its.toArray)=(acc++(List.replicate k its).flatten).toArray
 |0,acc=>by simp
 |k+1,acc=>by
  have e:acc.toArray++its.toArray=(acc++its).toArray:=by simp
  have e2:(acc++its)++(List.replicate k its).flatten=acc++(List.replicate (k+1) its).flatten:=by
   rw[Vv,Uj,List.append_assoc]
  rw[<-e2,<-QaR its k (acc++its),<-e,Vv,List.foldl_cons]
section
variable {pins:List (Addr×Obj)}{Y:St}{H:Hp}{s:Shared}{l:Addr}{xs ys:List V}
def Inv.lset{its its':List Value}{n:Nat}{f:Array Value->Array Value}{t':Nat}(I:Inv X pins Y H s)(hH:H l=some (.lst xs))
  (e:s.heap.get? l=some {cls:=.type "list",data:=.seq its.toArray n}) (hf:f its.toArray=its'.toArray) (hv:Vals ys its') (hz:ys.length<=sizeLine):
  Inv X pins Y (upd H l (.lst ys)) {s with heap:=s.heap.update l (Obj.mapSeq f),toks:=t'}:=by
 have q:=PySem.IsL.update e f;rw[hf]at q
 refine I.write (x:=l) (e:=l) (by rw[hH];exact trivial) (.inl rfl) (λb' u hb hu=>(Wo s.heap (Obj.mapSeq f) (Wr hb)).trans hu) ⟨_,q⟩ ?_
 exact⟨hz,its',_,hv,q⟩
def Inv.lnew(I:Inv X pins Y H s)(hv:Vals ys its)(hz:ys.length<=sizeLine):
  Inv X pins Y (upd H s.heap.objs.size (.lst ys)) {s with heap:=s.heap.push {cls:=.type "list",data:=.seq its.toArray},toks:=t'}:=
 I.laid (λz z q=>Xd _ q) (Xi _) ⟨hz,its,0,hv,Xu _ rfl⟩
theorem Inv.fresh(I:Inv X pins Y H s):H s.heap.objs.size=none:=I.hok.fresh (Xi _)
def Inv.lstM(I:Inv X pins Y H s)(hH:H l=some (.lst xs)): xs.length<=sizeLine/\∃(its:List Value) (n:Nat),Vals xs its/\xs.length=its.length/\s.heap.get? l=some {cls:=.type "list",data:=.seq its.toArray n}:= by
 obtain⟨z,its,n,r,e⟩:=I.hok l _ hH;exact⟨z,its,n,r,r.length,e⟩
def QfD(h:n<=sizeLine):Builtin.List.listTooLong n=false:=by
 unfold Builtin.List.listTooLong
 exact X6 (by omega)
end
section

def QhX:V->List V->Hp->VK->Prop:=λx vs H Q=>∃l xs y,x=.ref l/\vs=[y]/\H l=some (.lst xs)/\xs.length<sizeLine/\Q .non (upd H l (.lst (xs++[y])))
def Y6:MtM X "list.append" QhX:=by
 intro pins s Y H x vs v us Q I rx rv h;obtain⟨l,xs,y,rfl,rfl,hH,hz,q⟩:=h;cases rx;obtain⟨u,rfl,ru⟩:=rv.one;obtain⟨z,its,n,r,hl,e⟩:=I.lstM hH
 refine call_meets F.slot_list_append ⟨_,e,rfl⟩ F.entry_list_append (F.args_list_append_2 _ _) (PySem.list_append l its.toArray n u (by rw[Xv];omega)) ⟨e,?_⟩
 refine⟨.non,_,I.lset (its':=its++[u]) hH e (by simp) (r.append (.cons ru .nil)) ?_,rfl,q⟩
 rw[Wn,List.length_singleton];omega
def Qku:V->List V->Hp->VK->Prop:=λx vs H Q=>∃l xs,x=.ref l/\vs=[]/\H l=some (.lst xs)/\Q .non (upd H l (.lst []))
def QfK:MtM X "list.clear" Qku:=by
 intro pins s Y H x vs v us Q I rx rv h;obtain⟨l,xs,rfl,rfl,hH,q⟩:=h;cases rx;have hus:=rv.zero;subst hus;obtain⟨z,its,n,r,hl,e⟩:=I.lstM hH
 refine call_meets F.slot_list_clear ⟨_,e,rfl⟩ F.entry_list_clear (F.args_list_clear_1 _) (AutoSeq1.list_clear_list_0 l its.toArray n (by rw[Xv];omega)) ⟨e,?_⟩
 exact⟨.non,_,I.lset (its':=[]) (ys:=[]) hH e rfl .nil (W8 _),rfl,q⟩
def QpZ:R2:=λx y H Q=>∃l b xs zs,x=.ref l/\y=.ref b/\H l=some (.lst xs)/\H b=some (.lst zs)/\xs.length+zs.length<=sizeLine/\∀p,H p=none->Q (.ref p) (upd H p (.lst (xs++zs)))
def Qk0:OpR X (binaryOp .Add) QpZ:=by
 intro pins s Y H x y v u Q I rx ry h;obtain⟨l,b,xs,zs,rfl,rfl,hH,hB,hz,q⟩:=h;cases rx;cases ry;obtain⟨z,its,n,r,hl,e⟩:=I.lstM hH;obtain⟨z2,its2,n2,r2,hl2,e2⟩:=I.lstM hB
 refine PySem.P.add_list e e2 ?_ (by rw[Xv,Xv];omega)
 have ea:its.toArray++its2.toArray=(its++its2).toArray:=by simp
 rw[ea]
 exact⟨.ref _,_,I.lnew (t':=s.toks) (r.append r2) (by rw[Wn];omega),rfl,q _ I.fresh⟩
def QpX:R2:=λx y H Q=>∃l k xs,x=.ref l/\y=.int k/\H l=some (.lst xs)/\-(2 ^ 63)<=k/\k<2 ^ 63/\xs.length*k.toNat<=sizeLine /\
 ∀p,H p=none->Q (.ref p) (upd H p (.lst (List.replicate k.toNat xs).flatten))
def QiG{α:Type}(xs:List α)(k:Nat):(List.replicate k xs).flatten.length=k*xs.length:=by
 induction k with
 |zero=>simp
 |succ k ih=>rw[Vv,Uj,Wn,ih,Nat.succ_mul,Nat.add_comm]
def QkP:OpR X (binaryOp .Mult) QpX:=by
 intro pins s Y H x y v u Q I rx ry h;obtain⟨l,k,xs,rfl,rfl,hH,h1,h2,hz,q⟩:=h;cases rx;obtain⟨t,rfl⟩:=ry;obtain⟨z,its,n,r,hl,e⟩:=I.lstM hH
 have hlen:its.toArray.size*k.toNat<=sizeLine:=by rw[Xv,<-hl];exact hz
 have hcap:¬its.toArray.size*k.toNat>(2 ^ 63-1) / 8:=by
  have:(sizeLine:Nat)<=(2 ^ 63-1) / 8:=by decide
  omega
 have hfit:¬(!Builtin.List.listFitsIndex k)=true:=by
  rw[fitsIndex_both h1 h2];exact Xn
 have hlong:¬Builtin.List.listTooLong (its.toArray.size*k.toNat)=true:=by
  rw[QfD hlen];exact Xn
 have hnew:List.foldl (λx1 x2=>x1++x2) #[] (List.replicate (if its.toArray.isEmpty=true then 0 else k.toNat) its.toArray)=(List.replicate k.toNat its).flatten.toArray:=by
  have f0:∀m:Nat,List.foldl (λx1 x2=>x1++x2) #[] (List.replicate m its.toArray)=(List.replicate m its).flatten.toArray:=λm=>by
   have:=QaR its m [];rw[List.nil_append]at this;exact this
  rw[f0]
  cases its with
  |nil=>simp
  |cons a r'=>rw[if_neg (by simp)]
 refine wpAny_binaryOp_repeat_ref (T:="list") (U:="int") (by decide) ⟨_,e,rfl⟩ (λs'=>typeIs_int s' k t) noFill_list_mul F.fills_int_mul F.slot_int_rmul repeat_list F.slot_int_index.lookup
  (call_meets F.slot_int_rmul (typeIs_int s k t) F.entry_int_rmul (F.args_int_rmul_2 _ _) (int___rmul___int_list k t l its.toArray n)
   ⟨e,rfl,⟨_,e,rfl⟩,call_meets F.slot_list_mul ⟨_,e,rfl⟩ F.entry_list_mul (F.args_list_mul_2 _ _) (AutoListH.list___mul___list_int_3 l its.toArray n k t hfit hcap hlong) ⟨e,?_⟩⟩)
 rw[hnew]
 exact⟨.ref _,_,I.lnew (t':=s.toks) (r.rep k.toNat) (by rw[QiG,Nat.mul_comm];exact hz),rfl,q _ I.fresh⟩
end
section
set_option maxRecDepth 100000 in
end
section

end
end
section
variable {A:Around}{H:Hp}{pos:Pos}{s:Shared}{u:Value}{w:World}
section
variable {κ:Type}[DecidableEq κ]
end
def QiJ(r:RelV (kV k) u):(ZD P w).is k u=true:=by
 cases k with
 |inl i=>obtain⟨t,e⟩:=(show ∃t,u=Value.int i t from r);subst e;exact Qbk P w i t
 |inr x=>obtain⟨t,e⟩:=(show ∃t,u=Value.str x t from r);subst e;exact Qbj P w x t
abbrev KT(H:Hp):List (List Key×V)->List (List Key×Addr×Value)->Prop:=Paired λp q=>p.1=q.1/\H q.2.1=some (.tup (p.1.map kV))/\RelV p.2 q.2.2
def Qq3(i:Expr):Prop:=∀ov iv,subscripted i false ov iv=operate [ov,iv] (getItem ov iv)
def QhF{prog:Program}{E:Value->Shared->Prop}{env:Env}{value slice:Expr}{T id:String}{Q:Value->Shared->Prop}
  (hl:typeLookup (.type T) "__getitem__"=pure (some (.builtin id))) (hs:Qq3 slice)
  (h:wpAny (model prog w) A (eval value env) (λo s₁=>wpAny (model prog w) A (eval slice env) (λi s₂=>s₂.TypeIs o T/\wpAny (model prog w) A (getItem o i) Q E s₂) E s₁) E s):
  wpAny (model prog w) A (eval (.Subscript value slice pos) env) Q E s:=by
 refine Subscript_ (Xo h (λo s₁ h₁=>Xo h₁ (λi s₂ h₂=>?_) λz z x=>x) λz z x=>x);obtain⟨hT,h₂⟩:=h₂;unfold subscriptTail;refine Xa ?_;rw[getitemInPython_of_ne hT.not_modules];refine Xa (wpAny_specialOf hT hl ?_)
 have fin:wpAny (model prog w) A (subscripted slice false o i) (λr s₃=>wpAny (model prog w) A (letTemporaryGo value o r >>= λz=>pure r) Q E s₃) E s₂:=by
  rw[hs o i];exact wpAny_operating (Xo h₂ (λr s₃ h₃=>Xa (wpAny_letTemporaryGo (Xf h₃))) λz z x=>x)
 first
  |exact Xf (Xa fin)
  |exact Xa (Xf (Xa fin))
  |exact Xa fin
section

end
abbrev VV:List (V×V)->List (Value×Value)->Prop:=Paired λp q=>RelV p.1 q.1/\RelV p.2 q.2
end
end L2
namespace Att
open PySem PySem.W PySem.Calls PyProof.Rows
def Jc:∀(ns:List Int) (vs:List Value),WellAll P h vs (ns.map WData.int)->IntsAre vs ns:=by
 intro ns
 induction ns with
 |nil=>
  intro vs w;rw[List.map_nil]at w;cases w;exact .nil
 |cons n ns ih=>
  intro vs w;rw[Vw]at w
  cases w with
  |cons a b=>
   cases a;exact .cons _ _ (ih _ b)
def Qdk{l:OpenLaw}{n:Nat}(hn:l.most=some n){P:Params}{h:Heap}{args:List WData}{vals:List Value}
  (hpre:l.row.toRowW.claim.pre args=true) (hwl:WellAll P h vals args):
  ∃a vs ns,vals=[Value.ref a]/\args=[WData.list (ns.map WData.int)]/\h.get? a=some {cls:=.type "list",data:=.seq vs.toArray}/\IntsAre vs ns/\ns.length<=n:=by
 have hsh:WShape.hasAll [] args [.list .int]=true:=(pre_splitW hpre).1;have hc:l.pre.holds [] {args:=args}=true:=(pre_splitW hpre).2;obtain⟨d,r,rfl,h1,h2⟩:=hasAllW_cons hsh;obtain rfl:=hasAllW_nil h2;obtain⟨xs,rfl,h3⟩:=hasW_list h1;obtain⟨ns,rfl⟩:=items_int h3
 have hlen:ns.length<=n:=by
  unfold OpenLaw.pre at hc
  have h4:(WTm.not (.lt (.lit (.int (n:Int))) (.len (.arg 0)))).holds [] {args:=[.list (ns.map .int)]}=true:=by
   have h4:=(holds_andW hc).1;rw[hn]at h4;exact h4
  have h5:=condW_of h4 (w_not (w_lt w_lit (w_len_list (w_arg rfl))));rw[Xq]at h5;refine To λq=>?_
  have q':(n:Int) < ((ns.length:Nat):Int):=by omega
  first
   | (rw[Wv q']at h5;exact absurd h5 (by decide))
   | (simp at h5;omega)
 cases hwl with
 |cons w1 w2=>
  cases w2
  cases w1 with
  |list ho hall=>exact⟨_,_,ns,rfl,rfl,ho,Jc ns _ hall,hlen⟩
def Qdy(l:OpenLaw)(args:List WData):l.row.toRowW.claim.post args (.bool true) args=true :=
 postW_of (r:=l.row.toRowW) (X:=(true==true))
  (show WShape.has [] (.bool true) .bool=true by first|rfl|decide|simp[WShape.has,WShape.arms,WShape.armsAll])
  (show(WTm.eq .res (.lit (.bool true))).value [] {args:=args,res:=some (.bool true),after:=args}=some (.bool (true==true))from w_eq_bool (w_res rfl) w_lit) rfl
def attach_call{l:OpenLaw}{n:Nat}{q:Program}{loose:List Str}{XP:(Str->Option Value)->Heap->Prop}{YP:World->Heap->Prop}{d:DefRec}
  (hn:l.most=some n) (hdf:d.params.defaults=[])
  (call:∀(w:World) (s₀ s₁:Shared) (mg mb:Str->Option Value) (fa:Addr) (o:Obj) (pm cd doc:Value) (a:Addr) (vs:List Value) (ns:List Int),
   Ground q loose [] XP w s₀ mg mb s₁.heap->YP w s₁.heap ->
   s₁.heap.get? fa=some o->o.data=.func (docDef d.name d.params d.body d.scope pm cd doc)->s₁.heap.CodeRec cd d.name->mg d.name=some (.ref fa) ->
   s₁.heap.get? a=some {cls:=.type "list",data:=.seq vs.toArray}->IntsAre vs ns->ns.length<=n->s₁.gens=#[] ->
   codeAny (model l.prog w) callerA (.call (.ref fa) ⟨[.ref a],[]⟩) (λr s'=>r=.ok (.ret (.bool true))/\OldK s₁.heap s'.heap/\s'.os=s₁.os/\AllBare s'.gens) s₁):
  WalkO q loose XP YP l.row.toRowW d [] (λf vs=>PySem.call f vs):=by
 intro w s₀ s₁ mg mb G Yyy fa o pm cd doc dV kV ho hd hcd hD hmg hg args vals as hpre hlay hrd hwl hlo;obtain rfl:dV=.none:=Dflts.none hD hdf;obtain rfl:kV=.none:=Dflts.noKw hD;obtain⟨a,vs,ns,rfl,rfl,hobj,hints,hlen⟩:=Qdk hn hpre hwl;refine enter_call (V1 (call w s₀ s₁ mg mb fa o pm cd doc a vs ns G Yyy ho (fd_plain hd) hcd hmg hobj hints hlen hg) λr s' hq=>?_);obtain⟨rfl,h2,h3,h4⟩:=hq;exact⟨.inl ⟨.bool true,.bool true,[],rfl,λz=>rfl,.bool true,Qdy l _,λz=>⟨List.Pairwise.nil,λz hm=>(nomatch hm)⟩⟩,h2,h3,h4⟩
end Att
namespace L2
open PySem PySem.Spec PyProof.Rows
section
theorem Qap:∀{vs:List Value} {ns:List Int},IntsAre vs ns->Vals (ns.map V.int) vs
 |_,_,.nil=>.nil
 |_,_,.cons n t h=>.cons ⟨t,rfl⟩ (Qap h)
def QmD(H:Hp):Prop:=∀b,H b=none\/∃o xs,H b=some (.frz o (.lst xs))
def QfQ{P:Program}{w:World}{K:W.Frag}{mg mb:Str->Option Value}{CX:CXT}{k:Nat}{fa a:Addr}{fd:FuncData}{x:Str}{sp:Sp}{s₁:Shared}{vs:List Value}{ns:List Int}
  (KX:K.In s₁.heap) (hns:s₁.heap.Ns mainGlobals mg) (hb:s₁.heap.Ns builtinsNs mb) (hbb:∀x:Str,x≠"__name__"->mb x=bootBuiltins x) (hlim:s₁.heap.NoLimit) (hg:s₁.gens=#[])
  (ha:s₁.heap.get? a=some {cls:=.type "list",data:=.seq vs.toArray}) (hi:IntsAre vs ns) (hl:ns.length<=sizeLine) (hr:Room k callerA)
  (F:∀base:Heap,K.In base->base.Ns mainGlobals mg->FnOk P w K mg base CX k fa fd [x] sp) (hbind:∀(s:Shared) (u:Value),BindsTo s fd ⟨[u],[]⟩ [(x,u)])
  (hsp:∀H:Hp,QmD H->SqL K H a (ns.map V.int)->sp [.ref a] H (λv y=>v=.bl true) λy y y=>False)
  (hCX:∀H e s',CX [] H s₁ (λy y y=>False) e s'->False):
  codeAny (model P w) callerA (.call (.ref fa) ⟨[.ref a],[]⟩) (λr s'=>r=.ok (.ret (.bool true))/\OldK s₁.heap s'.heap/\s'.os=s₁.os/\AllBare s'.gens) s₁:=by
 have rv:=Qap hi;have lenV:=hi.length
 have core:∀H:Hp,QmD H->SqL K H a (ns.map V.int)->HOk P w H s₁.heap->(∀b,H b≠none->b=a)->(H a≠none->K.lookup a=none) ->
   codeAny (model P w) callerA (.call (.ref fa) ⟨[.ref a],[]⟩) (λr s'=>r=.ok (.ret (.bool true))/\OldK s₁.heap s'.heap/\s'.os=s₁.os/\AllBare s'.gens) s₁:=by
  intro H hO hS hok hA hK;have base_of:∀{b:Addr} {o:Obj},s₁.heap.get? b=some o->H b=none->(QfZ s₁.heap H).get? b=some o:=λe n=>QfY e n
  have noA:∀{b:Addr} {o:Obj} {es:Array DictEntry} {ep:Nat},s₁.heap.get? b=some o->o.data=.dict es ep->H b=none:=λ{b o es ep} e d=>by
   cases q:H b with
   |none=>rfl
   |some u=>
    have e':b=a:=hA b (by rw[q];simp)
    subst e';rw[ha]at e;cases e;have d':Data.seq vs.toArray _=Data.dict es ep:=d;cases d'
  have nsK:∀{b:Addr} {m:Str->Option Value},s₁.heap.Ns b m->(QfZ s₁.heap H).Ns b m:=λ{b m} ⟨o,es,ep,e,d,r⟩=>⟨o,es,ep,base_of e (noA e d),d,r⟩
  have hKb:K.In (QfZ s₁.heap H):=λb o e=>base_of (KX b o e) (by
   cases q:H b with
   |none=>rfl
   |some u=>
    have e':b=a:=hA b (by rw[q];simp)
    subst e'
    rw[hK (by rw[q];simp)]at e;cases e)
  have hM:Mod K mg (QfZ s₁.heap H):=⟨hKb,nsK hns,⟨mb,nsK hb,hbb⟩,let ⟨mc,h1,h2⟩:=hlim;⟨mc,nsK h1,h2⟩⟩
  have e0:Env0 P w K mg (QfZ s₁.heap H) callerA [] s₁ H:=⟨rfl,hM,λb o e=>Qiu e,Nat.le_of_eq (Qd5 _ _),trivial,λb hb=>absurd (show b∈([]:List Addr)from hb) (by simp),hok,.of_eq hg⟩
  refine V1 ((F _ hKb (nsK hns)).run callerA [] s₁ H ⟨[.ref a],[]⟩ [.ref a] [.ref a] _ _ hr e0 (hbind s₁ (.ref a)) (.cons rfl .nil) (hsp H hO hS)) λr s' h=>?_
  cases r with
  |error e=>exact(hCX H e s' h).elim
  |ok fl=>
   cases fl with
   |next=>exact False.elim h
   |brk=>exact False.elim h
   |cont=>exact False.elim h
   |ret u=>
    obtain⟨v,H',os,bare,un,hok',r',q⟩:=h;have q':v=.bl true:=q;subst q';obtain rfl:u=Value.bool true:=r';refine⟨rfl,OldK.of_keep λb o e=>?_,os,bare⟩
    cases q:H b with
    |none=>exact un.keep b o e q (by intro z;exact absurd (show b∈([]:List Addr)from z) (by simp)) (by simp)
    |some u=>
     rcases hO b with z|⟨ob,xs,z⟩
     ·rw[q]at z;cases z
     ·have z2:=un.frzs b ob _ z;obtain⟨e1,_⟩:=hok b _ z;obtain⟨e2,_⟩:=hok' b _ z2;rw[e]at e1;cases e1;exact e2
 cases hk:K.lookup a with
 |some o=>
  have e:=KX a o hk;rw[ha]at e;cases e
  refine core (λy=>none) (λy=>.inl rfl) (.inr ⟨_,vs.toArray,_,hk,rfl,rfl,rfl,by rw[Xv,lenV];exact hl,by simpa using rv⟩) (λb u z=>by have z':(none:Option HO)=some u:=z;cases z') (λb z=>absurd rfl z) λz=>absurd rfl z
 |none=>
  refine core (λb=>if b=a then some (.frz {cls:=.type "list",data:=.seq vs.toArray} (.lst (ns.map V.int)))else none) (λb=>?_) (.inl (.inr ⟨{cls:=.type "list",data:=.seq vs.toArray},if_pos rfl⟩)) (λb u z=>?_) (λb z=>?_) λy=>hk
  ·by_cases hb:b=a
   ·exact .inr ⟨_,_,if_pos hb⟩
   ·exact .inl (if_neg hb)
  ·by_cases hb:b=a
   ·have z':=(if_pos hb).symm.trans z;cases z';subst hb
    exact⟨ha,by rw[Xq];exact hl,vs,_,rv,ha⟩
   ·have z':=(if_neg hb).symm.trans z;cases z'
  ·by_cases hb:b=a
   ·exact hb
   ·exact absurd (if_neg hb) z
end
section
noncomputable abbrev KOf{K:W.Frag}{h:Heap}(_:K.In h):W.Frag:=K
def walk_of{l:W.OpenLaw}{n k:Nat}{q:Program}{loose:List Str}{XP:(Str->Option Value)->Heap->Prop}{YP:World->Heap->Prop}{d:DefRec}{K:Params->W.Frag}{CX:World->CXT}{sp:World->Sp}{x:Str}
  (hn:l.most=some n) (hn2:n<=sizeLine) (hdf:d.params.defaults=[]) (hr:Room k callerA)
  (hY:∀(w:World) (h:Heap),YP w h->(K w.params).In h)
  (F:∀(w:World) (mg:Str->Option Value) (fa:Addr) (h:Heap),(K w.params).In h->h.Ns mainGlobals mg->mg d.name=some (.ref fa) ->
   ∃fd:FuncData,(∀(s:Shared) (u:Value),BindsTo s fd ⟨[u],[]⟩ [(x,u)]) /\
    ∀base:Heap,(K w.params).In base->base.Ns mainGlobals mg->FnOk l.prog w (K w.params) mg base (CX w) k fa fd [x] (sp w))
  (hsp:∀(w:World) (H:Hp) (a:Addr) (ns:List Int),ns.length<=n->QmD H->SqL (K w.params) H a (ns.map V.int)->sp w [.ref a] H (λv z=>v=.bl true) λz z z=>False)
  (hCX:∀(w:World) (H:Hp) (s:Shared) (e:Value) (s':Shared),CX w [] H s (λz z z=>False) e s'->False):
  W.WalkO q loose XP YP l.row.toRowW d [] (λf vs=>PySem.call f vs):=by
 refine Att.attach_call hn hdf λw s₀ s₁ mg mb fa o pm cd doc a vs ns G Yyy ho hd hcd hmg hobj hints hlen hg=>?_;have KX:=hY w _ Yyy;obtain⟨fd,hb,hF⟩:=F w mg fa _ KX G.T.g hmg;exact QfQ KX G.T.g G.T.b G.T.builtins G.T.nolimit hg hobj hints (X7 hlen hn2) hr hF hb (λH hO hS=>hsp w H a ns hlen hO hS) λH e s'=>hCX w H s₁ e s'
end
section
abbrev CX0:CXT:=λz z z z z z=>False
abbrev E0:XK:=λz z z=>False
def Qcx:Yh CX0 X E0:=λz z z z z z z h=>h.elim
def QnY(hr:Room k A):A.units+1<cLine:=Nat.lt_of_le_of_lt (Nat.add_le_add_left (by decide:1<=64) _) hr.units
section
variable {κ:Type}[DecidableEq κ]
end
end
end L2
namespace Iv
open PySem
noncomputable def QnT(sep:List Nat):List (List Nat)->List Nat
 |[]=>[]
 |[x]=>x
 |x::y::r=>x++sep++QnT sep (y::r)
noncomputable def QgB(c:Nat):List Nat->List (List Nat)
 |[]=>[[]]
 |a::r=>if a=c then []::QgB c r else match QgB c r with
  |[]=>[[a]]
  |p::ps=>(a::p)::ps
end Iv
namespace L2
open PySem PySem.Spec PyProof.Rows Builtin Builtin.Str
section
variable {X:Cx}
def Qam:CallR X (.type "int") (λxs H Q=>∃x,xs=[.str x]/\NumText.AllDigits x.cps.toList/\x.cps.toList≠[]/\x.length<=640/\Q (.int ((NumText.digitsVal x.cps.toList:Nat): Int)) H):= by
 intro pins s Y H xs us Q I r h;obtain⟨x,rfl,h1,h2,h3,q⟩:=h;obtain⟨u,rfl,t,rfl⟩:=Qaq r
 exact W.KIN.call_text (intText_digits h1 h2 (by omega)) h3 ⟨.int _,H,I.tok _,⟨_,rfl⟩,q⟩
end
end L2
namespace L2
open PySem PySem.Spec PyProof.Rows
section
section
variable {X:Cx}
theorem QaY:∀{bs:List Bool} {us:List Value},Vals (bs.map V.bl) us->∀(i:Nat) v,us[i]?=some v->∃b,bs[i]?=some b/\v=.bool b
 |[],us,r,i,v,e=>by rw[List.map_nil]at r;cases r;simp at e
 |b::bs,us,r,i,v,e=>by
  rw[Vw]at r
  cases r with
  |cons h t=>
   cases(show _=Value.bool b from h)
   cases i with
   |zero=>simp at e;exact⟨b,rfl,e.symm⟩
   |succ i=>simpa using QaY t i v (by simpa using e)
def QqZ(bs:List Bool):((List.range bs.length).any λi=>(bs[i]?).getD false)=bs.any id:=LSm.range_any bs
def Qez(hc:X.calm=true): CallR X (.builtin "any") (λxs H Q=>∃(a:Addr) (bs:List Bool),xs=[.ref a]/\SqL X.K H a (bs.map V.bl)/\Q (.bl (bs.any id)) H):= by
 intro pins s Y H xs us Q I r h;obtain⟨a,bs,rfl,hq,q⟩:=h;obtain⟨u,rfl,rx⟩:=Qaq r;cases rx;obtain⟨its,rr,pl,hz⟩:=I.list hq;have hl:=pl.isList
 have hlt:a<s.heap.objs.size:=by obtain⟨_,e,_⟩:=hl;exact Xk e
 have hlen:=rr.length;rw[Xq]at hlen;refine call_any_walk (Uh hl ?_)
 refine⟨s.heap.objs.size,[s.heap.objs.size,a],[s.heap.objs.size],its.toArray.size,_,_,λi=>(bs[i]?).getD false,rfl,Walks.list (A:=X.A.in1) (I.ok.hd hc) _ a (X1 hlt) its.toArray,
  ⟨⟨_,Xu _ rfl,rfl,rfl⟩,hl.push _⟩,λi v s' Q' E' hP hQ=>?_,λh' tk hk=>?_⟩
 ·obtain⟨b,e,rfl⟩:=QaY rr i v (by simpa using hP)
  simp only[e,W5]at hQ;exact Ug hQ
 ·have e:((List.range its.toArray.size).any λi=>(bs[i]?).getD false)=bs.any id:=by
   rw[Xv,<-hlen];exact QqZ bs
  rw[e];exact⟨.bl _,H,I.kept (t':=tk) (LSm.kept_iter hk),rfl,q⟩
def Qeu(hc:X.calm=true): CallR X (.builtin "max") (λxs H Q=>∃(a:Addr) (ns:List Int),xs=[.ref a]/\SqL X.K H a (ns.map V.int)/\0<ns.length/\∀m,m∈ns->(∀b∈ns,b<=m)->Q (.int m) H):= by
 intro pins s Y H xs us Q I r h;obtain⟨a,ns,rfl,hq,hz0,q⟩:=h;obtain⟨u,rfl,rx⟩:=Qaq r;cases rx;obtain⟨its,rr,pl,hz⟩:=I.list hq;have hl:=pl.isList;have hi:=JJ rr;obtain⟨xs,e⟩:=hi.allInts.items
 have hns:ns=xs.toList.map (·.1):=by
  rw[<-hi.numsOf,<-nums_intItems,<-e]
 have hsz:0<xs.size:=by
  have h3:=hz0;rw[hns,Xq,Vl]at h3;exact h3
 rw[e]at hl;refine max_intList (I.ok.hd hc) hl hsz λv h' tk hv hk=>?_;obtain⟨t,rfl⟩:=intItems_at hv;obtain⟨h1,h2⟩:=argBest_gt (numAt xs) (xs.size-1);refine⟨.int _,H,I.kept hk,⟨_,rfl⟩,q _ ?_ λb hb=>?_⟩
 ·rw[hns,numAt_eq];exact getD_mem (by rw[Xq,Vl];omega)
 ·rw[hns]at hb;obtain⟨j,hj,rfl⟩:=mem_getD hb;rw[Xq,Vl]at hj
  rw[<-numAt_eq];exact h2 j (by omega)
end
end
section
section
variable {prog:Program}{w:World}{A:Around}{R:Result->Shared->Prop}{I S:Addr}{fp wr:List Addr}{n:Nat}{P:Nat->Value->Prop}{St:Nat->Heap->Prop}{d:Value}
def YN:(toString "max"++toString ".loop":String)="max.loop":=by decide
def QfG(W:Walks prog w A.in1 I fp wr n P St)(bt:Nat->Nat->Bool)(hc:CmpOf prog w A.in1 .Gt P bt)(nS:S∉fp):∀(k j:Nat) (s:Shared) (v0:Value) (ep:Nat),n=j+1+k->St (j+1) s.heap->P (argBest bt j) v0 ->
  s.heap.get? S=some {cls:=.type "list",dict:=none,data:=.seq #[v0,v0] ep,slots:=#[]} ->
  (∀v h' tk,P (argBest bt (n-1)) v->(∀b o,b∉wr->b≠S->s.heap.get? b=some o->h'.get? b=some o)->R (.ok (.ret v)) {s with heap:=h',toks:=tk}) ->
  codeAny (model prog w) A (.builtin "max.loop" ⟨[.ref I,.none,.ref S],[("default",d)]⟩) R s:=by
 have nw:S∉wr:=λh=>nS (W.sub _ h);intro k
 induction k with
 |zero=>
  intro j s v0 ep hn st p hS q;refine Uc F.entry_max_loop ?_;rw[V2 V8 _];show wpAny _ A.in1 (seqItems? (.ref S) >>= _) _ _ s;refine Xa (W9 hS rfl ?_);show wpAny _ A.in1 (tryCatch (pyNext (.ref I)) _ >>= _) _ _ s;refine Xa (Tf (W.done s _ _ (hn▸st) λh1 tk k1=>?_));have hS1:=k1 S _ nw hS;show wpAny _ A.in1 (updateSeq S (λy=>#[]) >>= _) _ _ _;refine Xa (wpAny_updateSeq hS1 rfl (Xa (U8 (Xf ?_))))
  exact q v0 _ tk (by rw[hn];exact p) λb o b1 b2 e=>(Wo _ _ (Wr b2)).trans (k1 b o b1 e)
 |succ k ih=>
  intro j s v0 ep hn st p hS q;refine Uc F.entry_max_loop ?_;rw[V2 V8 _];show wpAny _ A.in1 (seqItems? (.ref S) >>= _) _ _ s;refine Xa (W9 hS rfl ?_);show wpAny _ A.in1 (tryCatch (pyNext (.ref I)) _ >>= _) _ _ s
  refine Xa (Tf (W.item (j+1) s _ _ (by omega) st λv h1 tk pv st1 k1=>?_))
  have hS1:=k1 S _ nw hS;show wpAny _ A.in1 (tryCatch (holding [v,v] (richCompare .Gt v v0 >>= _)) _ >>= _) _ _ _;refine Xa (Tf (Wh (Xa (hc (j+1) (argBest bt j) v v0 _ _ _ pv p (Xa (Wh (Ug (Xa (U8 (Xf ?_))))))))))
  cases hb:bt (j+1) (argBest bt j)with
  |true=>
   simp only[Wg];refine Xa (wpAny_updateSeq hS1 rfl (Xa (U8 ?_)));rw[YN]
   refine Xf ⟨U2 V8 _,ih (j+1) _ v _ (by omega) (W.frame _ _ _ st1 λb bf o e=>?_) (by simp only[argBest,hb,Wg];exact pv) (Wz _ hS1 rfl) λv2 h2 tk2 p2 k2=>?_⟩
   ·exact(Wo _ _ (λz:S=b=>nS (by rw[z];exact bf))).trans e
   ·exact q v2 h2 tk2 p2 λb o b1 b2 e=>k2 b o b1 b2 ((Wo _ _ (Wr b2)).trans (k1 b o b1 e))
  |false=>
   simp only[Wp,Vn];refine Xa (U8 ?_);rw[YN]
   exact Xf ⟨U2 V8 _,ih (j+1) _ v0 ep (by omega) st1 (by simp only[argBest,hb,Wp,Vn];exact p) hS1 λv2 h2 tk2 p2 k2=>q v2 h2 tk2 p2 λb o b1 b2 e=>k2 b o b1 b2 (k1 b o b1 e)⟩
def QdS(W:Walks prog w A.in1 I fp wr n P St)(bt:Nat->Nat->Bool)(hc:CmpOf prog w A.in1 .Gt P bt)(nS:S∉fp)(st:St 0 s.heap)
  (hS:s.heap.get? S=some {cls:=.type "list",dict:=none,data:=.seq #[] ep,slots:=#[]})
  (q:∀v h' tk,(n=0/\v=d\/0<n/\P (argBest bt (n-1)) v)->(∀b o,b∉wr->b≠S->s.heap.get? b=some o->h'.get? b=some o)->R (.ok (.ret v)) {s with heap:=h',toks:=tk}):
  codeAny (model prog w) A (.builtin "max.loop" ⟨[.ref I,.none,.ref S],[("default",d)]⟩) R s:=by
 have nw:S∉wr:=λh=>nS (W.sub _ h);refine Uc F.entry_max_loop ?_;rw[V2 V8 _];show wpAny _ A.in1 (seqItems? (.ref S) >>= _) _ _ s;refine Xa (W9 hS rfl ?_);show wpAny _ A.in1 (tryCatch (pyNext (.ref I)) _ >>= _) _ _ s
 cases n with
 |zero=>
  refine Xa (Tf (W.done s _ _ st λh1 tk k1=>?_));refine Xa (wpAny_rule (Xf ?_));exact q d h1 tk (.inl ⟨rfl,rfl⟩) λb o b1 y e=>k1 b o b1 e
 |succ n=>
  refine Xa (Tf (W.item 0 s _ _ (Nat.succ_pos _) st λv h1 tk pv st1 k1=>?_));have hS1:=k1 S _ nw hS;show wpAny _ A.in1 (updateSeq S (λy=>#[v,v]) >>= _) _ _ _;refine Xa (wpAny_updateSeq hS1 rfl ?_);rw[YN]
  refine Xf ⟨U2 V8 _,QfG W bt hc nS n 0 _ v _ (by omega) (W.frame _ _ _ st1 λb bf o e=>?_) pv (Wz _ hS1 rfl) λv2 h2 tk2 p2 k2=>?_⟩
  ·exact(Wo _ _ (λz:S=b=>nS (by rw[z];exact bf))).trans e
  ·exact q v2 h2 tk2 (.inr ⟨Nat.succ_pos _,p2⟩) λb o b1 b2 e=>k2 b o b1 b2 ((Wo _ _ (Wr b2)).trans (k1 b o b1 e))
end
section
variable {prog:Program}{w:World}{A:Around}{E:Value->Shared->Prop}{s:Shared}
def Qgl(a d:Value):argsOk "max" ⟨[a],[("default",d)]⟩:=by unfold argsOk;kernel_rfl
def QfH
  (h:wpAny (model prog w) A.in1 (pyIter x) (λit s2=>∃I fp wr n P St bt,it=.ref I/\Walks prog w A.in1 I fp wr n P St/\St 0 s2.heap/\(∀b∈fp,b<s2.heap.objs.size)/\CmpOf prog w A.in1 .Gt P bt /\
   ∀v h' tk,(n=0/\v=d\/0<n/\P (argBest bt (n-1)) v)->(∀b o,b∉wr->s2.heap.get? b=some o->h'.get? b=some o)->Q v {s2 with heap:=h',toks:=tk}) E s):
  wpAny (model prog w) A (call (.builtin "max") [x] [("default",d)]) Q E s:=by
 refine Vx (Vq F.plain_max F.entry_max ?_);simp only[checkBuiltinCall,F.kind_max];have ha:=Qgl x d
 suffices z:wpAny (model prog w) A.in1 (Builtin.«max» ⟨[x],[("default",d)]⟩) (λfin s'=>match fin with
   |.done f=>(match (Except.ok f:Result)with|.ok (.ret v)=>Q v s'|.ok _=>False|.error e=>E e s')
   |.again c'=>c'.quiet=true/\codeAny (model prog w) A c' (λr s'=>match r with|.ok (.ret v)=>Q v s'|.ok _=>False|.error e=>E e s') s') E s by
  cases hs:Manifest.signature? "max" with
  |none=>exact Xf z
  |some sig=>
   simp only[argsOk,hs]at ha;have h2:Bind.checkArgs "max" sig ⟨[x],[("default",d)]⟩=pure ():=ha;show wpAny _ A.in1 (Bind.checkArgs "max" sig ⟨[x],[("default",d)]⟩) _ _ s;rw[h2];exact Xf z
 show wpAny _ A.in1 (Builtin.Builtins.bindParams "max" ["key","default"] 0 ⟨[],[("default",d)]⟩ >>= _) _ _ s;refine Xa (Tn (show Builtin.Builtins.bindParams "max" ["key","default"] 0 ⟨[],[("default",d)]⟩=pure [none,some d]from rfl) ?_);refine Xa (Xf ?_);refine Xa (thn h λit s2 h2=>?_);obtain⟨I,fp,wr,n,P,St,bt,rfl,W,st,hf,hc,q⟩:=h2;refine Xa (Ws ?_);have nS:s2.heap.objs.size∉fp:=λm=>Wu _ (hf _ m);rw[YN];refine Xf ⟨U2 V8 _,QdS W bt hc nS (W.frame _ _ _ st λb y o e=>Xd _ e) (Xu _ rfl) λv h1 tk p k=>?_⟩;exact q v h1 tk p λb o bw e=>k b o bw (X1 (Xk e)) (Xd _ e)
end
section
variable {X:Cx}{a de:Expr}{ta td:TE}{p pos kp:Pos}
def QmY(ta td:TE):TE:=λY H Q=>ta Y H λx H1=>td Y H1 λy H2=>∃(l:Addr) (ns:List Int) (d:Int),x=.ref l/\y=.int d/\SqL X.K H2 l (ns.map V.int)/\∀m,(ns=[]/\m=d\/m∈ns/\∀b∈ns,b<=m)->Q (.int m) H2
def Qid(hc:X.calm=true)(hg:Gl X "max")(hm:X.mg "max"=none)(ha:PE X a ta)(hd:PE X de td)(hs:starEach [a] X.env=[(false,eval a X.env)]):PE X (.Call (.Name "max" p) [a] [⟨some "default",de,kp⟩] pos) (QmY (X:=X) ta td):=by
 intro pins s Y H Q I h
 refine X8 (Yc I hg hm (show bootBuiltins "max"=some (.builtin "max") by decide +kernel) ?_ (by decide) (by decide))
 refine callWith_builtin_kwB (by rw[hs];rfl) rfl ?_
 rw[hs];refine evalArgs_kwB rfl (Calls.spliced_cons (thn (ha pins s Y H _ I h) λu s1 z=>?_));obtain⟨x,H1,I1,r1,q1⟩:=z;refine Calls.spliced_nil (kws_cons (thn (hd pins _ Y H1 _ I1 q1) λw s2 ⟨y,H2,I2,r2,q2⟩=>kws_nil ?_));obtain⟨l,ns,d,rfl,rfl,hq,q⟩:=q2;cases r1;obtain⟨td,rfl⟩:=r2;show wpAny _ _ (call (.builtin "max") [.ref l] [("default",.int d td)]) _ _ _;obtain⟨its,rr,pl,hz⟩:=I2.list hq;have hl:=pl.isList;have hi:=JJ rr;obtain⟨xs,e⟩:=hi.allInts.items
 have hns:ns=xs.toList.map (·.1):=by
  rw[<-hi.numsOf,<-nums_intItems,<-e]
 rw[e]at hl;refine QfH (iter_intList hl λs3 e3 st hf hlI=>?_);subst e3;refine⟨_,_,_,_,_,_,_,rfl,Walks.list (A:=X.A.in1) (I2.ok.hd hc) _ l hlI (intItems xs),st,hf,CmpOf.ints_gt (numAt xs) (λr r=>intItems_at),λv h' tk hP hk=>?_⟩;have hk':=old_kept hk
 have ln:(intItems xs).size=xs.size:=by simp[intItems]
 rcases hP with⟨n0,rfl⟩|⟨n0,hv⟩
 ·refine⟨.int d,H2,I2.kept hk',⟨_,rfl⟩,q d (.inl ⟨?_,rfl⟩)⟩;rw[hns,List.map_eq_nil_iff,Array.toList_eq_nil_iff];exact Array.eq_empty_of_size_eq_zero (ln▸n0)
 ·rw[ln]at n0 hv;obtain⟨t,rfl⟩:=intItems_at hv;obtain⟨h1,h2⟩:=argBest_gt (numAt xs) (xs.size-1);refine⟨.int _,H2,I2.kept hk',⟨_,rfl⟩,q _ (.inr ⟨?_,λb hb=>?_⟩)⟩
  ·rw[hns,numAt_eq];exact getD_mem (by rw[Xq,Vl];omega)
  ·rw[hns]at hb;obtain⟨j,hj,rfl⟩:=mem_getD hb;rw[Xq,Vl]at hj
   rw[<-numAt_eq];exact h2 j (by omega)
end
end
end L2
namespace L2
open PySem PySem.Spec PySem.W PyProof.Rows
section
noncomputable def QoQ{α:Type}(lt:Nat->Nat->Bool):KasT α->α
 |.ret a=>a
 |.ask i j k=>QoQ lt (k (lt i j))
noncomputable def Qo2:List Int->List Int->Bool
 |[],[]=>false
 |[],_::_=>true
 |_::_,[]=>false
 |x::xs,y::ys=>if x=y then Qo2 xs ys else decide (x<y)
noncomputable def ltK(ks:List (List Int))(i j:Nat):Bool:=Qo2 (ks.getD i []) (ks.getD j [])
noncomputable def permK(ks:List (List Int))(n:Nat):List Nat:=if n<2 then List.range n else(QoQ (ltK ks) (kas_sort n)).toList
end
end L2
namespace L2
open PySem
variable {env:Env}{scope:Scope}
noncomputable def QbD(cells:List (Str×Addr)):List (Str×NameKind)->List (Str×Addr)->List (Str×Addr)
 |[],cs=>cs
 | (n,k)::r,cs=>QbD cells r (if(k==.free)=true then(match cells.lookup n with|some c=>(n,c)::cs|none=>cs)else cs)
def ZT(h:∀y∈scope.names,y.2=.free->∃c,env.cells.lookup y.1=some c):closureFor scope env=pure (QbD env.cells scope.names []):=by
 have all:∀(l:List (Str×NameKind)) (cs:List (Str×Addr)),(∀y∈l,y.2=.free->∃c,env.cells.lookup y.1=some c) ->
   (forIn l cs λ(x:Str×NameKind) (r:List (Str×Addr))=>match x with|(name,kind)=>if(kind==NameKind.free)=true then(do let y <-cellOf env name;pure (ForInStep.yield ((name,y)::r)))else(pure (ForInStep.yield r):Sem _))=(pure (QbD env.cells l cs):Sem _):=by
  intro l
  induction l with
  |nil=>intro cs _;simp only[List.forIn_nil];rfl
  |cons p r ih=>
   obtain⟨n,k⟩:=p;intro cs hy;rw[List.forIn_cons];by_cases hk:(k==NameKind.free)=true
   ·obtain⟨c,hc⟩:=hy (n,k) Xm (by simpa using hk)
    have hc:env.cells.lookup n=some c:=hc
    have e:cellOf env n=pure c:=by unfold cellOf;rw[hc]
    simp only[hk,Wg,e,pure_bind];rw[ih _ λy m=>hy y (Xj _ m)];simp only[QbD,hk,Wg,hc]
   ·simp only[hk,Wp,Vn,pure_bind];rw[ih _ λy m=>hy y (Xj _ m)];simp only[QbD,hk,Wp,Vn]
 have:=all scope.names [] h;unfold closureFor;simp only[bind_pure_comp]at this ⊢;rw[this];rfl
theorem QaU:∀{l:List (Str×NameKind)} {cs:List (Str×Addr)},(QbD cells l cs).lookup x=some c->cs.lookup x=some c\/cells.lookup x=some c
 |[],_,h=>.inl h
 | (n,k)::r,cs,h=>by
  have h:(QbD cells r (if(k==NameKind.free)=true then(match cells.lookup n with|some c=>(n,c)::cs|none=>cs)else cs)).lookup x=some c:=h
  rcases QaU h with h1|h1
  ·clear h;by_cases hk:(k==NameKind.free)=true
   ·rw[if_pos hk]at h1
    cases hc:cells.lookup n with
    |none=>rw[hc]at h1;exact .inl h1
    |some c'=>
     rw[hc]at h1;have h2:List.lookup x ((n,c')::cs)=some c:=h1;clear h1;rw[W6]at h2
     cases hx:x==n with
     |true=>
      rw[hx]at h2;have e:=eq_of_beq hx;subst e;exact .inr (hc.trans h2)
     |false=>rw[hx]at h2;exact .inl h2
   ·rw[if_neg hk]at h1;exact .inl h1
  ·exact .inr h1
theorem Qak(hc:cells.lookup x=some c):∀{l:List (Str×NameKind)} {cs:List (Str×Addr)},((x,NameKind.free)∈l\/cs.lookup x=some c)->(QbD cells l cs).lookup x=some c
 |[],_,h=>by
  rcases h with h|h
  ·cases h
  ·exact h
 | (n,k)::r,cs,h=>by
  show(QbD cells r (if(k==NameKind.free)=true then(match cells.lookup n with|some c=>(n,c)::cs|none=>cs)else cs)).lookup x=some c
  refine Qak (l:=r) hc ?_
  rcases h with h|h
  ·rcases Xg.mp h with e|h
   ·cases e;refine .inr ?_
    rw[if_pos (by decide),hc]
    simp[W6]
   ·exact .inl h
  ·refine .inr ?_;split
   ·split
    ·rename_i c' h';rw[W6];split
     ·rename_i e;have e:=eq_of_beq e;subst e;exact h'.symm.trans hc
     ·exact h
    ·exact h
   ·exact h
noncomputable def mang(x:Str):Str:=⟨x.cps.push 33⟩
noncomputable def hideN(xs N:List Str):List Str:=N.map λy=>if xs.contains y then mang y else y
def Yd:(hideN xs N).length=N.length:=by unfold hideN;rw[Xq]
def QfX{xs N:List Str}{i:Nat}{y:Str}(h:(hideN xs N)[i]?=some y):∃z,N[i]?=some z/\((z∈xs/\y=mang z)\/(z∉xs/\y=z)):=by
 unfold hideN at h;rw[Ui,Xc]at h;obtain⟨z,h1,h2⟩:=h;refine⟨z,h1,?_⟩;by_cases c:xs.contains z=true
 ·rw[if_pos c]at h2;exact .inl ⟨V0.mp c,h2.symm⟩
 ·rw[if_neg c]at h2;exact .inr ⟨λm=>c (V0.mpr m),h2.symm⟩
noncomputable def relN(outer:List (Str×NameKind))(names:List (Str×NameKind)):List (Str×NameKind):=names.map λ(n,k)=>if(k==.free&&outer.lookup n==some .cell)=true then(n,.cell)else(n,k)
def Q0(h:env.scope.kind=.function):(relabel scope env).names=relN env.scope.names scope.names:=by
 unfold relabel relN;refine List.map_congr_left λp z=>?_;obtain⟨n,k⟩:=p;simp only[h,beq_self_eq_true,U3];rfl
theorem ZK{outer:List (Str×NameKind)}{x:Str}:∀{l:List (Str×NameKind)},(relN outer l).lookup x=(l.lookup x).map λk=>if(k==.free&&outer.lookup x==some .cell)=true then .cell else k
 |[]=>rfl
 | (n,k)::r=>by
  have ih:=@ZK outer x r;show List.lookup x ((if(k==NameKind.free&&outer.lookup n==some .cell)=true then(n,NameKind.cell)else(n,k))::relN outer r)=_;rw[W6 (as:=r)]
  cases hx:x==n with
  |true=>
   have e:=eq_of_beq hx;subst e;simp only[Ud,Up];by_cases z:(k==NameKind.free&&outer.lookup x==some .cell)=true
   ·rw[if_pos z,if_pos z,Ud]
   ·rw[if_neg z,if_neg z,Ud]
  |false=>
   split
   ·simp[W6,hx,ih]
   ·simp[W6,hx,ih]
def ZS{κ β:Type}[BEq κ][LawfulBEq κ]{l:List (κ×β)}{k:κ}{b:β}(h:l.lookup k=some b):(k,b)∈l:=by
 induction l with
 |nil=>simp at h
 |cons p r ih=>
  obtain⟨a,c⟩:=p;rw[W6]at h;split at h
  ·rename_i e;have e:=eq_of_beq e;subst e;cases h;exact Xm
  ·exact Xj _ (ih h)
section
variable {prog:Program}{w:World}{A:Around}{R:Result->Shared->Prop}{s:Shared}
def QbK(h:match tl with|none=>Q true s|some c=>wpAny (model prog w) A (isTrue c env (eval c env)) Q E s):
  wpAny (model prog w) A (forIn tl.toList true λc r=>if r=true then do let ok <-isTrue c env (eval c env);pure (ForInStep.yield ok)else pure (ForInStep.yield r)) Q E s:=by
 cases tl with
 |none=>exact wpAny_tests_nil h
 |some c=>exact wpAny_tests_one h
def Jj{elt target iter:Expr}{tl:Option Expr}{pos:Pos}{it acc:Value}(I:Nat->Shared->Prop)
  (turn:∀n s,I n s->wpAny (model prog w) A (pyNext it) (λr s₁=>match r with
   |none=>R (.ok .next) s₁
   |some v=>wpAny (model prog w) A (letOwnedTupleGo target it v) (λz s₁'=>wpAny (model prog w) A (assign target env v) (λz s₂=>
     wpAny (model prog w) A (forIn tl.toList true λc r=>if r=true then do let ok <-isTrue c env (eval c env);pure (ForInStep.yield ok)else pure (ForInStep.yield r)) (λok s₃=>if ok=true then
      wpAny (model prog w) A (eval elt env) (λx s₄=>
       wpAny (model prog w) A (call (.builtin "list.append") [acc,x]) (λz s₅=>∃m,m<n/\I m s₅) (notedBy (model prog w) A env λe s'=>R (.error e) s') s₄) (notedBy (model prog w) A env λe s'=>R (.error e) s') s₃
      else ∃m,m<n/\I m s₃) (notedBy (model prog w) A env λe s'=>R (.error e) s') s₂)
        (notedBy (model prog w) A env λe s'=>R (.error e) s') s₁') (notedBy (model prog w) A env λe s'=>R (.error e) s') s₁) (notedBy (model prog w) A env λe s'=>R (.error e) s') s)
  (n:Nat) (h:I n s):codeAny (model prog w) A (.compLoop (.ListComp elt [⟨target,iter,tl.toList,0⟩] scope pos) 0 it acc env) R s:=by
 refine codeAny_loop rfl I (λn s hI=>?_) n h
 show wpAny _ A ((compTurn (.ListComp elt [⟨target,iter,tl.toList,0⟩] scope pos) 0 it acc env).onRaise (λx=>do noteFrame x env;theTreesLotGoes x)) _ _ s
 refine wpAny_noted ?_;rw[compTurn_list];refine Xa (Uo (Xa (Xo (turn n s hI) (λr s₁ h₁=>?_) λz z h'=>h')))
 cases r with
 |none=>exact Xf h₁
 |some v=>
  refine Xa (Xo h₁ (λz s₁' h₁'=>?_) λz z h'=>h');refine Xa (Xo h₁' (λz s₂ h₂=>Xa (Xo h₂ (λok s₃ h₃=>?_) λz z h'=>h')) λz z h'=>h')
  cases ok with
  |true=>
   rw[if_pos rfl]at h₃;exact Xa (Xa (Xo h₃ (λx s₄ h₄=>Xa (Xo h₄ (λz s₅ h₅=>Xf (Xf ⟨rfl,h₅⟩)) λz z h'=>h')) λz z h'=>h'))
  |false=>
   rw[if_neg Xn]at h₃;exact Xa (Xf (Xf ⟨rfl,h₃⟩))
end
end L2
namespace L2
open PySem PySem.Spec PySem.W PyProof.Rows
variable {env:Env}{α:Type}{e:Value}
def KD{α:Type}:Sem α->Prop
 |.pure _=>True
 |.raise _=>True
 |.unsupported _=>True
 |.rule _ k=>KD (k ())
 |.at _ k=>KD (k ())
 |.load _ _ k=>∀o,KD (k o)
 |.loadIfAlive _ k=>∀o,KD (k o)
 |.update _ _ f k=>(∀o:Obj,(f o).dict=o.dict/\(o.isFreed=false->(f o).isFreed=false))/\KD (k ())
 |.point _ k=>KD (k ())
 |.alloc _ k=>∀a,KD (k a)
 |.fresh k=>∀a,KD (k a)
 |.ask k=>∀a,KD (k a)
 |.handled _ k=>∀a,KD (k a)
 |.stack k=>∀a,KD (k a)
 |.thread k=>∀a,KD (k a)
 |_=>False
theorem KD.bind{β:Type}{f:α->Sem β}(hf:∀a,KD (f a)):∀{m:Sem α},KD m->KD (m.bind f):=by
 intro m
 induction m with
 |pure a=>exact λz=>hf a
 |raise e=>exact λz=>trivial
 |unsupported w=>exact λz=>trivial
 |rule t k ih=>exact λh=>ih () h
 | «at» t k ih=>exact λh=>ih () h
 |load a p k ih=>exact λh o=>ih o (h o)
 |loadIfAlive a k ih=>exact λh o=>ih o (h o)
 |update a p g k ih=>exact λh=>⟨h.1,ih () h.2⟩
 |point l k ih=>exact λh=>ih () h
 |alloc o k ih=>exact λh a=>ih a (h a)
 |fresh k ih=>exact λh a=>ih a (h a)
 |ask k ih=>exact λh a=>ih a (h a)
 |handled o k ih=>exact λh a=>ih a (h a)
 |stack k ih=>exact λh a=>ih a (h a)
 |thread k ih=>exact λh a=>ih a (h a)
 |_=>exact λh=>False.elim h
def DK(h h':Heap):Prop:=∀b o,h.get? b=some o->∃o',h'.get? b=some o'/\o'.dict=o.dict
def DK.refl(h:Heap):DK h h:=λz o e=>⟨o,e,rfl⟩
theorem DK.trans(a:DK h h1)(b:DK h1 h2):DK h h2:=λx o e=>by
 obtain⟨o1,e1,d1⟩:=a x o e;obtain⟨o2,e2,d2⟩:=b x o1 e1;exact⟨o2,e2,d2.trans d1⟩
def DK.kept(k:∀b o,h.get? b=some o->h'.get? b=some o):DK h h':=λb o e=>⟨o,k b o e,rfl⟩
def QnS:∀{t:Sem α} {p:Pos} {s:Shared} {h0:Heap},KD t->DK h0 s.heap->Sem.wp M Γ t Q E p s ->
  Sem.wp M Γ t (λa p' s'=>Q a p' s'/\DK h0 s'.heap) (λe p' s'=>E e p' s'/\DK h0 s'.heap) p s:=by
 intro t
 induction t with
 |pure a=>exact λz d q=>⟨q,d⟩
 |raise e=>exact λz d q=>⟨q,d⟩
 |unsupported w=>exact λz z q=>q
 |rule t k ih=>exact λh d q=>ih () h d q
 | «at» t k ih=>exact λh d q=>ih () h d q
 |load a p k ih=>
  intro p s h0 h d q;obtain⟨o,e,q⟩:=q;exact⟨o,e,ih o (h o) d q⟩
 |loadIfAlive a k ih=>exact λh d q=>ih _ (h _) d q
 |update a p g k ih=>
  intro p s h0 h d q;obtain⟨e,q⟩:=q;refine⟨e,ih () h.2 (d.trans λb o ho=>?_) q⟩;by_cases hb:b=a
  ·subst hb;exact⟨g o,Wz _ ho ((h.1 o).2 (Heap.get?_some_iff.mp ho).2),(h.1 o).1⟩
  ·exact⟨o,(Heap.get?_update_ne _ _ _ _ hb).trans ho,rfl⟩
 |point l k ih=>exact λh d q=>ih () h d q
 |alloc o k ih=>exact λh d q=>ih _ (h _) (d.trans (DK.kept λb o e=>Xd _ e)) q
 |fresh k ih=>exact λh d q=>ih _ (h _) d q
 |ask k ih=>exact λh d q=>ih _ (h _) d q
 |handled o k ih=>exact λh d q=>ih _ (h _) d q
 |stack k ih=>exact λh d q=>ih _ (h _) d q
 |thread k ih=>exact λh d q=>ih _ (h _) d q
 |_=>exact λh=>False.elim h
def Yy(h:KD t)(q:wpAny M A t Q E s):
  wpAny M A t (λa s'=>Q a s'/\DK s.heap s'.heap) (λe s'=>E e s'/\DK s.heap s'.heap) s:=fun Γ p i=>QnS h (DK.refl _) (q Γ p i)
def Qlo(o:Obj):(Obj.mapFields f o).dict=o.dict/\(o.isFreed=false->(Obj.mapFields f o).isFreed=false):=by
 obtain⟨c,d,dt,sl⟩:=o;cases dt<;>exact⟨rfl,λh=>h⟩
def KD.b{β:Type}{m:Sem α}{f:α->Sem β}(h:KD m)(hf:∀a,KD (f a)):KD (m >>= f):=KD.bind hf h
def Qbt:KD (load a):=λz=>trivial
def YO:KD (field e i):=by
 unfold field fieldsOf
 refine KD.b ?_ λvs=>by split<;>exact trivial
 split
 ·exact KD.b Qbt λo=>by split<;>exact trivial
 ·exact trivial
def Qd1:KD (setField e i x):=by
 unfold setField;split
 ·unfold updateField;refine KD.b Qbt λo=>?_;split
  ·split
   ·exact⟨Qlo,trivial⟩
   ·exact trivial
  ·exact trivial
 ·exact trivial
def ZL:KD (setFlight e f):=by
 unfold setFlight;refine KD.b YO λtb=>?_;split
 ·exact Qd1
 ·exact trivial
theorem Qcb:∀l:List Env,KD (readyFrames l)
 |[]=>trivial
 |env::outer=>by
  unfold readyFrames;split
  ·refine KD.b Qbt λo=>?_;split
   ·exact trivial
   ·refine KD.b ?_ λim=>KD.b ?_ λback=>KD.b (show KD (update _ _)from⟨λo=>⟨rfl,by obtain⟨c,d,dt,sl⟩:=o;cases dt<;>exact λh=>h⟩,trivial⟩) λz=>Qcb outer
    ·unfold behindIsImport
     repeat (first|exact trivial|exact KD.b YO λz=>trivial|split|refine KD.b trivial λz=>?_)
    ·unfold keptBack;split
     ·split
      ·exact trivial
      ·unfold underTheClaimsCaller
       repeat (first|exact trivial|exact λz=>trivial|split|refine KD.b ?_ λz=>?_)
     ·exact trivial
  ·exact trivial
def QfU:KD (PySem.frameOf env):=by
 unfold PySem.frameOf frameEnvs
 refine KD.b ?_ λl=>KD.b ?_ λo=>by split<;>exact trivial
 ·exact KD.b (λz=>trivial) λz=>trivial
 ·unfold frameObject;split
  ·exact trivial
  ·exact KD.b (Qcb _) λz=>trivial
def Qbs:KD (noteFrame e env):=by
 have place:∀{f:Addr} {b:Bool},KD (entryPlaceOf f b):=λ{f b}=>by
  unfold entryPlaceOf
  exact KD.b (λz=>trivial) λacts=>by split<;>exact trivial
 have fin:∀{hd:Value} {f:Addr},KD (do setField e 1 (<-EntryCells.newEntry hd (<-PySem.frameOf env) .none (rawInt f) .none (<-entryPlaceOf f (hd != .none)))):=λ{hd f}=>by
  refine KD.b QfU λa=>KD.b place λpl=>KD.b ?_ λb=>Qd1;unfold EntryCells.newEntry newFields newObj newObjAsIs;dsimp only
  split<;>split<;>first|exact trivial|exact λz=>trivial|exact KD.b trivial λz=>KD.b (λz=>trivial) λz=>trivial
 unfold noteFrame;split
 ·refine KD.b YO λhd=>?_;split
  ·refine KD.b YO λfl=>?_;split
   ·exact trivial
   ·exact KD.b Qd1 λz=>fin
  ·exact fin
 ·exact trivial
def Qcc:KD (leaving env e):=by
 unfold leaving;exact KD.b Qbs λz=>ZL
end L2
namespace L2
open PySem PySem.Spec PySem.W PyProof.Rows PySem.Calls PySem.Builtin PySem.Builtin.ObjectAttr PySem.Builtin.Getset_descriptor
variable {C a:Addr}{M:Model}
structure ErrCls(K:W.Frag)(C:Addr):Prop where
 ga:findIn K (.ref C) "__getattribute__"=some (some (.builtin "BaseException.__getattribute__"))
 gh:findIn K (.ref C) "__getattr__"=some none
 cl:findIn K (.ref C) "__class__"=some (some (.builtin "object.__class__"))
 gg:specialIn K (.builtin "object.__class__") "__get__"=some (some (.builtin "getset_descriptor.__get__"))
 tk:takesIn K (.builtin "object.__class__")=some true
 sb:subIn K (.ref C) (.type "BaseException")=some true
 so:subIn K (.ref C) (.type "object")=some true
 is:(clsIn K C).isSome=true
def YK(a C:Addr)(dd:Option Addr)(h:Heap):Prop:=∃o vs,h.get? a=some o/\o.cls=.ref C/\o.data=.fields vs/\o.dict=dd
section
variable {prog:Program}{w:World}{A:Around}{E:Value->Shared->Prop}{K:W.Frag}{h:Heap}{g:Array GenState}{d:Drawn}{t:Nat}{os:OsState}{dd:Option Addr}
def Jf(p:YK a C dd h):Looks M h (typeOf (.ref a)) (.ref C):=by
 obtain⟨o,vs,h1,h2,_⟩:=p;exact h2▸(Looks.ld h1).andThen .now
def Qf8(Yyy:ErrCls K C)(X:K.In h):Looks M h (find (.ref a) (.ref C) "__class__") (.bind (.builtin "getset_descriptor.__get__") (.builtin "object.__class__")):=by
 have L1:=Td (M:=M) X Yyy.cl;have L2:Looks M h (getOf (some (.builtin "object.__class__"))) (some (.builtin "getset_descriptor.__get__")):=looks_specialIn X Yyy.gg
 have L3:Looks M h (dataDescriptor? (some (.builtin "object.__class__")) (some (.builtin "getset_descriptor.__get__"))) (some (.builtin "getset_descriptor.__get__",.builtin "object.__class__")):=by
  unfold dataDescriptor?;refine(looks_takesIn X Yyy.tk).andThen ?_;exact .now
 refine L1.andThen (L2.andThen (L3.andThen ?_));exact Looks.tag .now
def QbA(Yyy:ErrCls K C)(X:K.In h)(p:YK a C dd h)(hq:R (.ok (.ret (.ref C))) ⟨h,g,d,t,os⟩):
  codeAny (model prog w) A (.call (.builtin "getset_descriptor.__get__") ⟨[.builtin "object.__class__",.ref a,.ref C],[]⟩) R ⟨h,g,d,t,os⟩:=by
 have L1:=looks_subIn (M:=model prog w) X Yyy.so;have L0:=Jf (M:=model prog w) p;refine Vq KF.slot_gs.plain KF.entry_gs (KF.slot_gs.check _ _ _ _ _ _ _ _ KF.type_class (KF.args_gs _ _ _) ?_);unfold Builtin.«getset_descriptor.__get__» descrGet;rw[dga_obj];refine Xa (Xf ?_);unfold descrGetter descrCheckInstance descrNameAndClass isInstance;simp only[KF.owner_class]
 repeat lk
 refine⟨Code.quiet_builtin _ (by decide +kernel),Uc KF.entry_class ?_⟩
 unfold Builtin.«object.__class__» shownTypeOf
 repeat lk
 exact hq
def QaS(Yyy:ErrCls K C)(X:K.In h)(p:YK a C dd h)(hq:Q () ⟨h,g,d,t,os⟩):wpAny M A (checkBuiltinCall "BaseException.__getattribute__" ⟨[.ref a,nameV],[]⟩) Q E ⟨h,g,d,t,os⟩:=by
 have hk:builtinKind "BaseException.__getattribute__"=some .slot:=by decide +kernel
 have hsplit:splitId "BaseException.__getattribute__"=some ("BaseException","__getattribute__"):=by decide +kernel
 have ha:=PySem.F.args_bexc_ga (.ref a) nameV;have L2:Looks M h (isInstance (.ref a) (.type "BaseException")) true:=(Jf p).andThen (looks_subIn X Yyy.sb);simp only[checkBuiltinCall,hk,hsplit];refine Xa (L2.at ?_)
 repeat (first|wp_step)
 exact hq
def Qef(Yyy:ErrCls K C)(X:K.In h)(p:YK a C dd h)(hq:Q (.done (.ret (.ref C))) ⟨h,g,d,t,os⟩):
  wpAny (model prog w) A (Builtin.«object.__getattribute__» ⟨[.ref a,.str "__class__" tk],[]⟩) Q E ⟨h,g,d,t,os⟩:=by
 have L0:=Jf (M:=model prog w) p;have L1:=Qf8 (M:=model prog w) (a:=a) Yyy X;unfold Builtin.«object.__getattribute__»;refine Xa (Xf (Xa (Xf (Xa (L0.at (Xa (L1.at ?_)))))));show wpAny _ _ (holding [_] (call (.builtin "getset_descriptor.__get__") [.builtin "object.__class__",.ref a,.ref C]) >>= ret) _ _ _;exact Xa (Wh (Vx (QbA Yyy X p (Xf hq))))
def Qeg(Yyy:ErrCls K C)(X:K.In h)(p:YK a C dd h)(hq:Q (some (.ref C)) ⟨h,g,d,t+1,os⟩):
  wpAny (model prog w) A (getAttr? (.ref a) "__class__") Q E ⟨h,g,d,t,os⟩:=by
 have L0:=Jf (M:=model prog w) p;have L1:=Td (M:=model prog w) X Yyy.ga;have L2:=Td (M:=model prog w) X Yyy.gh;unfold getAttr? getAttrBy? getAttrBy;refine Xa (wpAny_mkText (Xa (U4 (Wh (Xa (L0.at (Xa (L1.at ?_))))))));dsimp only
 have hne:¬(onTheHeap (Value.ref C)&&Value.builtin "BaseException.__getattribute__"==Value.builtin "object.__getattribute__")=true:=by
  rw[show(Value.builtin "BaseException.__getattribute__"==Value.builtin "object.__getattribute__")=false from by decide +kernel]
  simp
 rw[if_neg hne];unfold getAttrByItsOwn hookBefore;refine Xa ?_;rw[if_pos (show onTheHeap (Value.ref C)=true from rfl)];refine L2.at ?_;refine Xa (U4 (Wh ?_));have f3:=Ua.ga.bind (.ref a);show wpAny _ _ (boundAndCalled (.builtin "BaseException.__getattribute__") (.ref a) _) _ _ _;unfold boundAndCalled;refine Xa (Tn f3 ?_);refine Vx ?_;refine Vq Ua.ga.plain PySem.F.entry_bexc_ga (QaS Yyy X p (Qef Yyy X p ?_));show wpAny _ _ (handedOut _) _ _ _;exact Xf (Xf hq)
def QfR(Yyy:ErrCls K C):KitX K (.ref a) (.ref C) (YK a C dd) where
 ty:=λy y y p=>Jf p
 it:=λy y X y=>by
  obtain⟨cdD,hcD⟩:=Wy.mp Yyy.is;unfold clsIn at hcD;split at hcD
  ·rename_i c' d' cd' sl' ho;intro A' Q' E' s' k q;unfold isType loadHead;exact Xa (wpAny_loadPart (k _ _ (X _ _ ho)) (Xf q))
  ·cases hcD
 ne:=λh tp dd its n sl X htp=>by
  obtain⟨cdD,hcD⟩:=Wy.mp Yyy.is;refine Bool.eq_false_iff.mpr λq=>?_;have e:C=tp:=Value.ref.inj (Wj.mp q);subst e;unfold clsIn at hcD;split at hcD
  ·rename_i c' d' cd' sl' ho;have z:=(X _ _ ho).symm.trans htp;cases z
  ·cases hcD
 ca:=λ{_ _ _ _ _ s} X p k=>by
  obtain⟨h,g,d,t,os⟩:=s;exact Qeg Yyy X p k
end
noncomputable def QcV(a C:Addr)(dd:Option Addr):HO:=.ext (YK a C dd)
def QlJ(p:YK a C dd h):ObjOk P w H h a (QcV a C dd):=by
 refine⟨p,?_,λh1 h2 q k=>?_⟩
 ·obtain⟨o,_,e,_⟩:=p;exact⟨o,e⟩
 ·obtain⟨o,vs,e,r⟩:=q;exact⟨o,vs,k o e,r⟩
def Qcf(I:Inv X pins Y H s)(e:H a=some (QcV a C dd)):YK a C dd s.heap :=
 (show ObjOk X.prog X.w H s.heap a (.ext (YK a C dd))from I.hok a _ e).1
def Qew: CallR X (.builtin "isinstance") (λxs H Q=>∃a c cv C dd b,xs=[.ref a,c]/\(match c with|.ty n=>some (Value.type n)|.ref r=>some (.ref r)|_=>none)= some cv/\H a=some (QcV a C dd)/\ErrCls X.K C/\W.kitOne X.K (.ref C) cv=some b/\Q (.bl b) H):= by
 intro pins s Y H xs us Q I r h;obtain⟨a,c,cv,C,dd,b,rfl,hc,ha,Yyy,e,q⟩:=h;obtain⟨u,w',rfl,rx,rc⟩:=Qc6 r;cases(show u=Value.ref a from rx)
 have ec:w'=cv:=by
  cases c with
  |ty n=>cases(show w'=Value.type n from rc);exact Xw hc
  |ref r0=>cases(show w'=Value.ref r0 from rc);exact Xw hc
  |_=>cases hc
 subst ec;exact V4 (QfR Yyy) I.kIn (Qcf I ha) e (λz=>nomatch z) λtk=>⟨.bl b,H,I.tok tk,rfl,q⟩
end L2
namespace L2
open PySem PySem.Spec PySem.W PyProof.Rows
section
variable {H:Hp}
structure Cov(B:Heap)(H:Hp)(s:Shared)(l:List Env):Prop where
 trk:∀b u,H b=some u->∃o,B.get? b=some o
 old:∀b o,s.heap.get? b=some o->b∉frs l->∃o',B.get? b=some o'
def DictAt(h:Heap)(a:Addr)(dd:Option Addr):Prop:=∃o,h.get? a=some o/\o.dict=dd
def DictAt.dk(d:DictAt h a dd)(k:DK h h'):DictAt h' a dd:=by
 obtain⟨o,e,q⟩:=d;obtain⟨o',e',q'⟩:=k a o e;exact⟨o',e',q'.trans q⟩
noncomputable def CXw(P:Program)(w:World):CXT:=λouter H s E e s'=>∃a C H' B a0 dd,e=.ref a/\s'.os=s.os/\AllBare s'.gens/\Un (frs outer) [] H H' s.heap s'.heap/\HOk P w H' s'.heap /\
 Heap.FlyingW B outer a (.ref C) a0 s'.heap/\Cov B H' s outer/\H' a=none/\s.heap.get? a=none/\DictAt s'.heap a dd/\E (.ref C) dd H'
def ObjOk.there{P:Program}{w:World}{h:Heap}{a:Addr}{o:HO}(x:ObjOk P w H h a o):∃u,h.get? a=some u:=by
 cases o with
 |lst xs=>obtain⟨_,_,_,_,e⟩:=x;exact⟨_,e⟩
 |tup xs=>obtain⟨_,_,_,_,e,_⟩:=x;exact⟨_,e⟩
 |dK kvs=>obtain⟨_,_,_,_,o,_,_,e,_⟩:=x;exact⟨_,e⟩
 |dT kvs=>obtain⟨_,_,_,_,o,_,_,e,_⟩:=x;exact⟨_,e⟩
 |set S n=>obtain⟨o,_,_,_,e,_⟩:=x;exact⟨_,e⟩
 |ins C dx fs=>obtain⟨_,_,_,e,_⟩:=x;exact⟨_,e⟩
 |own y=>obtain⟨_,e⟩:=x;exact⟨_,e⟩
 |xd fs=>obtain⟨_,⟨_,_,_,e,_⟩,_⟩:=x;exact⟨_,e⟩
 |rng lo hi=>obtain⟨_,_,_,e⟩:=x;exact⟨_,e⟩
 |frz ob u=>obtain⟨e,_⟩:=x;exact⟨_,e⟩
 |tbl ps=>exact⟨_,(show h.get? a=some _ from x)⟩
 |met f y=>exact⟨_,(show h.get? a=some _ from x)⟩
 |ext φ=>obtain⟨_,⟨_,e⟩,_⟩:=x;exact⟨_,e⟩
def QbR(un:Un (frs l) [] H H' s.heap h1)(hok:HOk P w H' h1)(ff:s.heap.FunFrames base l)(fr:∀b∈frs l,H b=none)
  (st1:B.StaysIn h1) (st2:B.StaysIn h2) (up:h1.UpToSlots h2) (cv:Cov B H' s l):Un (frs l) [] H H' s.heap h2/\HOk P w H' h2:=by
 have fsl:∀b o,s.heap.get? b=some o->b∈frs l->∃sl,h2.get? b=some {o with slots:=sl}:=λb o q hb=>by
  obtain⟨sl,e⟩:=un.slot b o q (fr b hb) hb (by simp)
  obtain⟨_,o2,ho2,hd⟩:=ff.mem hb;rw[q]at ho2;cases ho2;obtain⟨sl',e'⟩:=up b _ e hd;exact⟨sl',e'⟩
 refine⟨⟨λb o q n hb hx=>?_,λb o q n hb hx=>fsl b o q hb,un.free,λb o q hx=>?_,un.tups,un.frzs,un.tbls⟩,λa o e=>?_⟩
 ·have e1:=un.keep b o q n hb hx;obtain⟨o',e2⟩:=cv.old b o q hb;have e3:=st1 b o' e2;rw[e1]at e3;cases e3;exact st2 b _ e2
 ·by_cases hb:b∈frs l
  ·obtain⟨sl,e⟩:=fsl b o q hb;exact⟨_,e⟩
  ·obtain⟨o',e2⟩:=cv.old b o q hb;exact⟨o',st2 b _ e2⟩
 ·refine(hok a o e).stay (λb u hb q=>?_) (λy z=>z) λy y z=>z
  have ht:∃x,H' b=some x:=by
   rcases hb with rfl|z
   ·exact⟨_,e⟩
   ·exact⟨_,z⟩
  obtain⟨x,hx⟩:=ht;obtain⟨o',e2⟩:=cv.trk b x hx;have e3:=st1 b o' e2;rw[q]at e3;cases e3;exact st2 b _ e2
section
variable {X:Cx}{pins:List (Addr×Obj)}{Y:St}{H':Hp}{s s':Shared}{e C:Addr}{dd:Option Addr}{B:Heap}{a0:Value}{E:XK}
def QdY(hst:X.stack=X.env::X.outer)(hf:X.env.frame=some L)(hex:X.ex=[])(J:Inv X pins Y H' s')(fl:Heap.FlyingW B X.stack e (.ref C) a0 s'.heap)(cv:Cov B H' X.s₀ X.outer)
  (hn:H' e=none) (hsz:X.s₀.heap.get? e=none) (da:DictAt s'.heap e dd) (hE:E (.ref C) dd H'):wpAny (model X.prog X.w) X.A (leaving X.env (.ref e)) (λy s''=>CXw X.prog X.w X.outer X.H₀ X.s₀ E (.ref e) s'') E2 s':=by
 rw[hst]at fl;refine Xo (Yy (E:=λy y=>False) Qcc (wpAny_leaves_onW (Q:=λy s''=>Heap.FlyingW B X.outer e (.ref C) a0 s''.heap/\s'.heap.UpToSlots s''.heap/\s''.os=s'.os/\s''.gens=s'.gens) (hst▸J.ok.frames) hf fl λh' fl' up=>⟨fl',up,rfl,rfl⟩)) (λy s'' x=>?_) λy y z=>z.1.elim;obtain⟨⟨fl',up,eo,eg⟩,dk⟩:=x;have b:=J.base;rw[hex]at b;obtain⟨un,hok⟩:=QbR b J.hok J.ok.funs J.ok.frf fl.1 fl'.1 up cv;exact⟨e,C,H',B,a0,dd,rfl,eo.trans J.os,eg▸J.bare,un,hok,fl',cv,hn,hsz,da.dk dk,hE⟩
def Qbn(hst:X.stack=X.env::X.outer)(hf:X.env.frame=some L)(hex:X.ex=[])(I:Inv X pins Y H s)(hn:H e=none)(h0:X.s₀.heap.get? e=none)(hl:e≠X.env.locals)
  (he:s.heap.get? e=some oe) (hc:oe.cls=.ref C) (hd:oe.data=.fields vs) (v0:vs[0]?=some a0) (v1:vs[1]?=some .none) (hE:E (.ref C) oe.dict H):
  wpAny (model X.prog X.w) X.A (leaving X.env (.ref e)) (λy s''=>CXw X.prog X.w X.outer X.H₀ X.s₀ E (.ref e) s'') E2 s:=by
 have nf:e∉frs X.stack:=λz=>by
  rcases Xg.mp (I.stkSub e z)with z|z
  ·exact hl z
  ·obtain⟨_,o,ho,_⟩:=I.ok.funs.mem z;rw[h0]at ho;cases ho
 generalize hB:hideAll s.heap (e::frs X.stack)=B;have stB:B.StaysIn s.heap:=λb o q=>of_hideAll _ (hB▸q);have ff:s.heap.FunFrames B X.stack:=hB▸funFrames_hide I.stack λenv hm a ha=>Xj _ (T4.mpr ⟨env,hm,ha⟩);have eB:B.get? e=none:=hB▸hideAll_none _ (Xm ..)
 have cv:Cov B H X.s₀ X.outer:=by
  refine⟨λb u q=>?_,λb o q hb=>?_⟩
  ·obtain⟨o,ho⟩:=(I.hok b u q).there;refine⟨o,hB▸hideAll_get _ ho λz=>?_⟩
   rcases Xg.mp z with rfl|z
   ·rw[hn]at q;cases q
   ·rw[I.stkFree b z]at q;cases q
  ·obtain⟨o',ho⟩:=I.base.there b o q (by rw[hex];simp)
   refine⟨o',hB▸hideAll_get _ ho λz=>?_⟩
   rcases Xg.mp z with rfl|z
   ·rw[h0]at q;cases q
   ·rcases Xg.mp (I.stkSub b z)with z|z
    ·exact X1 (Xr (Xk q) I.ok.above) z
    ·exact hb z
 refine Xo (Yy (E:=λy y=>False) Qcc (wpAny_leaving_firstW (base:=B) (Q:=λy s''=>Heap.FlyingW B X.outer e (.ref C) a0 s''.heap/\s.heap.UpToSlots s''.heap/\s''.os=s.os/\s''.gens=s.gens) (hst▸I.ok.frames) (hst▸ff) hf he stB eB hd v1 v0 λh' x=>by obtain⟨k1,⟨_,_,k2⟩,k3,k4⟩:=x;exact⟨⟨k1,eB,k2,hc▸k3⟩,k4,rfl,rfl⟩)) (λy s'' v=>?_) λy y z=>z.1.elim;obtain⟨⟨fl',up,eo,eg⟩,dk⟩:=v;have b:=I.base;rw[hex]at b;obtain⟨un,hok⟩:=QbR b I.hok I.ok.funs I.ok.frf stB fl'.1 up cv;exact⟨e,C,H,B,a0,oe.dict,rfl,eo.trans I.os,eg▸I.bare,un,hok,fl',cv,hn,h0,DictAt.dk ⟨oe,he,rfl⟩ dk,hE⟩
def Inv.adopt(I:Inv X pins Y H s)(hn:H e=none)(h0:X.s₀.heap.get? e=none)(hL:e≠X.env.locals)(hC:∀x c,X.env.cells.lookup x=some c->c≠e)(hp:∀p∈X.pn++pins,p.1≠e)
  (new:ObjOk X.prog X.w (upd H e ho) s.heap e ho):Inv X pins Y (upd H e ho) s:=by
 have ne:∀b u,H b=some u->b≠e:=λb u q z=>by rw[z,hn]at q;cases q
 refine⟨I.ok,I.os,I.bare,⟨I.base.keep,I.base.slot,λb o q n hx=>?_,I.base.there,λb xs q=>?_,λb o u q=>?_,λb ps q=>?_⟩,I.loc,I.cell,?_,λx c q=>?_,λp hp'=>?_,λb u q=>?_,I.len⟩
 ·have hb:b≠e:=λz=>by rw[z,h0]at q;cases q
  rw[Qd hb];exact I.base.free b o q n hx
 ·have z:=I.base.tups b xs q;rw[Qd (ne _ _ z)];exact z
 ·have z:=I.base.frzs b o u q;rw[Qd (ne _ _ z)];exact z
 ·obtain⟨m,z⟩:=I.base.tbls b ps q
  exact⟨m,by rw[Qd (ne _ _ z)];exact z⟩
 ·rw[Qd (Wr hL)];exact I.free
 ·rw[Qd (hC x c q)];exact I.freeC x c q
 ·obtain⟨a1,a2,a3⟩:=I.pin p hp'
  exact⟨a1,by rw[Qd (hp p hp')];exact a2,a3⟩
 ·by_cases hb:b=e
  ·subst hb;rw[Qh]at q;cases q;exact new
  ·rw[Qd hb]at q
   exact(I.hok b u q).stay (λc v y r=>r) (λc r=>by rw[Qd (ne _ _ r)];exact r) λc xs r=>by rw[Qd (ne _ _ r)];exact r
def Inv.gone{n:Str}{j t:Nat}{m:Str->Option Value}{v:Option Value}{h':Heap}(I:Inv X pins Y H s)(hN:X.N.Nodup)(hj:X.N[j]?=some n)(hk:X.env.scope.names.lookup n=some .local)(hm:s.heap.Ns X.env.locals m)
  (hn:h'.Ns X.env.locals (λx=>if x=n then v else m x)) (hs:Heap.SameBut X.env.locals s.heap h'):Inv X pins (Y.set j none) H {s with heap:=h',toks:=t}:=by
 obtain⟨m0,hm0,hl⟩:=id I.loc;obtain⟨oL,_,_,hoL,_⟩:=id hm
 have em:∀x,m0 x=m x:=λx=>by
  obtain⟨o1,es1,ep1,a1,a2,a3,a4⟩:=hm0;obtain⟨o2,es2,ep2,b1,b2,b3,b4⟩:=hm;rw[a1]at b1;cases b1;rw[a2]at b2;cases b2;rw[<-a4,<-b4]
 refine⟨I.ok,I.os,I.bare,⟨λb o e n hb hx=>?_,λb o e n hb hx=>?_,I.base.free,λb o e hx=>?_,I.base.tups,I.base.frzs,I.base.tbls⟩,⟨_,hn,λi y v' e1 e2 e3=>?_⟩,λy c e=>?_,I.free,I.freeC,λp hp=>?_,λb ob e=>?_,by simpa using I.len⟩
 ·exact(hs.2 b (X1 (Xr (Xk e) I.ok.above))).trans (I.base.keep b o e n hb hx)
 ·obtain⟨sl,e1⟩:=I.base.slot b o e n hb hx;exact⟨sl,(hs.2 b (X1 (Xr (Xk e) I.ok.above))).trans e1⟩
 ·obtain⟨o',e1⟩:=I.base.there b o e hx;exact⟨o',(hs.2 b (X1 (Xr (Xk e) I.ok.above))).trans e1⟩
 ·have hij:i≠j:=λz=>by
   subst z
   have l:i < Y.length:=by rw[I.len];exact(Xh.mp hj).1
   rw[X9 l]at e2;cases e2
  rw[X3 (Wr hij)]at e2;obtain⟨u',r',q⟩:=hl i y v' e1 e2 e3;refine⟨u',r',?_⟩
  rcases q with⟨k,e⟩|⟨k,c,e,z⟩
  ·refine .inl ⟨k,?_⟩;have:y≠n:=λe=>hij (Qag hN e1 (e▸hj));simp[this,<-em,e]
  ·exact .inr ⟨k,c,e,z.sameBut hs (I.cne y c e)⟩
 ·obtain⟨w',z⟩:=I.cell y c e;exact⟨w',z.sameBut hs (I.cne y c e)⟩
 ·obtain⟨e,n,ne,nf,d⟩:=I.pin p hp;exact⟨(hs.2 p.1 ne).trans e,n,ne,nf,d⟩
 ·refine(I.hok b ob e).stay (λc w' hc q=>(hs.2 c ?_).trans q) (λw q=>q) λw w q=>q;rintro rfl
  rcases hc with hc|hc
  ·rw[<-hc,I.free]at e;cases e
  ·rw[I.free]at hc;cases hc
end
end
section
noncomputable def QeT:List Value:=[.type "ValueError",.type "Exception",.type "BaseException",.type "object"]
section
variable {X:Cx}{pins:List (Addr×Obj)}{Y:St}{H H':Hp}{s s':Shared}{e C C':Addr}{dd:Option Addr}{B:Heap}{a0:Value}{x n y:Str}{j:Nat}{np pn pos:Pos}{Q:Flow->Shared->Prop}{E:Value->Shared->Prop}
noncomputable def Cx.hd(X:Cx)(v:Value):Cx:={X with A:=X.A.mark (some v),calm:=false}
theorem Inv.hd{v:Value}(I:Inv X pins Y H s):Inv (X.hd v) pins Y H s :=
 ⟨⟨I.ok.mod,I.ok.kind,I.ok.glob,I.ok.blt,I.ok.above,I.ok.inj,I.ok.has,I.ok.cab,(λz=>nomatch z),I.ok.frames,I.ok.stk,I.ok.exf,I.ok.bs,I.ok.bsz,I.ok.noex,I.ok.exfs,I.ok.funs,I.ok.frf⟩,I.os,I.bare,I.base,I.loc,I.cell,I.free,I.freeC,I.pin,I.hok,I.len⟩
def Inv.unhd(ok:X.Ok)(I:Inv (X.hd v) pins Y H s):Inv X pins Y H s:=⟨ok,I.os,I.bare,I.base,I.loc,I.cell,I.free,I.freeC,I.pin,I.hok,I.len⟩
structure Met(X:Cx)(pins:List (Addr×Obj))(Y:St)(H H':Hp)(s s':Shared)(e C:Addr)(dd:Option Addr)(B:Heap)(a0:Value):Prop where
 I:Inv X pins Y H s
 os:s'.os=s.os
 bare:AllBare s'.gens
 un:Un (frs X.stack) [] H H' s.heap s'.heap
 hok:HOk X.prog X.w H' s'.heap
 fl:Heap.FlyingW B X.stack e (.ref C) a0 s'.heap
 cv:Cov B H' s X.stack
 hn:H' e=none
 hs0:s.heap.get? e=none
 h00:X.s₀.heap.get? e=none
 da:DictAt s'.heap e dd
def Met.at(M:Met X pins Y H H' s s' e C dd B a0){h2:Heap}(f2:Heap.FlyingW B X.stack e (.ref C) a0 h2)(up:s'.heap.UpToSlots h2)(tk:Nat):Inv X pins Y H' {s' with heap:=h2,toks:=tk}:=by
 obtain⟨un2,hok2⟩:=QbR M.un M.hok M.I.stack M.I.stkFree M.fl.1 f2.1 up M.cv
 exact M.I.call' (s':={s' with heap:=h2,toks:=tk}) (ch:=[]) M.os un2 hok2 M.bare (λb z=>absurd z (by simp))
def Qg5(f:Heap.FlyingW B l e (.ref C) a0 h)(d:DictAt h e dd):YK e C dd h:=by
 obtain⟨_,_,_,oe,vs,T,oT,ts,he,hc,hd,_⟩:=f;obtain⟨o,e1,e2⟩:=d;cases he.symm.trans e1;exact⟨oe,vs,he,hc.1,hd,e2⟩
def QfO(hst:X.stack=X.env::X.outer)(hf:X.env.frame=some X.env.locals)(M:Met X pins Y H H' s s' e C dd B a0)
  (hg:Gl X x) (hm:X.mg x=some (.ref C')) (hx:exmOne X.K (.ref C) (.ref C')=some true) (hdb:(x==("__debug__":Str))=false)
  (k:∀h₅,Heap.FlyingW B (X.env::X.outer) e (.ref C) a0 h₅->s'.heap.UpToSlots h₅->DictAt h₅ e dd->codeAny (model X.prog X.w) (X.A.mark (some (.ref e))) (.handlers (.ref e) [.ExceptHandler none nm body pos] X.env) (λr s₂=>match r with
     |.ok f=>(match nm with
      |none=>Q f s₂
      |some n=>wpAny (model X.prog X.w) X.A (do bindName X.env n .none;unbindBehindTheSuite X.env n pos) (λv s₃=>Q f s₃) E s₂)
     |.error y=>cameBackBy (model X.prog X.w) X.A X.env E y s₂) {s' with heap:=h₅}):
  wpAny (model X.prog X.w) X.A (noteFrame (.ref e) X.env) (λv s₂=>wpAny (model X.prog X.w) X.A (setFlight (.ref e) none) (λv s₃=>
   wpAny (model X.prog X.w) X.A (handleBy (.ref e) X.env [.ExceptHandler (some (.Name x np)) nm body pos]) Q E s₃) E s₂) E s':=by
 have fl:=M.fl;rw[hst]at fl;refine Xo (Yy (E:=λv v=>False) Qbs (wpAny_looks_onW (Q:=λv s''=>∃h₄,s''={s' with heap:=h₄}/\Heap.HeldW B (X.env::X.outer) e (.ref C) a0 X.env.locals h₄/\s'.heap.UpToSlots h₄) (hst▸M.I.ok.frames) hf fl λh₄ x y=>⟨h₄,rfl,x,y⟩)) (λv s4 u=>?_) λv v z=>z.1.elim;obtain⟨⟨h₄,e4,hl₄,up₄⟩,dk₄⟩:=u;subst e4;refine Xo (Yy (E:=λv v=>False) ZL (wpAny_landsW (s:={s' with heap:=h₄}) (Q:=λv s''=>∃h₅,s''={s' with heap:=h₅}/\Heap.FlyingW B (X.env::X.outer) e (.ref C) a0 h₅/\h₄.UpToSlots h₅) hl₄ λh₅ x y=>⟨h₅,rfl,x,y⟩)) (λv s5 t=>?_) λv v z=>z.1.elim;obtain⟨⟨h₅,e5,fl₅,up₅'⟩,dk₅⟩:=t;subst e5;have da₅:=(M.da.dk dk₄).dk dk₅;have up₅:=up₄.trans up₅';have J5:=M.at (hst▸fl₅) up₅ s'.toks
 refine wpAny_handleBy_cons (codeAny_handlers_test ?_) (by intro z;cases z)
 refine U1 M.I.ok.kind hg (Calls.loadGlobal_global (by rw[M.I.ok.glob];exact J5.mod.glob.keeps J5.bk) hm ?_) hdb
 refine(exm_one (M:=model X.prog X.w) J5.kIn (Jf (Qg5 fl₅ da₅)) hx).here ?_;exact k h₅ fl₅ up₅ da₅
def Qi7{b₀:Stmt}{body:List Stmt}{W:St->Hp->Prop}(hst:X.stack=X.env::X.outer)(hf:X.env.frame=some X.env.locals)(hN:X.N.Nodup)(M:Met X pins Y H H' s s' e C dd B a0)
  (hg:Gl X x) (hm:X.mg x=some (.ref C')) (hx:exmOne X.K (.ref C) (.ref C')=some true) (hdb:(x==("__debug__":Str))=false)
  (hj:X.N[j]?=some n) (kn:X.env.scope.names.lookup n=some .local)
  (hS:∀s7,Inv (X.hd (.ref e)) pins (Y.set j (some (.ref e))) (upd H' e (QcV e C dd)) s7->wpAny (model X.prog X.w) (X.hd (.ref e)).A (execs (b₀::body) X.env) (λf s8=>f=.next/\∃σ8 H8,Inv (X.hd (.ref e)) pins σ8 H8 s8/\W σ8 H8) (λu u=>False) s7)
  (k:∀σ8 H8 s'',W σ8 H8->Inv X pins (σ8.set j none) H8 s''->Q .next s''):
  wpAny (model X.prog X.w) X.A (noteFrame (.ref e) X.env) (λu s₂=>wpAny (model X.prog X.w) X.A (setFlight (.ref e) none) (λu s₃=>
   wpAny (model X.prog X.w) X.A (handleBy (.ref e) X.env [.ExceptHandler (some (.Name x np)) (some n) (b₀::body) pos]) Q E s₃) E s₂) E s':=by
 refine QfO hst hf M hg hm hx hdb λh₅ fl₅ up₅ da₅=>?_;refine codeAny_handlers_suite_as ?_;refine Xo (Yy (E:=λu u=>False) ZL (lands_againW (s:={s' with heap:=h₅}) (Q:=λu s''=>∃h₆,s''={s' with heap:=h₆}/\Heap.FlyingW B (X.env::X.outer) e (.ref C) a0 h₆/\h₅.UpToSlots h₆) fl₅ λh₆ x y=>⟨h₆,rfl,x,y⟩)) (λu s6 r=>?_) λu u z=>z.1.elim;obtain⟨⟨h₆,e6,fl₆,up₆⟩,dk₆⟩:=r;subst e6;have da₆:=da₅.dk dk₆;have J6:=M.at (hst▸fl₆) (up₅.trans up₆) s'.toks;have I:=M.I;have hs0:=M.hs0
 have cne:∀z c,X.env.cells.lookup z=some c->c≠e:=λz c q w=>by
  obtain⟨v,o,ho,_⟩:=I.cell z c q;rw[w,hs0]at ho;cases ho
 have hL:e≠X.env.locals:=λw=>by
  obtain⟨m,⟨o,_,_,ho,_⟩,_⟩:=I.loc;rw[<-w,hs0]at ho;cases ho
 have hp:∀p∈X.pn++pins,p.1≠e:=λp q w=>by
  have:=(I.pin p q).1;rw[w,hs0]at this;cases this
 have J6':Inv X pins Y (upd H' e (QcV e C dd)) {s' with heap:=h₆}:=J6.adopt M.hn M.h00 hL cne hp (QlJ (Qg5 fl₆ da₆));refine JV (v:=.ref e) J6' hN hj (.inl kn) rfl (λs7 J7=>?_) (.inr kn);refine Xo (hS _ J7.hd) (λf s8 l=>?_) λu u z=>z.elim;obtain⟨ef,σ8,H8,J8,w⟩:=l;subst ef;have J8:=J8.unhd I.ok;obtain⟨m8,hn8,_⟩:=J8.loc
 refine wpAny_nameGoes_keeps kn hn8 (by rw[I.ok.kind];rfl) λh' v hv hs=>?_
 exact k σ8 H8 _ w (J8.gone (t:=s8.toks+1) hN hj kn hn8 hv hs)
end
end
section
structure FnOkH(P:Program)(w:World)(K:W.Frag)(mg:Str->Option Value)(base:Heap)(k:Nat)(f:Addr)(fd:FuncData)(ps:List Str)(sp:Sp):Prop where
 len:∀vs H Q E,sp vs H Q E->vs.length=ps.length
 run:∀(A:Around) (v:Value) (outer:List Env) (s:Shared) (H:Hp) (args:Args) (us:List Value) (vs:List V) (Q:VK) (E:XK),Room k A->Env0 P w K mg base A outer s H->BindsTo s fd args (ps.zip us)->Vals vs us->sp vs H Q E ->
  codeAny (model P w) (A.mark (some v)) (.call (.ref f) args) (CR CX0 outer P w H s Q E) s
def QlG{P:Program}{w:World}{K:W.Frag}{mg:Str->Option Value}{base:Heap}{k:Nat}{f:Addr}{name qual:Str}{params:Arguments}{body:List Stmt}{scope:Scope}{dV kV doc pm cdv ct oc:Value}{an od:Option Addr}
  {osl:Array (Option Value)} {N ps:List Str} {sp:Sp} (lk:K.lookup f=some ⟨oc,od,.func (W.fnOf name qual params body scope dV kV doc pm an cdv ct),osl⟩) (hcd:W.codeIn K cdv qual=true) (S:FnScope N ps scope)
  (len:∀vs H Q E,sp vs H Q E->vs.length=ps.length)
  (hbody:∀(A:Around) (v:Value) (outer:List Env) (s:Shared) (H:Hp) (vs:List V) (Q:VK) (E:XK),Room k (A.deeper (envOfC qual scope s.heap.objs.size f cdv))->sp vs H Q E ->
   ∃t,PSs ((Qao CX0 P w K mg base N qual scope f cdv A outer s H E).hd v).nox body t/\t {nx:=λz H'=>Q .non H',rt:=Q} (start N vs) H):
  FnOkH P w K mg base (k+1) f (W.fnOf name qual params body scope dV kV doc pm an cdv ct) ps sp:=by
 refine⟨len,λA v outer s H args us vs Q E hr e0 hb r hsp=>?_⟩;have hl:=len _ _ _ _ hsp;have KX:K.In s.heap:=e0.mod.kin.keeps λb o e=>(e0.bs b o e).1;have lim:s.heap.NoLimit:=e0.mod.nolimit.keeps λb o e=>(e0.bs b o e).1
 have hkd:∀y∈ps.zip us,scope.names.lookup y.1=some .local\/(scope.names.lookup y.1=some .cell/\((cellsFrom (s.heap.objs.size+1) scope.names []).lookup y.1).isSome=true):=λ⟨n,u⟩ hy=>
  (S.par n (Ww hy).1).imp id λq=>⟨q,W.cellsFrom_some _ _ _ (.inl q)⟩
 refine codeAny_call_function (A:=A.mark (some v)) hr.depth (KX _ _ lk) rfl S.co S.gen rfl (W.codeRec_of KX hcd) (hb _ _ _ _ ?_);refine wpAny_newFunctionEnv_cells S.kind hkd λenv he s1 x=>?_;subst he;refine⟨lim.keeps x.toInCall.keep,codeAny_func ?_⟩;obtain⟨t,ht,hq⟩:=hbody A v outer s H vs Q E (hr.deeper _) hsp;have I:Inv (Qao CX0 P w K mg base N qual scope f cdv A outer s H E) [] (start N vs) H s1:=QaP S hr.hd e0 hl r x;refine Xo (ht [] s1 (start N vs) H _ (I.hd.wish _) hq) (λfl s' hs=>?_) λe s' hs=>hs.elim
 have fin:∀{Y':St} {H':Hp} {y:V} {u:Value},Inv ((Qao CX0 P w K mg base N qual scope f cdv A outer s H E).hd v).nox [] Y' H' s'->RelV y u->Q y H'->CE outer P w H s Q u s' :=
  λ{Y' H' y u} J ry q=>⟨y,H',J.os,J.bare,J.base,J.hok,ry,q⟩
 cases fl with
 |ret u=>
  obtain⟨y,Y',H',J,ry,q⟩:=hs;exact fin J ry q
 |next=>
  obtain⟨Y',H',J,q⟩:=hs;exact fin (y:=V.non) (u:=Value.none) J rfl q
 |brk=>
  obtain⟨_,_,_,q⟩:=hs;exact False.elim q
 |cont=>
  obtain⟨_,_,_,q⟩:=hs;exact False.elim q
end
section
variable {C N fI:Addr}{A:Around}{h:Heap}{prog:Program}{s:Shared}{w:World}
section
variable {E:Value->Shared->Prop}{g:Array GenState}{d:Drawn}{t:Nat}{os:OsState}
variable {nm q:Str}{bs bm bmB:List Value}{hdct:Bool}{sn:List Str}{sub:List Value}{ab:Bool}{col:Option Bool}{dd:Option Addr}{k0 k1 k2 k3 k5:Option Value}{B newId initId:String}
def Qhf(F:ExcBaseFacts B newId initId bmB)(T:OwnTail h bmB bm)
  (hC:h.get? C=some (excClassObj nm q C N bs bm hdct sn sub ab col dd k0 k1 k2 k3 k5 newId)) (hn:h.Ns N mN) (hi:mN "__init__"=some (.ref fI)) (hf:h.get? fI=some oI) (hc:oI.cls=.type "function")
  (k:∀h' e,e=h.objs.size+1->Heap.MadeExcOf h h' e (.ref C) us->wpAny (model prog w) A (call (.ref fI) (.ref e::us)) (λr s'=>r=.none/\Q (.done (.ret (.ref e))) s') E ⟨h',g,d,t,os⟩) (hu:us.length<=sizeLine):
  wpAny (model prog w) A (Builtin.«type.__call__» ⟨.ref C::us,[]⟩) Q E ⟨h,g,d,t,os⟩:=by
 repeat (first|with_reducible refine Uv hC ?_|with_reducible refine wpAny_madeBy_exc hC ?_|wp_step)
 refine codeAny_call_builtin_code (Code.quiet_builtin _ F.quiet) (wpAny_check_new_subT F T hC (codeAny_exc_new_subT F T hC ?_ hu));show wpAny _ _ _ _ _ _;generalize hh:(h.push {cls:=.type "tuple",data:=.seq us.toArray}).push {cls:=.ref C,data:=.fields #[.ref h.objs.size,.none,.none,.none,.bool false,.none]}=h2;have kp:∀b o,h.get? b=some o->h2.get? b=some o:=λb o e=>hh▸Xd _ (Xd _ e)
 have he:h2.get? (h.objs.size+1)=some {cls:=.ref C,data:=.fields #[.ref h.objs.size,.none,.none,.none,.bool false,.none]}:=by subst hh;heap_get
 have ht:h2.get? h.objs.size=some {cls:=.type "tuple",data:=.seq us.toArray}:=hh▸Xd _ (Heap.get?_push_at rfl rfl);have T2:=T.keeps kp
 have cC:(Value.ref C::bm).contains (.ref C)=true:=by simp
 unfold isInstance
 repeat (first|with_reducible refine Uv he ?_|(with_reducible refine wpAny_isSubtype_exc (kp _ _ hC) ?_;rw[cC])|wp_step)
 show wpAny _ _ (typeLookup (.ref C) _) _ _ _;refine wpAny_typeLookup_tail (kp _ _ hC) (hn.keeps kp) T2 F.mroIs F.init.lookup ?_;rw[hi];refine Wh (Xa ?_);unfold bindSpecial;refine Xa (wpAny_typeOf (T:="function") ⟨_,kp _ _ hf,hc⟩ ?_)
 rw[if_pos (by decide)]
 refine Xf (Xa (Xo (k h2 (h.objs.size+1) rfl ⟨kp,Uy (Uk _),h.objs.size,he,Uy (Xi _),ht⟩) (λr s' hr=>?_) λz z x=>x));obtain⟨rfl,hQ⟩:=hr
 wp_walk
 exact hQ
def Qhg(F:ExcBaseFacts B newId initId bmB)(T:OwnTail h bmB bm){mN:Str->Option Value}{us:List Value}{oI:Obj}{Q:Value->Shared->Prop}
  (hC:h.get? C=some (excClassObj nm q C N bs bm hdct sn sub ab col dd k0 k1 k2 k3 k5 newId)) (hn:h.Ns N mN) (hi:mN "__init__"=some (.ref fI)) (hf:h.get? fI=some oI) (hc:oI.cls=.type "function")
  (k:∀h' e,e=h.objs.size+1->Heap.MadeExcOf h h' e (.ref C) us->wpAny (model prog w) (A.under (.builtin "type.__call__" ⟨.ref C::us,[]⟩)) (call (.ref fI) (.ref e::us)) (λr s'=>r=.none/\Q (.ref e) s') E ⟨h',g,d,t,os⟩) (hu:us.length<=sizeLine):
  wpAny (model prog w) A (call (.ref C) us) Q E ⟨h,g,d,t,os⟩:=by
 have f1:=tc_lookup;have f2:=tc_bind (.ref C);have hT:(⟨h,g,d,t,os⟩:Shared).TypeIs (.ref C) "type":=⟨_,hC,rfl⟩;refine Vx (codeAny_of_tree ?_);show wpAny _ _ (callAny (.ref C) _) _ _ _
 repeat (any_goals (first|assumption|with_reducible refine Uv hC ?_|wp_step))
 exact⟨rfl,codeAny_call_builtin_at (Code.quiet_builtin _ (by decide +kernel)) entry_typeCall (wpAny_check_type_call_sub hC (Qhf F T hC hn hi hf hc k hu))⟩
end
section
variable {E:Value->Shared->Prop}{env:Env}
variable {nm q:Str}{bs bm:List Value}{hdct:Bool}{sn:List Str}{sub:List Value}{ab:Bool}{col:Option Bool}{dd:Option Addr}{k0 k1 k2 k3 k5:Option Value}{newId:String}
def QeS(hb:bm.contains (.type "BaseException")=true)(hh:A.handled=none)
  (h:wpAny M A x (λv s₁=>∃e o vs,v=.ref e/\s₁.heap.get? C=some (excClassObj nm q C N bs bm hdct sn sub ab col dd k0 k1 k2 k3 k5 newId)/\s₁.heap.get? e=some o/\o.cls=.ref C/\o.data=.fields vs/\vs[1]?=some .none/\E (.ref e) s₁) E s):
  wpAny M A (raiseStmt env (some x) none) Q E s:=by
 have cB:(Value.ref C::bm).contains (.type "BaseException")=true:=by rw[List.contains_cons,hb,Bool.or_true]
 unfold raiseStmt;refine Xa (Xo h (λv s₁ h₁=>?_) λz z x=>x);obtain⟨e,⟨oc,od,odt,osl⟩,vs,rfl,hC,he,hc,hd,h1,hE⟩:=h₁;dsimp only at hc hd;subst hc hd;obtain⟨hp,g,d,tk,os⟩:=s₁
 repeat (first|with_reducible refine Uv he ?_|with_reducible refine Uv hC ?_|(with_reducible refine wpAny_isSubtype_exc hC ?_;rw[cB])|with_reducible refine Wl he rfl h1 ?_|wp_step)
 exact wpAny_raiseNew_none hh hE
end
def QmE(a C:Addr)(dd:Option Addr)(h:Heap):Prop:=∃o vs t0,h.get? a=some o/\o.cls=.ref C/\o.data=.fields vs/\vs[0]?=some (.ref t0)/\vs[1]?=some .none/\o.dict=dd
noncomputable def JE(a C:Addr)(dd:Option Addr):HO:=.ext (QmE a C dd)
def QdP{P:Program}{H:Hp}{a:Addr}{dd:Option Addr}(p:QmE a C dd h):ObjOk P w H h a (JE a C dd):=by
 refine⟨p,?_,λh1 h2 q k=>?_⟩
 ·obtain⟨o,_,_,e,_⟩:=p;exact⟨o,e⟩
 ·obtain⟨o,vs,a0,e,r⟩:=q;exact⟨o,vs,a0,k o e,r⟩
section
variable {X:Cx}{pins:List (Addr×Obj)}{Y:St}{H:Hp}{e:Addr}{dd:Option Addr}
def QdQ(I:Inv X pins Y H s)(q:H e=some (JE e C dd)):QmE e C dd s.heap:=(show ObjOk X.prog X.w H s.heap e (.ext (QmE e C dd))from I.hok e _ q).1
def Inv.drop(I:Inv X pins Y (upd H e (JE e C dd)) s)(hn:H e=none):Inv X pins Y H s:=by
 have ne:∀b u,u≠JE e C dd->upd H e (JE e C dd) b=some u->H b=some u:=λb u d q=>by
  by_cases hb:b=e
  ·subst hb;rw[Qh]at q;cases q;exact absurd rfl d
  ·rw[Qd hb]at q;exact q
 have no:∀b,upd H e (JE e C dd) b=none->H b=none:=λb q=>by
  by_cases hb:b=e
  ·rw[hb];exact hn
  ·rw[Qd hb]at q;exact q
 refine⟨I.ok,I.os,I.bare,⟨I.base.keep,I.base.slot,λb o q n hx=>no b (I.base.free b o q n hx),I.base.there,λb xs q=>ne b _ (λz=>nomatch z) (I.base.tups b xs q),λb o u q=>ne b _ (λz=>nomatch z) (I.base.frzs b o u q),λb ps q=>?_⟩,I.loc,I.cell,no _ I.free,λx c q=>no _ (I.freeC x c q),λp hp=>?_,λb u q=>?_,I.len⟩
 ·obtain⟨m,z⟩:=I.base.tbls b ps q;exact⟨m,ne b _ (λz=>nomatch z) z⟩
 ·obtain⟨a1,a2,a3⟩:=I.pin p hp;exact⟨a1,no _ a2,a3⟩
 ·have hb:b≠e:=λz=>by rw[z,hn]at q;cases q
  refine(I.hok b u (by rw[Qd hb];exact q)).stay (λc v y r=>r) (λc r=>ne c _ (λz=>nomatch z) r) λc xs r=>ne c _ (λz=>nomatch z) r
end
section
variable {X:Cx}{CB:Addr}{x:Str}{np apos pos:Pos}{a b:Expr}{t:TA}
def tBI(C:Addr)(t:TA):TE:=λY H Q=>t Y H λvs H1=>∃e v dd,vs=[.ref e,v]/\H1 e=some (JE e C dd)/\Q .non H1
def QnJ{K:W.Frag}{mg:Str->Option Value}{n:Str}{v:Value}(X:K.In h)(G:h.Ns N mg)(e:nsIn K N n=some (some v)):mg n=some v:=by
 obtain⟨o,es,ep,ho,hd,_,hf⟩:=G;unfold nsIn at e;split at e
 ·rename_i q;cases ho.symm.trans (X _ _ q);cases hd;split at e
  ·rename_i en he;cases e;rw[<-hf,nsFind,findBy,<-Array.find?_toList,he];rfl
  ·split at e<;>cases e
 ·cases e
noncomputable def Qed(K:W.Frag)(C fI:Addr):Bool:=match K.lookup C with
 |some ⟨.type "type",_,.cls cd,sl⟩=>(match cd.mro,sl.toList with
  |.ref C'::bm,[_,_,_,_,some (.builtin n),_]=>C'==C&&n=="ValueError.__new__"&&!cd.hasDel&&tailIn K QeT bm&&nsOkIn K cd.ns&&nsIn K cd.ns "__init__"==some (some (.ref fI))
  |_,_=>false)
 |_=>false
def Qby{K:W.Frag}{C:Addr}(X:K.In h)(q:Qed K C fI=true):
  ∃bm N nm q bs hdct sn sub ab col dd k0 k1 k2 k3 k5 mN,h.get? C=some (excClassObj nm q C N bs bm hdct sn sub ab col dd k0 k1 k2 k3 k5 "ValueError.__new__")/\h.Ns N mN/\mN "__init__"=some (.ref fI)/\OwnTail h QeT bm:=by
 unfold Qed at q;split at q
 ·rename_i dd cd sl ho;split at q
  ·rename_i C' bm k0 k1 k2 k3 n k5 hm hs;simp only[Xe,Wj,Vt]at q;obtain⟨⟨⟨⟨⟨rfl,rfl⟩,hdel⟩,ht⟩,hok⟩,hni⟩:=q;obtain⟨nm,bs,mro,ns,qn,hd,sn,sub,ab,col,del⟩:=cd;dsimp only at hm hdel hok hni;subst hm hdel
   have hsl:sl=#[k0,k1,k2,k3,some (.builtin "ValueError.__new__"),k5]:=by
    obtain⟨l⟩:=sl;simp only at hs;rw[hs]
   subst hsl;exact⟨bm,ns,nm,qn,bs,hd,sn,sub,ab,col,dd,k0,k1,k2,k3,k5,_,X _ _ ho,.of_isNs (isNs_of_in X hok),QnJ X (.of_isNs (isNs_of_in X hok)) hni,tail_of_in X ht⟩
  ·cases q
 ·cases q
def Qfw{pl:Sem Bool}(hg:Gl X x)(hm:X.mg x=some (.ref CB))(hdb:(x==("__debug__":Str))=false)(q:Qed X.K C fI=true)(h1:specialIn X.K (.ref CB) "__getattribute__"=some (some (.builtin "type.__getattribute__")))(h2:readsIn X.K CB (.type "type")=true)
  (h3:findCls X.K (.ref CB) (.type "type") "__init__"=some (.val (.builtin "ValueError.__init__"))) (ha:PA X [a,b] t) (hs:starEach [a,b] X.env=[(false,eval a X.env),(false,eval b X.env)])
  (ht:eval (.Call (.Attribute (.Name x np) "__init__" apos) [a,b] [] pos) X.env=(do
   let ov <-eval (.Name x np) X.env
   standAt apos.atName
   let (f,first) <-holding [ov] (getMethod ov "__init__" pl)
   callWith pos f first (backTo pos (starEach [a,b] X.env)) (backToKw pos (keywordEach [] X.env)))):
  PE X (.Call (.Attribute (.Name x np) "__init__" apos) [a,b] [] pos) (tBI C t):=by
 intro pins s Y H Q I h;refine methodCall_KW (pl:=pl) (Zd I hg hm ?_ hdb) ht
 refine method_cls I.kIn h1 (cls_value I.kIn h2 h3 (by decide +kernel) ?_)
 have I1:=I.tok (s.toks+1);have hA:=ha pos pins _ Y H _ I1 h;rw[hs]at hA ⊢;refine Tk rfl (Calls.evalArgs_plain (Xo hA (λus s1 y=>?_) λw w z=>z));obtain⟨vs,H1,I1,r,e,v,dd,ev,he,q1⟩:=y;subst ev;obtain⟨u,u2,rfl,ru,_⟩:=Qc6 r;cases(show u=Value.ref e from ru);obtain⟨bm,N,nm,qn,bs,hdct,sn,sub,ab,col,dd',k0,k1,k2,k3,k5,mN,hC,hN,hi,T⟩:=Qby I1.kIn q;obtain⟨⟨oc,od,odt,osl⟩,vs,a0,ho,hc,hd,v0,v1,hdd⟩:=QdQ I1 he;dsimp only at hc hd hdd;subst hc hd hdd;obtain⟨hp,g,dw,tk,os⟩:=s1;refine Vx (Vq Vy.init.plain Vy.initEntry (wpAny_check_init_subT Vy T hC ho rfl ?_));unfold Builtin.«BaseException.__init__» Builtin.BaseException.bexcPut
 repeat (first|with_reducible refine Wl (Xd _ ho) rfl v0 ?_|with_reducible refine wpAny_setField (Xd _ ho) rfl (U5.mp v0).1 ?_|wp_step)
 have up:(hp.push {cls:=.type "tuple",data:=.seq #[u2]}).get? e=some ⟨.ref C,od,.fields vs,osl⟩:=Xd _ ho;have hd2:=Us (o:=⟨.ref C,od,.fields vs,osl⟩) rfl (·.setIfInBounds 0 (Value.ref hp.objs.size));have he2:=Wz (Obj.mapFields (·.setIfInBounds 0 (Value.ref hp.objs.size))) up (Ts hd2);have z0:=(U5.mp v0).1
 have J:=Inv.write (o:=JE e C od) (t':=tk) I1 (by rw[he];trivial) (.inl rfl) (λb u nb q=>(Wo _ _ (Wr nb)).trans (Xd _ q)) ⟨_,he2⟩
  (QdP ⟨_,_,hp.objs.size,he2,Obj.cls_mapFields _ _,hd2,by simp[z0],by rw[Array.getElem?_setIfInBounds_ne (by decide)];exact v1,rfl⟩)
 have eH:upd H1 e (JE e C od)=H1:=funext λb=>by
  by_cases hb:b=e
  ·rw[hb,Qh,he]
  ·rw[Qd hb]
 rw[eH]at J;exact⟨.non,H1,J,rfl,q1⟩
end
noncomputable def QdI:List Value->Bool
 |.ref _::r=>QdI r
 |l=>l==QeT
noncomputable def Qb5(K:W.Frag)(C:Addr):Bool:=(clsIn K C).any λcd=>QdI cd.mro&&cd.hasDict
theorem QaB(self:Value):∀{l:List Value},QdI l=true->refuseLoop self "__setattr__" l=pure ()
 |[],e=>by cases e
 |v::r,e=>by
  cases v with
  |ref c=>rw[refuseLoop_ref];exact QaB self e
  |_=>rw[Wj.mp (show(_::r==QeT)=true from e)];exact PySem.F.store_ValueError.passes self
section
variable {E:Value->Shared->Prop}{K:W.Frag}{x:Addr}{name:Str}{v:Value}{vs:Array Value}{sl:Array (Option Value)}{Q:Unit->Shared->Prop}
open Builtin Builtin.ObjectAttr
def Qfg(X:K.In s.heap)(Yyy:ErrCls K C)(hs:findIn K (.ref C) "__setattr__"=some (some (.builtin "object.__setattr__")))(ho:Qb5 K C=true)(hf:findIn K (.ref C) name=some none)(hx:s.heap.get? x=some ⟨.ref C,none,.fields vs,sl⟩)
  (h:∀h' d tk,d=s.heap.objs.size->h'.get? x=some ⟨.ref C,some d,.fields vs,sl⟩->h'.Ns1 d (λy=>if y=name then some v else none)->(∀b o,b≠x->s.heap.get? b=some o->h'.get? b=some o)->Q () {s with heap:=h',toks:=tk}):
  wpAny (model prog w) A (setAttr (.ref x) name v) Q E s:=by
 have I:InstAt s.heap x ⟨.ref C,none,.fields vs,sl⟩ C none:=⟨hx,rfl,rfl,trivial⟩;obtain⟨cd,hc,hb⟩:=any_some ho;rw[Xe]at hb;refine set_plain X I hs ?_;have SF:=PySem.F.store_object;have sub:Looks (model prog w) s.heap (isInstance (.ref x) (.type "object")) true:=I.type.andThen (looks_subIn X Yyy.so);have hm:Looks (model prog w) s.heap (mroOf (.ref C)) cd.mro:=(looks_clsIn X hc).andThen .now;refine Vq SF.slot.plain SF.entry (@check_slot (model prog w) _ _ {s with toks:=s.toks+1} "object.__setattr__" "object" "__setattr__" (.ref x) [.str name s.toks,v] [] _ SF.kind SF.split sub (SF.args (.ref x) (.str name s.toks) v) ?_);rw[osa_eq,refuse_eq];refine Xa (Xa (Looks.here (s:={s with toks:=s.toks+1}) I.type (Xa (Looks.here (s:={s with toks:=s.toks+1}) hm ?_))));rw[QaB _ hb.1];refine Xf (Xa (Looks.here (s:={s with toks:=s.toks+1}) I.type (Xa (Looks.here (s:={s with toks:=s.toks+1}) (Td X hf) (Xa (Xf ?_))))));show wpAny _ _ (storeInOwnDict (.ref x) (.ref C) (.str name s.toks) name v false) _ _ _;refine Xa (Xf (Xa (Xa (wpAny_loadPart hx (Xa (Looks.here (s:={s with toks:=s.toks+1}) (looks_clsIn X hc) ?_))))))
 rw[hb.2,if_neg (by decide)]
 show wpAny _ _ (if(!true||!typeHasDict (.ref C))=true then pure none else _) _ _ _
 rw[if_neg (by simp[typeHasDict])]
 have nx:x≠s.heap.objs.size:=X1 (Xk hx);have hx1:(s.heap.push {cls:=.type "dict",data:=.dict #[]}).get? x=some ⟨.ref C,none,.fields vs,sl⟩:=Xd _ hx;refine Xa (wpAny_alloc' (Xa (wpAny_update' hx1 (Xf ?_))));generalize hh:(s.heap.push {cls:=.type "dict",data:=.dict #[]}).update x (λo=>{cls:=o.cls,dict:=some s.heap.objs.size,data:=o.data,slots:=o.slots})=h2;have gx:h2.get? x=some ⟨.ref C,some s.heap.objs.size,.fields vs,sl⟩:=hh▸Wz _ hx1 rfl;have gk:∀b o,b≠x->s.heap.get? b=some o->h2.get? b=some o:=λb o nb e=>hh▸(Heap.get?_update_ne _ _ _ _ nb).trans (Xd _ e)
 have gd:h2.Ns s.heap.objs.size (λz=>none):=⟨_,#[],_,hh▸(Heap.get?_update_ne _ _ _ _ (Wr nx)).trans (Heap.get?_push_at rfl rfl),rfl,λe he=>absurd he (by simp),λz=>rfl⟩
 show wpAny _ _ (storeInDict s.heap.objs.size (.str name s.toks) name v) _ _ _;unfold storeInDict newKeyGuard;refine Xa (Xf (Xa (wpAny_nsSet1 (Heap.Ns1.of_empty gd) λh' hn' hs=>?_)));obtain⟨oD,esD,epD,hoD,hdD,hcD⟩:=hn'.count (Within.cons name v Within.nil)
 refine Xa (wpAny_lookBehind hoD (by rw[hdD];exact pastItsLine_dict (X7 hcD (by rw[Wm,W2,U7];omega))) (Xf ?_))
 exact h h' _ _ rfl ((hs.2 x nx).trans gx) hn' λb o nb e=>(hs.2 b (X1 (Xk e))).trans (gk b o nb e)
end
end
end L2
namespace L2
open PySem PySem.Spec PySem.W PyProof.Rows PySem.Calls PySem.Builtin PySem.Builtin.ObjectAttr
section
variable {prog:Program}{w:World}{A:Around}{E:Value->Shared->Prop}{K:W.Frag}{h:Heap}{g:Array GenState}{d:Drawn}{t:Nat}{os:OsState}{a C dx:Addr}{name:Str}{v:Value}{mA:Str->Option Value}
def QiW(Yyy:ErrCls K C)(X:K.In h)(hh:hasDictIn K C=true)(ha:findIn K (.ref C) name=some none)(p:YK a C (some dx) h)(hn:h.Ns1 dx mA)(hv:mA name=some v)(hv':handedIn v=true)
  (hq:Q v ⟨h,g,d,t+1,os⟩):wpAny (model prog w) A (getAttr (.ref a) name expr) Q E ⟨h,g,d,t,os⟩:=by
 obtain⟨od,ho,hl⟩:=QaJ hn;have L0:=Jf (M:=model prog w) p;have L1:=Td (M:=model prog w) X Yyy.ga;have L2:=Td (M:=model prog w) X Yyy.gh
 have J:∃ox,InstAt h a ox C (some od):=by
  obtain⟨o,vs,e1,e2,e3,e4⟩:=p
  exact⟨o,e1,e2,by unfold notCls;rw[e3],by rw[e4];exact ho⟩
 obtain⟨ox,J⟩:=J
 have LF:=looks_find (M:=model prog w) X J (findObj_own hh ha rfl (by rw[hl,hv]))
 unfold getAttr getAttrBy;refine Xa (wpAny_mkText (Wh (Xa (L0.at (Xa (L1.at ?_))))));dsimp only
 have hne:¬(onTheHeap (Value.ref C)&&Value.builtin "BaseException.__getattribute__"==Value.builtin "object.__getattribute__")=true:=by
  rw[show(Value.builtin "BaseException.__getattribute__"==Value.builtin "object.__getattribute__")=false from by decide +kernel]
  simp
 rw[if_neg hne];unfold getAttrByItsOwn hookBefore;refine Xa ?_;rw[if_pos (show onTheHeap (Value.ref C)=true from rfl)];refine L2.at ?_;refine Xa (U4 (Wh ?_));unfold callGetattribute
 rw[show(expr&&onTheHeap (Value.builtin "BaseException.__getattribute__"))=false from Bool.and_false _,if_neg (by decide)]
 have f3:=Ua.ga.bind (.ref a);unfold boundAndCalled;refine Xa (Tn f3 ?_);refine Vx ?_;refine Vq Ua.ga.plain PySem.F.entry_bexc_ga (QaS Yyy X p ?_);unfold Builtin.«object.__getattribute__»;refine Xa (Xf (Xa (Xf (Xa (L0.at (Xa (LF.at ?_)))))));show wpAny _ _ (ret v) _ _ _;refine Xf ?_;show wpAny _ _ (handedOut v) _ _ _;exact handed_on hv' hq
end
section
variable {X:Cx}{o e value:Expr}{f:Str}{pos pos':Pos}{ta tv:TE}{pins:List (Addr×Obj)}{Y:St}{H:Hp}{s:Shared}
def QmZ(K:W.Frag)(ta:TE)(f:Str):TE:=λY H Q=>ta Y H λx H1=>∃a C d od fs v,x=.ref a/\H1 a=some (QcV a C (some d))/\H1 d=some (.frz od (.xd fs))/\ErrCls K C/\hasDictIn K C=true/\findIn K (.ref C) f=some none/\fs.lookup f=some v/\Q v H1
def Qig(he:PE X e ta)(hb:attributeBase e f X.env (eval e X.env)=eval e X.env):PE X (.Attribute e f pos) (QmZ X.K ta f):=by
 intro pins s Y H Q I h;refine QeI hb (thn (he pins s Y H _ I h) λu s1 z=>?_);obtain⟨x,H1,I1,rx,a,C,d,od,fs,v,ex,ea,ed,Yyy,hh,hf,l,q⟩:=z;subst ex;obtain rfl:u=Value.ref a:=rx;obtain⟨_,mA,hn,r⟩:=(show ObjOk X.prog X.w H1 s1.heap d (.frz od (.xd fs))from I1.hok d _ ed)
 obtain⟨u,hu,ru⟩:=RelO.some_of (v:=v) (o:=mA f) (by rw[<-l];exact r f)
 obtain⟨hp,g,dw,tk,os⟩:=s1;exact QiW Yyy I1.kIn hh hf (Qcf I1 ea) hn hu (QaQ ru) ⟨v,H1,I1.tok _,ru,q⟩
def Qnh(K:W.Frag)(C:Addr)(ta tv:TE)(f:Str):TS:=λD Y H=>tv Y H λy H1=>ta Y H1 λx H2=>∃a,x=.ref a/\H2 a=some (JE a C none)/\∀d od,H2 d=none->d≠a->D.nx Y (upd (upd H2 a (JE a C (some d))) d (.frz od (.xd [(f,y)])))
def Qh5(Yyy:ErrCls X.K C)(h1:findIn X.K (.ref C) "__setattr__"=some (some (.builtin "object.__setattr__")))(h2:Qb5 X.K C=true)(h3:findIn X.K (.ref C) f=some none)(ha:PE X o ta)(hv:PE X value tv)
  (hs:swapsWith value (some (.Attribute o f pos')) pos.line X.env=pure false) (hex:X.ex=[]):PS X (.Assign [.Attribute o f pos'] value pos) (Qnh X.K C ta tv f):=by
 intro pins s Y H D I h;refine plainObj_wpAny_Assign_Attribute (thn (hv pins s Y H _ I h) λu s1 ⟨y,H1,I1,ry,q⟩=>thn (ha pins s1 Y H1 _ I1 q) λov s2 v=>?_) hs;obtain⟨x,H2,I2,rx,a,ex,ea,q2⟩:=v;subst ex;obtain rfl:ov=Value.ref a:=rx;obtain⟨⟨oc,od,odt,osl⟩,vs,t0,ho,hc,hd,v0,v1,hdd⟩:=QdQ I2 ea;dsimp only at hc hd hdd;subst hc hd hdd;refine Qfg I2.kIn Yyy h1 h2 h3 ho λh' d tk ed gx gn gk=>?_;have sz:s2.heap.objs.size<=d:=Nat.le_of_eq ed.symm;have dn:s2.heap.get? d=none:=Uy sz;have hH:H2 d=none:=I2.hok.fresh sz
 have da:d≠a:=λz=>by rw[z,ea]at hH;cases hH
 obtain⟨od,es,ep,e1,e2,e3⟩:=gn
 have J:=Inv.write (o:=JE a C (some d)) (t':=tk) I2 (by rw[ea];trivial) (.inl rfl) gk ⟨_,gx⟩ (QdP ⟨_,_,t0,gx,rfl,rfl,v0,v1,rfl⟩)
 have J2:=J.adopt (e:=d) (ho:=.frz od (.xd [(f,y)])) (by rw[Qd da];exact hH) (by
   cases z:X.s₀.heap.get? d with
   |none=>rfl
   |some o=>
    obtain⟨o',ho'⟩:=I2.base.there d o z (by rw[hex];simp)
    rw[dn]at ho'
    cases ho') (λz=>by
   obtain⟨m,⟨o,_,_,ho',_⟩,_⟩:=I2.loc;rw[<-z,dn]at ho'
   cases ho') (λx c z w=>by
   obtain⟨v',o,ho',_⟩:=I2.cell x c z;rw[w,dn]at ho'
   cases ho') (λp hp w=>by
   have:=(I2.pin p hp).1;rw[w,dn]at this
   cases this) ⟨e1,_,⟨od,es,ep,e1,e2,e3⟩,λn=>?_⟩
 ·exact⟨Y,_,J2,q2 d od hH da⟩
 ·by_cases hn:n=f
  ·subst hn;rw[if_pos rfl,Ud];exact ry
  ·rw[if_neg hn,W6,show(n==f)=false from Wq.mpr hn];trivial
end
end L2
namespace L2
open PySem PySem.Spec PySem.W PyProof.Rows
section
variable {X:Cx}{pins:List (Addr×Obj)}{Y:St}{H:Hp}{s:Shared}{C fI:Addr}{fd:FuncData}{ps:List Str}{k:Nat}{CX:CXT}{E0:XK}{f:Str}{v:V}{dv:Value}
def spI(C:Addr)(f:Str)(v:V):Sp:=λvs H Q E=>∃e,vs=[.ref e,v]/\H e=some (JE e C none)/\∀d od,H d=none->d≠e->Q .non (upd (upd H e (JE e C (some d))) d (.frz od (.xd [(f,v)])))
structure Exi(K:W.Frag)(C fI:Addr):Prop where
 q:Qed K C fI=true
 fn:isFn K (.ref fI)=true
 kp:keepIn K (.ref C)=true
def Qdn(M:Exi X.K C fI)(F:FnOk X.prog X.w X.K X.mg X.base CX k fI fd ps (spI C f v))(hr:Room (k+1) X.A)(hb:Binds X.K fd ps [dv])(hd:RelV v dv)(hx:Yh CX X E0)(I:Inv X pins Y H s):
  wpAny (model X.prog X.w) X.A (call (.ref C) []) (λu s'=>∃e d od,u=.ref e/\Inv X pins Y (upd (upd H e (JE e C (some d))) d (.frz od (.xd [(f,v)]))) s'/\H e=none/\H d=none/\d≠e/\s.heap.get? e=none) X.xe s:=by
 obtain⟨bm,N,nm,qn,bs,hdct,sn,sub,ab,col,dd',k0,k1,k2,k3,k5,mN,hC,hN,hi,T⟩:=Qby I.kIn M.q
 obtain⟨oI,hoI,hcI⟩: ∃oI,s.heap.get? fI=some oI/\oI.cls=.type "function":=by
  obtain⟨oI,h1,h2⟩:=Xc.mp (Wj.mp M.fn);exact⟨oI,I.kIn _ _ h1,h2⟩
 obtain⟨hp,g,dw,tk,os⟩:=s;refine Qhg Vy T hC hN hi hoI hcI (λh' e ee mx=>?_) (W8 _);have sz:hp.objs.size<=e:=ee▸Uk _;have hn:H e=none:=I.hok.fresh sz;obtain⟨t0,he,_,_⟩:=mx.there;have I2:Inv X pins Y (upd H e (JE e C none)) ⟨h',g,dw,tk,os⟩:=I.laid (t':=tk) mx.keeps sz (QdP ⟨_,_,t0,he,rfl,rfl,rfl,rfl,rfl⟩);have r2:Vals [V.ref e,v] [Value.ref e,dv]:=.cons rfl (.cons hd .nil)
 have hsp:spI C f v [.ref e,v] (upd H e (JE e C none)) (λu H'=>u=.non/\∃d od,H'=upd (upd H e (JE e C (some d))) d (.frz od (.xd [(f,v)]))/\H d=none/\d≠e) E0:=by
  refine⟨e,rfl,Qh,λd od hd de=>⟨rfl,d,od,by rw[Qhp],by rw[Qd de]at hd;exact hd,de⟩⟩
 have hl:([Value.ref e]++[dv]).length=ps.length:=by rw[<-F.len _ _ _ _ hsp];rfl
 refine Vx (V1 (F.run _ X.stack _ _ ⟨[.ref e],[]⟩ [.ref e,dv] _ _ E0 (hr.make C [] []) (I2.env0.make C [] []) (hb _ [.ref e] I2.kIn hl) r2 hsp) λr s' hq=>?_)
 cases r with
 |error e=>exact hx pins Y _ _ e s' I2 hq
 |ok fl=>
  cases fl with
  |ret u=>
   obtain⟨v',H',I3,rv,ev,d,od,eH,hd,de⟩:=I2.after hq;subst ev eH;exact⟨rv,e,d,od,rfl,I3,hn,hd,de,mx.new⟩
  |next=>exact False.elim hq
  |brk=>exact False.elim hq
  |cont=>exact False.elim hq
def Qdv{x:Str}{np cpos pos:Pos}{W:Option Addr->Hp->Prop}(M:Exi X.K C fI)(F:FnOk X.prog X.w X.K X.mg X.base CX k fI fd ps (spI C f v))(hr:Room (k+1) X.A)(hb:Binds X.K fd ps [dv])(hd:RelV v dv)(hx:Yh CX X E0)(hg:Gl X x)(hm:X.mg x=some (.ref C))(hc:X.calm=true)(hex:X.ex=[])
  (hw:∀pins Y H s e oe vs a0,Inv X pins Y H s->H e=none->X.s₀.heap.get? e=none->e≠X.env.locals->s.heap.get? e=some oe->oe.cls=.ref C->oe.data=.fields vs->vs[0]?=some a0->vs[1]?=some .none->W oe.dict H->X.xe (.ref e) s) (hdb:(x==("__debug__":Str))=false):
  PS X (.Raise (some (.Call (.Name x np) [] [] cpos)) none pos) (λy y H=>∀d od,H d=none->W (some d) (upd H d (.frz od (.xd [(f,v)])))):=by
 intro pins s Y H D I h;obtain⟨bm,N,nm,qn,bs,hdct,sn,sub,ab,col,dd',k0,k1,k2,k3,k5,mN,hC,hN,hi,T⟩:=Qby I.ok.mod.kin M.q;rw[arm_exec_Raise];refine Xa (Uo (QeS (C:=C) (nm:=nm) (q:=qn) (N:=N) (bs:=bs) (bm:=bm) (hdct:=hdct) (sn:=sn) (sub:=sub) (ab:=ab) (col:=col) (dd:=dd') (k0:=k0) (k1:=k1) (k2:=k2) (k3:=k3) (k5:=k5) (newId:="ValueError.__new__") (T.hasType Vy.hasBase) (I.ok.hd hc) ?_));refine Xa (Xo (X8 (Zd I hg hm (callWith_K0 I.kIn M.kp (Qdn M F hr hb hd hx I)) hdb)) (λu s3 ⟨e,d,od,eu,J,hn,hdn,de,hs⟩=>Xa (Uo (Xf ?_))) λy y z=>z)
 have eq:upd (upd H e (JE e C (some d))) d (.frz od (.xd [(f,v)]))=upd (upd H d (.frz od (.xd [(f,v)]))) e (JE e C (some d)):=funext λb=>by
  by_cases hb:b=e
  ·subst hb;rw[Qd (Wr de),Qh,Qh]
  ·rw[Qd hb];by_cases hb2:b=d
   ·subst hb2;rw[Qh,Qh]
   ·rw[Qd hb2,Qd hb,Qd hb2]
 rw[eq]at J;obtain⟨oe,vs,t0,g1,g2,g3,g4,g5,g6⟩:=QdQ J Qh
 have hn':upd H d (.frz od (.xd [(f,v)])) e=none:=by rw[Qd (Wr de)];exact hn
 refine⟨e,oe,vs,eu,J.bk _ _ hC,g1,g2,g3,g5,hw pins Y _ _ e oe vs _ (J.drop hn') hn' ?_ ?_ g1 g2 g3 g4 g5 (by rw[g6];exact h d od hdn)⟩
 ·cases z:X.s₀.heap.get? e with
  |none=>rfl
  |some o=>
   obtain⟨o',ho'⟩:=I.base.there e o z (by rw[hex];simp)
   rw[hs]at ho';cases ho'
 ·intro z;obtain⟨m,⟨o,_,_,ho',_⟩,_⟩:=I.loc;rw[<-z,hs]at ho';cases ho'
noncomputable def QlY(B sf fl:Str)(txt:Str)(els:Expr)(p1 p2 p3 p4 p5 p6 p7 p8 p9 p10 p11 p12 p13 p14:Pos)(k5 k7:Nat):List Stmt :=
 [.Expr (.Call (.Attribute (.Name B p1) "__init__" p2) [.Name sf p3,.IfExp (.Compare (.Name fl p4) [.Is] [.Constant .none k5 p5] p6) (.Constant (.str txt) k7 p7) els p8] [] p9) p10,.Assign [.Attribute (.Name sf p11) fl p12] (.Name fl p13) p14]
end
def QiM{P:Program}{w:World}{K:W.Frag}{mg:Str->Option Value}{base:Heap}{C CB fI:Addr}{name qual B sf fl txt:Str}{params:Arguments}{scope:Scope}{dV kV doc pm cdv ct oc:Value}{an od:Option Addr}{osl:Array (Option Value)}{body:List Stmt}
  {els:Expr} {p1 p2 p3 p4 p5 p6 p7 p8 p9 p10 p11 p12 p13 p14:Pos} {k5 k7:Nat} (lk:K.lookup fI=some ⟨oc,od,.func (W.fnOf name qual params body scope dV kV doc pm an cdv ct),osl⟩) (hcd:W.codeIn K cdv qual=true) (S:FnScope [sf,fl] [sf,fl] scope)
  (hbd:body=QlY B sf fl txt els p1 p2 p3 p4 p5 p6 p7 p8 p9 p10 p11 p12 p13 p14 k5 k7) (M:Qed K C fI=true) (Yyy:ErrCls K C) (h1:specialIn K (.ref CB) "__getattribute__"=some (some (.builtin "type.__getattribute__"))) (h2:readsIn K CB (.type "type")=true)
  (h3:findCls K (.ref CB) (.type "type") "__init__"=some (.val (.builtin "ValueError.__init__"))) (hm:mg B=some (.ref CB)) (hg:∀L a cd,(envOfC qual scope L a cd).kindOf B=some .globalImplicit) (hdb:(B==("__debug__":Str))=false)
  (h4:findIn K (.ref C) "__setattr__"=some (some (.builtin "object.__setattr__"))) (h5:Qb5 K C=true) (h6:findIn K (.ref C) fl=some none) (d1:(sf==("__debug__":Str))=false) (d2:(sf==("__classdict__":Str))=false) (d3:(fl==("__debug__":Str))=false) (d4:(fl==("__classdict__":Str))=false)
  (hst:∀L a cd,starEach [.Name sf p3,.IfExp (.Compare (.Name fl p4) [.Is] [.Constant .none k5 p5] p6) (.Constant (.str txt) k7 p7) els p8] (envOfC qual scope L a cd)=[(false,eval (.Name sf p3) (envOfC qual scope L a cd)),(false,eval (.IfExp (.Compare (.Name fl p4) [.Is] [.Constant .none k5 p5] p6) (.Constant (.str txt) k7 p7) els p8) (envOfC qual scope L a cd))])
  (hev:∀L a cd,∃pl:Sem Bool,eval (.Call (.Attribute (.Name B p1) "__init__" p2) [.Name sf p3,.IfExp (.Compare (.Name fl p4) [.Is] [.Constant .none k5 p5] p6) (.Constant (.str txt) k7 p7) els p8] [] p9) (envOfC qual scope L a cd)=(do
   let ov <-eval (.Name B p1) (envOfC qual scope L a cd)
   standAt p2.atName
   let (f,first) <-holding [ov] (getMethod ov "__init__" pl)
   callWith p9 f first (backTo p9 (starEach [.Name sf p3,.IfExp (.Compare (.Name fl p4) [.Is] [.Constant .none k5 p5] p6) (.Constant (.str txt) k7 p7) els p8] (envOfC qual scope L a cd))) (backToKw p9 (keywordEach [] (envOfC qual scope L a cd))))):
  FnOk P w K mg base CX0 2 fI (W.fnOf name qual params body scope dV kV doc pm an cdv ct) [sf,fl] (spI C fl .non):=by
 subst hbd
 refine Qi0 (k:=1) (N:=[sf,fl]) lk hcd S (λvs H Q E v=>by obtain⟨e,h,_⟩:=v;rw[h];rfl) λA outer s H vs Q E hr u=>?_;obtain⟨e,ev,he,q⟩:=u
 subst ev;generalize hX:Qao CX0 P w K mg base [sf,fl] qual scope fI cdv A outer s H E=X
 have xN:X.N=[sf,fl]:=by subst hX;rfl
 have xK:X.K=K:=by subst hX;rfl
 have xm:X.mg=mg:=by subst hX;rfl
 have xe:X.env=envOfC qual scope s.heap.objs.size fI cdv:=by subst hX;rfl
 have xx:X.ex=[]:=by subst hX;rfl
 have vis:∀z∈[sf,fl],Vis X.env.scope z:=λz hz=>by rw[xe];exact(S.par z hz).elim .inl λq=>.inr (.inl q)
 have ps:∀{p},PE X (.Name sf p) (Qmg 0):=QdD (by rw[xN];rfl) (vis sf (by simp)) d1 d2
 have pf:∀{p},PE X (.Name fl p) (Qmg 1):=QdD (by rw[xN];rfl) (vis fl (by simp)) d3 d4
 have pif:PE X (.IfExp (.Compare (.Name fl p4) [.Is] [.Constant .none k5 p5] p6) (.Constant (.str txt) k7 p7) els p8) (tIf (Qj0 (tOp (λx y H Q=>y=.non/\Q (.bl (decide (x=.non))) H) (Qmg 1) (tC .non))) (tC (.str txt)) λt t t=>False):=
  Qb3 (Qds QgT pf QgQ (Qk3 _)) QgO λt t t t t t z=>z.elim
 have st:starEach [.Name sf p3,.IfExp (.Compare (.Name fl p4) [.Is] [.Constant .none k5 p5] p6) (.Constant (.str txt) k7 p7) els p8] X.env=[(false,eval (.Name sf p3) X.env),(false,eval (.IfExp (.Compare (.Name fl p4) [.Is] [.Constant .none k5 p5] p6) (.Constant (.str txt) k7 p7) els p8) X.env)]:=by rw[xe];exact hst _ _ _
 have pa:=Zk (ps (p:=p3)) (Zk pif JD rfl) rfl;obtain⟨pl,hev⟩:=hev s.heap.objs.size fI cdv;rw[<-xe]at hev
 refine⟨_,ZP (Qab (Qfw (C:=C) (CB:=CB) (fI:=fI) (show X.env.kindOf B=_ by rw[xe];exact hg _ _ _) (by rw[xm];exact hm) hdb (by rw[xK];exact M) (by rw[xK];exact h1) (by rw[xK];exact h2) (by rw[xK];exact h3) pa st hev) rfl)
  (Qdt (Qh5 (C:=C) (by rw[xK];exact Yyy) (by rw[xK];exact h4) (by rw[xK];exact h5) (by rw[xK];exact h6) ps pf rfl xx)),?_⟩
 refine⟨.ref e,rfl,.non,rfl,rfl,_,rfl,?_⟩;dsimp only
 rw[if_pos (by simp)]
 exact⟨e,.str txt,none,rfl,he,.non,rfl,.ref e,rfl,e,rfl,he,q⟩
end L2
namespace L2
open PySem PySem.Spec PySem.W PyProof.Rows PySem.Calls PySem.Builtin
end L2
namespace L2
open PySem PySem.Spec PySem.W PyProof.Rows
end L2
namespace L2
open PySem
open Sem (wp)
open AutoSeq1 (wpAny_loadPart')
variable {r:Addr}{a c:Int}{n:Nat}{t u v:Tok}
section
variable {prog:Program}{w:World}{A:Around}{E:Value->Shared->Prop}{s:Shared}
def Qaj(hh:A.handled=none)(hr:IsRange s.heap r a b c t u v)(hsmall:Builtin.Range.small a b c=true)
  (hn:Builtin.Range.rangeSize a b c=n) (hlen:n<=2 ^ 24)
  (hQ:∀(h':Heap) (tk:Nat) (acc:Array Value),(∀b o,s.heap.get? b=some o->h'.get? b=some o)->ItemsOf (λi v=>∃t,v=.int (a+i*c) t) acc n->Q acc.toList {s with heap:=h',toks:=tk}):
  wpAny (model prog w) A (collect (.ref r)) Q E s:=by
 unfold collect;refine Xa (wpAny_runValue (Uc F.entry_proto_collect ?_));rw[V2 F.plain_proto_collect _];show wpAny _ A.in1 (newList [] >>= λl=>again (.builtin "list.__iadd__" ⟨[l,.ref r],[]⟩)) _ _ s;refine Xa (Ws ?_);refine Xf ⟨U2 F.plain_list_iadd _,Uc F.entry_list_iadd ?_⟩;rw[V2 F.plain_list_iadd _];show wpAny _ A.in1 (Builtin.List.listExtendWith (.ref s.heap.objs.size) (.ref r) (.ref s.heap.objs.size)) _ _ _;have hS:(s.heap.push {cls:=.type "list",data:=.seq ([]:List Value).toArray}).get? s.heap.objs.size=some {cls:=.type "list",data:=.seq #[] 0}:=Xu _ rfl;have hr':IsRange (s.heap.push {cls:=.type "list",data:=.seq ([]:List Value).toArray}) r a b c t u v:=Xd _ hr
 have fin':∀(s':Shared) (acc:Array Value) (c':Nat),s'.heap.get? s.heap.objs.size=some {cls:=.type "list",dict:=none,data:=.seq acc c',slots:=#[]}->Q acc.toList s'->wpAny (model prog w) A (match Value.ref s.heap.objs.size with
   |Value.ref a=>do
    match (<-load a).data with
     |Data.seq xs _=>pure xs.toList
     |_=>unsupported "internal:collect"
   |_=>unsupported "internal:collect") Q E s':=λs' acc c' hS' q=>by
  show wpAny _ A (load s.heap.objs.size >>= _) _ _ _;refine Xa (wpAny_load hS' ?_);exact Xf q
 refine Xo (wpAny_extend_range (A:=A) (R:=λr s'=>r=.ok (.ret (.ref s.heap.objs.size))/\∃acc c',s'.heap.get? s.heap.objs.size=some {cls:=.type "list",dict:=none,data:=.seq acc c',slots:=#[]}/\Q acc.toList s')
  (s:={s with heap:=s.heap.push {cls:=.type "list",data:=.seq ([]:List Value).toArray} }) hh hr' hsmall hn hlen _ _ 0 hS λh' tk acc c' kp hS' hacc=>
   ⟨rfl,acc,c',hS',hQ h' tk acc (λb o e=>kp b o (X1 (Xk e)) (Xd _ e)) hacc⟩) (λfin s' h=>?_) (λe s' h=>?_)
 ·cases fin with
  |done f=>
   obtain⟨e,acc,c',h1,h2⟩:=h;cases e;exact fin' s' acc c' h1 h2
  |again c'=>exact⟨h.1,V1 h.2 λr s'' hr=>by obtain⟨rfl,acc,c',h1,h2⟩:=hr;exact fin' s'' acc c' h1 h2⟩
 ·exact absurd h.1 (by simp)
def ZV(hh:A.handled=none)(hr:IsRange s.heap r a b c t u v)(hsmall:Builtin.Range.small a b c=true)
  (hn:Builtin.Range.rangeSize a b c=n) (hlen:n<=2 ^ 24) (hsz:n<=sizeLine)
  (h:∀(h':Heap) (tk:Nat) (acc:Array Value),(∀b o,s.heap.get? b=some o->h'.get? b=some o)->ItemsOf (λi v=>∃t,v=.int (a+i*c) t) acc n->Q₁ (.ref h'.objs.size) {s with heap:=h'.push {cls:=.type "tuple",data:=.seq acc},toks:=tk}):
  codeAny (model prog w) A (.call (.builtin "tuple.__new__") ⟨[.type "tuple",.ref r],[]⟩) (wants Q₁ E) s:=by
 refine codeAny_of_tree ?_
 show wpAny _ A.in1 (do checkBuiltinCall "tuple.__new__" ⟨[.type "tuple",.ref r],[]⟩;again (.builtin "tuple.__new__" ⟨[.type "tuple",.ref r],[]⟩)) _ _ s
 refine Xa (Tn (F.newCall_tuple_1 _) (Xf ⟨U2 F.plain_tuple_new _,Uc F.entry_tuple_new ?_⟩));rw[V2 F.plain_tuple_new _];have hsub:=sub_tuple_self;have hinit:=init_tuple_lookup;have hmh:=madeHere_tuple;have hTI:s.TypeIs (.ref r) "range":=⟨_,hr,rfl⟩;have hh1:A.in1.handled=none:=hh
 wp_walk using wpAny_typeOf hTI,Qaj hh1 hr hsmall hn hlen
 intro h' tk acc kp hacc;show wpAny _ _ (Builtin.Tuple.tupleExact acc.toList.toArray >>= λv=>ret v) _ _ _;unfold Builtin.Tuple.tupleExact
 refine Xa (Ws ?_ (by show acc.toList.toArray.size<=sizeLine;simp only[Array.toArray_toList];rw[hacc.1];exact hsz))
 refine Xf ?_
 have e:acc.toList.toArray=acc:=by simp
 rw[e];exact h h' tk acc kp hacc
def YI(hh:A.handled=none)(hr:IsRange s.heap r a b c t u v)(hsmall:Builtin.Range.small a b c=true)
  (hn:Builtin.Range.rangeSize a b c=n) (hlen:n<=2 ^ 24) (hsz:n<=sizeLine)
  (hQ:∀(h':Heap) (tk:Nat) (acc:Array Value),(∀b o,s.heap.get? b=some o->h'.get? b=some o)->ItemsOf (λi v=>∃t,v=.int (a+i*c) t) acc n->Q (.ref h'.objs.size) {s with heap:=h'.push {cls:=.type "tuple",data:=.seq acc},toks:=tk}):
  wpAny (model prog w) A (call (.type "tuple") [.ref r]) Q E s:=by
 refine callType_codes (Q₁:=λobj s₁=>s₁.TypeIs obj "tuple"/\Q obj s₁) F.called_tuple (F.typeCall_tuple_1 _) F.entry_object_init
  (ZV hh hr hsmall hn hlen hsz λh' tk acc kp hacc=>⟨⟨_,Xu _ rfl,rfl⟩,hQ h' tk acc kp hacc⟩) λobj s₁ h₁=>?_
 exact⟨h₁.1,F.args_object_init_2 obj _,object_init_meets F.called_tuple.init.lookup F.called_tuple.made (by decide) prog w A.in1 _ s₁ ⟨h₁.1,rfl,h₁.2⟩⟩
end
end L2
namespace L2
open PySem PySem.Spec PyProof.Rows
section
variable {a c:Int}
section
variable {X:Cx}
noncomputable def QeN(a:Int)(n:Nat)(c:Int):List V:=(List.range n).map λi:Nat=>V.int (a+(i:Int)*c)
def Qfl(h:ItemsOf (λi v=>∃t,v=Value.int (a+i*c) t) acc n):Vals (QeN a n c) acc.toList:=by
 have all:∀(k:Nat) (l:List Value) (b:Nat),l.length=k->(∀j v,l[j]?=some v->∃t,v=Value.int (a+((b+j:Nat):Int)*c) t)->Vals ((List.range' b k).map λi:Nat=>V.int (a+(i:Int)*c)) l:=by
  intro k
  induction k with
  |zero=>
   intro l b hl _
   cases l with
   |nil=>exact .nil
   |cons _ _=>cases hl
  |succ k ih=>
   intro l b hl hv
   cases l with
   |nil=>cases hl
   |cons x r=>
    rw[List.range'_succ,Vw]
    refine .cons ?_ (ih r (b+1) (by simpa using hl) λj v e=>?_)
    ·obtain⟨t,e⟩:=hv 0 x rfl
     exact⟨t,by simpa using e⟩
    ·obtain⟨t,e'⟩:=hv (j+1) v (by simpa using e)
     refine⟨t,?_⟩
     rw[e',show b+1+j=b+(j+1) by omega]
 unfold QeN;rw[List.range_eq_range']
 refine all n acc.toList 0 (by simpa using h.1) λj v e=>?_
 obtain⟨t,e'⟩:=h.2 j v (by simpa using e)
 exact⟨t,by simpa using e'⟩
def Qbb:(QeN a n c).length=n:=by simp[QeN]
noncomputable def Qa5(a b c:Int):Nat:=if c=1 then(b-a).toNat else(a-b).toNat
def QhW(h:c=1\/c=-1):Builtin.Range.rangeSize a b c=(Qa5 a b c:Nat):=by
 unfold Qa5
 rcases h with rfl|rfl
 ·rw[rangeSize_one,if_pos rfl];split<;>omega
 ·unfold Builtin.Range.rangeSize
  rw[if_neg (show ¬((-1:Int) > 0) by decide),if_neg (show ¬((-1:Int)=1) by decide),show(-(-1:Int))=1 by decide,Int.ediv_one]
  split<;>omega
def Qfd(ha:-(2 ^ 62)<=a)(ha':a<2 ^ 62)(hb:-(2 ^ 62)<=b)(hb':b<2 ^ 62):Builtin.Range.small a b (-1)=true:=by
 have e:Builtin.Range.rangeSize a b (-1)=if a>b then a-b else 0:=by
  unfold Builtin.Range.rangeSize
  rw[if_neg (show ¬((-1:Int) > 0) by decide),show(-(-1:Int))=1 by decide,Int.ediv_one]
  split<;>omega
 unfold Builtin.Range.small;rw[e]
 simp only[Builtin.Range.rangeFitsLong,Xe,Ut,Xs,Wj,show ¬((-1:Int) > 0) by decide,Vn]
 split<;>omega
noncomputable def Qml:List V->Option (Int×Int×Int)
 |[.int b]=>some (0,b,1)
 |[.int a,.int b]=>some (a,b,1)
 |[.int a,.int b,.int c]=>some (a,b,c)
 |_=>none
def QmV(ta:TA):TE:=λY H Q=>ta Y H λvs H1=>∃a b c:Int,Qml vs=some (a,b,c)/\(-(2 ^ 62)<=a/\a<2 ^ 62/\-(2 ^ 62)<=b/\b<2 ^ 62)/\(c=1\/c=-1)/\Qa5 a b c<=sizeLine/\Qa5 a b c<=2 ^ 24 /\
 ∀p,H1 p=none->Q (.ref p) (upd H1 p (.tup (QeN a (Qa5 a b c) c)))
def Qfm(I:Inv X pins Y H s)(r:Vals vs us)(h:Qml vs=some (a,b,c))(hc:c=1\/c=-1):
  wpAny (model X.prog X.w) X.A (call (.type "range") us) (λv s'=>∃r t u w,v=.ref r/\Inv X pins Y H s'/\IsRange s'.heap r a b c t u w) E s:=by
 have fin:∀{t u v:Tok} {tk:Nat},∃(r:Addr) (t' u' w':Tok),Value.ref s.heap.objs.size=.ref r/\Inv X pins Y H {s with heap:=s.heap.push {cls:=.type "range",data:=.fields #[.int a t,.int b u,.int c v]},toks:=tk} /\
   IsRange (s.heap.push {cls:=.type "range",data:=.fields #[.int a t,.int b u,.int c v]}) r a b c t' u' w':=λ{t u v tk}=>⟨_,_,_,_,rfl,I.kept λb o e=>Xd _ e,IsRange.new ..⟩
 unfold Qml at h;split at h
 ·cases h;obtain⟨x,rfl,t,rfl⟩:=r.one;exact call_range_1 fin
 ·cases h;obtain⟨x,y,rfl,⟨t,rfl⟩,u,rfl⟩:=r.two;exact call_range_2 fin
 ·cases h
  cases r with
  |cons r1 r=>
   obtain⟨x,y,rfl,⟨t,rfl⟩,u,rfl⟩:=Vals.two r;obtain⟨w,rfl⟩:=r1
   refine call_range_3 (by rcases hc with rfl|rfl<;>decide) fin (.inl (PyProof.noPylong_small ?_))
   rcases hc with rfl|rfl<;>decide
 ·cases h
def Qic(hc:X.calm=true)(hg:Gl X "tuple")(hm:X.mg "tuple"=none)(hg2:Gl X "range")(hm2:X.mg "range"=none)(ha:PA X (a0::args) ta)
  (he:starEach (a0::args) X.env=(false,eval a0 X.env)::starEach args X.env) (hpl:(backTo pos2 (starEach args X.env)).any (·.1)=false):
  PE X (.Call (.Name "tuple" p) [.Call (.Name "range" q) (a0::args) [] pos2] [] pos) (QmV ta):=by
 intro pins s Y H Q I h;refine X8 (Yc I hg hm PyProof.Rows.boot_tuple ?_);refine W3 (e:=.Call (.Name "range" q) (a0::args) [] pos2) (rest:=[]) ?_ rfl rfl;show wpAny _ _ (spliced ((false,eval (.Call (.Name "range" q) (a0::args) [] pos2) X.env)::backTo pos (starEach [] X.env))) _ _ s;refine Calls.spliced_cons ?_;refine X8 (Yc I hg2 hm2 boot_range ?_);refine W3 (thn (ha pos2 pins s Y H _ I h) λus s1 z=>?_) he hpl;obtain⟨vs,H1,I1,r1,q1⟩:=z;obtain⟨a,b,c,hv,⟨b1,b2,b3,b4⟩,h1,hz,h24,q⟩:=q1;refine thn (Qfm I1 r1 hv h1) λv s2 y=>?_;obtain⟨r,t,u,w,e,I2,hr⟩:=y;subst e;refine Calls.spliced_nil ?_
 have hs:Builtin.Range.small a b c=true:=by
  rcases h1 with rfl|rfl
  ·exact small_one b1 b2 b3 b4
  ·exact Qfd b1 b2 b3 b4
 refine YI (I2.ok.hd hc) hr hs (QhW h1) h24 hz λh' tk acc kp hacc=>?_;have I3:Inv X pins Y H1 {s2 with heap:=h',toks:=tk}:=I2.kept kp;have rv:=Qfl hacc;refine⟨.ref h'.objs.size,_,I3.laid (t':=tk) (o:=.tup (QeN a (Qa5 a b c) c)) (λb o e=>Xd _ e) (Xi _) ?_,rfl,q _ (I3.hok.fresh (Xi _))⟩;show ObjOk X.prog X.w _ _ _ (.tup _)
 exact⟨by rw[Qbb];exact hz,acc.toList,rv,by simpa using IsTup.new h' acc⟩
end
end
section
open Sem (wp)
end
end L2
namespace Iv
open PySem
section
inductive U where
 |non|bl (b:Bool)|int (i:Int) (m:Nat)|str (x:List Nat)|ref (n:Nat)|con (k:Nat)|scr
 deriving DecidableEq,Inhabited
noncomputable abbrev Er:=Nat×U
inductive O where
 |lst (xs:List U)|tup (xs:List U)|ins (C:Nat) (fs:List (Nat×U))|dic (kvs:List (U×U))|dct (kvs:List (List U×U))|fzd (kvs:List (U×U))|fzt (kvs:List (List U×U))|err (c:Nat) (u:U)
 deriving Inhabited
abbrev Hs:=List O
abbrev Rho:=List (Option U)
inductive Bi where
 |len|int|str|tuple|list|sum|any|all|max|min|abs|sorted|dict|dictS
 deriving DecidableEq,Inhabited
inductive Bm where
 |append|pop|clear|reverse|extend|setdef|get|update|join|split|find|insert|index|count
 deriving DecidableEq,Inhabited
inductive Ty where
 |non|bool|int|str|list|tuple|dict|cls (c:Nat)|vale
 deriving DecidableEq,Inhabited
set_option genInjectivity false in
mutual
inductive E where
 |c (u:U)|var (i:Nat)|con (k:Nat)
 |op (o:Operator) (a b:E)|neg (a:E)|cmp (o:CmpOp) (a b:E)
 |and (a b:E)|or (a b:E)|not (a:E)|ife (t a b:E)
 |tup (es:List E)|lst (es:List E)
 |ix (a b:E)|tab (k:Nat) (b:E)|sl (a:E) (lo hi:Option E)|tupR (es:List E)
 |fld (a:E) (f:Nat)
 |call (f:Nat) (es:List E)|meth (m:Nat) (o:E) (es:List E)|make (k:Nat) (es:List E)
 |bi (b:Bi) (es:List E)|isi (a:E) (t:Ty)|bm (b:Bm) (o:E) (es:List E)
 |comp (s:Src) (b:Bool) (t:Option E) (el:E)|maxd (a b:E)
inductive Src where
 |seq (e:E)|rng (a:E)|rng2 (a b:E)|zip (a b:E)
inductive Tg where
 |name (i:Nat)|pair (i j:Nat)
end
set_option genInjectivity false in
inductive EX where
 |no|call (f:Nat) (es:List E)|arg (e:E) (x:EX)|alt (x y:EX)|ife (t:E) (x y:EX)|comp (s:Src) (b:Bool) (el:E) (x:EX)
set_option genInjectivity false in
inductive S where
 |pass|expr (e:E)|set (i:Nat) (e:E)|fld (o:E) (f:Nat) (e:E)|ret (e:E)|retN
 |ite (t:E) (a b:List S)|loop (t:Tg) (s:Src) (body:List S)
 |brk|cont
 |bad
 |put (o i e:E)|unp (i j:Nat) (e:E)
 |rse (c:Nat) (es:List E)|tryS (j:Option Nat) (f:Nat) (es:List E) (c:Nat) (body:List S)|xal (n:S) (x:EX)
inductive Fl where
 |next|brk|cont|ret (u:U)
structure Fn where
 name:Str
 qual:Str
 st:Stmt
 ps:List Str
 N:List Str
 np:Nat
 nN:Nat
 lc:Bool
 body:List S
structure Cl where
 name:Str
 init:Option Nat
 meths:List (Nat×Nat)
 subs:List Nat
inductive Co where
 |tup (xs:List U)|lst (xs:List U)|tab (kvs:List (U×U))
 deriving Inhabited
structure Df where
 ps:List Str
 np:Nat
 last:Str
 ds:List U
structure Tbl where
 fns:List Fn
 cls:List Cl
 cons:List Co
 fns':List Str
 mns:List Str
 scr:List U
 isi:List ((Ty×Ty)×Bool)
 dfl:List (Nat×Df)
 dts:List Str:=[]
 zps:List Str:=[]
 ld:Bool:=false
 ers:List Nat:=[]
 esb:List (Nat×Nat):=[]
 pss:List Nat:=[]
 efl:List (Nat×Nat):=[]
 dks:List Str:=[]
 efi:List Nat:=[]
 xl:Bool:=false
 hfs:List Nat:=[]
 xf:Nat->List U->Hs->Option (Er×Hs):=λ_ _ _=>none
noncomputable def bd{α β:Type}(o:Option (α×Hs))(f:α->Hs->Option β):Option β:=match o with
 |none=>none
 |some (a,h)=>f a h
def Qb{α β:Type}{o:Option (α×Hs)}{f:α->Hs->Option β}{r:β}(h:bd o f=some r):∃a h',o=some (a,h')/\f a h'=some r:=by
 unfold bd at h
 cases o with
 |none=>cases h
 |some p=>exact⟨p.1,p.2,rfl,h⟩
noncomputable def gz:Nat->Nat->Nat
 |0,n=>n
 |m+1,n=>Nat.gcd (m+1) n
noncomputable def Qs(i:Int):Bool:=decide (-(2 ^ 64) < i)&&decide (i<2 ^ 64)
noncomputable def QeG(i:Int):Bool:=decide (i.natAbs<2 ^ 4096)
noncomputable def Qm3:U->U->Option U
 |.int i m,.int j n=>some (.int (i-j) (gz m n))
 |_,_=>none
noncomputable def Qjm:U->U->Option U
 |.int i 0,.int j 0=>if Qs i||Qs j||(QeG i&&QeG j)then some (.int (i*j) 0)else none
 |.int i (m+1),.int j 0=>if Qs j then some (.int (i*j) ((m+1)*j.natAbs))else none
 |_,_=>none
noncomputable def QlM:U->U->Option U
 |.int i 0,.int j 0=>if 0<j&&decide (j<1606938044258990275541962092341162602522202993782792835301376)then some (.int (i / j) 0)else none
 |.int i (m+1),.int j 0=>if 0<j&&decide (j<1606938044258990275541962092341162602522202993782792835301376)&&decide ((m+1) % j.toNat=0)then some (.int (i / j) ((m+1) / j.toNat))else none
 |_,_=>none
noncomputable def QiB:U->U->Option U
 |.int i 0,.int j 0=>if 0<j then some (.int (i % j) 0)else none
 |.int i (m+1),.int j 0=>if 0<j&&decide ((m+1) % j.toNat=0)then some (.int (i % j) 0)else none
 |_,_=>none
noncomputable def Qmn:U->U->Option U
 |.int i 0,.int j 0=>if 0<=j&&decide (j<=1000)&&Qs i then some (.int (i ^ j.toNat) 0)else none
 |_,_=>none
noncomputable def Qoc(a b:Nat)(x y:O)(hs:Hs):Option (U×Hs):=match x,y with
 |.lst xs,.lst ys=>if xs.length+ys.length<=1000000 then some (.ref hs.length,hs++[.lst (xs++ys)])else none
 |_,_=>none
noncomputable def Yk(u w:U)(hs:Hs):Option (U×Hs):=match u,w with
 |.int i m,.int j n=>some (.int (i+j) (gz m n),hs)
 |.str x,.str y=>if x.length+y.length<=1000000 then some (.str (x++y),hs)else none
 |.ref a,.ref b=>match hs[a]?,hs[b]? with
  |some x,some y=>Qoc a b x y hs
  |_,_=>none
 |_,_=>none
noncomputable def Qmm(a:Nat)(w:U)(hs:Hs):Option (U×Hs):=match hs[a]?,w with
 |some (.lst xs),.int k 0=>if -9223372036854775808<=k/\k<9223372036854775808/\xs.length*k.toNat<=1000000 then some (.ref hs.length,hs++[.lst (List.replicate k.toNat xs).flatten])else none
 |_,_=>none
noncomputable def opU(o:Operator)(u w:U)(hs:Hs):Option (U×Hs):=match o with
 |.Add=>Yk u w hs
 |.Sub=>(Qm3 u w).map λr=>(r,hs)
 |.Mult=>(match u with
  |.ref a=>Qmm a w hs
  |u=>(Qjm u w).map λr=>(r,hs))
 |.FloorDiv=>(QlM u w).map λr=>(r,hs)
 |.Mod=>(QiB u w).map λr=>(r,hs)
 |.Pow=>(Qmn u w).map λr=>(r,hs)
 |_=>none
noncomputable def eqS:U->U->Option Bool
 |.int i 0,.int j 0=>some (decide (i=j))
 |.str x,.str y=>some (decide (x=y))
 |.bl a,.bl b=>some (decide (a=b))
 |.non,.non=>some true
 |.non,.int _ _=>some false|.int _ _,.non=>some false|.non,.bl _=>some false|.bl _,.non=>some false|.non,.str _=>some false|.str _,.non=>some false
 |.int _ _,.str _=>some false|.str _,.int _ _=>some false|.bl _,.str _=>some false|.str _,.bl _=>some false
 |_,_=>none
noncomputable def Yo(T:Tbl)(u:U)(hs:Hs):Option (List U):=match u with
 |.ref n=>match hs[n]? with
  |some (.lst xs)=>some xs
  |some (.tup xs)=>some xs
  |_=>none
 |.con k=>match T.cons[k]? with
  |some (.lst xs)=>some xs
  |some (.tup xs)=>some xs
  |_=>none
 |.scr=>some T.scr
 |_=>none
noncomputable def Qbx:U->Bool
 |.int _ 0=>true
 |.str _=>true
 |.non=>true
 |.bl _=>true
 |_=>false
noncomputable def eqF:U->U->Bool
 |.int i _,.int j _=>decide (i=j)
 |.str x,.str y=>decide (x=y)
 |.non,.non=>true
 |.bl a,.bl b=>a==b
 |.bl a,.int j _=>(if a then 1 else 0)==j
 |.int i _,.bl b=>i==(if b then 1 else 0)
 |_,_=>false
noncomputable def inU(x:U)(ys:List U):Option Bool:=if Qbx x&&ys.all Qbx then some (ys.any λy=>eqF y x)else none
noncomputable def Q4(T:Tbl)(u:U)(hs:Hs):Option (List U):=match u with
 |.ref n=>match hs[n]? with
  |some (.lst xs)=>some xs
  |_=>none
 |.con k=>match T.cons[k]? with
  |some (.lst xs)=>some xs
  |_=>none
 |.scr=>some T.scr
 |_=>none
noncomputable def ZH(T:Tbl)(u:U)(hs:Hs):Option (List U):=match u with
 |.ref n=>match hs[n]? with
  |some (.tup xs)=>some xs
  |_=>none
 |.con k=>match T.cons[k]? with
  |some (.tup xs)=>some xs
  |_=>none
 |_=>none
noncomputable def okW(T:Tbl):Nat->U->Hs->Bool
 |0,_,_=>false
 |n+1,u,hs=>match Q4 T u hs with
  |some xs=>xs.all λx=>okW T n x hs
  |none=>match ZH T u hs with
   |some xs=>xs.all λx=>okW T n x hs
   |none=>match u with
    |.non=>true
    |.bl _=>true
    |.int _ m=>m==0
    |.str x=>x.all λc=>decide (c<128)
    |_=>false
noncomputable def eqB:U->U->Bool
 |.non,.non=>true
 |.bl a,.bl b=>a==b
 |.bl a,.int j _=>(if a then 1 else 0)==j
 |.int i _,.bl b=>i==(if b then 1 else 0)
 |.int i _,.int j _=>i==j
 |.str x,.str y=>x==y
 |_,_=>false
noncomputable def eqW(T:Tbl):Nat->U->U->Hs->Bool
 |0,_,_,_=>false
 |n+1,u,w,hs=>match Q4 T u hs with
  |some xs=>(match Q4 T w hs with
   |some ys=>(xs.length==ys.length)&&(xs.zip ys).all λp=>eqW T n p.1 p.2 hs
   |none=>false)
  |none=>match ZH T u hs with
   |some xs=>(match Q4 T w hs with
    |some _=>false
    |none=>match ZH T w hs with
     |some ys=>(xs.length==ys.length)&&(xs.zip ys).all λp=>eqW T n p.1 p.2 hs
     |none=>false)
   |none=>(match Q4 T w hs with
    |some _=>false
    |none=>match ZH T w hs with
     |some _=>false
     |none=>eqB u w)
noncomputable def YG(T:Tbl)(u w:U)(hs:Hs):Bool:=match Q4 T u hs,Q4 T w hs with
 |some xs,some ys=>decide (xs.length≠ys.length)
 |_,_=>false
noncomputable def Y0(T:Tbl)(u w:U)(hs:Hs):Bool:=match Q4 T u hs,Q4 T w hs with
 |some xs,some ys=>decide (xs=ys)&&xs.all λx=>match x with|.ref _=>true|_=>false
 |_,_=>false
noncomputable def eqA(T:Tbl)(u w:U)(hs:Hs):Option Bool:=match eqS u w with
 |some b=>some b
 |none=>if YG T u w hs=true then some false else if Y0 T u w hs=true then some true else if okW T 20 u hs&&okW T 20 w hs then some (eqW T 20 u w hs)else none
noncomputable def Qbm(kvs:List (U×U))(k:U):Option U:=match kvs with
 |[]=>none
 | (x,v)::r=>if x=k then some v else Qbm r k
noncomputable def Qmq:U->Bool
 |.int _ 0=>true
 |.str _=>true
 |_=>false
noncomputable def Qme(T:Tbl)(w u:U):Option Bool:=match w with
 |.con k=>(match T.cons[k]? with
  |some (.tab kvs)=>if Qmq u=true then some (Qbm kvs u).isSome else none
  |_=>none)
 |_=>none
noncomputable def Jv:List U->Option (List Int)
 |[]=>some []
 |.int i 0::r=>(Jv r).map (i::·)
 |_=>none
noncomputable def itU(hs:Hs)(u:U):Option (List Int):=match u with
 |.ref m=>(match hs[m]? with
  |some (.tup (k::ks))=>Jv (k::ks)
  |_=>none)
 |_=>none
noncomputable def Qqa(hs:Hs):List U->Option (List (List Int))
 |[]=>some []
 |u::us=>(itU hs u).bind λk=>(Qqa hs us).map λks=>k::ks
noncomputable def isU(u w:U):Option Bool:=match w with
 |.non=>some (decide (u=.non))
 |.bl b=>(match u with
  |.bl a=>some (a==b)
  |_=>none)
 |_=>none
noncomputable def Zi(T:Tbl)(o:CmpOp)(u w:U)(hs:Hs):Option Bool:=match o with
 |.Eq=>eqA T u w hs
 |.NotEq=>(eqA T u w hs).map (!·)
 |.Lt=>match u,w with|.int i 0,.int j 0=>some (decide (i<j))|_,_=>none
 |.LtE=>match u,w with|.int i 0,.int j 0=>some (decide (i<=j))|_,_=>none
 |.Gt=>match u,w with|.int i 0,.int j 0=>some (decide (j<i))|_,_=>none
 |.GtE=>match u,w with|.int i 0,.int j 0=>some (decide (j<=i))|_,_=>none
 |.In=>match Yo T w hs with|some xs=>inU u xs|none=>Qme T w u
 |.NotIn=>match Yo T w hs with|some xs=>(inU u xs).map (!·)|none=>(Qme T w u).map (!·)
 |.Is=>isU u w
 |.IsNot=>(isU u w).map (!·)
noncomputable def ZO(T:Tbl)(u:U)(hs:Hs):Option Bool:=match u with
 |.bl b=>some b
 |_=>none
noncomputable def ixU(n:Nat)(i:Int):Option Nat:=if 0<=i then(if i<n then some i.toNat else none)else if -(n:Int)<=i then some (i+n).toNat else none
noncomputable def atU{α:Type}(xs:List α)(i:Int):Option α:=match ixU xs.length i with
 |some j=>xs[j]?
 |none=>none
noncomputable def Zj(T:Tbl)(u w:U)(hs:Hs):Option U:=match u,w with
 |.str x,.int i 0=>if x.length<=1000000 then(atU x i).map λc=>.str [c]else none
 |.ref n,w=>match hs[n]?,w with
  |some (.lst xs),.int i 0=>atU xs i
  |some (.tup xs),.int i 0=>atU xs i
  |_,_=>none
 |u,.int i 0=>match Yo T u hs with
  |some xs=>atU xs i
  |none=>none
 |_,_=>none
noncomputable def Qhx(T:Tbl)(k:Nat)(w:U):Option U:=match T.cons[k]? with
 |some (.tab kvs)=>if Qmq w then Qbm kvs w else none
 |_=>none
noncomputable def Z1(n d:Nat):Option Int->Nat
 |none=>d
 |some v=>if v<0 then(v+(n:Int)).toNat else min v.toNat n
noncomputable def QaT{α:Type}(xs:List α)(lo hi:Option Int):List α:=(xs.drop (Z1 xs.length 0 lo)).take (Z1 xs.length xs.length hi-Z1 xs.length 0 lo)
noncomputable def slU(T:Tbl)(u:U)(lo hi:Option Int)(hs:Hs):Option (U×Hs):=match u with
 |.scr=>some (.ref hs.length,hs++[.lst (QaT T.scr lo hi)])
 |.ref n=>match hs[n]? with
  |some (.lst xs)=>some (.ref hs.length,hs++[.lst (QaT xs lo hi)])
  |some (.tup xs)=>if Z1 xs.length 0 lo=0/\Z1 xs.length xs.length hi=xs.length then none else some (.ref hs.length,hs++[.tup (QaT xs lo hi)])
  |_=>none
 |_=>none
noncomputable def Qqu(n:Nat):List Nat:=(Nat.toDigits 10 n).map Char.toNat
noncomputable def Qpc(x:List Nat):Bool:=x.all (λc=>decide (48<=c)&&decide (c<=57))&&!x.isEmpty&&decide (x.length<=640)
noncomputable def Qn4(x:List Nat):Nat:=x.foldl (λacc c=>acc*10+(c-48)) 0
noncomputable def Qa0:List U->Option (List Bool)
 |[]=>some []
 |.bl b::r=>(Qa0 r).map (b::·)
 |_=>none
noncomputable def QcC:List Int->Int->Int
 |[],z=>z
 |a::r,z=>QcC r (if a>z then a else z)
noncomputable def Qjn:List Int->Option Int
 |[]=>none
 |z::r=>some (QcC r z)
theorem QdV:∀(r:List Int) (z:Int),z<=QcC r z/\∀a∈r,a<=QcC r z
 |[],z=>⟨Int.le_refl _,λa h=>by cases h⟩
 |a::r,z=>by
  have ih:=QdV r (if a>z then a else z);unfold QcC;refine⟨?_,λb hb=>?_⟩
  ·have:=ih.1;split at this<;>rename_i c<;>simp only[c,Wg,Vn]<;>omega
  ·rcases Xg.mp hb with rfl|hb
   ·have:=ih.1;split at this<;>rename_i c<;>simp only[c,Wg,Vn]<;>omega
   ·exact ih.2 b hb
theorem Qb9:∀(r:List Int) (z:Int),QcC r z=z\/QcC r z∈r
 |[],z=>.inl rfl
 |a::r,z=>by
  have ih:=Qb9 r (if a>z then a else z);unfold QcC
  rcases ih with e|m
  ·rw[e];split
   ·exact .inr Xm
   ·exact .inl rfl
  ·exact .inr (Xj _ m)
def QdT{ns:List Int}{m M:Int}(h:Qjn ns=some m)(h1:M∈ns)(h2:∀a∈ns,a<=M):M=m:=by
 cases ns with
 |nil=>cases h
 |cons z r=>
  simp only[Qjn,Vs]at h;subst h;have g:=QdV r z
  have a:M<=QcC r z:=by
   rcases Xg.mp h1 with rfl|hb
   ·exact g.1
   ·exact g.2 M hb
  have b:QcC r z<=M:=by
   rcases Qb9 r z with e|e
   ·rw[e];exact h2 z Xm
   ·exact h2 _ (Xj _ e)
  omega
noncomputable def QpO(ks:List (List Int))(xs:List U):List U:=(L2.permK ks xs.length).map λi=>xs.getD i .non
noncomputable def biL(T:Tbl)(b:Bi)(us:List U)(hs:Hs):Option (U×Hs):=match b,us with
 |.any,[u]=>(Q4 T u hs).bind λxs=>(Qa0 xs).map λbs=>(.bl (bs.any id),hs)
 |.max,[u]=>(Q4 T u hs).bind λxs=>(Jv xs).bind λns=>(Qjn ns).map λm=>(.int m 0,hs)
 |.max,[.int i 0,.int j 0]=>some (.int (if j>i then j else i) 0,hs)
 |_,_=>none
noncomputable def biU(T:Tbl)(b:Bi)(us:List U)(hs:Hs):Option (U×Hs):=match b,us with
 |.len,[.str x]=>if x.length<=1000000 then some (.int x.length 0,hs)else none
 |.len,[u]=>match Yo T u hs with
  |some xs=>some (.int xs.length 0,hs)
  |none=>none
 |.int,[.int i m]=>some (.int i m,hs)
 |.int,[.bl b]=>some (.int (if b then 1 else 0) 0,hs)
 |.int,[.str x]=>if Qpc x then some (.int (Qn4 x:Nat) 0,hs)else none
 |.str,[.int i 0]=>if 0<=i&&decide (i.natAbs.log2<1920)then some (.str (Qqu i.toNat),hs)else none
 |.tuple,[.ref n]=>match hs[n]? with
  |some (.lst xs)=>some (.ref hs.length,hs++[.tup xs])
  |some (.tup _)=>some (.ref n,hs)
  |_=>none
 |.len,_=>none
 |.int,_=>none
 |.str,_=>none
 |.tuple,_=>none
 |.list,_=>none
 |b,us=>biL T b us hs
noncomputable def Qbp(u:U)(hs:Hs):Option Ty:=match u with
 |.non=>some .non
 |.bl _=>some .bool
 |.int _ _=>some .int
 |.str _=>some .str
 |.ref n=>match hs[n]? with
  |some (.lst _)=>some .list
  |some (.tup _)=>some .tuple
  |some (.ins c _)=>some (.cls c)
  |some (.err c _)=>some (.cls c)
  |_=>none
 |_=>none
noncomputable def QnU(k t:Ty):Option Bool:=match k,t with
 |.cls _,_=>none
 |_,.cls _=>none
 |.bool,.int=>some true
 |k,t=>some (decide (k=t))
noncomputable def Qbq(T:Tbl)(u:U)(hs:Hs):Option Ty:=match u with
 |.con n=>(match T.cons[n]? with
  |some (.tup _)=>some .tuple
  |_=>none)
 |u=>Qbp u hs
noncomputable def JH(T:Tbl)(t:Ty)(u:U)(hs:Hs):Option Bool:=match Qbq T u hs with
 |none=>none
 |some k=>match QnU k t with
  |some b=>some b
  |none=>T.isi.lookup (k,t)
noncomputable def bmL(T:Tbl)(b:Bm)(n:Nat)(xs:List U)(us:List U)(hs:Hs):Option (U×Hs):=match b,us with
 |.append,[u]=>if xs.length<1000000 then some (.non,hs.set n (.lst (xs++[u])))else none
 |.clear,[]=>some (.non,hs.set n (.lst []))
 |.count,[w]=>if(xs.all λx=>okW T 20 x hs)&&okW T 20 w hs then some (.int (xs.countP λx=>eqW T 20 x w hs:Nat) 0,hs)else none
 |_,_=>none
noncomputable def bmS(T:Tbl)(b:Bm)(x:List Nat)(us:List U)(hs:Hs):Option (U×Hs):=match b,us with
 |.index,[.str y]=>(match Builtin.Str.occurrences ⟨x.toArray⟩ ⟨y.toArray⟩ 0 (Str.length ⟨x.toArray⟩) 1 with
  |i::_=>some (.int (i:Int) 0,hs)
  |[]=>none)
 |_,_=>none
noncomputable def bmD(b:Bm)(n:Nat)(kvs:List (U×U))(us:List U)(hs:Hs):Option (U×Hs):=none
noncomputable def bmU(T:Tbl)(b:Bm)(o:U)(us:List U)(hs:Hs):Option (U×Hs):=match o with
 |.ref n=>match hs[n]? with
  |some (.lst xs)=>bmL T b n xs us hs
  |some (.dic kvs)=>bmD b n kvs us hs
  |_=>none
 |.str x=>bmS T b x us hs
 |_=>none
noncomputable def bL:Bm->Bool
 |.setdef=>false|.get=>false|.update=>false|.join=>false|.split=>false|.find=>false|.index=>false|_=>true
noncomputable def bS:Bm->Bool
 |.join=>true|.split=>true|.find=>true|.index=>true|_=>false
noncomputable def bD:Bm->Bool
 |.setdef=>true|.get=>true|.update=>true|_=>false
noncomputable def QcS(b:Bm)(u:U)(hs:Hs):Bool:=match u with
 |.ref n=>match hs[n]? with
  |some (.lst _)=>bL b
  |some (.dic _)=>bD b
  |_=>false
 |.str _=>bS b
 |_=>false
noncomputable def QcT(f:Nat)(u:U):List (Nat×U)->List (Nat×U)
 |[]=>[(f,u)]
 | (g,x)::r=>if g=f then(g,u)::r else(g,x)::QcT f u r
inductive Wk where
 |seqL (u:U)|seqT (u:U)|rng (lo:Int) (n:Nat)|zipB (b c:Bool) (x y:U)
inductive Im where
 |one (u:U)|two (u w:U)
noncomputable def sqU(T:Tbl)(b:Bool)(u:U)(hs:Hs):Option (List U):=if b then Q4 T u hs else ZH T u hs
noncomputable def two(xs ys:List U)(i:Nat):Option Im:=match xs[i]?,ys[i]? with
 |some x,some y=>some (.two x y)
 |_,_=>none
noncomputable def itm(T:Tbl)(k:Wk)(i:Nat)(hs:Hs):Option (Option Im):=match k with
 |.seqL u=>(Q4 T u hs).map λxs=>(xs[i]?).map .one
 |.seqT u=>(ZH T u hs).map λxs=>(xs[i]?).map .one
 |.rng lo n=>some (if i<n then some (.one (.int (lo+i) 0))else none)
 |.zipB b c x y=>match sqU T b x hs,sqU T c y hs with
  |some xs,some ys=>some (two xs ys i)
  |_,_=>none
noncomputable def Q7(T:Tbl)(k:Wk)(hs:Hs):Nat:=match k with
 |.seqL u=>((Q4 T u hs).getD []).length+1
 |.seqT u=>((ZH T u hs).getD []).length+1
 |.rng _ n=>n+1
 |.zipB b _ x _=>((sqU T b x hs).getD []).length+1
noncomputable def tgt(t:Tg)(x:Im)(ρ:Rho)(hs:Hs):Option Rho:=match t,x with
 |.name i,.one u=>some (ρ.set i (some u))
 |.pair i j,.two u w=>some ((ρ.set i (some u)).set j (some w))
 |.pair i j,.one (.ref n)=>match hs[n]? with
  |some (.tup [u,w])=>some ((ρ.set i (some u)).set j (some w))
  |_=>none
 |_,_=>none
abbrev Cf:=Nat->List U->Hs->Option (U×Hs)
abbrev Ev:=E->Rho->Hs->Option (U×Hs)
noncomputable def evs(f:Ev)(ρ:Rho):List E->Hs->Option (List U×Hs)
 |[],hs=>some ([],hs)
 |e::es,hs=>bd (f e ρ hs) λu h1=>bd (evs f ρ es h1) λus h2=>some (u::us,h2)
noncomputable def evO(f:Ev)(ρ:Rho):Option E->Hs->Option (Option Int×Hs)
 |none,hs=>some (none,hs)
 |some e,hs=>bd (f e ρ hs) λu h1=>match u with|.int i 0=>some (some i,h1)|_=>none
noncomputable def wkS(T:Tbl)(u:U)(hs:Hs):Option Wk:=match Q4 T u hs with
 |some _=>some (.seqL u)
 |none=>match ZH T u hs with
  |some _=>some (.seqT u)
  |none=>none
noncomputable def wkZ(T:Tbl)(u w:U)(hs:Hs):Option Wk :=
 let b:=(Q4 T u hs).isSome;let c:=(Q4 T w hs).isSome
 if(sqU T b u hs).isSome&&(sqU T c w hs).isSome then some (.zipB b c u w)else none
noncomputable def Zs(T:Tbl)(f:Ev)(ρ:Rho):Src->Hs->Option (Wk×Hs)
 |.seq e,hs=>bd (f e ρ hs) λu h1=>(wkS T u h1).map λk=>(k,h1)
 |.rng a,hs=>bd (f a ρ hs) λu h1=>match u with|.int i 0=>if Qs (i*4)then some (.rng 0 i.toNat,h1)else none|_=>none
 |.rng2 a b,hs=>bd (f a ρ hs) λu h1=>bd (f b ρ h1) λw h2=>match u,w with|.int i 0,.int j 0=>if Qs (i*4)&&Qs (j*4)then some (.rng i (j-i).toNat,h2)else none|_,_=>none
 |.zip a b,hs=>bd (f a ρ hs) λu h1=>bd (f b ρ h1) λw h2=>(wkZ T u w h2).map λk=>(k,h2)
noncomputable def Qfx(T:Tbl)(f n:Nat):List U:=match T.dfl.lookup f with
 |none=>[]
 |some D=>D.ds.drop (D.ds.length-(D.np-n))
noncomputable def ZZ(T:Tbl)(cf:Cf)(c:Nat)(us:List U)(hs:Hs):Option (U×Hs):=match T.cls[c]? with
 |none=>none
 |some C=>match C.init with
  |none=>if us=[]then some (.ref hs.length,hs++[.ins c []])else none
  |some f=>match cf f (.ref hs.length::(us++Qfx T f (us.length+1))) (hs++[.ins c []])with
   |some (.non,h2)=>some (.ref hs.length,h2)
   |_=>none
noncomputable def Qbl(T:Tbl)(m:Nat)(o:U)(hs:Hs):Option Nat:=match o with
 |.ref n=>match hs[n]? with
  |some (.ins c _)=>match T.cls[c]? with
   |some C=>C.meths.lookup m
   |none=>none
  |_=>none
 |_=>none
noncomputable def tgN(b:Bool)(n:Nat):Tg:=if b then .pair n (n+1)else .name n
noncomputable def QcU(b:Bool):Rho:=if b then [none,none]else [none]
noncomputable def Yt(T:Tbl)(f:Ev)(ft:Rho->Hs->Option (Bool×Hs))(w:Wk)(b:Bool)(el:E)(ρ:Rho):Nat->Nat->List U->Hs->Option (List U×Hs)
 |0,_,_,_=>none
 |k+1,i,acc,hs=>match itm T w i hs with
  |none=>none
  |some none=>some (acc,hs)
  |some (some x)=>match tgt (tgN b ρ.length) x (ρ++QcU b) hs with
   |none=>none
   |some ρ'=>if acc.length<1000000 then bd (ft ρ' hs) λc h1=>if c=true then bd (f el ρ' h1) λu h2=>Yt T f ft w b el ρ k (i+1) (acc++[u]) h2 else Yt T f ft w b el ρ k (i+1) acc h1 else none
noncomputable def Qbz(ft:E->Rho->Hs->Option (Bool×Hs))(t:Option E)(ρ:Rho)(hs:Hs):Option (Bool×Hs):=match t with
 |none=>some (true,hs)
 |some e=>ft e ρ hs
noncomputable def Qkp(a b c:Int):Option (List U):=if Qs (a*4)&&Qs (b*4)&&(decide (c=1)||decide (c=-1))then
  (let n:=if c=1 then(b-a).toNat else(a-b).toNat
    if n<=1000000 then some ((List.range n).map λi:Nat=>.int (a+(i:Int)*c) 0)else none)else none
noncomputable def QgF:List U->Option (List U)
 |[.int b 0]=>Qkp 0 b 1
 |[.int a 0,.int b 0]=>Qkp a b 1
 |[.int a 0,.int b 0,.int c 0]=>Qkp a b c
 |_=>none
noncomputable def Qk7(T:Tbl)(u w:U)(hs:Hs):Option (U×Hs):=match w with
 |.int d 0=>(match Q4 T u hs with
  |some xs=>(Jv xs).map λns=>(.int ((Qjn ns).getD d) 0,hs)
  |none=>none)
 |_=>none
mutual
noncomputable def ev(T:Tbl)(cf:Cf):Nat->Ev
 |0,_,_,_=>none
 |d+1,e,ρ,hs=>match e with
  |.c u=>some (u,hs)
  |.con k=>some (.con k,hs)
  |.var i=>match ρ[i]? with
   |some (some u)=>some (u,hs)
   |_=>none
  |.op o a b=>bd (ev T cf d a ρ hs) λu h1=>bd (ev T cf d b ρ h1) λw h2=>opU o u w h2
  |.neg a=>bd (ev T cf d a ρ hs) λu h1=>match u with|.int i m=>some (.int (-i) m,h1)|_=>none
  |.cmp o a b=>bd (ev T cf d a ρ hs) λu h1=>bd (ev T cf d b ρ h1) λw h2=>(Zi T o u w h2).map λc=>(.bl c,h2)
  |.and a b=>bd (ev T cf d a ρ hs) λu h1=>match u with|.bl true=>ev T cf d b ρ h1|.bl false=>some (.bl false,h1)|_=>none
  |.or a b=>bd (ev T cf d a ρ hs) λu h1=>match u with|.bl true=>some (.bl true,h1)|.bl false=>ev T cf d b ρ h1|_=>none
  |.not a=>bd (ev T cf d a ρ hs) λu h1=>(ZO T u h1).map λc=>(.bl (!c),h1)
  |.ife t a b=>bd (evT T cf d t ρ hs) λc h1=>if c=true then ev T cf d a ρ h1 else ev T cf d b ρ h1
  |.tup es=>bd (evs (ev T cf d) ρ es hs) λus h1=>some (.ref h1.length,h1++[.tup us])
  |.lst es=>bd (evs (ev T cf d) ρ es hs) λus h1=>some (.ref h1.length,h1++[.lst us])
  |.ix a b=>bd (ev T cf d a ρ hs) λu h1=>bd (ev T cf d b ρ h1) λw h2=>(Zj T u w h2).map λx=>(x,h2)
  |.tab k b=>bd (ev T cf d b ρ hs) λw h1=>(Qhx T k w).map λx=>(x,h1)
  |.sl a lo hi=>bd (ev T cf d a ρ hs) λu h1=>bd (evO (ev T cf d) ρ lo h1) λl h2=>bd (evO (ev T cf d) ρ hi h2) λr h3=>slU T u l r h3
  |.tupR es=>bd (evs (ev T cf d) ρ es hs) λus h1=>match QgF us with|some xs=>some (.ref h1.length,h1++[.tup xs])|none=>none
  |.fld a f=>bd (ev T cf d a ρ hs) λu h1=>match u with
   |.ref n=>match h1[n]? with
    |some (.ins _ fs)=>(fs.lookup f).map λx=>(x,h1)
    |some (.err c w)=>if T.efl.contains (c,f)=true then some (w,h1)else none
    |_=>none
   |_=>none
  |.call f es=>bd (evs (ev T cf d) ρ es hs) λus h1=>cf f us h1
  |.meth m o es=>bd (ev T cf d o ρ hs) λu h1=>match Qbl T m u h1 with
   |some f=>bd (evs (ev T cf d) ρ es h1) λus h2=>cf f (u::(us++Qfx T f (us.length+1))) h2
   |none=>none
  |.make c es=>bd (evs (ev T cf d) ρ es hs) λus h1=>ZZ T cf c us h1
  |.bi b es=>bd (evs (ev T cf d) ρ es hs) λus h1=>biU T b us h1
  |.isi a t=>bd (ev T cf d a ρ hs) λu h1=>(JH T t u h1).map λb=>(.bl b,h1)
  |.bm b o es=>bd (ev T cf d o ρ hs) λu h1=>if QcS b u h1=true then bd (evs (ev T cf d) ρ es h1) λus h2=>bmU T b u us h2 else none
  |.comp s b t el=>bd (Zs T (ev T cf d) ρ s hs) λw h1=>bd (Yt T (ev T cf d) (Qbz (evT T cf d) t) w b el ρ (Q7 T w h1) 0 [] h1) λus h2=>some (.ref h2.length,h2++[.lst us])
  |.maxd a b=>bd (ev T cf d a ρ hs) λu h1=>bd (ev T cf d b ρ h1) λw h2=>Qk7 T u w h2
noncomputable def evT(T:Tbl)(cf:Cf):Nat->E->Rho->Hs->Option (Bool×Hs)
 |0,_,_,_=>none
 |d+1,e,ρ,hs=>match e with
  |.not a=>bd (evT T cf d a ρ hs) λc h1=>some (!c,h1)
  |.and a b=>bd (evT T cf d a ρ hs) λc h1=>if c=true then evT T cf d b ρ h1 else some (false,h1)
  |.or a b=>bd (evT T cf d a ρ hs) λc h1=>if c=true then some (true,h1)else evT T cf d b ρ h1
  |e=>bd (ev T cf d e ρ hs) λu h1=>(ZO T u h1).map λb=>(b,h1)
end
abbrev Ex:=Rho->Hs->Option (Fl×Rho×Hs)
noncomputable def Je(T:Tbl)(w:Wk)(t:Tg)(body:Ex):Nat->Nat->Ex
 |0,_,_,_=>none
 |k+1,i,ρ,hs=>match itm T w i hs with
  |none=>none
  |some none=>some (.next,ρ,hs)
  |some (some x)=>match tgt t x ρ hs with
   |none=>none
   |some ρ'=>match body ρ' hs with
    |some (.next,ρ2,h2)=>Je T w t body k (i+1) ρ2 h2
    |some (.cont,ρ2,h2)=>Je T w t body k (i+1) ρ2 h2
    |some (.brk,ρ2,h2)=>some (.next,ρ2,h2)
    |r=>r
noncomputable def Qh1(x k u:U)(hs:Hs):Option Hs:=match x with
 |.ref n=>(match hs[n]? with
  |some (.lst xs)=>(match k with
   |.int j 0=>(ixU xs.length j).map λp=>hs.set n (.lst (xs.set p u))
   |_=>none)
  |_=>none)
 |_=>none
noncomputable def QpQ(j:Option Nat)(u:U)(ρ:Rho):Rho:=match j with
 |some j=>ρ.set j (some u)
 |none=>ρ
noncomputable def QlE(j:Option Nat)(ρ:Rho):Rho:=match j with
 |some j=>ρ.set j none
 |none=>ρ
noncomputable def Qqq(j:Option Nat)(c:Er)(hs:Hs):Hs:=match j with
 |some _=>hs++[.err c.1 c.2]
 |none=>hs
mutual
noncomputable def ex(T:Tbl)(cf:Cf):Nat->S->Ex
 |0,_,_,_=>none
 |d+1,s,ρ,hs=>match s with
  |.pass=>some (.next,ρ,hs)
  |.bad=>none
  |.brk=>some (.brk,ρ,hs)
  |.cont=>some (.cont,ρ,hs)
  |.expr e=>bd (ev T cf d e ρ hs) λz h1=>some (.next,ρ,h1)
  |.set i e=>bd (ev T cf d e ρ hs) λu h1=>some (.next,ρ.set i (some u),h1)
  |.fld o f e=>bd (ev T cf d e ρ hs) λu h1=>bd (ev T cf d o ρ h1) λx h2=>match x with
   |.ref n=>match h2[n]? with
    |some (.ins c fs)=>if fs.length<500 then some (.next,ρ,h2.set n (.ins c (QcT f u fs)))else none
    |_=>none
   |_=>none
  |.ret e=>bd (ev T cf d e ρ hs) λu h1=>some (.ret u,ρ,h1)
  |.retN=>some (.ret .non,ρ,hs)
  |.ite t a b=>match evT T cf d t ρ hs with
   |some (true,h1)=>exs T cf d a ρ h1
   |some (false,h1)=>exs T cf d b ρ h1
   |none=>none
  |.loop t s body=>bd (Zs T (ev T cf d) ρ s hs) λw h1=>Je T w t (exs T cf d body) (Q7 T w h1) 0 ρ h1
  |.put o i e=>bd (ev T cf d e ρ hs) λu h1=>bd (ev T cf d o ρ h1) λx h2=>bd (ev T cf d i ρ h2) λk h3=>(Qh1 x k u h3).map λh4=>(.next,ρ,h4)
  |.unp i j e=>bd (ev T cf d e ρ hs) λu h1=>(tgt (.pair i j) (.one u) ρ h1).map λρ'=>(.next,ρ',h1)
  |.rse _ _=>none
  |.tryS j f es c body=>bd (evs (ev T cf d) ρ es hs) λus h1=>match cf f us h1 with
   |some (_,h2)=>some (.next,ρ,h2)
   |none=>match T.xf f us h1 with
    |some (c',h2)=>if T.ers.contains c'.1=true/\T.esb.contains (c'.1,c)=true/\(match T.fns[f]? with|some F=>decide (us.length=F.np)|none=>false)=true then(match exs T cf d body (QpQ j (.ref h2.length) ρ) (Qqq j c' h2)with
     |some (.next,ρ2,h3)=>some (.next,QlE j ρ2,h3)
     |_=>none)else none
    |none=>none
  |.xal n _=>ex T cf d n ρ hs
noncomputable def exs(T:Tbl)(cf:Cf):Nat->List S->Ex
 |0,_,_,_=>none
 |d+1,ss,ρ,hs=>match ss with
  |[]=>some (.next,ρ,hs)
  |s::r=>match ex T cf d s ρ hs with
   |some (.next,ρ1,h1)=>exs T cf d r ρ1 h1
   |x=>x
end
noncomputable def dd:Nat:=100
noncomputable def fin:Option (Fl×Rho×Hs)->Option (U×Hs)
 |some (.ret u,_,h)=>some (u,h)
 |some (.next,_,h)=>some (.non,h)
 |_=>none
noncomputable def QgG(us:List U)(n:Nat):Rho:=us.map some++List.replicate (n-us.length) none
noncomputable def Qa(T:Tbl):Nat->Cf
 |0,_,_,_=>none
 |n+1,f,us,hs=>match T.fns[f]? with
  |none=>none
  |some F=>if us.length=F.np then fin (exs T (Qa T n) dd F.body (QgG us F.nN) hs)else none
noncomputable def rsv(us:List U):Option U:=if us.isEmpty=true then some .non else none
noncomputable def Qea(T:Tbl)(w:Wk)(t:Tg)(body:Ex)(bx:Rho->Hs->Option (Er×Hs)):Nat->Nat->Rho->Hs->Option (Er×Hs)
 |0,_,_,_=>none
 |k+1,i,ρ,hs=>match itm T w i hs with
  |none=>none
  |some none=>none
  |some (some x)=>match tgt t x ρ hs with
   |none=>none
   |some ρ'=>match body ρ' hs with
    |some (.next,ρ2,h2)=>Qea T w t body bx k (i+1) ρ2 h2
    |some (.cont,ρ2,h2)=>Qea T w t body bx k (i+1) ρ2 h2
    |some _=>none
    |none=>bx ρ' hs
noncomputable def Qjr(T:Tbl)(f:Rho->Hs->Option (U×Hs))(fx:Rho->Hs->Option (Er×Hs))(w:Wk)(b:Bool)(ρ:Rho):Nat->Nat->Hs->Option (Er×Hs)
 |0,_,_=>none
 |k+1,i,hs=>match itm T w i hs with
  |none=>none
  |some none=>none
  |some (some x)=>match tgt (tgN b ρ.length) x (ρ++QcU b) hs with
   |none=>none
   |some ρ'=>if i<1000000 then(match f ρ' hs with
    |some (_,h2)=>Qjr T f fx w b ρ k (i+1) h2
    |none=>fx ρ' hs)else none
noncomputable def evX(T:Tbl)(cf:Cf):EX->Nat->Rho->Hs->Option (Er×Hs)
 |.no,_,_,_=>none
 |.call f es,d,ρ,hs=>bd (evs (ev T cf d) ρ es hs) λus h1=>if(match T.fns[f]? with|some F=>decide (us.length=F.np)|none=>false)=true then T.xf f us h1 else none
 |.arg e x,d,ρ,hs=>bd (ev T cf d e ρ hs) λz h1=>evX T cf x d ρ h1
 |.alt x y,d,ρ,hs=>match evX T cf x d ρ hs with
  |some r=>some r
  |none=>evX T cf y d ρ hs
 |.ife _ _ _,_,_,_=>none
 |.comp s b el x,d,ρ,hs=>bd (Zs T (ev T cf d) ρ s hs) λw h1=>Qjr T (ev T cf d el) (evX T cf x d) w b ρ (Q7 T w h1) 0 h1
mutual
noncomputable def exX(T:Tbl)(cf:Cf):Nat->S->Rho->Hs->Option (Er×Hs)
 |0,_,_,_=>none
 |d+1,s,ρ,hs=>match s with
  |.rse c es=>bd (evs (ev T cf d) ρ es hs) λus h1=>if T.ers.contains c=true/\es.length<=1000 then(rsv us).map λu=>((c,u),h1)else none
  |.ite t a b=>match evT T cf d t ρ hs with
   |some (true,h1)=>exsX T cf d a ρ h1
   |some (false,h1)=>exsX T cf d b ρ h1
   |none=>none
  |.loop t s body=>bd (Zs T (ev T cf d) ρ s hs) λw h1=>Qea T w t (exs T cf d body) (exsX T cf d body) (Q7 T w h1) 0 ρ h1
  |.xal _ x=>evX T cf x d ρ hs
  |_=>none
noncomputable def exsX(T:Tbl)(cf:Cf):Nat->List S->Rho->Hs->Option (Er×Hs)
 |0,_,_,_=>none
 |d+1,ss,ρ,hs=>match ss with
  |[]=>none
  |s::r=>match ex T cf d s ρ hs with
   |some (.next,ρ1,h1)=>exsX T cf d r ρ1 h1
   |some _=>none
   |none=>exX T cf d s ρ hs
end
noncomputable def QI(T:Tbl):Nat->Nat->List U->Hs->Option (Er×Hs)
 |0,_,_,_=>none
 |n+1,f,us,hs=>match T.fns[f]? with
  |none=>none
  |some F=>if us.length=F.np then exsX T (Qa T n) dd F.body (QgG us F.nN) hs else none
end
section
variable {m:Nat}
inductive G where
 |fn (i:Nat)|cls (i:Nat)|con (k:Nat)|txt (u:U)
structure Ctx where
 T:Tbl
 N:List Str
 names:List (Str×NameKind)
 gl:List (Str×G)
 bl:List Str
 lc:Bool:=false
noncomputable def idx(x:Str):List Str->Option Nat
 |[]=>none
 |y::r=>if y=x then some 0 else(idx x r).map (· + 1)
noncomputable def QfV(C:Ctx)(x:Str):Bool:=match C.names.lookup x with
 |some .local=>true|some .cell=>true|some .free=>true|_=>false
noncomputable def QaO(C:Ctx)(x:Str):Bool:=match C.names.lookup x with
 |some .local=>true|some .cell=>true|_=>false
noncomputable def ZI(C:Ctx)(x:Str):Bool:=match C.names.lookup x with
 |some .globalImplicit=>true|_=>false
noncomputable def Zx:Expr->Bool
 |.Call (.Name _ _) [] [] _=>false
 |_=>true
noncomputable def ZR:Expr->Bool
 |.Slice ..=>false
 |_=>true
noncomputable def QjO(C:Ctx)(x:Str):Option Ty:=match C.gl.lookup x with
 |some (.cls i)=>some (.cls i)
 |some _=>none
 |none=>if C.bl.contains x=false then none else if x="int" then some .int else if x="str" then some .str else if x="bool" then some .bool else if x="list" then some .list else if x="tuple" then some .tuple else if x="dict" then some .dict else if x="ValueError" then some .vale else none
noncomputable def Qop(b:Bool)(x:Str):Option Bi:=none
noncomputable def Qmz(C:Ctx)(x:Str):Option Bi:=match C.gl.lookup x with
 |some _=>none
 |none=>if C.bl.contains x=false then none else if x="len" then some .len else if x="int" then some .int else if x="tuple" then some .tuple else if x="any" then some .any else if x="max" then some .max else Qop C.T.dts.isEmpty x
noncomputable def Ql0(x:Str):Option Bm:=if x="count" then some .count else none
noncomputable def Qmx(x:Str):Option Bm:=if x="append" then some .append else if x="clear" then some .clear else if x="index" then some .index else Ql0 x
noncomputable def Qdz:E->Bool
 |.and _ _=>false
 |.or _ _=>false
 |.not _=>false
 |_=>true
noncomputable def okT:Expr->E->Bool
 |.BoolOp ..,_=>true
 |.UnaryOp .Not ..,_=>true
 |.Compare ..,_=>true
 |_,ir=>Qdz ir
noncomputable def J0(C:Ctx)(f:Str)(args:List Expr):Option (List Expr):=if f="tuple" then(match args with
 |[.Call (.Name r _) ra [] _]=>if r="range"&&ZI C r&&(C.gl.lookup r).isNone&&C.bl.contains r&&decide (ra.length<=3)&&decide (1<=ra.length)then some ra else none
 |_=>none)else none
noncomputable def Ctx.inner(C:Ctx)(xs:List Str)(scope:Scope):Ctx:={C with N:=L2.hideN xs C.N++xs,names:=L2.relN C.names scope.names,lc:=false}
noncomputable def hdC(C:Ctx):Bool:=decide (C.bl.head?=some ("isinstance":Str))
noncomputable def Ji(C:Ctx)(xs:List Str)(scope:Scope):Bool:=(scope.kind==.function)&&xs.all (λx=>(scope.names.lookup x==some .local)&&(scope.names.lookup (L2.mang x)==none))&&decide (L2.hideN xs C.N++xs).Nodup&&scope.names.all (λy=>match y.2 with
  |.local=>(xs.contains y.1||decide (y.1=".0"))&&(scope.names.lookup y.1==some .local)
  |.free=>(C.names.lookup y.1==some .cell)||(C.names.lookup y.1==some .free)
  |.cell=>false
  |_=>true)&&!(C.N.contains ".0")
noncomputable def Qmr:Src->Bool
 |.zip _ _=>true
 |_=>false
noncomputable def QaG:Src->Tg->Bool
 |.zip _ _,.name _=>false
 |_,_=>true
noncomputable def QmT:Expr->Option (Bool×List Str)
 |.Name x _=>some (false,[x])
 |.Tuple es _ _=>(match es with
  |[a,b]=>(match a,b with
   |.Name x _,.Name y _=>some (true,[x,y])
   |_,_=>none)
  |_=>none)
 |_=>none
noncomputable def Qo5:List Expr->Option (Option Expr)
 |[]=>some none
 |[t]=>some (some t)
 |_=>none
structure Gn where
 b:Bool
 xs:List Str
 iter:Expr
 tl:Option Expr
noncomputable def Qd7:List Comprehension->Option Gn
 |[g]=>if g.is_async=0 then(QmT g.target).bind λt=>(Qo5 g.ifs).map λtl=>⟨t.1,t.2,g.iter,tl⟩else none
 |_=>none
def QmB(tg:Expr)(b:Bool)(xs:List Str):Prop:=(b=false/\∃x p,tg=.Name x p/\xs=[x])\/(b=true/\∃x p y q k pt,tg=.Tuple [.Name x p,.Name y q] k pt/\xs=[x,y])
def Qhv(h:QmT tg=some (b,xs)):QmB tg b xs:=by
 unfold QmT at h;split at h
 ·cases h;exact .inl ⟨rfl,_,_,rfl,rfl⟩
 ·split at h
  ·split at h
   ·cases h;exact .inr ⟨rfl,_,_,_,_,_,_,rfl,rfl⟩
   ·cases h
  ·cases h
 ·cases h
def JK(h:Qd7 gens=some g):∃tg,gens=[⟨tg,g.iter,g.tl.toList,0⟩]/\QmB tg g.b g.xs:=by
 unfold Qd7 at h;split at h
 ·rename_i c;split at h
  ·rename_i e;simp only[Xb,Xc]at h;obtain⟨⟨b,xs⟩,h1,tl,h2,rfl⟩:=h;obtain⟨tg,iter,ifs,ia⟩:=c;simp only at e h1 h2;subst e;refine⟨tg,?_,Qhv h1⟩
   have:ifs=tl.toList:=by
    unfold Qo5 at h2;split at h2<;>cases h2<;>rfl
   rw[this]
  ·cases h
 ·cases h
inductive Sl where
 |cut (lo hi:Option Expr)|bad
noncomputable def Qmk:Expr->Option Sl
 |.Slice lo hi st _=>(match st with
  |none=>some (.cut lo hi)
  |some e=>some .bad)
 |_=>none
inductive He where
 |nm (x:Str)|any
noncomputable def Qms:Expr->He
 |.Name x _=>.nm x
 |_=>.any
noncomputable def Qhy(C:Ctx)(x:Str):Option Nat:=if ZI C x&&decide (x≠"__debug__")then(match C.gl.lookup x with
 |some (.con k)=>(match C.T.cons[k]? with|some (.tab _)=>some k|_=>none)
 |_=>none)else none
noncomputable def Qmo(C:Ctx)(i:Nat)(es:List E):Option E:=match C.T.dfl.lookup i with
 |none=>some (.call i es)
 |some _=>none
noncomputable def Qk8(C:Ctx)(f:Str)(args:List Expr)(k:Option Str):Bool:=decide (f="max")&&args.isEmpty&&decide (k=some "default")&&ZI C f&&(C.gl.lookup f).isNone&&C.bl.contains f
mutual
noncomputable def Qe:Nat->Ctx->Expr->Option E
 |0,_,_=>none
 |m+1,C,e=>match e with
  |.Constant (.int i) _ _=>some (.c (.int i 0))
  |.Constant (.bool b) _ _=>some (.c (.bl b))
  |.Constant .none _ _=>some (.c .non)
  |.Constant (.str x) _ _=>some (.c (.str x.cps.toList))
  |.Name x _=>if x="__debug__"\/x="__classdict__" then none else if QfV C x then(idx x C.N).map .var else if ZI C x then(match C.gl.lookup x with|some (.con k)=> some (.con k)|some (.txt t)=> some (.c t)|_=>none)else none
  |.BinOp a o b _=>(Qe m C a).bind λa'=>(Qe m C b).bind λb'=>some (.op o a' b')
  |.UnaryOp .USub a _=>(Qe m C a).bind λa'=>some (.neg a')
  |.UnaryOp .Not a _=>(compT m C a).bind λa'=>some (.not a')
  |.BoolOp .And (a::r) p=>compAnd m C a r p
  |.BoolOp .Or (a::r) p=>compOr m C a r p
  |.Compare a [o] [b] _=>(Qe m C a).bind λa'=>(Qe m C b).bind λb'=>some (.cmp o a' b')
  |.IfExp t a b _=>(compT m C t).bind λt'=>(Qe m C a).bind λa'=>(Qe m C b).bind λb'=>some (.ife t' a' b')
  |.Tuple es _ _=>if es.length<=1000000 then(compA m C es).bind λes'=>some (.tup es')else none
  |.List es _=>if es.length<=1000000 then(compA m C es).bind λes'=>some (.lst es')else none
  |.Subscript a b _=>match Qmk b with
   |some (.cut lo hi)=>(Qe m C a).bind λa'=>(compO m C lo).bind λl=>(compO m C hi).bind λh=>some (.sl a' l h)
   |some .bad=>none
   |none=>(Qe m C b).bind λb'=>match Qms a with
    |.nm x=>(match Qhy C x with|some k=>some (.tab k b')|none=>(Qe m C a).bind λa'=>some (.ix a' b'))
    |.any=>(Qe m C a).bind λa'=>some (.ix a' b')
  |.Attribute a f _=>if Zx a then(Qe m C a).bind λa'=>(idx f C.T.fns').bind λk=>some (.fld a' k)else none
  |.Call (.Name f _) args [] _=>if f="__debug__"\/f="__name__"\/ZI C f=false then none else match C.gl.lookup f with
   |some (.fn i)=>if hdC C=true then none else(compA m C args).bind λes=>Qmo C i es
   |some (.cls i)=>if hdC C=true then none else(compA m C args).bind λes=>some (.make i es)
   |some (.con _)=>none
   |some (.txt _)=>none
   |none=>if C.bl.contains f=false then none else if f="isinstance" then(match args with
     |[a,.Name t _]=> if ZI C t/\t≠"__debug__"/\t≠"__name__" then(Qe m C a).bind λa'=>(QjO C t).bind λty=>some (.isi a' ty)else none
     |_=>none)
    else if hdC C=true then none else match J0 C f args with
     |some ra=>(compA m C ra).bind λes=>some (.tupR es)
     |none=>(Qmz C f).bind λb=>(compA m C args).bind λes=>some (.bi b es)
  |.Call (.Name f _) (a::args) [kw] _=>if hdC C=true then none else if Qk8 C f args kw.arg=true then(Qe m C a).bind λa'=>(Qe m C kw.value).bind λd'=>some (.maxd a' d')else none
  |.Call (.Attribute o x p) args [] q=>if Zx o&&(p.endLine==q.line)&&decide (args.length<29)then match idx x C.T.mns with
   |some k=>if hdC C=true then none else(Qe m C o).bind λo'=>(compA m C args).bind λes=>some (.meth k o' es)
   |none=>(Qmx x).bind λb=>(Qe m C o).bind λo'=>(compA m C args).bind λes=>some (.bm b o' es)else none
  |.ListComp elt gens scope _=>(match Qd7 gens with
   |some g=>if Ji C g.xs scope&&!hdC C then(compSrc m C g.iter).bind λsrc=>if QaG src (tgN g.b 0)then(compTO m (C.inner g.xs scope) g.tl).bind λt=>(Qe m (C.inner g.xs scope) elt).bind λel=>some (.comp src g.b t el)else none else none
   |none=>none)
  |_=>none
noncomputable def compT:Nat->Ctx->Expr->Option E
 |0,_,_=>none
 |m+1,C,e=>match e with
  |.IfExp ..=>none
  |.NamedExpr ..=>none
  |e=>(Qe m C e).bind λir=>if okT e ir then some ir else none
noncomputable def compTO:Nat->Ctx->Option Expr->Option (Option E)
 |0,_,_=>none
 |m+1,C,none=>some none
 |m+1,C,some e=>(compT m C e).bind λe'=>some (some e')
noncomputable def compAnd:Nat->Ctx->Expr->List Expr->Pos->Option E
 |0,_,_,_,_=>none
 |m+1,C,a,r,p=>match r with
  |[]=>compT m C a
  |b::r=>(compT m C a).bind λa'=>(compAnd m C b r p).bind λb'=>some (.and a' b')
noncomputable def compOr:Nat->Ctx->Expr->List Expr->Pos->Option E
 |0,_,_,_,_=>none
 |m+1,C,a,r,p=>match r with
  |[]=>compT m C a
  |b::r=>(compT m C a).bind λa'=>(compOr m C b r p).bind λb'=>some (.or a' b')
noncomputable def compA:Nat->Ctx->List Expr->Option (List E)
 |0,_,_=>none
 |m+1,C,es=>match es with
  |[]=>some []
  |e::r=>(Qe m C e).bind λe'=>(compA m C r).bind λr'=>some (e'::r')
noncomputable def compO:Nat->Ctx->Option Expr->Option (Option E)
 |0,_,_=>none
 |m+1,C,none=>some none
 |m+1,C,some e=>(Qe m C e).bind λe'=>some (some e')
noncomputable def compSrc:Nat->Ctx->Expr->Option Src
 |0,_,_=>none
 |m+1,C,e=>match e with
  |.Call (.Name f p) args [] q=>if ZI C f then(match C.gl.lookup f with
   |some _=>(Qe m C (.Call (.Name f p) args [] q)).map .seq
   |none=>if C.bl.contains f=false then none else if f="range" then(match args with
     |[a]=>(Qe m C a).map .rng
     |[a,b]=>(Qe m C a).bind λa'=>(Qe m C b).map λb'=>.rng2 a' b'
     |_=>none)
    else if f="zip" then(match args with
     |[a,b]=>(Qe m C a).bind λa'=>(Qe m C b).map λb'=>.zip a' b'
     |_=>none)
    else(Qe m C (.Call (.Name f p) args [] q)).map .seq)else none
  |e=>(Qe m C e).map .seq
end
def cE4{x w1}: Qe (m+1) C (.Name x w1)= (if x="__debug__"\/x="__classdict__" then none else if QfV C x then(idx x C.N).map .var else if ZI C x then(match C.gl.lookup x with|some (.con k)=> some (.con k)|some (.txt t)=> some (.c t)|_=>none)else none):= rfl
def cE5{a o b w1}:Qe (m+1) C (.BinOp a o b w1)=((Qe m C a).bind λa'=>(Qe m C b).bind λb'=>some (.op o a' b')):=rfl
def cE6{a w1}:Qe (m+1) C (.UnaryOp .USub a w1)=((Qe m C a).bind λa'=>some (.neg a')):=rfl
def cE7{a w1}:Qe (m+1) C (.UnaryOp .Not a w1)=((compT m C a).bind λa'=>some (.not a')):=rfl
def QqX{a o b w1}:Qe (m+1) C (.Compare a [o] [b] w1)=((Qe m C a).bind λa'=>(Qe m C b).bind λb'=>some (.cmp o a' b')):=rfl
def QqW{t a b w1}:Qe (m+1) C (.IfExp t a b w1)=((compT m C t).bind λt'=>(Qe m C a).bind λa'=>(Qe m C b).bind λb'=>some (.ife t' a' b')):=rfl
def QqV{es w1 w2}:Qe (m+1) C (.Tuple es w1 w2)=(if es.length<=1000000 then(compA m C es).bind λes'=>some (.tup es')else none):=rfl
def QqU{es w1}:Qe (m+1) C (.List es w1)=(if es.length<=1000000 then(compA m C es).bind λes'=>some (.lst es')else none):=rfl
def QqT{a b w1}:Qe (m+1) C (.Subscript a b w1)=(match Qmk b with
   |some (.cut lo hi)=>(Qe m C a).bind λa'=>(compO m C lo).bind λl=>(compO m C hi).bind λh=>some (.sl a' l h)
   |some .bad=>none
   |none=>(Qe m C b).bind λb'=>match Qms a with
    |.nm x=>(match Qhy C x with|some k=>some (.tab k b')|none=>(Qe m C a).bind λa'=>some (.ix a' b'))
    |.any=>(Qe m C a).bind λa'=>some (.ix a' b')):=rfl
def QqS{a f w1}:Qe (m+1) C (.Attribute a f w1)=(if Zx a then(Qe m C a).bind λa'=>(idx f C.T.fns').bind λk=>some (.fld a' k)else none):=rfl
def QqR{f w1 args w2}: Qe (m+1) C (.Call (.Name f w1) args [] w2)= (if f="__debug__"\/f="__name__"\/ZI C f=false then none else match C.gl.lookup f with
   |some (.fn i)=>if hdC C=true then none else(compA m C args).bind λes=>Qmo C i es
   |some (.cls i)=>if hdC C=true then none else(compA m C args).bind λes=>some (.make i es)
   |some (.con _)=>none
   |some (.txt _)=>none
   |none=>if C.bl.contains f=false then none else if f="isinstance" then(match args with
     |[a,.Name t _]=> if ZI C t/\t≠"__debug__"/\t≠"__name__" then(Qe m C a).bind λa'=>(QjO C t).bind λty=>some (.isi a' ty)else none
     |_=>none)
    else if hdC C=true then none else match J0 C f args with
     |some ra=>(compA m C ra).bind λes=>some (.tupR es)
     |none=>(Qmz C f).bind λb=>(compA m C args).bind λes=>some (.bi b es)):=rfl
def QqQ{f w1 a args kw w2}:Qe (m+1) C (.Call (.Name f w1) (a::args) [kw] w2)=(if hdC C=true then none else if Qk8 C f args kw.arg=true then(Qe m C a).bind λa'=>(Qe m C kw.value).bind λd'=>some (.maxd a' d')else none):=rfl
def QqP{o x p args q}:Qe (m+1) C (.Call (.Attribute o x p) args [] q)=(if Zx o&&(p.endLine==q.line)&&decide (args.length<29)then match idx x C.T.mns with
   |some k=>if hdC C=true then none else(Qe m C o).bind λo'=>(compA m C args).bind λes=>some (.meth k o' es)
   |none=>(Qmx x).bind λb=>(Qe m C o).bind λo'=>(compA m C args).bind λes=>some (.bm b o' es)else none):=rfl
def Qpm{elt gens scope w1}:Qe (m+1) C (.ListComp elt gens scope w1)=((match Qd7 gens with
   |some g=>if Ji C g.xs scope&&!hdC C then(compSrc m C g.iter).bind λsrc=>if QaG src (tgN g.b 0)then(compTO m (C.inner g.xs scope) g.tl).bind λt=>(Qe m (C.inner g.xs scope) elt).bind λel=>some (.comp src g.b t el)else none else none
   |none=>none)):=rfl
noncomputable def YA(C:Ctx):Expr->Option Tg
 |.Name x _=>if QaO C x then(idx x C.N).map .name else none
 |.Tuple [.Name x _,.Name y _] _ _=>if QaO C x&&QaO C y&&decide (x≠y)then(idx x C.N).bind λi=>(idx y C.N).map λj=>.pair i j else none
 |_=>none
noncomputable def Qn2:Expr->Option Bool
 |.Constant c _ _=>(match c with|.str _=>some true|_=>none)
 |.ListComp ..=>some false
 |_=>none
inductive As where
 |nm (x:Str)|at (o:Expr) (f:Str)|sub (o i:Expr)|two (x:Str) (p:Pos) (y:Str) (q:Pos)|many (es:List Expr)
noncomputable def Qc8:Expr->Expr->Option As
 |.Name x p,.Name y q=>some (.two x p y q)
 |_,_=>none
noncomputable def as1:Expr->Option As
 |.Name x _=>some (.nm x)
 |.Attribute o f _=>some (.at o f)
 |.Subscript o i _=>some (.sub o i)
 |.Tuple es _ _=>(match es with|[a,b]=>Qc8 a b|[a,b,c]=>some (.many [a,b,c])|[a,b,c,d]=>some (.many [a,b,c,d])|_=>none)
 |_=>none
noncomputable def Qgk:List Expr->Option As
 |[t]=>as1 t
 |_=>none
noncomputable def Yz(C:Ctx)(x:Str):Bool:=match C.names.lookup x with
 |some .local=>true|_=>false
noncomputable def QgR:Expr->Option (Expr×Expr)
 |.Tuple es _ _=>(match es with|[a,b]=>some (a,b)|_=>none)
 |_=>none
noncomputable def QgU:Expr->Bool
 |.Tuple ..=>false
 |_=>true
noncomputable def QnK:Expr->Bool
 |.ListComp ..=>false
 |_=>true
noncomputable def Qfk(C:Ctx)(e f:Option Expr):Option (Nat×List Expr):=match e,f with
 |some (.Call (.Name x _) args [] _),none=>if ZI C x&&decide (x≠"__debug__")then(match C.gl.lookup x with
  |some (.cls c)=>if C.T.ers.contains c then some (c,args)else none
  |_=>none)else none
 |_,_=>none
structure Tr where
 j:Option Nat
 f:Nat
 args:List Expr
 c:Nat
 body:List Stmt
noncomputable def QeZ(C:Ctx)(n:Option Str):Option (Option Nat):=match n with
 |none=>none
 |some n=>if Yz C n&&decide (n≠"__debug__")then(idx n C.N).map some else none
noncomputable def Qe1(C:Ctx)(x:Str):Option Nat:=if ZI C x&&decide (x≠"__debug__")then(match C.gl.lookup x with|some (.cls c)=>some c|_=>none)else none
noncomputable def Qaw(C:Ctx)(x:Str):Option Nat:=if ZI C x&&decide (x≠"__debug__")then(match C.gl.lookup x with|some (.fn i)=>some i|_=>none)else none
noncomputable def Qdb(C:Ctx)(b:List Stmt)(hs:List ExceptHandler)(o fn:List Stmt):Option Tr:=match b,hs,o,fn with
 |[.Expr (.Call (.Name f _) (a::args) [] _) _],[.ExceptHandler (some (.Name x _)) n (b0::body) _],[],[]=>
   (QeZ C n).bind λj=>(Qe1 C x).bind λc=>(Qaw C f).bind λk=>some ⟨j,k,a::args,c,b0::body⟩
 |_,_,_,_=>none
noncomputable def hdX(C:Ctx):Ctx:={C with bl:=("isinstance":Str)::C.bl.filter λx=>decide (x="ValueError")}
noncomputable def Qgh(C:Ctx):Stmt->Option (Nat×Expr)
 |.Assign ts e _=>(match Qgk ts with
  |some (.nm y)=>if Yz C y then(idx y C.N).map λi=>(i,e)else none
  |_=>none)
 |_=>none
noncomputable def Qo7(C:Ctx)(e:Expr):Option (Nat×List Expr):=match e with
 |.Call g as ks _=>(match g with
  |.Name f _=>(match as with
   |[]=>none
   |a::r=>(match ks with
    |[]=>(Qaw C f).bind λk=>if C.T.hfs.contains k&&(C.T.fns[k]?).isSome then some (k,a::r)else none
    |_::_=>none))
  |_=>none)
 |_=>none
noncomputable def hcE(m:Nat)(C:Ctx)(e:Expr):Option E:=match Qo7 C e with
 |some t=>(compA m (hdX C) t.2).map (.call t.1)
 |none=>Qe m (hdX C) e
noncomputable def Qer(m:Nat)(C:Ctx):List Stmt->Option (List S)
 |[]=>some []
 |s::r=>(Qgh C s).bind λp=>(hcE m C p.2).bind λe'=>(Qer m C r).bind λr'=>some (.set p.1 e'::r')
noncomputable def orX:Option EX->Option EX->Option EX
 |some x,some y=>some (.alt x y)
 |some x,none=>some x
 |none,y=>y
noncomputable def QnN:Expr->Bool
 |.Starred ..=>false
 |_=>true
noncomputable def Qiz(es:List Expr):Bool:=es.all QnN
noncomputable def QnB(m:Nat)(C:Ctx)(k:Nat)(as:List Expr):Option EX:=if C.T.pss.contains k then(compA m C as).map (.call k)else none
noncomputable def xFn(C:Ctx)(g:Expr)(ks:List Keyword):Option Nat:=match g with
 |.Name f _=>(match ks with
  |[]=>if hdC C=true then none else(Qaw C f).bind λk=>if(C.T.fns[k]?).isSome then some k else none
  |_::_=>none)
 |_=>none
mutual
noncomputable def xE:Nat->Ctx->Expr->Option EX
 |0,_,_=>none
 |m+1,C,e=>match e with
  |.Call g as ks _=>(match as with
   |[]=>none
   |a::r=>if Qiz (a::r)=false then none else(xFn C g ks).bind λk=>orX (QnB m C k (a::r)) (xA m C (a::r)))
  |.Tuple es _ _=>xA m C es
  |.ListComp elt gens scope _=>(match Qd7 gens with
   |some g=>if Ji C g.xs scope&&!hdC C&&g.tl.isNone then(compSrc m C g.iter).bind λsrc=>if QaG src (tgN g.b 0)then(Qe m (C.inner g.xs scope) elt).bind λel=>(xE m (C.inner g.xs scope) elt).map (.comp src g.b el)else none else none
   |none=>none)
  |_=>none
noncomputable def xA:Nat->Ctx->List Expr->Option EX
 |0,_,_=>none
 |m+1,C,es=>match es with
  |[]=>none
  |e::r=>orX (xE m C e) ((Qe m C e).bind λe'=>(xA m C r).map (.arg e'))
end
noncomputable def xS(m:Nat)(C:Ctx)(s:Stmt):Option EX:=match s with
 |.Assign ts e _=>(match Qgk ts with
  |some (.nm x)=>if QaO C x&&(idx x C.N).isSome then xE m C e else none
  |_=>none)
 |.Return v _=>v.bind (xE m C)
 |.Expr e _=>if QnK e then xE m C e else none
 |_=>none
noncomputable def QmH(m:Nat)(C:Ctx)(s:Stmt)(s0:S):S:=match xS m C s with
 |some x=>.xal s0 x
 |none=>s0
noncomputable def Qpe(m:Nat)(C:Ctx)(s:Stmt)(s0:S):Option S:=some (QmH m C s s0)
mutual
noncomputable def Jk:Nat->Ctx->List Stmt->Option (List S)
 |0,_,_=>none
 |m+1,C,ss=>match ss with
  |[]=>some []
  |s::r=>(hdSt m C s).bind λs'=>(Jk m C r).map (s'::·)
noncomputable def hdSt:Nat->Ctx->Stmt->Option S
 |0,_,_=>none
 |m+1,C,s=>match s with
  |.Return v _=>v.bind λe=>(Qe m C e).map .ret
  |.If t a b _=>(compT m C t).bind λt'=>(Jk m C a).bind λa'=>(Jk m C b).map (.ite t' a')
  |s=>(Qgh C s).bind λp=>(Qe m C p.2).map (.set p.1)
end
noncomputable def Qeq(m:Nat)(C:Ctx)(ss:List Stmt):Option (List S):=if C.bl.contains ("isinstance":Str)then Jk m (hdX C) ss else none
noncomputable def Ql1:Option S->S
 |some s=>s
 |none=>.bad
mutual
noncomputable def QR:Nat->Ctx->Stmt->Option S
 |0,_,_=>none
 |m+1,C,s=>match s with
  |.Pass _=>some .pass
  |.Break _=>some .brk
  |.Continue _=>some .cont
  |.Expr e _=>(match Qn2 e with
   |some true=>some .pass
   |some false=>none
   |none=>(Qe m C e).map .expr)
  |.Return v _=>(match v with
   |none=>some .retN
   |some e=>(Qe m C e).map .ret)
  |.Assign ts e _=>(match Qgk ts with
   |some (.nm x)=>if QaO C x then(idx x C.N).bind λi=>(Qe m C e).bind λe'=>some (.set i e')else none
   |some (.at o f)=>if Zx o then(Qe m C e).bind λe'=>(Qe m C o).bind λo'=>(idx f C.T.fns').bind λk=>some (.fld o' k e')else none
   |some (.sub o i)=>if ZR i then(Qe m C e).bind λe'=>(Qe m C o).bind λo'=>(Qe m C i).bind λi'=>some (.put o' i' e')else none
   |some (.two x p y q)=>if Yz C x&&Yz C y&&decide (x≠y)then(idx x C.N).bind λi=>(idx y C.N).bind λj=>(match QgR e with
     |some _=>none
     |none=>if QgU e then(Qe m C e).map (.unp i j)else none)else none
   |some (.many _)=>none
   |none=>none)
  |.Raise e f _=>(match Qfk C e f with
   |some (c,args)=>(compA m C args).bind λes=>some (.rse c es)
   |none=>some .bad)
  |.Try b hs o fn _=>(match Qdb C b hs o fn with
   |some t=>if C.bl.contains ("isinstance":Str)then(compA m C t.args).bind λes=>(Qer m C t.body).bind λbd=>some (.tryS t.j t.f es t.c bd)else none
   |none=>none)
  |.If t a b _=>(compT m C t).bind λt'=>(compSs m C a).bind λa'=>(compSs m C b).bind λb'=>some (.ite t' a' b')
  |.For tg it a [] _=>(YA C tg).bind λtg'=>(compSrc m C it).bind λit'=>if QaG it' tg' then(compSs m C a).bind λa'=>some (.loop tg' it' a')else none
  |_=>none
noncomputable def compSs:Nat->Ctx->List Stmt->Option (List S)
 |0,_,_=>none
 |m+1,C,ss=>match ss with
  |[]=>some []
  |s::r=>(Qpe m C s (Ql1 (QR m C s))).bind λs'=>(compSs m C r).bind λr'=>some (s'::r')
end
end
end Iv
namespace L2
open PySem PySem.Spec PyProof.Rows
section
variable {X:Cx}
structure Mk0(K:W.Frag)(C:Addr):Prop where
 makes:W.makesIn K C=true
 init:W.findIn K (.ref C) "__init__"=some (some (.builtin "object.__init__"))
 kp:W.keepIn K (.ref C)=true
def QhB(C:Addr):TE:=λz H Q=>∀x dx,H x=none->H dx=none->dx≠x->Q (.ref x) (upd (upd H dx (.own x)) x (.ins C dx []))
def Qcv(M:Mk0 X.K C)(I:Inv X pins Y H s)
  (h:∀x dx,H x=none->H dx=none->dx≠x->Q (.ref x) (upd (upd H dx (.own x)) x (.ins C dx []))):
  wpAny (model X.prog X.w) X.A (call (.ref C) []) (EP X pins Y Q) X.xe s:=by
 have hq:=h (s.heap.objs.size+1) s.heap.objs.size (I.hok.fresh (Uk _)) (I.hok.fresh (Xi _)) (X1 (W4 _));have I2:=Inv.made (C:=C) I;have Yyy:=W.makes_of (M:=model X.prog X.w) I.kIn M.makes
 have hob:((s.heap.push W.emptyDict).push (W.instObj C s.heap.objs.size)).get? (s.heap.objs.size+1)=some (W.instObj C s.heap.objs.size):=by
  have e:(s.heap.push W.emptyDict).objs.size=s.heap.objs.size+1:=W7 ..;rw[<-e];exact Xu _ rfl
 have t1:W.Looks (model X.prog X.w) ((s.heap.push W.emptyDict).push (W.instObj C s.heap.objs.size)) (typeOf (.ref (s.heap.objs.size+1))) (.ref C):=(W.Looks.ld hob).andThen .now
 have t2:W.Looks (model X.prog X.w) ((s.heap.push W.emptyDict).push (W.instObj C s.heap.objs.size)) (isInstance (.ref (s.heap.objs.size+1)) (.type "object")) true :=
  t1.andThen (Yyy.top.keeps λb o e=>Xd _ (Xd _ e))
 refine Vx (QdW I.kIn M.makes M.init (λself=>W.Looks.of_pure (W.oi_bind self)) ?_);obtain⟨hh,g,d,t,os⟩:=s;refine Vq W.oi_plain W.entry_oi (@W.check_slot (model X.prog X.w) _ _ _ "object.__init__" "object" "__init__" (.ref (hh.objs.size+1)) [] [] _ W.oi_kind W.oi_split t2 (W.oi_args (.ref (hh.objs.size+1))) ?_);rw[W.oi_run];exact Xf (And.intro rfl ⟨V.ref (hh.objs.size+1),_,I2,rfl,hq⟩)
def QdE(M:Mk0 X.K C)(hg:Gl X x)(hm:X.mg x=some (.ref C))(hdb:(x==("__debug__":Str))=false:=by decide):PE X (.Call (.Name x p) [] [] pos) (QhB C):=by
 intro pins s Y H Q I h;refine X8 (Zd I hg hm ?_ hdb);exact W.callWith_K0 I.kIn M.kp (Qcv M I h)
noncomputable def Qoa:V->Option Value
 |.ty n=>some (.type n)
 |.ref a=>some (.ref a)
 |_=>none
def TyE(K:W.Frag)(H:Hp)(x:V)(t:Value): Prop:=TyOf K H x t\/(∃a C dd,x=.ref a/\t=.ref C/\H a=some (QcV a C dd)/\ErrCls K C)\/∃a vs,x=.ref a/\t=.type "tuple"/\SqT K H a vs
def Qgb:CallR X (.builtin "isinstance") (λxs H Q=>∃x c cv t b,xs=[x,c]/\Qoa c=some cv/\TyE X.K H x t/\W.kitOne X.K t cv=some b/\Q (.bl b) H):= by
 intro pins s Y H xs us Q I r h;obtain⟨x,c,cv,t,b,rfl,hc,ty,e,q⟩:=h
 have ty:(TyOf X.K H x t\/∃a vs,x=.ref a/\t=.type "tuple"/\SqT X.K H a vs)\/∃a C dd,x=.ref a/\t=.ref C/\H a=some (QcV a C dd)/\ErrCls X.K C:=by rcases ty with h|h|h<;>simp only[h,or_true,true_or]
 rcases ty with ty|⟨a,C,dd,rfl,rfl,ha,Yyy⟩
 case inr=>exact Qew pins s Y H _ us Q I r ⟨a,c,cv,C,dd,b,rfl,by unfold Qoa at hc;exact hc,ha,Yyy,e,q⟩
 obtain⟨u,w',rfl,rx,rc⟩:=Qc6 r
 have ec:w'=cv:=by
  cases c with
  |ty n=>cases(show w'=Value.type n from rc);exact Xw hc
  |ref a=>cases(show w'=Value.ref a from rc);exact Xw hc
  |_=>cases hc
 subst ec
 rcases ty with ty|sq
 ·exact Qd3 I rx ty e λtk=>⟨.bl b,H,I.tok tk,rfl,q⟩
 obtain⟨a,vs,rfl,rfl,sq⟩:=sq;cases(show u=Value.ref a from rx);obtain⟨its,_,pl,_⟩:=I.tuple sq;obtain⟨o,ho,hc,_⟩:=id pl;exact V4 W.kitx_tuple I.kIn ⟨o,ho,hc⟩ e (λz=>nomatch z) λtk=>⟨.bl b,H,I.tok tk,rfl,q⟩
end
end L2
namespace Iv
open PySem PySem.Spec PyProof.Rows L2
section
variable {a p:Addr}{e:Expr}{ho:HO}{H:Hp}{n:Nat}{o:O}{T:Tbl}
abbrev St:=L2.St
structure Adr where
 f:Nat->Addr
 c:Nat->Addr
 k:Nat->Addr
 s:Addr
def Cg(i r:Int)(m:Nat):Prop:=∃q:Int,i=r+m*q
def Cg.exact{i r:Int}(h:Cg i r 0):i=r:=by obtain⟨q,e⟩:=h;simpa using e
def Cg.refl(i:Int)(m:Nat):Cg i i m:=⟨0,by simp⟩
def RU(A:Adr)(α:List Addr):U->V->Prop
 |.non,v=>v=.non
 |.bl b,v=>v=.bl b
 |.int r m,v=>∃i,v=.int i/\Cg i r m
 |.str x,v=>v=.str ⟨x.toArray⟩
 |.ref n,v=>∃a,α[n]?=some a/\v=.ref a
 |.con k,v=>v=.ref (A.k k)
 |.scr,v=>v=.ref A.s
abbrev RUs(A:Adr)(α:List Addr):List U->List V->Prop:=Paired (RU A α)
def RF(T:Tbl)(A:Adr)(α:List Addr):List (Nat×U)->List (Str×V)->Prop:=Paired λp q=>T.fns'[p.1]?=some q.1/\RU A α p.2 q.2
def RK:U->Key->Prop
 |.int i m,k=>m=0/\k=Sum.inl i
 |.str x,k=>k=Sum.inr ⟨x.toArray⟩
 |_,_=>False
def RD(A:Adr)(α:List Addr):List (U×U)->List (Key×V)->Prop:=Paired λp q=>RK p.1 q.1/\RU A α p.2 q.2
abbrev RKs:List U->List Key->Prop:=Paired RK
def RT(A:Adr)(α:List Addr):List (List U×U)->List (List Key×V)->Prop:=Paired λp q=>RKs p.1 q.1/\RU A α p.2 q.2
def EF(T:Tbl)(H:Hp)(c:Er)(dd:Option Addr):Prop:=∀f,T.efl.contains (c.1,f)=true->∃d od x v,dd=some d/\T.fns'[f]?=some x/\H d=some (.frz od (.xd [(x,v)]))/\∀A,RU A [] c.2 v
def EF.fz{H':Hp}{c:Er}{dd:Option Addr}(h:EF T H c dd)(k:∀b o fs,H b=some (.frz o (.xd fs))->H' b=some (.frz o (.xd fs))):EF T H' c dd:=λf q=>by
 obtain⟨d,od,x,v,e1,e2,e3,e4⟩:=h f q;exact⟨d,od,x,v,e1,e2,k _ _ _ e3,e4⟩
def RO(T:Tbl)(A:Adr)(α:List Addr)(H:Hp)(a:Addr):O->Prop
 |.lst xs=>∃vs,H a=some (.lst vs)/\RUs A α xs vs
 |.tup xs=>∃vs,H a=some (.tup vs)/\RUs A α xs vs
 |.ins c fs=>∃dx fv,H a=some (.ins (A.c c) dx fv)/\RF T A α fs fv/\c<T.cls.length
 |.dic kvs=>∃kv,H a=some (.dK kv)/\RD A α kvs kv
 |.dct kvs=>∃kv,H a=some (.dT kv)/\RT A α kvs kv
 |.fzd kvs=>∃kv ob,H a=some (.frz ob (.dK kv))/\RD A α kvs kv
 |.fzt kvs=>∃kv ob,H a=some (.frz ob (.dT kv))/\RT A α kvs kv
 |.err c w=>∃dd,H a=some (QcV a (A.c c) dd)/\T.ers.contains c=true/\EF T H (c,w) dd
structure RH(T:Tbl)(A:Adr)(α:List Addr)(hs:Hs)(H:Hp):Prop where
 len:α.length=hs.length
 nd:∀(i j:Nat) a,α[i]?=some a->α[j]?=some a->i=j\/∃vs,H a=some (.tup vs)
 ob:∀(n:Nat) a o,α[n]?=some a->hs[n]?=some o->RO T A α H a o
def Qou(K:W.Frag)(H:Hp)(a:Addr)(xs:List V):Prop:=(∃o,H a=some (.frz o (.lst xs))) \/
 ∃(o:Obj) (its:Array Value) (n:Nat),K.lookup a=some o/\o.cls=.type "list"/\o.dict=none/\o.data=.seq its n/\its.size<=sizeLine/\Vals xs its.toList
def Scr(T:Tbl)(A:Adr)(K:W.Frag)(H:Hp):Prop:=∃vs,RUs A [] T.scr vs/\Qou K H A.s vs
structure Rep(T:Tbl)(A:Adr)(K:W.Frag)(α:List Addr)(hs:Hs)(H:Hp):Prop where
 h:RH T A α hs H
 s:Scr T A K H
structure Ext(α α':List Addr)(H H':Hp):Prop where
 pre:∀(n:Nat) a,α[n]?=some a->α'[n]?=some a
 new:∀(n:Nat) a,α'[n]?=some a->α.length<=n->H a=none\/∃vs,H a=some (.tup vs)
 keep:∀b o,H b=some o->b∉α->H' b=some o
 fz:∀b o u,H b=some (.frz o u)->H' b=some (.frz o u)
 tr:∀b o,H b=some o->∃o',H' b=some o'/\∀vs,o=.tup vs↔o'=.tup vs
structure RS(A:Adr)(α:List Addr)(ρ:Rho)(Y:St):Prop where
 len:ρ.length=Y.length
 val:∀(i:Nat) u,ρ[i]?=some (some u)->∃v,Y[i]?=some (some v)/\RU A α u v
section
variable {A:Adr}{K:W.Frag}{α α' α1 α2:List Addr}{hs h2:Hs}{H' H1 H2:Hp}{u:U}{v:V}{us:List U}{vs:List V}{ρ:Rho}{Y:St}
def RU.mono(p:∀(n:Nat) a,α[n]?=some a->α'[n]?=some a)(h:RU A α u v):RU A α' u v:=by
 cases u with
 |ref n=>obtain⟨a,e,r⟩:=h;exact⟨a,p _ _ e,r⟩
 |_=>exact h
theorem RUs.mono(p:∀(n:Nat) a,α[n]?=some a->α'[n]?=some a)(h:RUs A α us vs):RUs A α' us vs:=Paired.mapP h λz z r=>RU.mono p r
theorem RF.mono(p:∀(n:Nat) a,α[n]?=some a->α'[n]?=some a)(h:RF T A α fs fv):RF T A α' fs fv:=Paired.mapP h λz z r=>⟨r.1,r.2.mono p⟩
theorem RD.mono(p:∀(n:Nat) a,α[n]?=some a->α'[n]?=some a)(h:RD A α fs fv):RD A α' fs fv:=Paired.mapP h λz z r=>⟨r.1,r.2.mono p⟩
theorem RT.mono(p:∀(n:Nat) a,α[n]?=some a->α'[n]?=some a)(h:RT A α fs fv):RT A α' fs fv:=Paired.mapP h λz z r=>⟨r.1,r.2.mono p⟩
theorem RS.mono(p:∀(n:Nat) a,α[n]?=some a->α'[n]?=some a)(h:RS A α ρ Y):RS A α' ρ Y:=⟨h.len,λi u e=>by obtain⟨v,e1,r⟩:=h.val i u e;exact⟨v,e1,r.mono p⟩⟩
def Ext.refl:Ext α α H H:=⟨λz z e=>e,λn a e l=>by
 have:=(Xh.mp e).1
 omega,λz z e z=>e,λz z z e=>e,λz o e=>⟨o,e,λz=>Iff.rfl⟩⟩
def getElem?_lt(e:α[n]?=some a):n < α.length:=(Xh.mp e).1
theorem Ext.trans(a:Ext α α1 H H1)(b:Ext α1 α2 H1 H2)(R:RH T A α2 h2 H2):Ext α α2 H H2 where
 fz:=λc o kv e=>b.fz c o kv (a.fz c o kv e)
 pre:=λn x e=>b.pre n x (a.pre n x e)
 tr:=λc o e=>by
  obtain⟨o1,e1,q1⟩:=a.tr c o e;obtain⟨o2,e2,q2⟩:=b.tr c o1 e1;exact⟨o2,e2,λvs=>(q1 vs).trans (q2 vs)⟩
 new:=λn x e l=>by
  by_cases hn:n < α1.length
  ·have e1:α1[n]?=some α1[n]:=Xp hn;have e2:=b.pre n _ e1;rw[e]at e2;cases e2;exact a.new n _ e1 l
  ·cases q:H x with
   |none=>exact .inl rfl
   |some o=>
    obtain⟨o1,e1,q1⟩:=a.tr x o q
    rcases b.new n x e (by omega)with z|⟨vs,z⟩
    ·rw[e1]at z;cases z
    ·rw[e1]at z;cases z;exact .inr ⟨vs,congrArg some ((q1 vs).mpr rfl)⟩
 keep:=λc o e hc=>by
  by_cases hm:c∈α1
  ·obtain⟨n,hn⟩:=V3 hm;by_cases l:n < α.length
   ·have e1:α[n]?=some α[n]:=Xp l;have:=a.pre n _ e1;rw[hn]at this;cases this;exact absurd (U0 l) hc
   ·rcases a.new n c hn (by omega)with z|⟨vs,z⟩
    ·rw[z]at e;cases e
    ·rw[e]at z;cases z;obtain⟨o1,e1,q1⟩:=a.tr c _ e;obtain⟨o2,e2,q2⟩:=b.tr c o1 e1;rw[e2,((q1 vs).trans (q2 vs)).mp rfl]
  ·exact b.keep c o (a.keep c o e hc) hm
def RO.trk(h:RO T A α H a o):∃x,H a=some x/\(∀ob u,x≠.frz ob (.lst u))/\∀ob u,x≠.frz ob (.xd u):=by
 cases o with
 |lst xs=>obtain⟨vs,e,_⟩:=h;exact⟨_,e,(λy y z=>nomatch z),λy y z=>nomatch z⟩
 |tup xs=>obtain⟨vs,e,_⟩:=h;exact⟨_,e,(λy y z=>nomatch z),λy y z=>nomatch z⟩
 |ins c fs=>obtain⟨dx,fv,e,_⟩:=h;exact⟨_,e,(λy y z=>nomatch z),λy y z=>nomatch z⟩
 |dic _=>obtain⟨kv,e,_⟩:=h;exact⟨_,e,(λy y z=>nomatch z),λy y z=>nomatch z⟩
 |dct _=>obtain⟨kv,e,_⟩:=h;exact⟨_,e,(λy y z=>nomatch z),λy y z=>nomatch z⟩
 |fzd _=>obtain⟨kv,ob,e,_⟩:=h;exact⟨_,e,(λy y z=>nomatch z),λy y z=>nomatch z⟩
 |fzt _=>obtain⟨kv,ob,e,_⟩:=h;exact⟨_,e,(λy y z=>nomatch z),λy y z=>nomatch z⟩
 |err _ _=>obtain⟨dd,e,_⟩:=h;exact⟨_,e,(λy y z=>nomatch z),λy y z=>nomatch z⟩
def RH.trk(R:RH T A α hs H)(e:α[n]?=some a):∃o,hs[n]?=some o/\RO T A α H a o:=by
 have l:=getElem?_lt e;rw[R.len]at l;exact⟨hs[n],Xp l,R.ob n a _ e (Xp l)⟩
def RH.notIn(R:RH T A α hs H)(h:H p=none):p∉α:=λm=>by
 obtain⟨n,e⟩:=V3 m;obtain⟨o,_,r⟩:=R.trk e;obtain⟨x,e,_⟩:=r.trk;rw[h]at e;cases e
def RH.nd_keep(R:RH T A α hs H)(k:∀b x,b∈α->H b=some x->H' b=some x):∀(i j:Nat) a,α[i]?=some a->α[j]?=some a->i=j\/∃vs,H' a=some (.tup vs):=λi j a e1 e2=>
 (R.nd i j a e1 e2).imp id λz=>by obtain⟨vs,q⟩:=z;exact⟨vs,k a _ (X2 e1) q⟩
def QdR(h:∀(i j:Nat) a,α[i]?=some a->α[j]?=some a->i=j\/∃vs,H a=some (.tup vs))(n:p∉α):∀(i j:Nat) a,(α++[p])[i]?=some a->(α++[p])[j]?=some a->i=j\/∃vs,H a=some (.tup vs):=λi j a e1 e2=>by
 have cs:∀{k:Nat},(α++[p])[k]?=some a->α[k]?=some a\/(k=α.length/\a=p):=λ{k} e=>by
  by_cases l:k < α.length
  ·rw[X4 l]at e;exact .inl e
  ·rw[Wi (by omega)]at e
   have:=(Xh.mp e).1;simp at this
   have hk:k=α.length:=by omega
   subst hk;simp at e;exact .inr ⟨rfl,e.symm⟩
 rcases cs e1 with q1|⟨q1,w1⟩
 ·rcases cs e2 with q2|⟨q2,w2⟩
  ·exact h i j a q1 q2
  ·exact absurd (w2▸X2 q1) n
 ·rcases cs e2 with q2|⟨q2,w2⟩
  ·exact absurd (w1▸X2 q2) n
  ·exact .inl (q1.trans q2.symm)
def RO.keep(h:RO T A α H a o)(p:∀(n:Nat) a,α[n]?=some a->α'[n]?=some a)(k:∀b x,H b=some x->(b=a\/∃o fs,x=.frz o (.xd fs))->H' b=some x):RO T A α' H' a o:=by
 have kx:=k;have k:=λx e=>kx a x e (.inl rfl)
 cases o with
 |lst xs=>obtain⟨vs,e,r⟩:=h;exact⟨vs,k _ e,RUs.mono p r⟩
 |tup xs=>obtain⟨vs,e,r⟩:=h;exact⟨vs,k _ e,RUs.mono p r⟩
 |ins c fs=>obtain⟨dx,fv,e,r,l⟩:=h;exact⟨dx,fv,k _ e,RF.mono p r,l⟩
 |dic _=>obtain⟨kv,e,r⟩:=h;exact⟨kv,k _ e,RD.mono p r⟩
 |dct _=>obtain⟨kv,e,r⟩:=h;exact⟨kv,k _ e,RT.mono p r⟩
 |fzd _=>obtain⟨kv,ob,e,r⟩:=h;exact⟨kv,ob,k _ e,RD.mono p r⟩
 |fzt _=>obtain⟨kv,ob,e,r⟩:=h;exact⟨kv,ob,k _ e,RT.mono p r⟩
 |err _ _=>obtain⟨dd,e,l,q⟩:=h;exact⟨dd,k _ e,l,q.fz λb o fs e=>kx b _ e (.inr ⟨o,fs,rfl⟩)⟩
def Scr.keep(h:Scr T A K H)(k:∀x,H A.s=some x->(∃o u,x=.frz o (.lst u))->H' A.s=some x):Scr T A K H':=by
 obtain⟨vs,r,q|q⟩:=h
 ·obtain⟨o,e⟩:=q;exact⟨vs,r,.inl ⟨o,k _ e ⟨_,_,rfl⟩⟩⟩
 ·exact⟨vs,r,.inr q⟩
def Scr.sq(h:Scr T A K H):∃vs,RUs A α T.scr vs/\SqL K H A.s vs:=by
 obtain⟨vs,r,q⟩:=h
 refine⟨vs,RUs.mono (λn a e=>by simp at e) r,?_⟩
 rcases q with⟨o,e⟩|q
 ·exact .inl (.inr ⟨o,e⟩)
 ·exact .inr q
def Q8:(α++[p])[α.length]?=some p:=by simp
def QP:∀(n:Nat) a,α[n]?=some a->(α++[p])[n]?=some a:=λn a e=>by
 rw[X4 (getElem?_lt e)];exact e
def QQ{β:Type}{l:List β}{p a:β}(e:(l++[p])[n]?=some a):l[n]?=some a\/(n=l.length/\a=p):=by
 by_cases h:n<l.length
 ·rw[X4 h]at e;exact .inl e
 ·rw[Wi (by omega)]at e
  have:n-l.length=0:=by
   cases q:n-l.length with
   |zero=>rfl
   |succ k=>rw[q]at e;simp at e
  rw[this]at e;simp at e
  exact .inr ⟨by omega,e.symm⟩
def Rep.new(R:Rep T A K α hs H)(hp:H p=none)(r:RO T A (α++[p]) (upd H p ho) p o):Rep T A K (α++[p]) (hs++[o]) (upd H p ho)/\Ext α (α++[p]) H (upd H p ho):=by
 have ne:∀b x,H b=some x->b≠p:=λb x e z=>by rw[z,hp]at e;cases e
 refine⟨⟨⟨by simp[R.h.len],QdR (R.h.nd_keep λb x y e=>by rw[Qd (ne _ _ e)];exact e) (R.h.notIn hp),λn a ob e1 e2=>?_⟩,R.s.keep λx e y=>by rw[Qd (ne _ _ e)];exact e⟩,⟨QP,λn a e l=>?_,λb x e y=>by rw[Qd (ne _ _ e)];exact e,λb x kv e=>by rw[Qd (ne _ _ e)];exact e,λb x e=>⟨x,by rw[Qd (ne _ _ e)];exact e,λy=>Iff.rfl⟩⟩⟩
 ·rcases QQ e1 with q|⟨q1,q2⟩
  ·rcases QQ e2 with z|⟨z,_⟩
   ·exact RO.keep (R.h.ob n a ob q z) QP λy x e y=>by rw[Qd (ne _ _ e)];exact e
   ·have:=getElem?_lt q;rw[R.h.len]at this;omega
  ·subst q2
   rcases QQ e2 with z|⟨_,z⟩
   ·have:=(Xh.mp z).1;rw[<-R.h.len]at this;omega
   ·subst z;exact r
 ·rcases QQ e with q|⟨_,q⟩
  ·have:=getElem?_lt q;omega
  ·rw[q];exact .inl hp
def Rep.side(R:Rep T A K α hs H)(hp:H p=none):Rep T A K α hs (upd H p ho)/\Ext α α H (upd H p ho):=by
 have k:∀b x,H b=some x->upd H p ho b=some x:=λb x e=>by rw[Qd (λz=>by rw[z,hp]at e;cases e)];exact e
 exact⟨⟨⟨R.h.len,R.h.nd_keep λb x y e=>k b x e,λn a o e1 e2=>RO.keep (R.h.ob n a o e1 e2) (λy y e=>e) λb x e y=>k b x e⟩,R.s.keep λx e y=>k _ x e⟩,⟨λy y e=>e,λn a e l=>absurd (getElem?_lt e) (Nat.not_lt.mpr l),λb x e y=>k b x e,λb x u e=>k b _ e,λb x e=>⟨x,k b x e,λy=>Iff.rfl⟩⟩⟩
def Rep.put0(R:Rep T A K α hs H)(ha:α[n]?=some a)(r:RO T A α (upd H a ho) a o)(ht:∀vs,H a≠some (.tup vs):=by intro _ z;simp only[*,Vs,reduceCtorEq]at z):Rep T A K α (hs.set n o) (upd H a ho):=by
 have ta:=R.h.trk ha;obtain⟨o0,_,r0⟩:=ta;obtain⟨x0,e0,nf,nx⟩:=r0.trk
 have nd:∀(i j:Nat) c,α[i]?=some c->α[j]?=some c->i=j\/∃vs,upd H a ho c=some (.tup vs):=λi j c e1 e2=>by
  rcases R.h.nd i j c e1 e2 with q|⟨vs,q⟩
  ·exact .inl q
  ·exact .inr ⟨vs,by rw[Qd (λ(z:c=a)=>ht vs (z▸q))];exact q⟩
 refine⟨⟨by simp[R.h.len],nd,λm b ob e1 e2=>?_⟩,R.s.keep λx e z=>?_⟩
 ·by_cases hm:m=n
  ·subst hm;rw[ha]at e1;cases e1
   have l:m<hs.length:=by rw[<-R.h.len];exact getElem?_lt ha
   rw[X9 l]at e2;cases e2;exact r
  ·rw[X3 (Wr hm)]at e2
   have hb:b≠a:=λz=>by
    rcases R.h.nd m n a (z▸e1) ha with q|⟨vs,q⟩
    ·exact hm q
    ·exact ht vs q
   refine RO.keep (R.h.ob m b ob e1 e2) (λy y e=>e) λc x e w=>?_
   rcases w with rfl|⟨oz,fs,rfl⟩
   ·rw[Qd hb];exact e
   ·rw[Qd (λz=>by rw[z,e0]at e;cases e;exact nx _ _ rfl)];exact e
 ·obtain⟨ob,u,z⟩:=z
  have hb:A.s≠a:=λq=>by rw[q,e0]at e;cases e;exact nf _ _ z
  rw[Qd hb];exact e
def Rep.put(R:Rep T A K α hs H)(ha:α[n]?=some a)(r:RO T A α (upd H a ho) a o)(hz:∀ob u,H a≠some (.frz ob u):=by intro _ _ z;simp only[*,Vs,reduceCtorEq]at z)(ht:∀vs,H a≠some (.tup vs):=by intro _ z;simp only[*,Vs,reduceCtorEq]at z)(hh:∀vs,ho≠.tup vs:=by intro _ z;cases z):Rep T A K α (hs.set n o) (upd H a ho)/\Ext α α H (upd H a ho):=by
 refine⟨R.put0 ha r ht,⟨λy y e=>e,λm b e l=>by have:=getElem?_lt e;omega,λb x e hb=>?_,λb ob kv e=>?_,λb x e=>?_⟩⟩
 ·have hb':b≠a:=λz=>hb (z▸X2 ha);rw[Qd hb'];exact e
 ·have hb':b≠a:=λz=>hz ob kv (z▸e);rw[Qd hb'];exact e
 ·by_cases hb':b=a
  ·subst hb';exact⟨ho,Qh,λvs=>⟨λz=>absurd (z▸e) (ht vs),λz=>absurd z (hh vs)⟩⟩
  ·exact⟨x,by rw[Qd hb'];exact e,λy=>Iff.rfl⟩
def RS.get(R:RS A α ρ Y){i:Nat}{u:U}(e:ρ[i]?=some (some u)):∃v,Y[i]?=some (some v)/\RU A α u v:=R.val i u e
theorem RS.set(R:RS A α ρ Y)(i:Nat)(r:RU A α u v):RS A α (ρ.set i (some u)) (Y.set i (some v)):=by
 refine⟨by simp[R.len],λj w e=>?_⟩
 by_cases h:j=i
 ·subst h
  have l:j < ρ.length:=by
   have:=(Xh.mp e).1;simpa using this
  rw[X9 l]at e;cases e
  exact⟨v,X9 (by rw[<-R.len];exact l),r⟩
 ·rw[X3 (Wr h)]at e;rw[X3 (Wr h)];exact R.val j w e
end
def flE(A:Adr)(α:List Addr)(D:Ends)(Y:St)(H:Hp):Fl->Prop
 |.next=>D.nx Y H
 |.brk=>D.bk Y H
 |.cont=>D.ct Y H
 |.ret u=>∀v,RU A α u v->D.rt v H
section
variable (T:Tbl)(A:Adr)(K:W.Frag)
def TI(f:Rho->Hs->Option (U×Hs)):TE:=λY H Q=>∃α ρ hs u hs',RS A α ρ Y/\Rep T A K α hs H/\f ρ hs=some (u,hs') /\
 ∀α' v H',Ext α α' H H'->Rep T A K α' hs' H'->RU A α' u v->Q v H'
def TIT(f:Rho->Hs->Option (Bool×Hs)):TT:=λY H Q=>∃α ρ hs u hs',RS A α ρ Y/\Rep T A K α hs H/\f ρ hs=some (u,hs') /\
 ∀α' H',Ext α α' H H'->Rep T A K α' hs' H'->Q u H'
def TIA(f:Rho->Hs->Option (List U×Hs)):TA:=λY H Q=>∃α ρ hs us hs',RS A α ρ Y/\Rep T A K α hs H/\f ρ hs=some (us,hs') /\
 ∀α' vs H',Ext α α' H H'->Rep T A K α' hs' H'->RUs A α' us vs->Q vs H'
def TIS(f:Ex):TS:=λD Y H=>∃α ρ hs fl ρ' hs',RS A α ρ Y/\Rep T A K α hs H/\f ρ hs=some (fl,ρ',hs') /\
 ∀α' Y' H',Ext α α' H H'->Rep T A K α' hs' H'->RS A α' ρ' Y'->flE A α' D Y' H' fl
end
section
variable {A:Adr}{K:W.Frag}{α:List Addr}{ρ:Rho}{Y:St}{hs h1:Hs}
def TI.run(rs:RS A α ρ Y)(rp:Rep T A K α hs H)(h:f ρ hs=some (u,h1))
  (k:∀α1 v H1,Ext α α1 H H1->Rep T A K α1 h1 H1->RU A α1 u v->RS A α1 ρ Y->Q v H1):TI T A K f Y H Q :=
 ⟨α,ρ,hs,u,h1,rs,rp,h,λα1 v H1 e r q=>k α1 v H1 e r q (rs.mono e.pre)⟩
def TIT.run(rs:RS A α ρ Y)(rp:Rep T A K α hs H)(h:f ρ hs=some (u,h1))
  (k:∀α1 H1,Ext α α1 H H1->Rep T A K α1 h1 H1->RS A α1 ρ Y->Q u H1):TIT T A K f Y H Q :=
 ⟨α,ρ,hs,u,h1,rs,rp,h,λα1 H1 e r=>k α1 H1 e r (rs.mono e.pre)⟩
def TIA.run(rs:RS A α ρ Y)(rp:Rep T A K α hs H)(h:f ρ hs=some (us,h1))
  (k:∀α1 vs H1,Ext α α1 H H1->Rep T A K α1 h1 H1->RUs A α1 us vs->RS A α1 ρ Y->Q vs H1):TIA T A K f Y H Q :=
 ⟨α,ρ,hs,us,h1,rs,rp,h,λα1 v H1 e r q=>k α1 v H1 e r q (rs.mono e.pre)⟩
end
section
variable {X:Cx}
def QY(h:PE X e t)(i:∀Y H Q,t' Y H Q->t Y H Q):PE X e t':=λpins s Y H Q I q=>h pins s Y H Q I (i Y H Q q)
def Qjg(h:PT X e t)(i:∀Y H Q,t' Y H Q->t Y H Q):PT X e t':=λpins s Y H Q I q=>h pins s Y H Q I (i Y H Q q)
def Ql6(h:PW X e t)(i:∀Y H Q,t' Y H Q->t Y H Q):PW X e t':=λwh pins s Y H Q I q=>h wh pins s Y H Q I (i Y H Q q)
def Qmb(h:PA X es t)(i:∀Y H Q,t' Y H Q->t Y H Q):PA X es t':=λpos pins s Y H Q I q=>h pos pins s Y H Q I (i Y H Q q)
def Zr{st:Stmt}{t t':TS}(h:PS X st t)(i:∀D Y H,t' D Y H->t D Y H):PS X st t':=λpins s Y H D I q=>h pins s Y H D I (i D Y H q)
def JO{st:List Stmt}{t t':TS}(h:PSs X st t)(i:∀D Y H,t' D Y H->t D Y H):PSs X st t':=λpins s Y H D I q=>h pins s Y H D I (i D Y H q)
end
end
section
variable {f:Addr}{A:Adr}{C:Ctx}{X:Cx}{fd:FuncData}{us:List U}{vs:List V}{st:Stmt}{x:Str}{mg:Str->Option Value}{T:Tbl}
noncomputable def tyV:Ty->String
 |.non=>"NoneType"|.bool=>"bool"|.int=>"int"|.str=>"str"|.list=>"list"|.tuple=>"tuple"|.dict=>"dict"|.cls _=>"object"|.vale=>"ValueError"
noncomputable def tyW(A:Adr):Ty->Value
 |.cls c=>.ref (A.c c)
 |t=>.type (tyV t)
structure ClOk(T:Tbl)(A:Adr)(K:W.Frag)(i:Nat)(C:Cl):Prop where
 cls:Cls K (A.c i)
 nf:∀x∈T.fns',NoAttr K (A.c i) x
 me:∀m f,C.meths.lookup m=some f->∃x,T.mns[m]?=some x/\Meth K (A.c i) x (A.f f)
 mks:W.makesIn K (A.c i)=true
 kp:W.keepIn K (.ref (A.c i))=true
 ini:match C.init with
  |some f=>W.findIn K (.ref (A.c i)) "__init__"=some (some (.ref (A.f f)))/\W.isFn K (.ref (A.f f))= true
  |none=>W.findIn K (.ref (A.c i)) "__init__"=some (some (.builtin "object.__init__"))
 ty:∀(H:Hp) (a dx:Addr) (fs:List (Str×V)),H a=some (.ins (A.c i) dx fs)->TyOf K H (.ref a) (.ref (A.c i))
structure FunD(K:W.Frag)(x qual:Str)(st:Stmt)(f:Addr)(fd:FuncData):Prop where
 ex:∃(oc:Value) (od:Option Addr) (dV kV doc pm:Value) (an:Option Addr) (cdv ct:Value) (osl:Array (Option Value)),
  fd=W.fnOf x qual (QbC st) (Ze st) (Qg st) dV kV doc pm an cdv ct/\K.lookup f=some ⟨oc,od,.func fd,osl⟩/\W.codeIn K cdv qual=true
 kp:W.keepIn K (.ref f)=true
def FunD.ok{P:Program}{w:World}{K:W.Frag}{base:Heap}{qual:Str}{N ps:List Str}{k:Nat}{sp:Sp}(F:FunD K x qual st f fd)(S:FnScope N ps (Qg st))(len:∀vs H Q E,sp vs H Q E->vs.length=ps.length)
  (hbody:∀(cdv:Value) (A:Around) (outer:List Env) (s:Shared) (H:Hp) (vs:List V) (Q:VK) (E:XK),Room k (A.deeper (envOfC qual (Qg st) s.heap.objs.size f cdv))->sp vs H Q E ->
   ∃t,PSs (Qao CX0 P w K mg base N qual (Qg st) f cdv A outer s H E).nox (Ze st) t/\t {nx:=λz H'=>Q .non H',rt:=Q} (start N vs) H):FnOk P w K mg base CX0 (k+1) f fd ps sp:=by
 obtain⟨oc,od,dV,kV,doc,pm,an,cdv,ct,osl,rfl,lk,hcd⟩:=F.ex;refine Qi0 lk hcd S len λA outer s H vs Q E hr hsp=>?_;obtain⟨t,h,q⟩:=hbody cdv A outer s H vs Q E hr hsp;exact⟨t,h.nox,q⟩
def FunD.okH{P:Program}{w:World}{K:W.Frag}{base:Heap}{qual:Str}{N ps:List Str}{k:Nat}{sp:Sp}(F:FunD K x qual st f fd)(S:FnScope N ps (Qg st))(len:∀vs H Q E,sp vs H Q E->vs.length=ps.length)
  (hbody:∀(cdv:Value) (A:Around) (v:Value) (outer:List Env) (s:Shared) (H:Hp) (vs:List V) (Q:VK) (E:XK),Room k (A.deeper (envOfC qual (Qg st) s.heap.objs.size f cdv))->sp vs H Q E ->
   ∃t,PSs ((Qao CX0 P w K mg base N qual (Qg st) f cdv A outer s H E).hd v).nox (Ze st) t/\t {nx:=λz H'=>Q .non H',rt:=Q} (start N vs) H):FnOkH P w K mg base (k+1) f fd ps sp:=by
 obtain⟨oc,od,dV,kV,doc,pm,an,cdv,ct,osl,rfl,lk,hcd⟩:=F.ex;exact QlG lk hcd S len λA v outer s H vs Q E hr hsp=>hbody cdv A v outer s H vs Q E hr hsp
def FunD.same{K:W.Frag}{y q q':Str}{st':Stmt}{fd':FuncData}(a:FunD K x q st f fd)(b:FunD K y q' st' f fd'):fd=fd':=by
 obtain⟨_,_,_,_,_,_,_,_,_,_,_,l1,_⟩:=a.ex;obtain⟨_,_,_,_,_,_,_,_,_,_,_,l2,_⟩:=b.ex;rw[l1]at l2;cases l2;rfl
def Qjv(A:Adr)(K:W.Frag)(fd:FuncData)(D:Df):Prop:=∃(ds:List Value) (dvs:List V),RUs A [] D.ds dvs/\Vals dvs ds/\(∀n,Binds K fd D.ps (ds.drop n))
def Qcm(K:W.Frag)(mg:Str->Option Value)(C:Addr)(x:Str):Prop:=W.hasDictIn K C=true/\W.findIn K (.ref C) x=some none/\∃fI fd ps,Exi K C fI/\Binds K fd ps [.none]/\∀P w base,FnOk P w K mg base CX0 2 fI fd ps (spI C x .non)
structure Txt(T:Tbl)(A:Adr)(K:W.Frag)(mg:Str->Option Value):Prop where
 fn:∀i F,T.fns[i]?=some F->∃fd,FunD K F.name F.qual F.st (A.f i) fd/\Binds K fd F.ps []/\FnScope F.N F.ps (Qg F.st)/\F.ps.length=F.np/\F.N.length=F.nN
 df:∀i D,T.dfl.lookup i=some D->∃fd x q st,FunD K x q st (A.f i) fd/\Qjv A K fd D/\∀F,T.fns[i]?=some F->F.ps=D.ps/\F.np=D.np
 cl:∀i C,T.cls[i]?=some C->ClOk T A K i C
 fm:∀x∈T.fns',x∉T.mns
 fd:T.fns'.Nodup
 isi:∀k t b,T.isi.lookup (k,t)=some b->W.kitOne K (tyW A k) (tyW A t)=some b
 co:∀k c,T.cons[k]?=some c->match c with
  |Co.tup xs=>∃vs,RUs A [] xs vs/\∀H,SqT K H (A.k k) vs
  |Co.lst xs=>∃vs,RUs A [] xs vs/\∀H,SqL K H (A.k k) vs
  |Co.tab _=>True
 er:∀c,T.ers.contains c=true->ErrCls K (A.c c)/\∃f x,T.efl.contains (c,f)=true/\(∀f',T.efl.contains (c,f')=true->f'=f)/\T.fns'[f]?=some x/\Qcm K mg (A.c c) x
 es:∀c c',T.esb.contains (c,c')=true->W.exmOne K (.ref (A.c c)) (.ref (A.c c'))=some true
def QfT:U->Key->Prop
 |.int i 0,k=>k=.inl i
 |.str x,k=>k=.inr ⟨x.toArray⟩
 |_,_=>False
def Jx(P:Program)(w:World)(T:Tbl)(A:Adr)(K:W.Frag):Prop:=∀k kvs,T.cons[k]?=some (.tab kvs) ->
 ∃vs:List (Key×Value),(A.k k==sysModules)=false/\(∀h:Heap,K.In h->h.DictOf (ZD P w) (A.k k) vs)/\Paired (λ(p:U×U) (q:Key×Value)=>QfT p.1 q.1/\∃v,RU A [] p.2 v/\RelV v q.2) kvs vs
structure GX(T:Tbl)(A:Adr)(C:Ctx)(X:Cx):Prop where
 CT:C.T=T
 N:X.N=C.N
 nd:X.N.Nodup
 sc:X.env.scope.names=C.names
 calm:hdC C=false->X.calm=true
 kind:X.env.scope.kind=.function
 xe:X.xe=λ_ _=>False
 gfn:∀x i,C.gl.lookup x=some (.fn i)->X.mg x=some (.ref (A.f i))
 gcl:∀x i,C.gl.lookup x=some (.cls i)->X.mg x=some (.ref (A.c i))
 gco:∀x k,C.gl.lookup x=some (.con k)->X.mg x=some (.ref (A.k k))
 gtx:∀x t,C.gl.lookup x=some (.txt t)->∃v w,X.mg x=some w/\RelV v w/\∀α,RU A α t v
 blt:∀x,¬C.bl.contains x=false->X.mg x=none
 txt:Txt T A X.K X.mg
 tab:Jx X.prog X.w T A X.K
def spC(T:Tbl)(A:Adr)(K:W.Frag)(cf:Cf)(f:Nat):Sp:=λvs H Q z=>∃α us hs u hs',RUs A α us vs/\Rep T A K α hs H/\cf f us hs=some (u,hs')/\(∃F,T.fns[f]?=some F/\us.length=F.np) /\
 ∀α' v H',Ext α α' H H'->Rep T A K α' hs' H'->RU A α' u v->Q v H'
def spX(T:Tbl)(A:Adr)(K:W.Frag)(xf:Nat->List U->Hs->Option (Er×Hs))(f:Nat):Sp:=λvs H z E=>∃α us hs c hs',RUs A α us vs/\Rep T A K α hs H/\xf f us hs=some (c,hs')/\(∃F,T.fns[f]?=some F/\us.length=F.np) /\
 ∀α' H' dd,Ext α α' H H'->Rep T A K α' hs' H'->EF T H' c dd->E (.ref (A.c c.1)) dd H'
theorem Q3:∀{N:List Str} {i:Nat},idx x N=some i->N[i]?=some x
 |[],_,h=>by simp[idx]at h
 |y::r,i,h=>by
  unfold idx at h;split at h
  ·rename_i e;cases h;simp[e]
  ·cases q:idx x r with
   |none=>rw[q]at h;cases h
   |some j=>
    rw[q]at h;cases h;simpa using Q3 q
def QjF(g:GX T A C X)(h:QfV C x=true):Vis X.env.scope x:=by
 unfold QfV at h;unfold Vis;rw[g.sc];split at h<;>simp_all
def QaK(g:GX T A C X)(h:QaO C x=true):L2.Loc X.env.scope x:=by
 unfold QaO at h;unfold L2.Loc;rw[g.sc];split at h<;>simp_all
def Q5(g:GX T A C X)(h:ZI C x=true):Gl X x:=by
 unfold ZI at h;show X.env.scope.names.lookup x=some .globalImplicit;rw[g.sc];split at h
 ·assumption
 ·cases h
def QV(h:x≠y):(x==y)=false:=by simpa using h
def Zh{o:Expr}{f:Str}{env:Env}{w:Sem Value}(h:Zx o=true):attributeBase o f env w=w:=by
 unfold attributeBase;split
 ·cases h
 ·rfl
def JC(h:ZR b=true):QeK b:=by
 intro o i
 cases b<;>first|rfl|cases h
def Qk(h:∀x p,e≠.Starred x p):starEach (e::es) env=(false,eval e env)::starEach es env:=by
 cases e<;>first|rfl|exact absurd rfl (h _ _)
def Yi(es:List Expr):Prop:=∀e∈es,∀x p,e≠.Starred x p
theorem QZ:∀{es:List Expr},Yi es->(backTo pos (starEach es env)).any (·.1)=false
 |[],_=>rfl
 |e::r,h=>by
  rw[Qk (h e (Xm ..))];have ih:=QZ (env:=env) (pos:=pos) (es:=r) λx hx=>h x (Xj _ hx);unfold backTo at ih ⊢;rw[Vw,List.any_cons,ih];rfl
def Qw(h:Qe m C e=some ir):∀x p,e≠.Starred x p:=by
 rintro x p rfl
 cases m<;>first|exact Znn h|simp[Qe]at h
theorem Qr:∀{m:Nat} {es:List Expr} {irs:List E},compA m C es=some irs->Yi es
 |0,_,_,h=>by simp[compA]at h
 |m+1,[],_,_=>λz h=>nomatch h
 |m+1,e::r,irs,h=>by
  simp only[compA,Xb]at h;obtain⟨e',he,r',hr,_⟩:=h;intro x hx
  rcases Xg.mp hx with rfl|hx
  ·exact Qw he
  ·exact Qr hr x hx
section
variable {K:W.Frag}{α:List Addr}{hs:Hs}{H:Hp}{u:U}{v:V}
theorem RUs.length(r:RUs A α us vs):us.length=vs.length:=Paired.length r
def RUs.get{i:Nat}{u:U}(h:RUs A α us vs)(e:us[i]?=some u):∃v,vs[i]?=some v/\RU A α u v:=Y3 h e
def RUs.append{ws:List U}{ys:List V}(h:RUs A α us vs)(h':RUs A α ws ys):RUs A α (us++ws) (vs++ys):=Qdw h h'
def JZ{K':W.Frag}(tx:Txt T A K mg)(R:Rep T A K α hs H)(h:Yo T u hs=some xs)(r:RU A α u v):∃a vs,v=.ref a/\RUs A α xs vs/\(SqL K H a vs\/SqT K H a vs):=by
 cases u with
 |ref n=>
  obtain⟨a,ha,rfl⟩:=r;simp only[Yo]at h;split at h
  ·rename_i ys e;cases h;obtain⟨vs,q,rr⟩:=R.h.ob n a _ ha e;exact⟨a,vs,rfl,rr,.inl (SqL.of q)⟩
  ·rename_i ys e;cases h;obtain⟨vs,q,rr⟩:=R.h.ob n a _ ha e;exact⟨a,vs,rfl,rr,.inr (SqT.of q)⟩
  ·cases h
 |con k=>
  simp only[Yo]at h;split at h
  ·rename_i ys e;cases h;obtain⟨vs,rr,q⟩:=tx.co k _ e
   exact⟨_,vs,r,RUs.mono (λn a e=>by simp at e) rr,.inl (q H)⟩
  ·rename_i ys e;cases h;obtain⟨vs,rr,q⟩:=tx.co k _ e
   exact⟨_,vs,r,RUs.mono (λn a e=>by simp at e) rr,.inr (q H)⟩
  ·cases h
 |scr=>
  simp only[Yo]at h;cases h;obtain⟨vs,rr,q⟩:=R.s.sq (α:=α);exact⟨_,vs,r,rr,.inl q⟩
 |_=>simp[Yo]at h
def Ys(x:List Nat):({cps:=x.toArray}:Str).length=x.length:=by simp[Str.length]
def big:(1000000:Nat)<=sizeLine:=by decide
def Qdc(tx:Txt T A K mg)(R:Rep T A K α hs H)(h:ZO T u hs=some b)(r:RU A α u v):QmA K v H b:=by
 cases u with
 |bl c=>cases h;cases r;rfl
 |_=>exact Znn h
end
end
section
variable {i i' j:Int}{m:Nat}
def Qhc(a:Cg i' i m)(b:Cg j' j n):Cg (i'+j') (i+j) (gz m n):=by
 obtain⟨p,rfl⟩:=a;obtain⟨q,rfl⟩:=b
 cases m with
 |zero=>exact⟨q,by simp[gz];omega⟩
 |succ m=>
  obtain⟨x,hx⟩:=Nat.gcd_dvd_left (m+1) n;obtain⟨y,hy⟩:=Nat.gcd_dvd_right (m+1) n;refine⟨x*p+y*q,?_⟩
  have e1:((m+1:Nat):Int)=(Nat.gcd (m+1) n:Int)*(x:Int):=by
   have:=congrArg (λz:Nat=>(z:Int)) hx;simpa using this
  have e2:(n:Int)=(Nat.gcd (m+1) n:Int)*(y:Int):=by
   have:=congrArg (λz:Nat=>(z:Int)) hy;simpa using this
  show i+((m+1:Nat):Int)*p+(j+(n:Int)*q)=i+j+(Nat.gcd (m+1) n:Int)*(x*p+y*q);rw[Int.mul_add,<-T5,<-T5,<-e1,<-e2];omega
def Qhb(a:Cg i' i m):Cg (-i') (-i) m:=by
 obtain⟨p,rfl⟩:=a
 exact⟨-p,by rw[Int.mul_neg];omega⟩
def QlN(a:Cg i' i m)(b:Cg j' j n):Cg (i'-j') (i-j) (gz m n):=by
 have:=Qhc a (Qhb b);rw[Int.sub_eq_add_neg,Int.sub_eq_add_neg];exact this
def QlO(a:Cg i' i m):Cg (i'*j) (i*j) (m*j.natAbs):=by
 obtain⟨p,rfl⟩:=a
 rcases Int.natAbs_eq j with e|e
 ·refine⟨p,?_⟩;rw[Int.add_mul,Tx,<-e,Int.mul_right_comm]
 ·refine⟨-p,?_⟩
  have e':(j.natAbs:Int)=-j:=by omega
  rw[Int.add_mul,Tx,e',Int.mul_neg,Int.mul_neg,Int.neg_mul,Int.neg_neg,Int.mul_right_comm]
def QlQ(a:Cg i' i m)(hj:0<j)(hd:m % j.toNat=0):Cg (i' / j) (i / j) (m / j.toNat):=by
 obtain⟨p,rfl⟩:=a
 have e:(m:Int)=j*((m / j.toNat:Nat):Int):=by
  have h:=Nat.div_add_mod m j.toNat;rw[hd,Nat.add_zero]at h;have h2:=congrArg (λz:Nat=>(z:Int)) h
  have h3:((j.toNat:Nat):Int)=j:=by omega
  simp only[Tx,h3]at h2;exact h2.symm
 refine⟨p,?_⟩
 rw[e,T5,Int.add_mul_ediv_left _ _ (by omega)]
def QlP(a:Cg i' i m)(hj:0<j)(hd:m % j.toNat=0):i' % j=i % j:=by
 obtain⟨p,rfl⟩:=a
 have e:(m:Int)=j*((m / j.toNat:Nat):Int):=by
  have h:=Nat.div_add_mod m j.toNat;rw[hd,Nat.add_zero]at h;have h2:=congrArg (λz:Nat=>(z:Int)) h
  have h3:((j.toNat:Nat):Int)=j:=by omega
  simp only[Tx,h3]at h2;exact h2.symm
 rw[e,T5,Int.add_mul_emod_self_left]
def ZB(h:Qs i=true):-(2 ^ 64) < i/\i<2 ^ 64:=by
 unfold Qs at h;rw[Xe,Xs,Xs]at h;exact h
def QhH(x y:List Nat):({cps:=x.toArray}:Str)++({cps:=y.toArray}:Str)={cps:=(x++y).toArray}:=by
 show Str.append _ _=_;simp[Str.append]
def OpS(X:Cx)(T:Tbl)(A:Adr)(o:Operator):Prop:=∃r,OpR X (binaryOp o) r/\∀{α:List Addr} {u w u':U} {hs hs':Hs} {v y:V} {H:Hp} {Q:VK},opU o u w hs=some (u',hs')->RU A α u v->RU A α w y->Rep T A X.K α hs H ->
 (∀α' v' H',Ext α α' H H'->Rep T A X.K α' hs' H'->RU A α' u' v'->Q v' H')->r v y H Q
section
variable {X:Cx}{T:Tbl}{A:Adr}
def Qfz(h:∀u w hs,opU o u w hs=none):OpS X T A o:=⟨λz z z z=>False,λz z z z z z z z z z z z h=>h.elim,λe=>by rw[h]at e;cases e⟩
def Qb7{o:Operator}{f:U->U->Option U}{r:R2}(ho:OpR X (binaryOp o) r)(hf:∀u w hs,opU o u w hs=(f u w).map λz=>(z,hs))
  (h:∀{α:List Addr} {u w z:U} {v y:V} {H:Hp} {Q:VK},f u w=some z->RU A α u v->RU A α w y->(∀v',RU A α z v'->Q v' H)->r v y H Q):OpS X T A o:=by
 refine⟨r,ho,?_⟩;intro α u w u' hs hs' v y H Q e ru rw R k;rw[hf,Xc]at e;obtain⟨z,e,q⟩:=e;cases q;exact h e ru rw λv' r'=>k α v' H Ext.refl R r'
def Zv(r:RU A α (.int i 0) v):v=.int i:=by
 obtain⟨j,rfl,c⟩:=r;cases c.exact;rfl
def Qip:OpS X T A .Sub:=Qb7 QkO (λx x x=>rfl) λ{α u w z v y H Q} h ru rw k=>by
 unfold Qm3 at h;split at h
 ·cases h;obtain⟨i',rfl,a⟩:=ru;obtain⟨j',rfl,b⟩:=rw;exact⟨i',j',rfl,rfl,k _ ⟨_,rfl,QlN a b⟩⟩
 ·cases h
def Qio:OpR X (binaryOp .Mult) (rI IntMulOk λi j=>.int (i*j)):=opI λz z z z z z z hc q=>mul_int q hc
def QeF(h:QeG i=true):Builtin.Int.intBits i<=4096:=by
 have h:=Wt h;unfold Builtin.Int.intBits;split
 ·omega
 ·rename_i z
  have n0:i.natAbs≠0:=by simpa using z
  exact Nat.succ_le_of_lt ((Nat.log2_lt n0).mpr h)
def Qk9(h:(Qs i||Qs j||(QeG i&&QeG j))=true):IntMulOk i j:=by
 rw[Ut,Ut,Xe]at h
 rcases h with(h|h)|h
 ·exact CMul.ok (.inl (ZB h))
 ·exact CMul.ok (.inr (ZB h))
 ·have h1:=QeF h.1;have h2:=QeF h.2;unfold IntMulOk
  have:Builtin.Int.intTooBig (Builtin.Int.intBits i+Builtin.Int.intBits j)=false:=by
   unfold Builtin.Int.intTooBig;rw[bitsLine_eq]
   exact X6 (by omega)
  rw[this];simp
theorem RUs.rep{α:List Addr}{us:List U}{vs:List V}(r:RUs A α us vs):∀n:Nat,RUs A α (List.replicate n us).flatten (List.replicate n vs).flatten
 |0=>.nil
 |n+1=>by
  rw[Vv,Vv,Uj,Uj];exact RUs.append r (RUs.rep r n)
def Qir:OpS X T A .Mult:=by
 refine⟨_,OpR.or Qio QkP,?_⟩;intro α u w u' hs hs' v y H Q e ru rw R k;by_cases isr:∃a,u=.ref a
 ·obtain⟨a,rfl⟩:=isr;simp only[opU]at e;unfold Qmm at e;split at e
  ·rename_i xs j e1;split at e
   ·rename_i c;cases e;cases Zv rw;obtain⟨pa,ha,rfl⟩:=ru;obtain⟨vs,q1,r1⟩:=R.h.ob _ pa _ ha e1;refine .inr ⟨pa,j,vs,rfl,rfl,q1,c.1,c.2.1,?_,λp hp=>?_⟩
    ·rw[<-r1.length];exact X7 c.2.2 big
    ·obtain⟨R',E'⟩:=R.new (o:=.lst (List.replicate j.toNat xs).flatten) hp ⟨_,Qh,RUs.mono QP (r1.rep j.toNat)⟩
     exact k _ _ _ E' R' ⟨p,by rw[<-R.h.len];exact Q8,rfl⟩
   ·cases e
  ·cases e
 have e:(Qjm u w).map (λr=>(r,hs))=some (u',hs'):=by
  cases u with
  |ref a=>exact absurd ⟨a,rfl⟩ isr
  |_=>exact e
 rw[Xc]at e;obtain⟨z,h,q⟩:=e;cases q;refine .inl ?_;have k:∀v',RU A α u' v'->Q v' H:=λv' r'=>k α v' H Ext.refl R r';unfold Qjm at h;split at h
 ·split at h
  ·rename_i c;cases h;cases Zv ru;cases Zv rw;exact⟨_,_,rfl,rfl,Qk9 c,k _ ⟨_,rfl,Cg.refl _ _⟩⟩
  ·cases h
 ·split at h
  ·rename_i c;cases h;obtain⟨i',rfl,a⟩:=ru;cases Zv rw;exact⟨i',_,rfl,rfl,CMul.ok (.inr (ZB c)),k _ ⟨_,rfl,QlO a⟩⟩
  ·cases h
 ·cases h
def QoA(i j:Int):Prop:=0<j/\j<1606938044258990275541962092341162602522202993782792835301376
def Qfy{X:Cx}:OpR X (binaryOp .FloorDiv) (rI QoA λi j=>.int (i / j)):=opI λi j y y y y y hc q=>by
 have h1:(0:Int) < j:=hc.1;have h2:j<1606938044258990275541962092341162602522202993782792835301376:=hc.2
 have h3:j.natAbs.log2<9000:=by
  have h4:j.natAbs<2 ^ 9000:=Xr (show j.natAbs<2 ^ 200 by omega) (Nat.pow_le_pow_right (by decide) (by decide))
  rcases Nat.eq_zero_or_pos j.natAbs with z|z
  ·rw[z];decide
  ·exact(Nat.log2_lt (by omega)).mpr h4
 exact floordiv_int (by omega) (by rw[Int.fdiv_eq_ediv_of_nonneg i (by omega)];exact q) (.inl (PyProof.noPylong_of_log2 h3))
def QfA:OpS X T A .FloorDiv:=Qb7 Qfy (λx x x=>rfl) λ{α u w z v y H Q} h ru rw k=>by
 unfold QlM at h;split at h
 ·split at h
  ·rename_i c;cases h;cases Zv ru;cases Zv rw;simp only[Xe,Xs]at c;exact⟨_,_,rfl,rfl,c,k _ ⟨_,rfl,Cg.refl _ _⟩⟩
  ·cases h
 ·split at h
  ·rename_i c;cases h;obtain⟨i',rfl,a⟩:=ru;cases Zv rw;simp only[Xe,Xs]at c;exact⟨i',_,rfl,rfl,c.1,k _ ⟨_,rfl,QlQ a c.1.1 c.2⟩⟩
  ·cases h
 ·cases h
def Qis:OpS X T A .Mod:=Qb7 QkV (λx x x=>rfl) λ{α u w z v y H Q} h ru rw k=>by
 unfold QiB at h;split at h
 ·split at h
  ·rename_i c;cases h;cases Zv ru;cases Zv rw;exact⟨_,_,rfl,rfl,c,k _ ⟨_,rfl,Cg.refl _ _⟩⟩
  ·cases h
 ·split at h
  ·rename_i c;cases h;obtain⟨i',rfl,a⟩:=ru;cases Zv rw;simp only[Xe,Xs]at c
   exact⟨i',_,rfl,rfl,c.1,k _ ⟨_,rfl,by rw[QlP a c.1 c.2];exact Cg.refl _ _⟩⟩
  ·cases h
 ·cases h
def Qiq:OpS X T A .Pow:=Qb7 QkQ (λx x x=>rfl) λ{α u w z v y H Q} h ru rw k=>by
 unfold Qmn at h;split at h
 ·split at h
  ·rename_i i j c;cases h;cases Zv ru;cases Zv rw;simp only[Xe,Xs]at c;obtain⟨h1,h2⟩:=ZB c.2
   exact⟨_,_,rfl,rfl,⟨c.1.1,by omega,by omega⟩,k _ ⟨_,rfl,Cg.refl _ _⟩⟩
  ·cases h
 ·cases h
def Qit:OpS X T A .Add:=by
 refine⟨_,OpR.or Qk1 (OpR.or Qcy Qk0),?_⟩;intro α u w u' hs hs' v y H Q h ru rw R k;have h:Yk u w hs=some (u',hs'):=h;unfold Yk at h;split at h
 ·cases h;obtain⟨i',rfl,a⟩:=ru;obtain⟨j',rfl,b⟩:=rw;exact .inl ⟨i',j',rfl,rfl,k α _ H Ext.refl R ⟨_,rfl,Qhc a b⟩⟩
 ·split at h
  ·rename_i c;cases h;cases(show v=_ from ru);cases(show y=_ from rw);refine .inr (.inl ⟨_,_,rfl,rfl,?_,k α _ H Ext.refl R ?_⟩)
   ·rw[Ys,Ys];exact X7 c big
   ·rw[QhH];rfl
  ·cases h
 ·rename_i a b;obtain⟨pa,ha,rfl⟩:=ru;obtain⟨pb,hb,rfl⟩:=rw;split at h
  ·rename_i ox oy e1 e2;have o1:=R.h.ob _ pa _ ha e1;have o2:=R.h.ob _ pb _ hb e2;unfold Qoc at h;split at h
   ·rename_i xs ys;split at h
    ·rename_i c;cases h;obtain⟨vs,q1,r1⟩:=o1;obtain⟨ws,q2,r2⟩:=o2;refine .inr (.inr ⟨pa,pb,vs,ws,rfl,rfl,q1,q2,?_,λp hp=>?_⟩)
     ·rw[<-r1.length,<-r2.length];exact X7 c big
     ·obtain⟨R',E'⟩:=R.new (o:=.lst (xs++ys)) hp ⟨_,Qh,RUs.mono QP (r1.append r2)⟩
      exact k _ _ _ E' R' ⟨p,by rw[<-R.h.len];exact Q8,rfl⟩
    ·cases h
   ·cases h
  ·cases h
 ·cases h
def opS(o:Operator):OpS X T A o:=by
 cases o with
 |Add=>exact Qit
 |Sub=>exact Qip
 |Mult=>exact Qir
 |FloorDiv=>exact QfA
 |Mod=>exact Qis
 |Pow=>exact Qiq
 |_=>exact Qfz λu w hs=>rfl
end
end
section
variable {xs:List U}
section
variable {X:Cx}{T:Tbl}{A:Adr}{α:List Addr}{hs:Hs}{H:Hp}{u w:U}{v y:V}
def Zm(tx:Txt T A X.K X.mg)(R:Rep T A X.K α hs H)(h:Q4 T u hs=some xs)(r:RU A α u v):∃a vs,v=.ref a/\RUs A α xs vs/\SqL X.K H a vs:=by
 cases u with
 |ref n=>
  obtain⟨a,ha,rfl⟩:=r;simp only[Q4]at h;split at h
  ·rename_i ys e;cases h;obtain⟨vs,q,rr⟩:=R.h.ob n a _ ha e;exact⟨a,vs,rfl,rr,SqL.of q⟩
  ·cases h
 |con k=>
  simp only[Q4]at h;split at h
  ·rename_i ys e;cases h;obtain⟨vs,rr,q⟩:=tx.co k _ e
   exact⟨_,vs,r,RUs.mono (λn a e=>by simp at e) rr,q H⟩
  ·cases h
 |scr=>
  simp only[Q4]at h;cases h;obtain⟨vs,rr,q⟩:=R.s.sq (α:=α);exact⟨_,vs,r,rr,q⟩
 |_=>simp[Q4]at h
def YW(tx:Txt T A X.K X.mg)(R:Rep T A X.K α hs H)(h:ZH T u hs=some xs)(r:RU A α u v):∃a vs,v=.ref a/\RUs A α xs vs/\SqT X.K H a vs:=by
 cases u with
 |ref n=>
  obtain⟨a,ha,rfl⟩:=r;simp only[ZH]at h;split at h
  ·rename_i ys e;cases h;obtain⟨vs,q,rr⟩:=R.h.ob n a _ ha e;exact⟨a,vs,rfl,rr,SqT.of q⟩
  ·cases h
 |con k=>
  simp only[ZH]at h;split at h
  ·rename_i ys e;cases h;obtain⟨vs,rr,q⟩:=tx.co k _ e
   exact⟨_,vs,r,RUs.mono (λn a e=>by simp at e) rr,q H⟩
  ·cases h
 |_=>simp[ZH]at h
noncomputable def scP:U->PyData
 |.bl b=>.bool b
 |.int i _=>.int i
 |.str x=>.str ⟨x.toArray⟩
 |_=>.none
noncomputable def toP(T:Tbl):Nat->U->Hs->PyData
 |0,_,_=>.none
 |n+1,u,hs=>match Q4 T u hs with
  |some xs=>.list (xs.map λx=>toP T n x hs)
  |none=>match ZH T u hs with
   |some xs=>.tuple (xs.map λx=>toP T n x hs)
   |none=>scP u
def QaC{h:Heap}{f:U->PyData}{vs:List V}{its:List Value}(r:RUs A α xs vs)(q:Vals vs its)(k:∀x∈xs,∀v u,RU A α x v->RelV v u->∃as,Reads h u (f x) as):∃as,ReadsAll h its (xs.map f) as:=by
 induction r generalizing its with
 |nil=>cases q;exact⟨[],.nil⟩
 |cons r _ ih=>
  cases q with
  |cons q p=>
   obtain⟨as,h1⟩:=k _ Xm _ _ r q;obtain⟨bs,h2⟩:=ih p λx m=>k x (Xj _ m);exact⟨as++bs,.cons h1 h2⟩
theorem ZC{pins:List (Addr×Obj)}{s:Shared}{Y:L2.St}(tx:Txt T A X.K X.mg)(I:Inv X pins Y H s)(R:Rep T A X.K α hs H):∀(n:Nat) {u:U} {v:V} {z:Value},okW T n u hs=true->RU A α u v->RelV v z->∃as,Reads s.heap z (toP T n u hs) as
 |0,_,_,_,h,_,_=>by cases h
 |n+1,u,v,z,h,r,q=>by
  have ih:=λ{u:U} {v:V} {z:Value}=>ZC tx I R n (u:=u) (v:=v) (z:=z);simp only[okW,toP]at h ⊢
  cases el:Q4 T u hs with
  |some xs=>
   rw[el]at h;have h:=Xz.mp h;obtain⟨a,vs,rfl,rr,sq⟩:=Zm tx R el r;cases q;obtain⟨its,rv,pl,_⟩:=I.list sq;obtain⟨o,ho,hc,m,hd⟩:=pl.isList;obtain⟨as,ra⟩:=QaC (h:=s.heap) (f:=λx=>toP T n x hs) rr rv λx m v u h1 h2=>ih (h x m) h1 h2;exact⟨_,.list ho hc hd ra⟩
  |none=>
   rw[el]at h
   cases et:ZH T u hs with
   |some xs=>
    rw[et]at h;have h:=Xz.mp h;obtain⟨a,vs,rfl,rr,sq⟩:=YW tx R et r;cases q;obtain⟨its,rv,pl,_⟩:=I.tuple sq;obtain⟨o,ho,hc,m,hd⟩:=pl;obtain⟨as,ra⟩:=QaC (h:=s.heap) (f:=λx=>toP T n x hs) rr rv λx m v u h1 h2=>ih (h x m) h1 h2;exact⟨_,.tuple ho hc hd ra⟩
   |none=>
    rw[et]at h
    cases u with
    |non=>cases(show v=_ from r);cases q;exact⟨[],.none⟩
    |bl b=>cases(show v=_ from r);cases q;exact⟨[],.bool b⟩
    |int i m=>
     have h:(m==0)=true:=h;have h:=eq_of_beq h;subst h;cases Zv r;obtain⟨t,rfl⟩:=q;exact⟨[],.int i t⟩
    |str x=>cases(show v=_ from r);obtain⟨t,rfl⟩:=q;exact⟨[],.str _ t⟩
    |_=>cases h
theorem Qbo{f:U->PyData}{n:Nat}:∀{xs:List U},(∀x∈xs,(f x).canLay0=true/\(f x).depth<=n)->PyData.canLayAll0 (xs.map f)=true/\PyData.depthAll (xs.map f)<=n
 |[],_=>⟨rfl,W8 _⟩
 |x::r,h=>by
  obtain⟨h1,h2⟩:=h x Xm;obtain⟨h3,h4⟩:=Qbo (xs:=r) λy m=>h y (Xj _ m);refine⟨?_,?_⟩
  ·show((f x).canLay0&&PyData.canLayAll0 (r.map f))=true;rw[h1,h3];rfl
  ·show max (f x).depth (PyData.depthAll (r.map f))<=n;omega
theorem Yx:∀(n:Nat) {u:U},okW T n u hs=true->(toP T n u hs).canLay0=true/\(toP T n u hs).depth<=n
 |0,_,h=>by cases h
 |n+1,u,h=>by
  have ih:=λ(u:U)=>Yx n (u:=u);simp only[okW,toP]at h ⊢
  cases el:Q4 T u hs with
  |some xs=>
   rw[el]at h;obtain⟨h1,h2⟩:=Qbo (f:=λx=>toP T n x hs) (n:=n) λx m=>ih x (Xz.mp h x m);exact⟨h1,Nat.succ_le_succ h2⟩
  |none=>
   rw[el]at h
   cases et:ZH T u hs with
   |some xs=>
    rw[et]at h;obtain⟨h1,h2⟩:=Qbo (f:=λx=>toP T n x hs) (n:=n) λx m=>ih x (Xz.mp h x m);exact⟨h1,Nat.succ_le_succ h2⟩
   |none=>
    rw[et]at h
    cases u with
    |str x=>
     refine⟨?_,W8 _⟩;show PyData.strOk ⟨x.toArray⟩=true;unfold PyData.strOk;have h:=Xz.mp h;rw[Array.all_eq_true'];intro c hc
     have:=Wt (h c (by simpa using hc))
     exact Wv (by omega)
    |non=>exact⟨rfl,W8 _⟩
    |bl b=>exact⟨rfl,W8 _⟩
    |int i m=>exact⟨rfl,W8 _⟩
    |_=>cases h
theorem QbB{f:U->PyData}{g:U->U->Bool}:∀{xs ys:List U},(∀x∈xs,∀y∈ys,PyData.eqv (f x) (f y)=g x y)->PyData.eqvAll (xs.map f) (ys.map f)=((xs.length==ys.length)&&(xs.zip ys).all λp=>g p.1 p.2)
 |[],[],_=>rfl
 |[],_::_,_=>rfl
 |_::_,[],_=>rfl
 |x::r,y::t,h=>by
  have h1:=h x Xm y Xm;have h2:=QbB (xs:=r) (ys:=t) λa ma b mb=>h a (Xj _ ma) b (Xj _ mb);show(PyData.eqv (f x) (f y)&&PyData.eqvAll (r.map f) (t.map f))=_;rw[h1,h2];simp only[Wm,List.zip_cons_cons,V5]
  have e:(r.length+1==t.length+1)=(r.length==t.length):=by simp
  rw[e];cases g x y<;>cases(r.length==t.length)<;>simp
def QhG{x y:List Nat}:((⟨x.toArray⟩:Str)==⟨y.toArray⟩)=(x==y):=by
 by_cases h:x=y
 ·subst h;simp
 ·have:(⟨x.toArray⟩:Str)≠⟨y.toArray⟩:=λz=>h (by
   have:=congrArg (λs:Str=>s.cps.toList) z
   simpa using this)
  rw[Wq.mpr this,Wq.mpr h]
theorem Qcg:∀(n:Nat) {u w:U},okW T n u hs=true->okW T n w hs=true->PyData.eqv (toP T n u hs) (toP T n w hs)=eqW T n u w hs
 |0,_,_,h,_=>by cases h
 |n+1,u,w,h,h'=>by
  have ih:=λ(u w:U)=>Qcg n (u:=u) (w:=w);simp only[okW,toP,eqW]at h h' ⊢
  cases el:Q4 T u hs with
  |some xs=>
   rw[el]at h
   cases el':Q4 T w hs with
   |some ys=>
    rw[el']at h';exact QbB (g:=λa b=>eqW T n a b hs) λx mx y my=>ih x y (Xz.mp h x mx) (Xz.mp h' y my)
   |none=>
    rw[el']at h'
    cases et':ZH T w hs with
    |some ys=>rfl
    |none=>rw[et']at h';cases w<;>first|rfl|(cases h';done)
  |none=>
   rw[el]at h
   cases et:ZH T u hs with
   |some xs=>
    rw[et]at h
    cases el':Q4 T w hs with
    |some ys=>rfl
    |none=>
     rw[el']at h'
     cases et':ZH T w hs with
     |some ys=>
      rw[et']at h';exact QbB (g:=λa b=>eqW T n a b hs) λx mx y my=>ih x y (Xz.mp h x mx) (Xz.mp h' y my)
     |none=>rw[et']at h';cases w<;>first|rfl|(cases h';done)
   |none=>
    rw[et]at h
    cases el':Q4 T w hs with
    |some ys=>cases u<;>first|rfl|(cases h;done)
    |none=>
     rw[el']at h'
     cases et':ZH T w hs with
     |some ys=>cases u<;>first|rfl|(cases h;done)
     |none=>
      rw[et']at h'
      cases u<;>first|(cases h;done)|(cases w<;>first|(cases h';done)|rfl|exact QhG)
def QoX(T:Tbl)(A:Adr)(K:W.Frag)(neg:Bool):R2:=λx y H Q=>∃α u w hs,RU A α u x/\RU A α w y/\Rep T A K α hs H/\okW T 20 u hs=true/\okW T 20 w hs=true/\Q (.bl (if neg then !(eqW T 20 u w hs)else eqW T 20 u w hs)) H
def Z2{d:PyData}{n:Nat}(h:d.canLay0=true/\d.depth<=n)(hn:n<=64):SeqAt.shaped d=true:=by
 unfold SeqAt.shaped;rw[h.1,T6];exact Wv (X7 h.2 hn)
def QkZ(tx:Txt T A X.K X.mg)(hu:X.A.units+64<cLine):OpR X (compareOp .Eq) (QoX T A X.K false):=by
 intro pins s Y H x y v u Q I rx ry h;obtain⟨α,u1,w1,hs,r1,r2,R,o1,o2,q⟩:=h;obtain⟨as,ra⟩:=ZC tx I R 20 o1 r1 rx;obtain⟨bs,rb⟩:=ZC tx I R 20 o2 r2 ry
 refine eq_dataH ra rb (Z2 (Yx 20 o1) (by decide)) (Z2 (Yx 20 o2) (by decide)) hu ?_
 rw[Qcg 20 o1 o2];exact⟨.bl _,H,I,rfl,q⟩
def QoT(T:Tbl)(A:Adr)(K:W.Frag)(b:Bool):R2:=λx y H Q=>∃α u w hs,RU A α u x/\RU A α w y/\Rep T A K α hs H/\YG T u w hs=true/\Q (.bl b) H
def Qca{pins:List (Addr×Obj)}{s:Shared}{Y:L2.St}{H:Hp}{α:List Addr}{hs:Hs}{u w:U}{x y:V}{v z:Value}(tx:Txt T A X.K X.mg)(I:Inv X pins Y H s)(R:Rep T A X.K α hs H)(h:YG T u w hs=true)(r1:RU A α u x)(r2:RU A α w y)(rx:RelV x v)(ry:RelV y z):
  ∃(a b:Addr) (i1 i2:List Value),v=.ref a/\z=.ref b/\s.heap.IsList a i1.toArray/\s.heap.IsList b i2.toArray/\(i1.toArray.size != i2.toArray.size)=true:=by
 unfold YG at h;split at h
 ·rename_i xs ys e1 e2;obtain⟨a,vs,rfl,rr,sq⟩:=Zm tx R e1 r1;obtain⟨b,ws,rfl,rr',sq'⟩:=Zm tx R e2 r2;obtain⟨i1,q1,p1,_⟩:=I.list sq;obtain⟨i2,q2,p2,_⟩:=I.list sq';cases rx;cases ry;have l1:=rr.length;have l2:=rr'.length;have l3:=q1.length;have l4:=q2.length;have h:=Wt h;refine⟨a,b,i1,i2,rfl,rfl,p1.isList,p2.isList,?_⟩;simp only[Xv,bne_iff_ne,ne_eq];omega
 ·cases h
def QkY(tx:Txt T A X.K X.mg)(hu:X.A.units+64<cLine):OpR X (compareOp .Eq) (QoT T A X.K false):=by
 intro pins s Y H x y v u Q I rx ry h;obtain⟨α,u1,w1,hs,r1,r2,R,o1,q⟩:=h;obtain⟨a,b,i1,i2,rfl,rfl,p1,p2,z⟩:=Qca tx I R o1 r1 r2 rx ry
 exact SeqAt.RcAt.lists_lengths p1 p2 z (by omega) _ _ _ _ ⟨.bl _,H,I,rfl,q⟩
def QkT(tx:Txt T A X.K X.mg)(hu:X.A.units+64<cLine):OpR X (compareOp .NotEq) (QoT T A X.K true):=by
 intro pins s Y H x y v u Q I rx ry h;obtain⟨α,u1,w1,hs,r1,r2,R,o1,q⟩:=h;obtain⟨a,b,i1,i2,rfl,rfl,p1,p2,z⟩:=Qca tx I R o1 r1 r2 rx ry
 exact SeqAt.RcNeAt.lists_lengths p1 p2 z (by omega) _ _ _ _ ⟨.bl _,H,I,rfl,q⟩
def Qks(T:Tbl)(A:Adr)(K:W.Frag)(b:Bool):R2:=λx y H Q=>∃α u w hs,RU A α u x/\RU A α w y/\Rep T A K α hs H/\Y0 T u w hs=true/\Q (.bl b) H
def Qc5{α:List Addr}{vs ws:List V}{i1 i2:List Value}(h:(xs.all λx=>match x with|.ref _=>true|_=>false)=true)(r1:RUs A α xs vs)(r2:RUs A α xs ws)(q1:Vals vs i1)(q2:Vals ws i2):i1=i2:=by
 induction xs generalizing vs ws i1 i2 with
 |nil=>cases r1;cases r2;cases q1;cases q2;rfl
 |cons x xs ih=>
  rw[V5,Xe]at h
  cases r1 with
  |cons a r1=>
   cases r2 with
   |cons b r2=>
    cases q1 with
    |cons c q1=>
     cases q2 with
     |cons d q2=>
      rw[ih h.2 r1 r2 q1 q2]
      cases x with
      |ref n=>
       obtain⟨p,hp,rfl⟩:=a;obtain⟨p',hp',rfl⟩:=b;rw[hp]at hp';cases hp';cases c;cases d;rfl
      |_=>exact absurd h.1 (by simp)
def QbW{pins:List (Addr×Obj)}{s:Shared}{Y:L2.St}{H:Hp}{α:List Addr}{hs:Hs}{u w:U}{x y:V}{v z:Value}(tx:Txt T A X.K X.mg)(I:Inv X pins Y H s)(R:Rep T A X.K α hs H)(h:Y0 T u w hs=true)(r1:RU A α u x)(r2:RU A α w y)(rx:RelV x v)(ry:RelV y z):
  ∃(a b:Addr) (i1:List Value),v=.ref a/\z=.ref b/\s.heap.IsList a i1.toArray/\s.heap.IsList b i1.toArray:=by
 unfold Y0 at h;split at h
 ·rename_i xs ys e1 e2;rw[Xe]at h;obtain⟨h0,h⟩:=h;have h0:=Wt h0;subst h0;obtain⟨a,vs,rfl,rr,sq⟩:=Zm tx R e1 r1;obtain⟨b,ws,rfl,rr',sq'⟩:=Zm tx R e2 r2;obtain⟨i1,q1,p1,_⟩:=I.list sq;obtain⟨i2,q2,p2,_⟩:=I.list sq';cases rx;cases ry;cases Qc5 h rr rr' q1 q2;exact⟨a,b,i1,rfl,rfl,p1.isList,p2.isList⟩
 ·cases h
def QkX(tx:Txt T A X.K X.mg)(hu:X.A.units+64<cLine):OpR X (compareOp .Eq) (Qks T A X.K true):=by
 intro pins s Y H x y v u Q I rx ry h;obtain⟨α,u1,w1,hs,r1,r2,R,o1,q⟩:=h;obtain⟨a,b,i1,rfl,rfl,p1,p2⟩:=QbW tx I R o1 r1 r2 rx ry
 have rc:=SeqAt.RcAt.lists (A:=X.A) (e:=λz=>true) p1 p2 rfl (by omega) λj h1 h2=>SeqAt.EqAt.same _
 have al:(List.range i1.toArray.size).all (λz=>true)=true:=by simp
 rw[al]at rc;exact rc _ _ _ _ ⟨.bl _,H,I,rfl,q⟩
def QkS(tx:Txt T A X.K X.mg)(hu:X.A.units+64<cLine):OpR X (compareOp .NotEq) (Qks T A X.K false):=by
 intro pins s Y H x y v u Q I rx ry h;obtain⟨α,u1,w1,hs,r1,r2,R,o1,q⟩:=h;obtain⟨a,b,i1,rfl,rfl,p1,p2⟩:=QbW tx I R o1 r1 r2 rx ry
 have rc:=SeqAt.RcNeAt.lists (A:=X.A) (e:=λz=>true) p1 p2 rfl (by omega) λj h1 h2=>SeqAt.EqAt.same _
 have al:(!(List.range i1.toArray.size).all (λz=>true))=false:=by simp
 rw[al]at rc;exact rc _ _ _ _ ⟨.bl _,H,I,rfl,q⟩
def QkU(tx:Txt T A X.K X.mg)(hu:X.A.units+64<cLine):OpR X (compareOp .NotEq) (QoX T A X.K true):=by
 intro pins s Y H x y v u Q I rx ry h;obtain⟨α,u1,w1,hs,r1,r2,R,o1,o2,q⟩:=h;obtain⟨as,ra⟩:=ZC tx I R 20 o1 r1 rx;obtain⟨bs,rb⟩:=ZC tx I R 20 o2 r2 ry
 refine ne_dataH ra rb (Z2 (Yx 20 o1) (by decide)) (Z2 (Yx 20 o2) (by decide)) hu ?_
 rw[Qcg 20 o1 o2];exact⟨.bl _,H,I,rfl,q⟩
end
end
section
section
variable {κ κ':Type}[DecidableEq κ][DecidableEq κ']{P:κ->κ'->Prop}{A:Adr}{α:List Addr}
abbrev RG(P:κ->κ'->Prop)(A:Adr)(α:List Addr):List (κ×U)->List (κ'×V)->Prop:=Paired λp q=>P p.1 q.1/\RU A α p.2 q.2
end
section
variable {X:Cx}{A:Adr}{hs:Hs}{H:Hp}{o:O}{y:V}
def Qnm:R2:=λz z z z=>False
def QiK(hu:X.A.units+1<cLine):IxR X Qnm:=by
 intro value slice pins s Y H x y v u Q I rx ry h hs;exact h.elim
def Qnl:V->V->V->Hp->(Hp->Prop)->Prop:=λz z z z z=>False
def Qfh(hu:X.A.units+1<cLine):Qju X Qnl:=by
 intro pins s Y H o i v ov iv u Q I ro ri rv h;exact h.elim
def Qj9{t t':QmC}(h:Qju X t)(h':Qju X t'):Qju X (λo i v H Q=>t o i v H Q\/t' o i v H Q):=λpins s Y H o i v ov iv u Q I ro ri rv q=>q.elim (h pins s Y H o i v ov iv u Q I ro ri rv) (h' pins s Y H o i v ov iv u Q I ro ri rv)
end
end
section
variable {c:Bool}{H:Hp}{i:Int}{α:List Addr}{us:List U}{vs:List V}{u w x:U}{v y:V}{Q:VK}
section
variable {X:Cx}{T:Tbl}{A:Adr}
def Qn6{j:Int}:decide (V.int i=V.int j)=decide (i=j):=by
 by_cases e:i=j
 ·subst e;simp
 ·have:¬V.int i=V.int j:=λq=>e (V.int.inj q);rw[X6 this,X6 e]
def Qn5{x y:List Nat}:decide (V.str ⟨x.toArray⟩=V.str ⟨y.toArray⟩)=decide (x=y):=by
 by_cases e:x=y
 ·subst e;simp
 ·have:¬V.str ⟨x.toArray⟩=V.str ⟨y.toArray⟩:=λq=>e (by
   have q1:=V.str.inj q;have q2:=congrArg (λs:Str=>s.cps.toList) q1
   simpa using q2)
  rw[X6 this,X6 e]
def Qn7{x y:Bool}:decide (V.bl x=V.bl y)=decide (x=y):=by cases x<;>cases y<;>rfl
def Qg7(h:eqS u w=some c)(ru:RU A α u v)(rw':RU A α w y):Qna v y=true/\decide (v=y)=c:=by
 cases u with
 |non=>
  cases(show v=_ from ru)
  cases w with
  |non=>cases(show y=_ from rw');cases h;exact⟨rfl,rfl⟩
  |bl b=>cases(show y=_ from rw');cases h;exact⟨rfl,rfl⟩
  |int j n=>obtain⟨_,rfl,_⟩:=rw';cases h;exact⟨rfl,rfl⟩
  |str x=>cases(show y=_ from rw');cases h;exact⟨rfl,rfl⟩
  |_=>exact Znn h
 |bl b=>
  cases(show v=_ from ru)
  cases w with
  |non=>cases(show y=_ from rw');cases h;exact⟨rfl,rfl⟩
  |bl b=>cases(show y=_ from rw');cases h;exact⟨rfl,Qn7⟩
  |str x=>cases(show y=_ from rw');cases h;exact⟨rfl,rfl⟩
  |_=>exact Znn h
 |str x=>
  cases(show v=_ from ru)
  cases w with
  |non=>cases(show y=_ from rw');cases h;exact⟨rfl,rfl⟩
  |bl b=>cases(show y=_ from rw');cases h;exact⟨rfl,rfl⟩
  |int j n=>obtain⟨_,rfl,_⟩:=rw';cases h;exact⟨rfl,rfl⟩
  |str z=>cases(show y=_ from rw');cases h;exact⟨rfl,Qn5⟩
  |_=>exact Znn h
 |int i m=>
  obtain⟨i',rfl,a⟩:=ru
  cases w with
  |non=>cases(show y=_ from rw');cases m<;>cases h<;>exact⟨rfl,rfl⟩
  |str x=>cases(show y=_ from rw');cases m<;>cases h<;>exact⟨rfl,rfl⟩
  |int j n=>
   obtain⟨j',rfl,b⟩:=rw'
   cases m with
   |succ m=>exact Znn h
   |zero=>
    cases n with
    |succ n=>exact Znn h
    |zero=>cases a.exact;cases b.exact;cases h;exact⟨rfl,Qn6⟩
  |_=>cases m<;>exact Znn h
 |_=>cases w<;>exact Znn h
def Qbw(h:Qbx x=true)(r:RU A α x v):Jw v=true:=by
 cases x with
 |non=>cases(show v=_ from r);rfl
 |int i m=>obtain⟨_,rfl,_⟩:=r;rfl
 |str z=>cases(show v=_ from r);rfl
 |bl b=>cases(show v=_ from r);rfl
 |_=>cases h
def QlK{y:U}{w:V}(hx:Qbx x=true)(hy:Qbx y=true)(rx:RU A α x v)(ry:RU A α y w):eqV w v=eqF y x:=by
 cases y with
 |non=>
  cases(show w=_ from ry)
  cases x with
  |non=>cases(show v=_ from rx);rfl
  |int i m=>obtain⟨_,rfl,_⟩:=rx;rfl
  |str z=>cases(show v=_ from rx);rfl
  |bl b=>cases(show v=_ from rx);rfl
  |_=>cases hx
 |bl c=>
  cases(show w=_ from ry)
  cases x with
  |non=>cases(show v=_ from rx);rfl
  |str z=>cases(show v=_ from rx);rfl
  |bl b=>cases(show v=_ from rx);rfl
  |int i m=>
   obtain⟨i',rfl,a⟩:=rx
   cases m with
   |succ m=>cases hx
   |zero=>cases a.exact;rfl
  |_=>cases hx
 |str z=>
  cases(show w=_ from ry)
  cases x with
  |non=>cases(show v=_ from rx);rfl
  |int i m=>obtain⟨_,rfl,_⟩:=rx;rfl
  |str z'=>
   cases(show v=_ from rx);show(({cps:=z.toArray}:Str)=={cps:=z'.toArray})=decide (z=z');by_cases e:z=z'
   ·subst e;simp
   ·rw[X6 e,Wq];intro q;have q2:=congrArg (λs:Str=>s.cps.toList) q
    exact e (by simpa using q2)
  |bl b=>cases(show v=_ from rx);rfl
  |_=>cases hx
 |int j n=>
  obtain⟨j',rfl,b⟩:=ry
  cases n with
  |succ n=>cases hy
  |zero=>
   cases b.exact
   cases x with
   |non=>cases(show v=_ from rx);rfl
   |str z=>cases(show v=_ from rx);rfl
   |bl b=>cases(show v=_ from rx);rfl
   |int i m=>
    obtain⟨i',rfl,a⟩:=rx
    cases m with
    |succ m=>cases hx
    |zero=>
     cases a.exact;show(j==i)=decide (j=i);by_cases e:j=i<;>simp[e]
   |_=>cases hx
 |_=>cases hy
theorem Qd4{α:List Addr}{x:U}{v:V}(hx:Qbx x=true)(rx:RU A α x v):∀{ys:List U} {ws:List V},RUs A α ys ws->ys.all Qbx=true->ws.all Jw=true/\inV v ws=ys.any λy=>eqF y x
 |_,_,.nil,_=>⟨rfl,rfl⟩
 |_,_,.cons (a:=y) (b:=w) r t,h=>by
  rw[V5,Xe]at h;obtain⟨h1,h2⟩:=Qd4 hx rx t h.2
  refine⟨by rw[V5,h1,Qbw h.1 r];rfl,?_⟩
  show(eqV w v||inV v _)=(eqF y x||_);rw[h2,QlK hx h.1 rx r]
def Qhw{vs:List (Key×Value)}{y:U}{yv:V}(ky:Qmq y=true)(ry:RU A α y yv):∀{kvs:List (U×U)},Paired (λ(p:U×U) (q:Key×Value)=>QfT p.1 q.1/\∃v,RU A [] p.2 v/\RelV v q.2) kvs vs ->
  ∃key,yv=kV key/\(valueAt vs key).isSome=(Qbm kvs y).isSome:=by
 obtain⟨key,hy,hk⟩:∃key,yv=kV key/\QfT y key:=by
  cases y with
  |int i m=>
   cases m with
   |zero=>obtain⟨j,rfl,c⟩:=ry;cases c.exact;exact⟨.inl i,rfl,rfl⟩
   |succ m=>cases ky
  |str z=>cases(show yv=_ from ry);exact⟨.inr ⟨z.toArray⟩,rfl,rfl⟩
  |_=>cases ky
 have inj:∀{p:U} {q:Key},QfT p q->(p=y↔q=key):=by
  intro p q hp
  cases y with
  |int i m=>
   cases m with
   |succ m=>cases ky
   |zero=>
    cases(show key=_ from hk)
    cases p with
    |int j n=>
     cases n with
     |succ n=>exact(show False from hp).elim
     |zero=>cases(show q=_ from hp);exact⟨λe=>(by cases e;rfl),λe=>(by cases e;rfl)⟩
    |str z=>cases(show q=_ from hp);exact⟨λe=>(by cases e),λe=>(by cases e)⟩
    |_=>exact(show False from hp).elim
  |str z=>
   cases(show key=_ from hk)
   cases p with
   |int j n=>
    cases n with
    |succ n=>exact(show False from hp).elim
    |zero=>cases(show q=_ from hp);exact⟨λe=>(by cases e),λe=>(by cases e)⟩
   |str z'=>
    cases(show q=_ from hp)
    refine⟨λe=>(by cases e;rfl),λe=>?_⟩
    have e1:=Sum.inr.inj e;have e2:=congrArg (λs:Str=>s.cps.toList) e1
    have e3:z'=z:=by simpa using e2
    rw[e3]
   |_=>exact(show False from hp).elim
  |_=>cases ky
 intro kvs r;refine⟨key,hy,?_⟩
 induction r with
 |nil=>rfl
 | @cons p q ps qs hpq t ih=>
  obtain⟨pk,pv⟩:=p;obtain⟨qk,qv⟩:=q;obtain⟨h1,v,h2,h3⟩:=hpq;simp only[Qbm];by_cases e:pk=y
  ·have e2:qk=key:=(inj h1).mp e;rw[if_pos e];simp[valueAt,e2]
  ·have e2:¬qk=key:=λz=>e ((inj h1).mpr z);rw[if_neg e,<-ih];simp only[valueAt,List.find?_cons];rw[X6 e2]
def Qnj(P:Program)(w:World)(K:W.Frag)(neg:Bool):R2:=λx y H Q=>∃a vs key,y=.ref a/\(a==sysModules)=false/\x=kV key/\(∀h:Heap,K.In h->h.DictOf (ZD P w) a vs)/\Q (.bl (if neg then !(valueAt vs key).isSome else(valueAt vs key).isSome)) H
def QdG:OpR X (compareOp .In) (Qnj X.prog X.w X.K false):=by
 intro pins s Y H x y v u Q I rx ry h;obtain⟨a,vs,key,rfl,ns,rfl,hd,q⟩:=h;cases ry;exact wpAny_in_of (QiJ rx) ns (hd s.heap I.kIn).mapOf ⟨.bl _,H,I.tok _,rfl,q⟩
def QaE:OpR X (compareOp .NotIn) (Qnj X.prog X.w X.K true):=by
 intro pins s Y H x y v u Q I rx ry h;obtain⟨a,vs,key,rfl,ns,rfl,hd,q⟩:=h;cases ry;exact wpAny_notIn_of (QiJ rx) ns (hd s.heap I.kIn).mapOf ⟨.bl _,H,I.tok _,rfl,q⟩
def QkR{f:Value->Value->Sem Value}{r r':R2}(h:OpR X f r)(h':OpR X f r'):OpR X f (λx y H Q=>r x y H Q\/r' x y H Q):=λpins s Y H x y v u Q I rx ry q=>q.elim (h pins s Y H x y v u Q I rx ry) (h' pins s Y H x y v u Q I rx ry)
def Qdd{neg:Bool}(tab:Jx X.prog X.w T A X.K)(h:Qme T w u=some c)(ru:RU A α u v)(rw':RU A α w y)(q:Q (.bl (if neg then !c else c)) H):Qnj X.prog X.w X.K neg v y H Q:=by
 unfold Qme at h;split at h
 case h_2=>cases h
 rename_i k;split at h
 case h_2=>cases h
 rename_i kvs ec;split at h
 case isFalse=>cases h
 rename_i ky;cases h;obtain⟨vs,ns,hd,hp⟩:=tab k kvs ec;obtain⟨key,ev,e⟩:=Qhw ky ru hp;cases(show y=_ from rw')
 exact⟨_,vs,key,rfl,ns,ev,hd,by rw[e];exact q⟩
def Qps(X:Cx)(T:Tbl)(A:Adr)(o:CmpOp):Prop:=∃r,OpR X (compareOp o) r/\∀{α:List Addr} {u w:U} {hs:Hs} {v y:V} {H:Hp} {Q:VK} {c:Bool},Zi T o u w hs=some c->RU A α u v->RU A α w y->Rep T A X.K α hs H->Q (.bl c) H->r v y H Q
def Qch{o:CmpOp}{p:Int->Int->Bool}(ho:OpR X (compareOp o) (rI0 λi j=>.bl (p i j)))(hc:∀u w hs,Zi T o u w hs=match u,w with|.int i 0,.int j 0=>some (p i j)|_,_=>none):Qps X T A o:=by
 refine⟨_,ho,?_⟩;intro α u w hs v y H Q c h ru rw' R q;rw[hc]at h;split at h
 ·cases h;obtain⟨i',rfl,a⟩:=ru;obtain⟨j',rfl,b⟩:=rw';cases a.exact;cases b.exact;exact⟨_,_,rfl,rfl,q⟩
 ·cases h
def Qp(r:RUs A α (u::us) vs):∃v ws,vs=v::ws/\RU A α u v/\RUs A α us ws:=by cases r with|cons a b=>exact⟨_,_,rfl,a,b⟩
def Qy(r:RUs A α [] vs):vs=[]:=by cases r;rfl
theorem Qah{α:List Addr}:∀{ys:List U} {ns:List Int} {vs:List V},Jv ys=some ns->RUs A α ys vs->vs=ns.map V.int
 |[],_,_,h,r=>by cases h;cases Qy r;rfl
 |u::ys,ns,vs,h,r=>by
  cases u with
  |int i m=>
   cases m with
   |succ m=>simp[Jv]at h
   |zero=>
    simp only[Jv,Xc]at h;obtain⟨ns',h,rfl⟩:=h;obtain⟨v,ws,rfl,ru,rn⟩:=Qp r;obtain⟨j,rfl,c⟩:=ru;cases c.exact;rw[Qah h rn];rfl
  |_=>simp[Jv]at h
def QkW:OpR X (compareOp .Is) (λx y H Q=>∃a b,x=.bl a/\y=.bl b/\Q (.bl (a==b)) H):=by
 intro pins s Y H x y v u Q I rx ry h;obtain⟨a,b,rfl,rfl,q⟩:=h;cases rx;cases ry
 exact wpAny_is_plain rfl ⟨.bl _,H,I,rfl,by cases a<;>cases b<;>exact q⟩
def Qin:OpR X (compareOp .IsNot) (λx y H Q=>∃a b,x=.bl a/\y=.bl b/\Q (.bl (!(a==b))) H):=by
 intro pins s Y H x y v u Q I rx ry h;obtain⟨a,b,rfl,rfl,q⟩:=h;cases rx;cases ry
 exact wpAny_isNot_plain rfl ⟨.bl _,H,I,rfl,by cases a<;>cases b<;>exact q⟩
def QgZ(h:isU u w=some c)(ru:RU A α u v)(rw':RU A α w y):(y=.non/\decide (v=.non)=c)\/∃a b,v=.bl a/\y=.bl b/\(a==b)=c:=by
 unfold isU at h;split at h
 ·cases h;refine .inl ⟨rw',?_⟩
  cases u with
  |non=>cases(show v=_ from ru);rfl
  |bl b=>cases(show v=_ from ru);rfl
  |int i m=>obtain⟨_,rfl,_⟩:=ru;rfl
  |str x=>cases(show v=_ from ru);rfl
  |ref n=>obtain⟨_,_,rfl⟩:=ru;rfl
  |con k=>cases(show v=_ from ru);rfl
  |scr=>cases(show v=_ from ru);rfl
 ·split at h
  ·cases h;exact .inr ⟨_,_,ru,rw',rfl⟩
  ·cases h
 ·cases h
def Qqy(tx:Txt T A X.K X.mg)(tab:Jx X.prog X.w T A X.K)(hu:X.A.units+64<cLine)(o:CmpOp):Qps X T A o:=by
 cases o with
 |Eq=>
  refine⟨_,OpR.or QnH (OpR.or (QkY tx hu) (OpR.or (QkX tx hu) (QkZ tx hu))),?_⟩;intro α u w hs v y H Q c h ru rw' R q;simp only[Zi,eqA]at h;split at h
  ·rename_i b e;cases h;obtain⟨h1,h2⟩:=Qg7 e ru rw'
   exact .inl ⟨h1,by rw[h2];exact q⟩
  ·split at h
   ·rename_i c;cases h;exact .inr (.inl ⟨α,u,w,hs,ru,rw',R,c,q⟩)
   ·split at h
    ·rename_i c;cases h;exact .inr (.inr (.inl ⟨α,u,w,hs,ru,rw',R,c,q⟩))
    ·split at h
     ·rename_i c;cases h;rw[Xe]at c;exact .inr (.inr (.inr ⟨α,u,w,hs,ru,rw',R,c.1,c.2,q⟩))
     ·cases h
 |NotEq=>
  refine⟨_,OpR.or QnC (OpR.or (QkT tx hu) (OpR.or (QkS tx hu) (QkU tx hu))),?_⟩;intro α u w hs v y H Q c h ru rw' R q;simp only[Zi,Xc,eqA]at h;obtain⟨d,h,e⟩:=h;split at h
  ·rename_i b eb;cases h;obtain⟨h1,h2⟩:=Qg7 eb ru rw'
   exact .inl ⟨h1,by rw[h2,e];exact q⟩
  ·split at h
   ·rename_i cc;cases h;refine .inr (.inl ⟨α,u,w,hs,ru,rw',R,cc,?_⟩);rw[show(true:Bool)=c from e];exact q
   ·split at h
    ·rename_i cc;cases h;refine .inr (.inr (.inl ⟨α,u,w,hs,ru,rw',R,cc,?_⟩));rw[show(false:Bool)=c from e];exact q
    ·split at h
     ·rename_i cc;cases h;rw[Xe]at cc;refine .inr (.inr (.inr ⟨α,u,w,hs,ru,rw',R,cc.1,cc.2,?_⟩));rw[if_pos rfl,e];exact q
     ·cases h
 |Lt=>exact Qch QnD λz z z=>rfl
 |LtE=>exact Qch QnE λz z z=>rfl
 |Gt=>exact Qch QnF λz z z=>rfl
 |GtE=>exact Qch QnG λz z z=>rfl
 |Is=>
  refine⟨_,OpR.or QgT QkW,?_⟩;intro α u w hs v y H Q c h ru rw' R q
  rcases QgZ h ru rw' with⟨h1,h2⟩|⟨a,b,h1,h2,h3⟩
  ·exact .inl ⟨h1,by rw[h2];exact q⟩
  ·exact .inr ⟨a,b,h1,h2,by rw[h3];exact q⟩
 |IsNot=>
  refine⟨_,OpR.or Qim Qin,?_⟩;intro α u w hs v y H Q c h ru rw' R q;simp only[Zi,Xc]at h;obtain⟨d,h,e⟩:=h
  rcases QgZ h ru rw' with⟨h1,h2⟩|⟨a,b,h1,h2,h3⟩
  ·exact .inl ⟨h1,by rw[h2,e];exact q⟩
  ·exact .inr ⟨a,b,h1,h2,by rw[h3,e];exact q⟩
 |In=>
  refine⟨_,QkR QdH QdG,?_⟩;intro α u w hs v y H Q c h ru rw' R q;simp only[Zi]at h;split at h
  ·rename_i xs e;obtain⟨a,vs,rfl,rr,sq⟩:=JZ (K':=X.K) tx R e rw';unfold inU at h;split at h
   ·rename_i f;cases h;rw[Xe]at f;obtain⟨h1,h2⟩:=Qd4 f.1 ru rr f.2
    exact .inl ⟨a,vs,rfl,sq,Qbw f.1 ru,h1,by rw[h2];exact q⟩
   ·cases h
  ·exact .inr (Qdd (neg:=false) tab h ru rw' q)
 |NotIn=>
  refine⟨_,QkR QaF QaE,?_⟩;intro α u w hs v y H Q c h ru rw' R q;simp only[Zi]at h;split at h
  ·rename_i xs e;obtain⟨a,vs,rfl,rr,sq⟩:=JZ (K':=X.K) tx R e rw';simp only[Xc]at h;obtain⟨d,h,e2⟩:=h;unfold inU at h;split at h
   ·rename_i f;cases h;rw[Xe]at f;obtain⟨h1,h2⟩:=Qd4 f.1 ru rr f.2
    exact .inl ⟨a,vs,rfl,sq,Qbw f.1 ru,h1,by rw[h2];simp only[Wg];rw[e2];exact q⟩
   ·cases h
  ·simp only[Xc]at h;obtain⟨d,h,e2⟩:=h
   have q':Q (.bl (if true=true then !d else d)) H:=by simp only[Wg];rw[e2];exact q
   exact .inr (Qdd (neg:=true) tab h ru rw' q')
def Ql2(r:RUs A α us vs)(h:atU us i=some u):∃v,atI vs i=some v/\RU A α u v:=by
 unfold atU at h;split at h
 ·rename_i j e;obtain⟨v,h1,h2⟩:=r.get h;refine⟨v,?_,h2⟩
  have e':ixN vs.length i=some j:=by rw[<-r.length];exact e
  unfold atI;rw[e'];exact h1
 ·cases h
def Qor{xs:List Nat}{c:Nat}(h:atU xs i=some c):atI xs i=some c:=by
 unfold atU at h;split at h
 ·rename_i j e;have e':ixN xs.length i=some j:=e;unfold atI;rw[e'];exact h
 ·cases h
def QhE{hs:Hs}(tx:Txt T A X.K X.mg)(h:Zj T u w hs=some x)(ru:RU A α u v)(rw':RU A α w y)(R:Rep T A X.K α hs H)(k:∀z,RU A α x z->Q z H):rIx X.K v y H Q\/Qnm v y H Q:=by
 have seq:∀{xs:List U} {i:Int},Yo T u hs=some xs->w=.int i 0->atU xs i=some x->rIx X.K v y H Q\/Qnm v y H Q:=λ{xs i} e1 e2 e3=>by
  subst e2;obtain⟨j,rfl,c⟩:=rw';cases c.exact;obtain⟨a,vs,rfl,rr,sq⟩:=JZ (K':=X.K) tx R e1 ru;obtain⟨z,h1,h2⟩:=Ql2 rr e3
  rcases sq with sq|sq
  ·exact .inl (.inl ⟨a,vs,i,z,rfl,rfl,sq,h1,k z h2⟩)
  ·exact .inl (.inr (.inl ⟨a,vs,i,z,rfl,rfl,sq,h1,k z h2⟩))
 cases u with
 |str z=>
  cases w with
  |int i m=>
   cases m with
   |succ m=>simp[Zj,Yo]at h
   |zero=>
    simp only[Zj]at h;split at h
    ·rename_i l;simp only[Xc]at h;obtain⟨c,e,rfl⟩:=h;cases(show v=_ from ru);obtain⟨j,rfl,q⟩:=rw';cases q.exact
     exact .inl (.inr (.inr ⟨_,i,c,rfl,rfl,by rw[Ys];exact X7 l big,by simpa using Qor e,k _ (by show _=_;rfl)⟩))
    ·cases h
  |_=>simp[Zj,Yo]at h
 |ref n=>
  simp only[Zj]at h;split at h
  ·rename_i xs i e
   exact seq (by simp only[Yo,e]) rfl h
  ·rename_i xs i e
   exact seq (by simp only[Yo,e]) rfl h
  ·cases h
 |con n=>
  cases w with
  |int i m=>
   cases m with
   |succ m=>simp[Zj]at h
   |zero=>
    simp only[Zj]at h;split at h
    ·rename_i xs e;exact seq e rfl h
    ·cases h
  |_=>simp[Zj]at h
 |scr=>
  cases w with
  |int i m=>
   cases m with
   |succ m=>simp[Zj]at h
   |zero=>
    simp only[Zj]at h;split at h
    ·rename_i xs e;exact seq e rfl h
    ·cases h
  |_=>simp[Zj]at h
 |_=>
  cases w with
  |int i m=>cases m<;>simp[Zj,Yo]at h
  |_=>simp[Zj]at h
theorem RUs.drop(n:Nat)(h:RUs A α us vs):RUs A α (us.drop n) (vs.drop n):=Y4 h n
theorem RUs.take(n:Nat)(h:RUs A α us vs):RUs A α (us.take n) (vs.take n):=Qbe h n
def YQ(n d:Nat)(o:Option Int):Z1 n d o=HT.sIx n d o:=by cases o<;>rfl
def RUs.cut(r:RUs A α us vs)(lo hi:Option Int):RUs A α (QaT us lo hi) (Qg9 vs lo hi):=by
 unfold QaT Qg9;rw[YQ,YQ,r.length];exact RUs.take _ (RUs.drop _ r)
def Qj8{hs hs':Hs}{lo hi:Option Int}(h:slU T u lo hi hs=some (x,hs'))(ru:RU A α u v)(R:Rep T A X.K α hs H)(k:∀α' z H',Ext α α' H H'->Rep T A X.K α' hs' H'->RU A α' x z->Q z H'):QoS X.K v lo hi H Q\/QoR X.K v lo hi H Q:=by
 cases u with
 |scr=>
  simp only[slU]at h;cases h;obtain⟨vs,rr,q⟩:=R.s.sq (α:=α);refine .inl ⟨_,vs,ru,q,λp hp=>?_⟩;obtain⟨R',E'⟩:=R.new (o:=.lst (QaT T.scr lo hi)) hp ⟨_,Qh,RUs.mono QP (rr.cut lo hi)⟩
  exact k _ _ _ E' R' ⟨p,by rw[<-R.h.len];exact Q8,rfl⟩
 |ref n=>
  simp only[slU]at h;split at h
  ·rename_i xs e;cases h;obtain⟨a,ha,rfl⟩:=ru;obtain⟨vs,q,rr⟩:=R.h.ob n a _ ha e;refine .inl ⟨_,vs,rfl,SqL.of q,λp hp=>?_⟩;obtain⟨R',E'⟩:=R.new (o:=.lst (QaT xs lo hi)) hp ⟨_,Qh,RUs.mono QP (rr.cut lo hi)⟩
   exact k _ _ _ E' R' ⟨p,by rw[<-R.h.len];exact Q8,rfl⟩
  ·rename_i xs e;split at h
   ·cases h
   rename_i hw;cases h;obtain⟨a,ha,rfl⟩:=ru;obtain⟨vs,q,rr⟩:=R.h.ob n a _ ha e;refine .inr ⟨_,vs,rfl,SqT.of q,?_,λp hp=>?_⟩
   ·rw[YQ,YQ,rr.length]at hw;exact hw
   obtain⟨R',E'⟩:=R.new (o:=.tup (QaT xs lo hi)) hp ⟨_,Qh,RUs.mono QP (rr.cut lo hi)⟩
   exact k _ _ _ E' R' ⟨p,by rw[<-R.h.len];exact Q8,rfl⟩
  ·cases h
 |_=>simp[slU]at h
end
end
section
variable {H:Hp}{hs:Hs}{α:List Addr}{k:Ty}{u:U}{v:V}
section
variable {X:Cx}{T:Tbl}{A:Adr}
def Yu{e:Expr}{t:TE}(h:∀Y H Q,¬t Y H Q):PE X e t:=λz z Y H Q z q=>(h Y H Q q).elim
def QnQ(K:W.Frag){t:Ty}{b:Bool}(h:QnU k t=some b)(A:Adr):W.kitOne K (tyW A k) (tyW A t)=some b:=by
 cases k<;>cases t<;>simp only[QnU]at h<;>first|(cases h;done)|(cases h;rfl)|(cases h;kernel_rfl)
def QiI(tx:Txt T A X.K X.mg)(h:Qbp u hs=some k)(r:RU A α u v)(R:Rep T A X.K α hs H):TyE X.K H v (tyW A k):=by
 cases u with
 |non=>cases h;cases(show v=_ from r);exact .inl .non
 |bl b=>cases h;cases(show v=_ from r);exact .inl (.bl b)
 |int i m=>cases h;obtain⟨j,rfl,_⟩:=r;exact .inl (.int j)
 |str x=>cases h;cases(show v=_ from r);exact .inl (.str _)
 |ref n=>
  obtain⟨a,ha,rfl⟩:=r;simp only[Qbp]at h;split at h
  ·rename_i xs e;cases h;obtain⟨vs,q,_⟩:=R.h.ob n a _ ha e;exact .inl (.lst q)
  ·rename_i xs e;cases h;obtain⟨vs,q,_⟩:=R.h.ob n a _ ha e;exact .inl (.tup q)
  ·rename_i c fs e;cases h;obtain⟨dx,fv,q,_,l⟩:=R.h.ob n a _ ha e;exact .inl ((tx.cl c _ (Xp l)).ty H a dx fv q)
  ·rename_i c w e;cases h;obtain⟨dd,q,l,_⟩:=R.h.ob n a _ ha e;exact .inr (.inl ⟨a,A.c c,dd,rfl,rfl,q,(tx.er c l).1⟩)
  ·cases h
 |_=>simp[Qbp]at h
def QfS(tx:Txt T A X.K X.mg)(h:Qbq T u hs=some k)(r:RU A α u v)(R:Rep T A X.K α hs H):TyE X.K H v (tyW A k):=by
 unfold Qbq at h;split at h
 ·rename_i n;split at h
  ·rename_i xs e;cases h;obtain⟨vs,_,q⟩:=tx.co n _ e;exact .inr (.inr ⟨_,vs,r,rfl,q H⟩)
  ·cases h
 ·exact QiI tx h r R
def Qlq{t:Ty}{b:Bool}(tx:Txt T A X.K X.mg)(h:JH T t u hs=some b)(r:RU A α u v)(R:Rep T A X.K α hs H):∃tv,TyE X.K H v tv/\W.kitOne X.K tv (tyW A t)=some b:=by
 unfold JH at h;split at h
 ·cases h
 ·rename_i k e;refine⟨tyW A k,QfS tx e r R,?_⟩;split at h
  ·rename_i b' e';cases h;exact QnQ X.K e' A
  ·exact tx.isi k t b h
def Qex:CallR X (.type "int") (λxs H Q=>((∃i,xs=[.int i]/\Q (.int i) H)\/∃k,xs=[.bl k]/\Q (.int (if k then 1 else 0)) H)\/∃x,xs=[.str x]/\NumText.AllDigits x.cps.toList/\x.cps.toList≠[]/\x.length<=640/\Q (.int ((NumText.digitsVal x.cps.toList:Nat): Int)) H):= by
 intro pins s Y H xs us Q I r h
 rcases h with h|h
 ·exact Qey pins s Y H xs us Q I r h
 ·exact Qam pins s Y H xs us Q I r h
def BiS(X:Cx)(T:Tbl)(A:Adr)(b:Bi)(f:Value):Prop:=∃r,CallR X f r/\∀{α:List Addr} {us:List U} {u':U} {hs hs':Hs} {vs:List V} {H:Hp} {Q:VK},biU T b us hs=some (u',hs')->RUs A α us vs->Rep T A X.K α hs H ->
 (∀α' v' H',Ext α α' H H'->Rep T A X.K α' hs' H'->RU A α' u' v'->Q v' H')->r vs H Q
def QlR{f:Value}:CallR X f (λz z z=>False):=λpins s Y H xs us Q I r h=>h.elim
def Qja(tx:Txt T A X.K X.mg):BiS X T A .len (.builtin "len"):=by
 refine⟨_,CallR.or (CallR.or QaW QaV) QlR,?_⟩;intro α us u' hs hs' vs H Q h r R k
 have seq:∀{u:U} {xs:List U},us=[u]->Yo T u hs=some xs->(u',hs')=(U.int xs.length 0,hs)->(∃p ys,vs=[V.ref p]/\(SqL X.K H p ys\/SqT X.K H p ys)/\Q (.int ys.length) H):=λ{u xs} e1 e2 e3=>by
  subst e1;cases e3;obtain⟨v,ws,rfl,ru,rn⟩:=Qp r;cases Qy rn;obtain⟨a,ys,rfl,rr,sq⟩:=JZ (K':=X.K) tx R e2 ru
  exact⟨a,ys,rfl,sq,k α _ H Ext.refl R ⟨_,rfl,by rw[rr.length];exact Cg.refl _ _⟩⟩
 cases us with
 |nil=>first|exact Znn h|simp[biU]at h
 |cons u t=>
  cases t with
  |cons _ _=>cases u<;>first|exact Znn h|simp[biU]at h
  |nil=>
   cases u with
   |str x=>
    unfold biU at h;try dsimp only at h;split at h
    ·rename_i l;cases h;obtain⟨v,ws,rfl,ru,rn⟩:=Qp r;cases Qy rn;cases(show v=_ from ru)
     refine .inl (.inr ⟨_,rfl,by rw[Ys];exact X7 l big,k α _ H Ext.refl R ⟨_,rfl,?_⟩⟩)
     rw[Ys];exact Cg.refl _ _
    ·cases h
   |ref n=>
    unfold biU at h;try dsimp only at h;split at h
    ·rename_i xs e;exact .inl (.inl (seq rfl e (Xw h).symm))
    ·cases h
   |con n=>
    unfold biU at h;try dsimp only at h;split at h
    ·rename_i xs e;exact .inl (.inl (seq rfl e (Xw h).symm))
    ·cases h
   |scr=>
    unfold biU at h;try dsimp only at h;split at h
    ·rename_i xs e;exact .inl (.inl (seq rfl e (Xw h).symm))
    ·cases h
   |_=>unfold biU at h;simp[Yo]at h
def Qjb:BiS X T A .int (.type "int"):=by
 refine⟨_,Qex,?_⟩;intro α us u' hs hs' vs H Q h r R k
 cases us with
 |nil=>first|exact Znn h|simp[biU]at h
 |cons u t=>
  cases t with
  |cons _ _=>cases u<;>first|exact Znn h|simp[biU]at h
  |nil=>
   obtain⟨v,ws,rfl,ru,rn⟩:=Qp r;cases Qy rn
   cases u with
   |int i m=>
    cases h;obtain⟨j,rfl,c⟩:=ru;exact .inl (.inl ⟨j,rfl,k α _ H Ext.refl R ⟨_,rfl,c⟩⟩)
   |bl b=>
    cases h;cases(show v=_ from ru);refine .inl (.inr ⟨b,rfl,k α _ H Ext.refl R ⟨_,rfl,?_⟩⟩);cases b<;>exact Cg.refl _ _
   |str x=>
    unfold biU at h;try dsimp only at h;split at h
    case isFalse=>cases h
    rename_i c;cases h;cases(show v=_ from ru);unfold Qpc at c;simp only[Xe,Xz,Xs,Vt,List.isEmpty_eq_false_iff]at c;obtain⟨⟨c1,c2⟩,c3⟩:=c
    exact .inr ⟨_,rfl,c1,c2,by rw[Ys];exact c3,k α _ H Ext.refl R ⟨_,rfl,Cg.refl _ _⟩⟩
   |_=>first|exact Znn h|simp[biU]at h
def QeH:BiS X T A .tuple (.type "tuple"):=by
 refine⟨_,Qal,?_⟩;intro α us u' hs hs' vs H Q h r R k
 cases us with
 |nil=>first|exact Znn h|simp[biU]at h
 |cons u t=>
  cases t with
  |cons _ _=>cases u<;>first|exact Znn h|simp[biU]at h
  |nil=>
   obtain⟨v,ws,rfl,ru,rn⟩:=Qp r;cases Qy rn
   cases u with
   |ref n=>
    obtain⟨a,ha,rfl⟩:=ru;unfold biU at h;try dsimp only at h;split at h
    ·rename_i xs e;cases h;obtain⟨ys,q,rr⟩:=R.h.ob n a _ ha e;refine⟨a,ys,rfl,.inl ⟨SqL.of q,λp hp=>?_⟩⟩;obtain⟨R',E'⟩:=R.new (o:=.tup xs) hp ⟨_,Qh,RUs.mono QP rr⟩
     exact k _ _ _ E' R' ⟨p,by rw[<-R.h.len];exact Q8,rfl⟩
    ·rename_i xs e;cases h;obtain⟨ys,q,rr⟩:=R.h.ob n a _ ha e;exact⟨a,ys,rfl,.inr ⟨SqT.of q,k α _ H Ext.refl R ⟨a,ha,rfl⟩⟩⟩
    ·cases h
   |_=>first|exact Znn h|simp[biU]at h
theorem QaZ{α:List Addr}:∀{ys:List U} {bs:List Bool} {vs:List V},Qa0 ys=some bs->RUs A α ys vs->vs=bs.map V.bl
 |[],_,_,h,r=>by cases h;cases Qy r;rfl
 |u::ys,bs,vs,h,r=>by
  cases u with
  |bl b=>
   simp only[Qa0,Xc]at h;obtain⟨bs',h,rfl⟩:=h;obtain⟨v,ws,rfl,ru,rn⟩:=Qp r;cases(show v=_ from ru);rw[QaZ h rn];rfl
  |_=>simp[Qa0]at h
def Qee{i:Int}(r:RU A α (.int i 0) v):v=.int i:=by
 obtain⟨j,rfl,c⟩:=r;cases c.exact;rfl
def Qjc(tx:Txt T A X.K X.mg)(hc:X.calm=true):BiS X T A .any (.builtin "any"):=by
 refine⟨_,Qez hc,?_⟩;intro α us u' hs hs' vs H Q h r R k;have h:biL T .any us hs=some (u',hs'):=h;unfold biL at h;split at h<;>try contradiction
 ·simp only[Xb,Xc]at h;obtain⟨xs,el,ns,en,h⟩:=h;cases h;obtain⟨v,ws,rfl,ru,rn⟩:=Qp r;cases Qy rn;obtain⟨a,vs,rfl,rr,sq⟩:=Zm tx R el ru;cases QaZ en rr;exact⟨a,ns,rfl,sq,k α _ H Ext.refl R rfl⟩
def CallR.or{f:Value}{r1 r2:List V->Hp->VK->Prop}(h1:CallR X f r1)(h2:CallR X f r2):CallR X f (λxs H Q=>r1 xs H Q\/r2 xs H Q):=by
 intro pins s Y H xs us Q I r h
 rcases h with h|h
 ·exact h1 pins s Y H xs us Q I r h
 ·exact h2 pins s Y H xs us Q I r h
def Qi9(tx:Txt T A X.K X.mg)(hc:X.calm=true):BiS X T A .max (.builtin "max"):=by
 refine⟨_,CallR.or (Qeu hc) (Qev hc),?_⟩;intro α us u' hs hs' vs H Q h r R k;have h:biL T .max us hs=some (u',hs'):=h;unfold biL at h;split at h<;>try contradiction
 ·simp only[Xb,Xc]at h;obtain⟨xs,el,ns,en,m,em,h⟩:=h;cases h;obtain⟨v,ws,rfl,ru,rn⟩:=Qp r;cases Qy rn;obtain⟨a,vs,rfl,rr,sq⟩:=Zm tx R el ru;cases Qah en rr;refine .inl ⟨a,ns,rfl,sq,?_,λM h1 h2=>?_⟩
  ·cases ns with
   |nil=>cases em
   |cons _ _=>exact Nat.succ_pos _
  ·cases QdT em h1 h2;exact k α _ H Ext.refl R ⟨_,rfl,Cg.refl _ _⟩
 ·refine .inr ?_;cases h;obtain⟨v,ws,rfl,ru,rn⟩:=Qp r;obtain⟨v2,ws,rfl,ru2,rn⟩:=Qp rn;cases Qy rn;cases Qee ru;cases Qee ru2;exact⟨_,_,rfl,k α _ H Ext.refl R ⟨_,rfl,Cg.refl _ _⟩⟩
def BmS(X:Cx)(T:Tbl)(A:Adr)(b:Bm)(id:String):Prop:=∃r,MtR X id r/\∀{α:List Addr} {o u':U} {us:List U} {hs hs':Hs} {x:V} {vs:List V} {H:Hp} {Q:VK},bmU T b o us hs=some (u',hs')->RU A α o x->RUs A α us vs->Rep T A X.K α hs H ->
 (∀α' v' H',Ext α α' H H'->Rep T A X.K α' hs' H'->RU A α' u' v'->Q v' H')->r x vs H Q
def QbE{b:Bm}{o u':U}{us:List U}{hs':Hs}(h:bmU T b o us hs=some (u',hs'))(hb:∀x,bmS T b x us hs=none)(hd:∀n kvs,bmD b n kvs us hs=none):∃n xs,o=.ref n/\hs[n]?=some (.lst xs):=by
 cases o with
 |ref n=>
  simp only[bmU]at h;split at h
  ·rename_i xs e;exact⟨n,xs,rfl,e⟩
  ·rw[hd]at h;cases h
  ·cases h
 |str x=>
  simp only[bmU]at h;rw[hb]at h;cases h
 |_=>simp[bmU]at h
def QcN:BmS X T A .append "list.append":=by
 refine⟨_,Y6,?_⟩;intro α o u' us hs hs' x vs H Q h ro r R k;obtain⟨n,xs,rfl,e⟩:=QbE h (λz=>rfl) (λz z=>rfl);obtain⟨a,ha,rfl⟩:=ro
 cases us with
 |nil=>simp[bmU,bmL,e]at h
 |cons u t=>
  cases t with
  |cons _ _=>simp[bmU,bmL,e]at h
  |nil=>
   simp only[bmU,bmL,e]at h;split at h
   ·rename_i l;cases h;obtain⟨v,ws,rfl,ru,rn⟩:=Qp r;cases Qy rn;obtain⟨ys,q,rr⟩:=R.h.ob n a _ ha e;refine⟨a,ys,v,rfl,rfl,q,?_,?_⟩
    ·rw[<-rr.length];exact Xr l big
    ·obtain⟨R',E'⟩:=R.put (o:=.lst (xs++[u])) ha ⟨_,Qh,rr.append (.cons ru .nil)⟩;exact k _ _ _ E' R' rfl
   ·cases h
def QeD:BmS X T A .clear "list.clear":=by
 refine⟨_,QfK,?_⟩;intro α o u' us hs hs' x vs H Q h ro r R k;obtain⟨n,xs,rfl,e⟩:=QbE h (λz=>rfl) (λz z=>rfl);obtain⟨a,ha,rfl⟩:=ro
 cases us with
 |cons u t=>simp[bmU,bmL,e]at h
 |nil=>
  simp only[bmU,bmL,e]at h;cases h;cases Qy r;obtain⟨ys,q,rr⟩:=R.h.ob n a _ ha e;refine⟨a,ys,rfl,rfl,q,?_⟩;obtain⟨R',E'⟩:=R.put (o:=.lst []) ha ⟨_,Qh,.nil⟩;exact k _ _ _ E' R' rfl
def QpY(T:Tbl)(A:Adr)(K:W.Frag):V->List V->Hp->VK->Prop:=λx vs H Q=>∃α hs a y xs ys w,x=.ref a/\vs=[y]/\H a=some (.lst ys)/\RUs A α xs ys/\RU A α w y/\Rep T A K α hs H/\(∀z∈xs,okW T 20 z hs=true)/\okW T 20 w hs=true/\Q (.int (xs.countP λz=>eqW T 20 z w hs:Nat)) H
theorem Qha{α:List Addr}{hs:Hs}{H:Hp}{pins:List (Addr×Obj)}{s:Shared}{Y:L2.St}{w:U}(tx:Txt T A X.K X.mg)(I:Inv X pins Y H s)(R:Rep T A X.K α hs H)(ow:okW T 20 w hs=true):∀{xs:List U} {ys:List V} {its:List Value},RUs A α xs ys->Vals ys its->(∀z∈xs,okW T 20 z hs=true) ->
  its.countP (λz=>PyData.eqv (SeqAt.readOf s.heap z) (toP T 20 w hs))=xs.countP (λz=>eqW T 20 z w hs)/\∀z∈its,∃u as,okW T 20 u hs=true/\Reads s.heap z (toP T 20 u hs) as
 |_,_,_,.nil,.nil,_=>⟨rfl,λt h=>nomatch h⟩
 |x::xs,y::ys,z::its,.cons r rr,.cons v vv,h=>by
  obtain⟨e,m⟩:=Qha tx I R ow rr vv λz hz=>h z (Xj _ hz);have ox:=h x Xm;obtain⟨as,ra⟩:=ZC tx I R 20 ox r v;refine⟨?_,λz' hz=>?_⟩
  ·rw[Tp,Tp,e,SeqAt.readOf_eq (Yx 20 ox).1 ra,Qcg 20 ox ow]
  ·rcases Xg.mp hz with rfl|hz
   ·exact⟨x,as,ox,ra⟩
   ·exact m z' hz
def QfJ(tx:Txt T A X.K X.mg)(hu:X.A.units+64<cLine):MtR X "list.count" (QpY T A X.K):=by
 intro pins s Y H x vs v us Q I rx rv h;obtain⟨α,hs,a,y,xs,ys,w,rfl,rfl,hH,rr,rw',R,ox,ow,q⟩:=h;cases rx;obtain⟨u,rfl,ru⟩:=rv.one;obtain⟨z,its,n,r,hl,e⟩:=I.lstM hH;obtain⟨bs,rb⟩:=ZC tx I R 20 ow rw' ru;obtain⟨ce,cm⟩:=Qha tx I R ow rr r ox;have lw:=Yx 20 ow;refine call_meets F.slot_list_count ⟨_,e,rfl⟩ F.entry_list_count (F.args_list_count_2 _ _) (SeqAt.list_countAt a its.toArray n none #[] u (λz=>PyData.eqv (SeqAt.readOf s.heap z) (toP T 20 w hs))) ⟨e,λz hz=>?_,?_⟩
 ·obtain⟨u',as,ou,ra⟩:=cm z (by simpa using hz)
  have lu:=Yx 20 ou;rw[SeqAt.readOf_eq lu.1 ra];refine SeqAt.eqAt_reads _ _ _ s z u as bs ra rb lu.1 lw.1 ?_;have h1:min (toP T 20 u' hs).depth (toP T 20 w hs).depth<=20:=X7 (Nat.min_le_left _ _) lu.2;have h2:X.A.in1.units=X.A.units+1:=rfl;omega
 ·rw[show its.toArray.toList=its from rfl,ce];exact⟨.int _,H,I.tok _,⟨_,rfl⟩,q⟩
def QeC(tx:Txt T A X.K X.mg)(hu:X.A.units+64<cLine):BmS X T A .count "list.count":=by
 refine⟨_,QfJ tx hu,?_⟩;intro α o u' us hs hs' x vs H Q h ro r R k;obtain⟨n,xs,rfl,e⟩:=QbE h (λz=>rfl) (λz z=>rfl);obtain⟨a,ha,rfl⟩:=ro
 cases us with
 |nil=>simp[bmU,bmL,e]at h
 |cons u t=>
  cases t with
  |cons _ _=>simp[bmU,bmL,e]at h
  |nil=>
   simp only[bmU,bmL,e]at h;split at h
   ·rename_i c;rw[Xe]at c;cases h;obtain⟨v,ws,rfl,ru,rn⟩:=Qp r;cases Qy rn;obtain⟨ys,q,rr⟩:=R.h.ob n a _ ha e;exact⟨α,hs,a,v,xs,ys,u,rfl,rfl,q,rr,ru,R,Xz.mp c.1,c.2,k α _ H Ext.refl R ⟨_,rfl,Cg.refl _ _⟩⟩
   ·cases h
def Qkt:V->List V->Hp->VK->Prop:=λx vs H Q=>∃y z i r,x=.str y/\vs=[.str z]/\Builtin.Str.occurrences y z 0 y.length 1=i::r/\Q (.int (i:Int)) H
def QfI:MtR X "str.index" Qkt:=by
 intro pins s Y H x vs v us Q I rx rv h;obtain⟨y,z,i,rest,rfl,rfl,ho,q⟩:=h;obtain⟨t,rfl⟩:=rx;obtain⟨u,rfl,ru⟩:=rv.one;obtain⟨u',rfl⟩:=ru;exact call_meets F.slot_str_index (typeIs_str _ _ _) F.entry_str_index (F.args_str_index_2 _ _) (gives_str_index y z t u' i rest ho).meets ⟨.int _,H,I.tok _,⟨_,rfl⟩,q⟩
def QeB:BmS X T A .index "str.index":=by
 refine⟨_,QfI,?_⟩;intro α o u' us hs hs' x vs H Q h ro r R k
 cases o with
 |ref n=>
  simp only[bmU]at h;split at h
  ·simp[bmL]at h
  ·simp[bmD]at h
  ·cases h
 |str z=>
  cases(show x=_ from ro)
  cases us with
  |nil=>simp[bmU,bmS]at h
  |cons u t=>
   cases t with
   |cons _ _=>cases u<;>simp[bmU,bmS]at h
   |nil=>
    cases u with
    |str y=>
     simp only[bmU,bmS]at h;split at h
     ·rename_i i rest e;cases h;obtain⟨v,ws,rfl,ru,rn⟩:=Qp r;cases Qy rn;cases(show v=_ from ru);exact⟨_,_,i,rest,rfl,rfl,e,k α _ H Ext.refl R ⟨_,rfl,Cg.refl _ _⟩⟩
     ·cases h
    |_=>simp[bmU,bmS]at h
 |_=>simp[bmU]at h
end
end
section
variable {ir:E}{a e:Expr}{d:Nat}{p:Pos}
def TIO(T:Tbl)(A:Adr)(K:W.Frag)(f:Rho->Hs->Option (Option Int×Hs)):TO:=λY H Q=>∃α ρ hs u hs',RS A α ρ Y/\Rep T A K α hs H/\f ρ hs=some (u,hs') /\
 ∀α' H',Ext α α' H H'->Rep T A K α' hs' H'->Q u H'
structure Fc(X:Cx)(T:Tbl)(A:Adr)(cf:Cf)(k:Nat):Prop where
 ok:∀f F,T.fns[f]?=some F->∃fd,FnOk X.prog X.w X.K X.mg X.base CX0 k (A.f f) fd F.ps (spC T A X.K cf f)/\Binds X.K fd F.ps []/\W.keepIn X.K (.ref (A.f f))=true
 some:∀f us hs r,cf f us hs=some r->∃F,T.fns[f]?=some F/\us.length=F.np
 df:∀i D F,T.dfl.lookup i=Option.some D->T.fns[i]?=Option.some F->∃fd,FnOk X.prog X.w X.K X.mg X.base CX0 k (A.f i) fd D.ps (spC T A X.K cf i)/\W.keepIn X.K (.ref (A.f i))=true/\Qjv A X.K fd D
 xf:∀f F,T.fns[f]?=Option.some F->∃fd,FnOk X.prog X.w X.K X.mg X.base (CXw X.prog X.w) k (A.f f) fd F.ps (spX T A X.K T.xf f)/\Binds X.K fd F.ps []/\W.keepIn X.K (.ref (A.f f))=true
 hk:∀f F,T.fns[f]?=Option.some F->T.hfs.contains f=true->∃fd,FnOkH X.prog X.w X.K X.mg X.base k (A.f f) fd F.ps (spC T A X.K cf f)/\Binds X.K fd F.ps []/\W.keepIn X.K (.ref (A.f f))=true
structure Snd(T:Tbl)(A:Adr)(C:Ctx)(X:Cx)(cf:Cf)(m:Nat):Prop where
 e:∀d e ir,Qe m C e=some ir->PE X e (TI T A X.K (ev T cf d ir))
 t:∀d e ir,compT m C e=some ir->PT X e (TIT T A X.K (evT T cf d ir))/\PE X e (TI T A X.K (ev T cf d ir))
 an:∀d a r p ir,compAnd m C a r p=some ir->PW X (.BoolOp .And (a::r) p) (TIT T A X.K (evT T cf d ir))/\PE X (.BoolOp .And (a::r) p) (TI T A X.K (ev T cf d ir))
 orr:∀d a r p ir,compOr m C a r p=some ir->PW X (.BoolOp .Or (a::r) p) (TIT T A X.K (evT T cf d ir))/\PE X (.BoolOp .Or (a::r) p) (TI T A X.K (ev T cf d ir))
 a:∀d es irs,compA m C es=some irs->PA X es (TIA T A X.K (λρ hs=>evs (ev T cf d) ρ irs hs))
 o:∀d e ir,compO m C e=some ir->PO X e (TIO T A X.K (λρ hs=>evO (ev T cf d) ρ ir hs))
section
variable {X:Cx}{T:Tbl}{A:Adr}{C:Ctx}{cf:Cf}{m:Nat}
def QbI{t:TT}(h:∀Y H Q,¬t Y H Q):PT X e t:=λz z Y H Q z q=>(h Y H Q q).elim
def Qjf{t:TT}(h:∀Y H Q,¬t Y H Q):PW X e t:=λz z z Y H Q z q=>(h Y H Q q).elim
def Qjh{e:List Expr}{t:TA}(h:∀Y H Q,¬t Y H Q):PA X e t:=λz z z Y H Q z q=>(h Y H Q q).elim
def QnM{K:W.Frag}:∀Y H Q,¬TI T A K (ev T cf 0 ir) Y H Q:=λz z z y=>by obtain⟨_,_,_,_,_,_,_,h,_⟩:=y;exact nomatch h
def QdO{K:W.Frag}:∀Y H Q,¬TIT T A K (evT T cf 0 ir) Y H Q:=λz z z y=>by obtain⟨_,_,_,_,_,_,_,h,_⟩:=y;exact nomatch h
def QE(h:∀d',PE X e (TI T A X.K (ev T cf (d'+1) ir))):PE X e (TI T A X.K (ev T cf d ir)):=by
 cases d with
 |zero=>exact Yu QnM
 |succ d=>exact h d
def QhT{c:Const}{k:Nat}(h:Qe (m+1) C (.Constant c k p)=some ir):PE X (.Constant c k p) (TI T A X.K (ev T cf d ir)):=by
 refine QE λd=>?_
 cases c with
 |int i=>cases h;exact QY QkK λY H Q z=>by obtain⟨α,ρ,hs,u,hs',rs,R,e,q⟩:=z;cases e;exact q α _ H Ext.refl R ⟨i,rfl,Cg.refl _ _⟩
 |bool b=>cases h;exact QY Qnz λY H Q y=>by obtain⟨α,ρ,hs,u,hs',rs,R,e,q⟩:=y;cases e;exact q α _ H Ext.refl R rfl
 |none=>cases h;exact QY QgQ λY H Q w=>by obtain⟨α,ρ,hs,u,hs',rs,R,e,q⟩:=w;cases e;exact q α _ H Ext.refl R rfl
 |str x=>cases h;exact QY QgO λY H Q v=>by obtain⟨α,ρ,hs,u,hs',rs,R,e,q⟩:=v;cases e;exact q α _ H Ext.refl R rfl
 |_=>first|exact Znn h|simp[Qe]at h
def Qkg{x:Str}(g:GX T A C X)(h:Qe (m+1) C (.Name x p)=some ir):PE X (.Name x p) (TI T A X.K (ev T cf d ir)):=by
 refine QE λd=>?_;simp only[cE4]at h;split at h
 ·cases h
 ·rename_i hn;have n1:(x==("__debug__":Str))=false:=QV λz=>hn (.inl z);have n2:(x==("__classdict__":Str))=false:=QV λz=>hn (.inr z);split at h
  ·rename_i hv;simp only[Xc]at h;obtain⟨i,hi,rfl⟩:=h
   refine QY (QdD (i:=i) (by rw[g.N];exact Q3 hi) (QjF g hv) n1 n2) ?_
   rintro Y H Q ⟨α,ρ,hs,u,hs',rs,R,e,q⟩;simp only[ev]at e;split at e
   ·rename_i w e';cases e;obtain⟨v,h1,h2⟩:=rs.get e';exact⟨v,h1,q α v H Ext.refl R h2⟩
   ·cases e
  ·split at h
   ·rename_i hg;split at h
    ·rename_i k hk;cases h;refine QY (Qbg (Q5 g hg) (g.gco x k hk) (v:=.ref (A.k k)) rfl n1) ?_;rintro Y H Q ⟨α,ρ,hs,u,hs',rs,R,e,q⟩;cases e;exact q α _ H Ext.refl R rfl
    ·rename_i t hk;cases h;obtain⟨v,w,hm,rv,ru⟩:=g.gtx x t hk;refine QY (Qbg (Q5 g hg) hm rv n1) ?_;rintro Y H Q ⟨α,ρ,hs,u,hs',rs,R,e,q⟩;simp only[ev]at e;cases e;exact q α _ H Ext.refl R (ru α)
    ·cases h
   ·cases h
def Qng{b:Expr}{o:Operator}(S:Snd T A C X cf m)(h:Qe (m+1) C (.BinOp a o b p)=some ir):PE X (.BinOp a o b p) (TI T A X.K (ev T cf d ir)):=by
 refine QE λd=>?_;simp only[cE5,Xb]at h;obtain⟨a',ha,b',hb,h⟩:=h;cases h;obtain⟨r,ho,hr⟩:=opS (X:=X) (T:=T) (A:=A) o;refine QY (Qnw ho (S.e d a a' ha) (S.e d b b' hb)) ?_;rintro Y H Q ⟨α,ρ,hs,u,hs',rs,R,e,q⟩;simp only[ev]at e;obtain⟨u1,h1,e1,e⟩:=Qb e;obtain⟨u2,h2,e2,e⟩:=Qb e;refine TI.run rs R e1 λα1 x H1 E1 R1 r1 rs1=>?_;refine TI.run rs1 R1 e2 λα2 y H2 E2 R2 r2 rs2=>?_;exact hr e (r1.mono E2.pre) r2 R2 λα3 v H3 E3 R3 r3=>q α3 v H3 ((E1.trans E2 R2.h).trans E3 R3.h) R3 r3
def Qne(S:Snd T A C X cf m)(h:Qe (m+1) C (.UnaryOp .USub a p)=some ir):PE X (.UnaryOp .USub a p) (TI T A X.K (ev T cf d ir)):=by
 refine QE λd=>?_;simp only[cE6,Xb]at h;obtain⟨a',ha,h⟩:=h;cases h;refine QY (Qnu QjN (S.e d a a' ha)) ?_;rintro Y H Q ⟨α,ρ,hs,u,hs',rs,R,e,q⟩;simp only[ev]at e;obtain⟨u1,h1,e1,e⟩:=Qb e;refine TI.run rs R e1 λα1 x H1 E1 R1 r1 rs1=>?_;split at e
 ·cases e;obtain⟨i,rfl,c⟩:=r1;exact⟨i,rfl,q α1 _ H1 E1 R1 ⟨_,rfl,Qhb c⟩⟩
 ·cases e
def Qkf(tx:Txt T A X.K X.mg)(S:Snd T A C X cf m)(h:Qe (m+1) C (.UnaryOp .Not a p)=some ir):PE X (.UnaryOp .Not a p) (TI T A X.K (ev T cf d ir))/\PT X (.UnaryOp .Not a p) (TIT T A X.K (evT T cf d ir)):=by
 simp only[cE7,Xb]at h;obtain⟨a',ha,h⟩:=h;cases h;constructor
 ·refine QE λd=>?_;intro pins s Y H Q I hw;obtain⟨α,ρ,hs,u,hs',rs,R,e,q⟩:=hw;simp only[ev]at e;obtain⟨u1,h1,e1,e⟩:=Qb e;simp only[Xc]at e;obtain⟨c,e2,e⟩:=e;cases e;refine UnaryOp_ (thn ((S.t d a a' ha).2 pins s Y H (λv H'=>QmA X.K v H' c/\Q (.bl (!c)) H') I ⟨α,ρ,hs,u1,_,rs,R,e1,λα' v H' E' R' r'=>⟨Qdc tx R' e2 r',q α' _ H' E' R' rfl⟩⟩) λv s1 z=>?_);obtain⟨x,H1,I1,r1,q1,q2⟩:=z
  exact not_of (thn (Qgy pins s1 Y H1 x v (λb H'=>b=c/\H'=H1) I1 r1 ⟨c,q1,rfl,rfl⟩) λb s2 y=>by obtain⟨H2,I2,eb,eH⟩:=y;exact⟨.bl (!c),H2,I2,by rw[eb];rfl,by rw[eH];exact q2⟩)
 ·cases d with
  |zero=>exact QbI QdO
  |succ d=>
   refine Qjg (QkB (S.t d a a' ha).1) ?_;rintro Y H Q ⟨α,ρ,hs,u,hs',rs,R,e,q⟩;simp only[evT]at e;obtain⟨c,h1,e1,e⟩:=Qb e;cases e;exact TIT.run rs R e1 λα1 H1 E1 R1 rs1=>q α1 H1 E1 R1
end
end
section
variable {ir:E}{a e:Expr}{d:Nat}{p:Pos}
section
variable {X:Cx}{T:Tbl}{A:Adr}{C:Ctx}{cf:Cf}{m:Nat}
def Qb1(h:∀d',PT X e (TIT T A X.K (evT T cf (d'+1) ir))):PT X e (TIT T A X.K (evT T cf d ir)):=by
 cases d with
 |zero=>exact QbI QdO
 |succ d=>exact h d
def Qb0(h:∀d',PW X e (TIT T A X.K (evT T cf (d'+1) ir))):PW X e (TIT T A X.K (evT T cf d ir)):=by
 cases d with
 |zero=>exact Qjf QdO
 |succ d=>exact h d
def Qkn(S:Snd T A C X cf m)(d:Nat)(a:Expr)(r:List Expr)(p:Pos)(ir:E)(h:compAnd (m+1) C a r p=some ir):
  PW X (.BoolOp .And (a::r) p) (TIT T A X.K (evT T cf d ir))/\PE X (.BoolOp .And (a::r) p) (TI T A X.K (ev T cf d ir)):=by
 cases r with
 |nil=>exact⟨Qh0 (S.t d a ir h).1,QgP (S.t d a ir h).2⟩
 |cons b r=>
  simp only[compAnd,Xb]at h;obtain⟨a',ha,b',hb,h⟩:=h;cases h;constructor
  ·refine Qb0 λd=>?_;refine Ql6 (Qky (S.t d a a' ha).1 (S.an d b r p b' hb).1) ?_;rintro Y H Q ⟨α,ρ,hs,u,hs',rs,R,e,q⟩;simp only[evT]at e;obtain⟨c,h1,e1,e⟩:=Qb e;refine TIT.run rs R e1 λα1 H1 E1 R1 rs1=>?_
   cases c with
   |true=>exact TIT.run rs1 R1 e λα2 H2 E2 R2 rs2=>q α2 H2 (E1.trans E2 R2.h) R2
   |false=>cases e;exact q α1 H1 E1 R1
  ·refine QE λd=>?_;refine QY (QkN (S.t d a a' ha).2 (S.an d b r p b' hb).2) ?_;rintro Y H Q ⟨α,ρ,hs,u,hs',rs,R,e,q⟩;simp only[ev]at e;obtain⟨u1,h1,e1,e⟩:=Qb e;refine TI.run rs R e1 λα1 x H1 E1 R1 r1 rs1=>?_;split at e
   ·cases(show x=_ from r1);exact⟨true,rfl,TI.run rs1 R1 e λα2 v H2 E2 R2 r2 rs2=>q α2 v H2 (E1.trans E2 R2.h) R2 r2⟩
   ·cases(show x=_ from r1);cases e;exact⟨false,rfl,q α1 _ H1 E1 R1 rfl⟩
   ·cases e
def QoP(S:Snd T A C X cf m)(d:Nat)(a:Expr)(r:List Expr)(p:Pos)(ir:E)(h:compOr (m+1) C a r p=some ir):
  PW X (.BoolOp .Or (a::r) p) (TIT T A X.K (evT T cf d ir))/\PE X (.BoolOp .Or (a::r) p) (TI T A X.K (ev T cf d ir)):=by
 cases r with
 |nil=>exact⟨Qkx (S.t d a ir h).1,QgP (S.t d a ir h).2⟩
 |cons b r=>
  simp only[compOr,Xb]at h;obtain⟨a',ha,b',hb,h⟩:=h;cases h;constructor
  ·refine Qb0 λd=>?_;refine Ql6 (Qnp (S.t d a a' ha).1 (S.orr d b r p b' hb).1) ?_;rintro Y H Q ⟨α,ρ,hs,u,hs',rs,R,e,q⟩;simp only[evT]at e;obtain⟨c,h1,e1,e⟩:=Qb e;refine TIT.run rs R e1 λα1 H1 E1 R1 rs1=>?_
   cases c with
   |false=>exact TIT.run rs1 R1 e λα2 H2 E2 R2 rs2=>q α2 H2 (E1.trans E2 R2.h) R2
   |true=>cases e;exact q α1 H1 E1 R1
  ·refine QE λd=>?_;refine QY (Qnv (S.t d a a' ha).2 (S.orr d b r p b' hb).2) ?_;rintro Y H Q ⟨α,ρ,hs,u,hs',rs,R,e,q⟩;simp only[ev]at e;obtain⟨u1,h1,e1,e⟩:=Qb e;refine TI.run rs R e1 λα1 x H1 E1 R1 r1 rs1=>?_;split at e
   ·cases(show x=_ from r1);cases e;exact⟨true,rfl,q α1 _ H1 E1 R1 rfl⟩
   ·cases(show x=_ from r1);exact⟨false,rfl,TI.run rs1 R1 e λα2 v H2 E2 R2 r2 rs2=>q α2 v H2 (E1.trans E2 R2.h) R2 r2⟩
   ·cases e
def Qk4{b:Expr}{b':E}{o:CmpOp}(h:Qe m C b=some b'):behindInMarks o b=false:=by
 cases b<;>first|rfl|skip
 cases m<;>first|exact Znn h|simp[Qe]at h
def Qkl{b:Expr}{o:CmpOp}(tx:Txt T A X.K X.mg)(tab:Jx X.prog X.w T A X.K)(hu:X.A.units+64<cLine)(S:Snd T A C X cf m)(h:Qe (m+1) C (.Compare a [o] [b] p)=some ir):
  PE X (.Compare a [o] [b] p) (TI T A X.K (ev T cf d ir))/\PT X (.Compare a [o] [b] p) (TIT T A X.K (evT T cf d ir)):=by
 simp only[QqX,Xb]at h;obtain⟨a',ha,b',hb,h⟩:=h;cases h;obtain⟨r,ho,hr⟩:=Qqy (X:=X) (T:=T) (A:=A) tx tab hu o
 have key:∀(d:Nat) (Y:St) (H:Hp) (Q:VK) (α:List Addr) (ρ:Rho) (hs hs':Hs) (u:U),RS A α ρ Y->Rep T A X.K α hs H->ev T cf (d+1) (.cmp o a' b') ρ hs=some (u,hs') ->
   (∀α' c H',u=.bl c->Ext α α' H H'->Rep T A X.K α' hs' H'->Q (.bl c) H')->tOp r (TI T A X.K (ev T cf d a')) (TI T A X.K (ev T cf d b')) Y H Q:=by
  intro d Y H Q α ρ hs hs' u rs R e q;simp only[ev]at e;obtain⟨u1,h1,e1,e⟩:=Qb e;obtain⟨u2,h2,e2,e⟩:=Qb e;simp only[Xc]at e;obtain⟨c,e3,e⟩:=e;cases e;refine TI.run rs R e1 λα1 x H1 E1 R1 r1 rs1=>?_;refine TI.run rs1 R1 e2 λα2 y H2 E2 R2 r2 rs2=>?_;exact hr e3 (r1.mono E2.pre) r2 R2 (q α2 c H2 rfl (E1.trans E2 R2.h) R2)
 constructor
 ·refine QE λd=>?_;refine QY (Qih ho (S.e d a a' ha) (S.e d b b' hb) (Qk4 hb)) ?_;rintro Y H Q ⟨α,ρ,hs,u,hs',rs,R,e,q⟩
  exact key d Y H Q α ρ hs hs' u rs R e λα' c H' eu E' R'=>q α' _ H' E' R' (by rw[eu];rfl)
 ·refine Qb1 λd=>?_
  cases d with
  |zero=>exact QbI λz z z v=>by obtain⟨_,_,_,_,_,_,_,h,_⟩:=v;simp[evT,ev,bd]at h
  |succ d=>
   refine Qjg (Qds ho (S.e d a a' ha) (S.e d b b' hb) (Qk4 hb)) ?_;rintro Y H Q ⟨α,ρ,hs,u,hs',rs,R,e,q⟩;simp only[evT]at e;obtain⟨u1,h1,e1,e⟩:=Qb e;simp only[Xc]at e;obtain⟨c,e3,e⟩:=e;cases e;refine key d Y H _ α ρ hs _ u1 rs R e1 λα' c' H' eu E' R'=>⟨c',rfl,?_⟩;rw[eu]at e3;cases e3;exact q α' H' E' R'
def QhR{t b:Expr}(S:Snd T A C X cf m)(h:Qe (m+1) C (.IfExp t a b p)=some ir):PE X (.IfExp t a b p) (TI T A X.K (ev T cf d ir)):=by
 refine QE λd=>?_;simp only[QqW,Xb]at h;obtain⟨t',ht,a',ha,b',hb,h⟩:=h;cases h;refine QY (Qb3 (S.t d t t' ht).1 (S.e d a a' ha) (S.e d b b' hb)) ?_;rintro Y H Q ⟨α,ρ,hs,u,hs',rs,R,e,q⟩;simp only[ev]at e;obtain⟨c,h1,e1,e⟩:=Qb e;refine TIT.run rs R e1 λα1 H1 E1 R1 rs1=>?_
 cases c with
 |true=>exact TI.run rs1 R1 e λα2 v H2 E2 R2 r2 rs2=>q α2 v H2 (E1.trans E2 R2.h) R2 r2
 |false=>exact TI.run rs1 R1 e λα2 v H2 E2 R2 r2 rs2=>q α2 v H2 (E1.trans E2 R2.h) R2 r2
theorem Yr{f:Ev}{ρ:Rho}:∀{es:List E} {hs hs':Hs} {us:List U},evs f ρ es hs=some (us,hs')->us.length=es.length
 |[],_,_,_,h=>by cases h;rfl
 |e::r,hs,hs',us,h=>by
  simp only[evs]at h;obtain⟨u,h1,e1,h⟩:=Qb h;obtain⟨ws,h2,e2,h⟩:=Qb h;cases h;simp[Yr e2]
theorem QO{C:Ctx}:∀{m:Nat} {es:List Expr} {irs:List E},compA m C es=some irs->irs.length=es.length
 |0,_,_,h=>by simp[compA]at h
 |m+1,[],_,h=>by cases h;rfl
 |m+1,e::r,irs,h=>by
  simp only[compA,Xb]at h;obtain⟨e',he,r',hr,h⟩:=h;cases h;simp[QO hr]
def QgD(S:Snd T A C X cf m)(d:Nat)(es:List Expr)(irs:List E)(h:compA (m+1) C es=some irs):PA X es (TIA T A X.K (λρ hs=>evs (ev T cf d) ρ irs hs)):=by
 cases es with
 |nil=>
  cases h;refine Qmb JD ?_;rintro Y H Q ⟨α,ρ,hs,u,hs',rs,R,e,q⟩;cases e;exact q α [] H Ext.refl R .nil
 |cons e r=>
  simp only[compA,Xb]at h;obtain⟨e',he,r',hr,h⟩:=h;cases h;refine Qmb (Zk (S.e d e e' he) (S.a d r r' hr) (Qk (Qw he))) ?_;rintro Y H Q ⟨α,ρ,hs,u,hs',rs,R,e,q⟩;simp only[evs]at e;obtain⟨u1,h1,e1,e⟩:=Qb e;obtain⟨us,h2,e2,e⟩:=Qb e;cases e;refine TI.run rs R e1 λα1 x H1 E1 R1 r1 rs1=>?_;exact TIA.run rs1 R1 e2 λα2 xs H2 E2 R2 r2 rs2=>q α2 _ H2 (E1.trans E2 R2.h) R2 (.cons (r1.mono E2.pre) r2)
def Qke(S:Snd T A C X cf m)(d:Nat)(e:Option Expr)(ir:Option E)(h:compO (m+1) C e=some ir):PO X e (TIO T A X.K (λρ hs=>evO (ev T cf d) ρ ir hs)):=by
 cases e with
 |none=>
  cases h;intro pins s Y H Q I hw;refine Qh8 pins s Y H Q I ?_;obtain⟨α,ρ,hs,u,hs',rs,R,e,q⟩:=hw;cases e;exact q α H Ext.refl R
 |some e=>
  simp only[compO,Xb]at h;obtain⟨e',he,h⟩:=h;cases h;intro pins s Y H Q I hw;refine Qh7 (S.e d e e' he) pins s Y H Q I ?_;obtain⟨α,ρ,hs,u,hs',rs,R,e,q⟩:=hw;simp only[evO]at e;obtain⟨u1,h1,e1,e⟩:=Qb e;refine TI.run rs R e1 λα1 x H1 E1 R1 r1 rs1=>?_;split at e
  ·cases e;obtain⟨i,rfl,c⟩:=r1;cases c.exact;exact⟨_,rfl,q α1 H1 E1 R1⟩
  ·cases e
def TIO.run{T:Tbl}{A:Adr}{K:W.Frag}{α:List Addr}{ρ:Rho}{Y:St}{hs h1:Hs}{H:Hp}{f:Rho->Hs->Option (Option Int×Hs)}{u:Option Int}{Q:Option Int->Hp->Prop}(rs:RS A α ρ Y)(rp:Rep T A K α hs H)(h:f ρ hs=some (u,h1))
  (k:∀α1 H1,Ext α α1 H H1->Rep T A K α1 h1 H1->RS A α1 ρ Y->Q u H1):TIO T A K f Y H Q :=
 ⟨α,ρ,hs,u,h1,rs,rp,h,λα1 H1 e r=>k α1 H1 e r (rs.mono e.pre)⟩
def QhO{es:List Expr}{k:Nat}(S:Snd T A C X cf m)(h:Qe (m+1) C (.Tuple es k p)=some ir):PE X (.Tuple es k p) (TI T A X.K (ev T cf d ir)):=by
 refine QE λd=>?_;simp only[QqV]at h;split at h
 case isFalse=>cases h
 rename_i hz;simp only[Xb]at h;obtain⟨es',he,h⟩:=h;cases h;refine QY (QgN (S.a d es es' he)) ?_;rintro Y H Q ⟨α,ρ,hs,u,hs',rs,R,e,q⟩;simp only[ev]at e;obtain⟨us,h1,e1,e⟩:=Qb e;cases e;refine TIA.run rs R e1 λα1 vs H1 E1 R1 r1 rs1=>⟨?_,λp hp=>?_⟩
 ·rw[<-r1.length,Yr e1,QO he];exact X7 hz big
 ·obtain⟨R',E'⟩:=R1.new (o:=.tup us) hp ⟨_,Qh,RUs.mono QP r1⟩
  exact q _ _ _ (E1.trans E' R'.h) R' ⟨p,by rw[<-R1.h.len];exact Q8,rfl⟩
def Qkk{es:List Expr}(S:Snd T A C X cf m)(h:Qe (m+1) C (.List es p)=some ir):PE X (.List es p) (TI T A X.K (ev T cf d ir)):=by
 refine QE λd=>?_;simp only[QqU]at h;split at h
 case isFalse=>cases h
 rename_i hz;simp only[Xb]at h;obtain⟨es',he,h⟩:=h;cases h;refine QY (QkJ (S.a d es es' he)) ?_;rintro Y H Q ⟨α,ρ,hs,u,hs',rs,R,e,q⟩;simp only[ev]at e;obtain⟨us,h1,e1,e⟩:=Qb e;cases e;refine TIA.run rs R e1 λα1 vs H1 E1 R1 r1 rs1=>⟨?_,λp hp=>?_⟩
 ·rw[<-r1.length,Yr e1,QO he];exact X7 hz big
 ·obtain⟨R',E'⟩:=R1.new (o:=.lst us) hp ⟨_,Qh,RUs.mono QP r1⟩
  exact q _ _ _ (E1.trans E' R'.h) R' ⟨p,by rw[<-R1.h.len];exact Q8,rfl⟩
def QhQ{lo hi:Option Expr}{p2:Pos}(S:Snd T A C X cf m)(h:((Qe m C a).bind λa'=>(compO m C lo).bind λl=>(compO m C hi).bind λh=>some (E.sl a' l h))=some ir):PE X (.Subscript a (.Slice lo hi none p2) p) (TI T A X.K (ev T cf d ir)):=by
 refine QE λd=>?_;simp only[Xb]at h;obtain⟨a',ha,l',hl,h',hh,h⟩:=h;cases h;refine QY (Qft (sl_list.or Qj7) (S.e d a a' ha) (S.o d lo l' hl) (S.o d hi h' hh)) ?_;rintro Y H Q ⟨α,ρ,hs,u,hs',rs,R,e,q⟩;simp only[ev]at e;obtain⟨u1,h1,e1,e⟩:=Qb e;obtain⟨u2,h2,e2,e⟩:=Qb e;obtain⟨u3,h3,e3,e⟩:=Qb e;refine TI.run rs R e1 λα1 x H1 E1 R1 r1 rs1=>?_;refine TIO.run rs1 R1 e2 λα2 H2 E2 R2 rs2=>?_;refine TIO.run rs2 R2 e3 λα3 H3 E3 R3 rs3=>?_;exact Qj8 e ((r1.mono E2.pre).mono E3.pre) R3 λα4 z H4 E4 R4 r4=>q α4 z H4 (((E1.trans E2 R2.h).trans E3 R3.h).trans E4 R4.h) R4 r4
def QiL{b:Expr}{a' b':E}(hu:X.A.units+1<cLine)(tx:Txt T A X.K X.mg)(ha:PE X a (TI T A X.K (ev T cf d a')))(hb:PE X b (TI T A X.K (ev T cf d b')))(hs:ZR b=true):PE X (.Subscript a b p) (TI T A X.K (ev T cf (d+1) (.ix a' b'))):=by
 refine QY (Qnx (ix_seq.or (QiK hu)) ha hb (JC hs)) ?_;rintro Y H Q ⟨α,ρ,hs,u,hs',rs,R,e,q⟩;simp only[ev]at e;obtain⟨u1,h1,e1,e⟩:=Qb e;obtain⟨u2,h2,e2,e⟩:=Qb e;simp only[Xc]at e;obtain⟨x,e3,e⟩:=e;cases e;refine TI.run rs R e1 λα1 x H1 E1 R1 r1 rs1=>?_;refine TI.run rs1 R1 e2 λα2 y H2 E2 R2 r2 rs2=>?_;exact QhE tx e3 (r1.mono E2.pre) r2 R2 λz rz=>q α2 z H2 (E1.trans E2 R2.h) R2 rz
theorem RF.look{α:List Addr}{x:Str}{k:Nat}{u:U}(hk:T.fns'[k]?=some x)(nd:T.fns'.Nodup):∀{fs:List (Nat×U)} {fv:List (Str×V)},RF T A α fs fv->fs.lookup k=some u->∃v,fv.lookup x=some v/\RU A α u v
 |_,_,.nil,h=>by cases h
 |_,_,.cons (a:=p) (b:=q) r t,h=>by
  obtain⟨pk,pu⟩:=p;obtain⟨qx,qv⟩:=q;rw[W6]at h ⊢;by_cases e:k=pk
  ·subst e;rw[beq_self_eq_true]at h;cases h;have e2:x=qx:=Xw (hk.symm.trans r.1);subst e2;rw[beq_self_eq_true];exact⟨qv,rfl,r.2⟩
  ·have n1:(k==pk)=false:=by simpa using e
   rw[n1]at h
   have n2:(x==qx)=false:=by
    rw[Wq];rintro rfl;obtain⟨l1,q1⟩:=Xh.mp hk;obtain⟨l2,q2⟩:=Xh.mp r.1;exact e ((List.getElem_inj nd).mp (q1.trans q2.symm))
   rw[n2];exact RF.look hk nd t h
def Qq2{t t':TE}(h:PE X e t)(h':PE X e t'):PE X e (λY H Q=>t Y H Q\/t' Y H Q):=λpins s Y H Q I z=>z.elim (h pins s Y H Q I) (h' pins s Y H Q I)
def Qkm{f:Str}(g:GX T A C X)(S:Snd T A C X cf m)(h:Qe (m+1) C (.Attribute a f p)=some ir):PE X (.Attribute a f p) (TI T A X.K (ev T cf d ir)):=by
 refine QE λd=>?_;simp only[QqS]at h;split at h
 ·rename_i hn;simp only[Xb]at h;obtain⟨a',ha,k,hk,h⟩:=h;cases h
  have hk':T.fns'[k]?=some f:=by rw[<-g.CT];exact Q3 hk
  refine QY (Qq2 (QkL (S.e d a a' ha) (Zh hn)) (Qig (S.e d a a' ha) (Zh hn))) ?_;rintro Y H Q ⟨α,ρ,hs,u,hs',rs,R,e,q⟩;simp only[ev]at e;obtain⟨u1,h1,e1,e⟩:=Qb e;split at e
  ·rename_i n;split at e
   ·rename_i c fs eo;refine .inl (TI.run rs R e1 λα1 x H1 E1 R1 r1 rs1=>?_);obtain⟨pa,hpa,rfl⟩:=r1;simp only[Xc]at e;obtain⟨w,el,e⟩:=e;cases e;obtain⟨dx,fv,q1,rf,lc⟩:=R1.h.ob n pa _ hpa eo;obtain⟨v,l1,rv⟩:=RF.look hk' g.txt.fd rf el;have cl:=g.txt.cl c _ (Xp lc);exact⟨pa,A.c c,dx,fv,v,rfl,q1,cl.cls,cl.nf f (X2 hk'),l1,q α1 v H1 E1 R1 rv⟩
   ·rename_i c w eo;rw[Xy]at e;obtain⟨hc,e⟩:=e;cases e;refine .inr (TI.run rs R e1 λα1 x H1 E1 R1 r1 rs1=>?_);obtain⟨pa,hpa,rfl⟩:=r1;obtain⟨dd,q1,l,ef⟩:=R1.h.ob n pa _ hpa eo;obtain⟨Yyy,z⟩:=g.txt.er c l;obtain⟨z1,od,y,v,rfl,hy,hd,rv⟩:=ef k hc;obtain rfl:y=f:=Xw (hy.symm.trans hk');obtain⟨k',y',_,uq,hy',hh,hf,_⟩:=z;cases uq k hc;obtain rfl:y'=y:=Xw (hy'.symm.trans hk')
    exact⟨pa,A.c c,z1,od,_,v,rfl,q1,hd,Yyy,hh,hf,Ud,q α1 v H1 E1 R1 (RU.mono (α:=[]) (λt t z=>by simp at z) (rv A))⟩
   ·cases e
  ·cases e
 ·cases h
end
end
section
variable {α:List Addr}{es:List E}{args:List Expr}{us:List U}{vs:List V}{d i:Nat}{p pos:Pos}{x:Str}
section
variable {X:Cx}{T:Tbl}{A:Adr}{C:Ctx}{cf:Cf}{m k:Nat}
def Qe6{vs:List (Key×Value)}{y:U}{x:U}{yv:V}(ky:Qmq y=true)(ry:RU A α y yv):∀{kvs:List (U×U)},Paired (λ(p:U×U) (q:Key×Value)=>QfT p.1 q.1/\∃v,RU A [] p.2 v/\RelV v q.2) kvs vs->Qbm kvs y=some x ->
  ∃key v u,yv=kV key/\valueAt vs key=some u/\RU A [] x v/\RelV v u:=by
 obtain⟨key,hy,hk⟩:∃key,yv=kV key/\QfT y key:=by
  cases y with
  |int i m=>
   cases m with
   |zero=>obtain⟨j,rfl,c⟩:=ry;cases c.exact;exact⟨.inl i,rfl,rfl⟩
   |succ m=>cases ky
  |str z=>cases(show yv=_ from ry);exact⟨.inr ⟨z.toArray⟩,rfl,rfl⟩
  |_=>cases ky
 have inj:∀{p:U} {q:Key},QfT p q->(p=y↔q=key):=by
  intro p q hp
  cases y with
  |int i m=>
   cases m with
   |succ m=>cases ky
   |zero=>
    cases(show key=_ from hk)
    cases p with
    |int j n=>
     cases n with
     |succ n=>exact(show False from hp).elim
     |zero=>cases(show q=_ from hp);exact⟨λe=>(by cases e;rfl),λe=>(by cases e;rfl)⟩
    |str z=>cases(show q=_ from hp);exact⟨λe=>(by cases e),λe=>(by cases e)⟩
    |_=>exact(show False from hp).elim
  |str z=>
   cases(show key=_ from hk)
   cases p with
   |int j n=>
    cases n with
    |succ n=>exact(show False from hp).elim
    |zero=>cases(show q=_ from hp);exact⟨λe=>(by cases e),λe=>(by cases e)⟩
   |str z'=>
    cases(show q=_ from hp)
    refine⟨λe=>(by cases e;rfl),λe=>?_⟩
    have e1:=Sum.inr.inj e;have e2:=congrArg (λs:Str=>s.cps.toList) e1
    have e3:z'=z:=by simpa using e2
    rw[e3]
   |_=>exact(show False from hp).elim
  |_=>cases ky
 intro kvs r
 induction r with
 |nil=>intro h;cases h
 | @cons p q ps qs hpq t ih=>
  intro h;obtain⟨pk,pv⟩:=p;obtain⟨qk,qv⟩:=q;obtain⟨h1,v,h2,h3⟩:=hpq;simp only[Qbm]at h;by_cases e:pk=y
  ·rw[if_pos e]at h;cases h;have e2:qk=key:=(inj h1).mp e
   exact⟨key,v,qv,hy,by simp[valueAt,e2],h2,h3⟩
  ·rw[if_neg e]at h;obtain⟨key',v',u',g1,g2,g3,g4⟩:=ih h
   have e1:key'=key:=by
    rw[hy]at g1;cases key<;>cases key'<;>simp_all [kV]
   subst e1;have e2:¬qk=key':=λz=>e ((inj h1).mpr z);refine⟨key',v',u',g1,?_,g3,g4⟩;simp only[valueAt,List.find?_cons];rw[X6 e2];exact g2
def Qnd{b:Expr}{b':E}(g:GX T A C X)(hb:PE X b (TI T A X.K (ev T cf d b')))(hs:ZR b=true)(hg:ZI C x=true)(hn:x≠"__debug__")(hx:C.gl.lookup x=some (.con i)):
  PE X (.Subscript (.Name x p) b pos) (TI T A X.K (ev T cf (d+1) (.tab i b'))):=by
 intro pins s Y H Q I h;obtain⟨α,ρ,hs',u,hs2,rs,R,e,q⟩:=h;simp only[ev]at e;obtain⟨w,h1,e1,e⟩:=Qb e;simp only[Xc]at e;obtain⟨z,e2,e⟩:=e;cases e;unfold Qhx at e2;split at e2
 case h_2=>cases e2
 rename_i kvs ec;split at e2
 case isFalse=>cases e2
 rename_i ky;obtain⟨vs,_,hd,hp⟩:=g.tab i kvs ec;refine QhF PySem.F.slot_dict_getitem.lookup (JC hs) (Zd I (Q5 g hg) (g.gco x i hx) ?_ (QV hn));refine thn (hb pins s Y H (λy H1=>∃α1,Ext α α1 H H1/\Rep T A X.K α1 hs2 H1/\RU A α1 w y) I (TI.run rs R e1 λα1 y H1 E1 R1 r1 rs1=>⟨α1,E1,R1,r1⟩)) λiv s1 t=>?_;obtain⟨y,H1,I1,ry,α1,E1,R1,r1⟩:=t;obtain⟨key,v,u',ey,ev',rv,rl⟩:=Qe6 ky r1 hp e2;have dd:=hd s1.heap I1.kIn;subst ey
 exact⟨dd.typeIs,wpAny_getItem_of (QiJ ry) dd.mapOf ev' ⟨v,H1,I1.tok _,rl,q α1 v H1 E1 R1 (RU.mono (λn a e=>by simp at e) rv)⟩⟩
def Qdi{hs hs':Hs}{H:Hp}{u:U}{f:Nat}{Q:VK}{E:XK}(F:Fc X T A cf k)(r:RUs A α us vs)(R:Rep T A X.K α hs H)(e:cf f us hs=some (u,hs'))
  (q:∀α' v H',Ext α α' H H'->Rep T A X.K α' hs' H'->RU A α' u v->Q v H'):spC T A X.K cf f vs H Q E:=⟨α,us,hs,u,hs',r,R,e,F.some f us hs _ e,q⟩
def QgC(g:GX T A C X)(F:Fc X T A cf k)(hr:Room k X.A)(S:Snd T A C X cf m)(hg:ZI C x=true)(hn:x≠"__debug__")(hx:C.gl.lookup x=some (.fn i))(ha:compA m C args=some es):
  PE X (.Call (.Name x p) args [] pos) (TI T A X.K (ev T cf (d+1) (.call i es))):=by
 cases hF:T.fns[i]? with
 |none=>
  refine Yu ?_;rintro Y H Q ⟨α,ρ,hs,u,hs',rs,R,e,q⟩;simp only[ev]at e;obtain⟨us,h1,e1,e⟩:=Qb e;obtain⟨F',h,_⟩:=F.some _ _ _ _ e;rw[hF]at h;cases h
 |some Fn=>
  obtain⟨fd,G,b,kp⟩:=F.ok i Fn hF;have pa:=S.a d args es ha
  have key:∀Y H Q,TI T A X.K (ev T cf (d+1) (.call i es)) Y H Q->QhD (spC T A X.K cf i) [] E0 (TIA T A X.K (λρ hs=>evs (ev T cf d) ρ es hs)) Y H Q:=by
   rintro Y H Q ⟨α,ρ,hs,u,hs',rs,R,e,q⟩;simp only[ev]at e;obtain⟨us,h1,e1,e⟩:=Qb e;refine TIA.run rs R e1 λα1 vs H1 E1 R1 r1 rs1=>?_;rw[Vu];exact Qdi F r1 R1 e λα2 v H2 E2 R2 r2=>q α2 v H2 (E1.trans E2 R2.h) R2 r2
  cases args with
  |nil=>
   have ee:es=[]:=by
    have:=QO ha;simpa using this
   subst ee;refine QY (Qfv G hr (Q5 g hg) (g.gfn x i hx) kp b .nil Qcx (QV hn)) λY H Q h=>?_;have h2:=key Y H Q h;obtain⟨α,ρ,hs,us,hs',rs,R,e,q⟩:=h2;cases e;exact q α [] H Ext.refl R .nil
  |cons a r=>exact QY (Qii G hr (Q5 g hg) (g.gfn x i hx) kp b .nil Qcx pa (QV hn) (Qk (Qr ha a (Xm ..))) (QZ λz hz=>Qr ha z (Xj _ hz))) key
def RUs.app{ws:List U}{zs:List V}(a:RUs A α us vs)(b:RUs A α ws zs):RUs A α (us++ws) (vs++zs):=a.append b
def Vals.dropN{us:List Value}(r:Vals vs us):∀n,Vals (vs.drop n) (us.drop n):=λn=>by
 induction r generalizing n with
 |nil=>simp;exact .nil
 |cons a t ih=>
  cases n with
  |zero=>exact .cons a t
  |succ n=>exact ih n
def QhU{ir:E}(g:GX T A C X)(F:Fc X T A cf k)(hr:Room k X.A)(S:Snd T A C X cf m)(hg:ZI C x=true)(hn:x≠"__debug__")(hx:C.gl.lookup x=some (.fn i))(ha:compA m C args=some es)(h:Qmo C i es=some ir):
  PE X (.Call (.Name x p) args [] pos) (TI T A X.K (ev T cf (d+1) ir)):=by
 unfold Qmo at h;rw[g.CT]at h;split at h
 ·cases h;exact QgC g F hr S hg hn hx ha
 cases h
def RUs.nilA(r:RUs A [] us vs):RUs A α us vs:=RUs.mono (λn a e=>by simp at e) r
def Qg3(F:Fc X T A cf k){f n:Nat}{Fn:Fn}(hF:T.fns[f]?=some Fn):∃fd ps ds dvs,FnOk X.prog X.w X.K X.mg X.base CX0 k (A.f f) fd ps (spC T A X.K cf f)/\W.keepIn X.K (.ref (A.f f))=true/\Binds X.K fd ps ds/\Vals dvs ds/\RUs A [] (Qfx T f n) dvs:=by
 unfold Qfx
 cases hD:T.dfl.lookup f with
 |none=>
  obtain⟨fd,G,b,kp⟩:=F.ok f Fn hF;exact⟨fd,_,[],[],G,kp,b,.nil,.nil⟩
 |some D=>
  obtain⟨fd,G,kp,ds,dvs,rd,vd,hb⟩:=F.df f D Fn hD hF;exact⟨fd,_,_,_,G,kp,hb (D.ds.length-(D.np-n)),Vals.dropN vd _,RUs.drop (D.ds.length-(D.np-n)) rd⟩
def Qkj(g:GX T A C X)(F:Fc X T A cf k)(hr:Room (k+1) X.A)(S:Snd T A C X cf m)(hg:ZI C x=true)(hn:x≠"__debug__")(hx:C.gl.lookup x=some (.cls i))(ha:compA m C args=some es):
  PE X (.Call (.Name x p) args [] pos) (TI T A X.K (ev T cf (d+1) (.make i es))):=by
 cases hC:T.cls[i]? with
 |none=>
  refine Yu ?_;rintro Y H Q ⟨α,ρ,hs,u,hs',rs,R,e,q⟩;simp only[ev]at e;obtain⟨us,h1,e1,e⟩:=Qb e;simp[ZZ,hC]at e
 |some Cl=>
  have cl:=g.txt.cl i Cl hC;have li:i<T.cls.length:=(Xh.mp hC).1;have pa:=S.a d args es ha
  have new:∀{α:List Addr} {hs:Hs} {H:Hp} (R:Rep T A X.K α hs H) (x dx:Addr),H x=none->H dx=none->dx≠x ->
    Rep T A X.K (α++[x]) (hs++[.ins i []]) (upd (upd H dx (.own x)) x (.ins (A.c i) dx []))/\Ext α (α++[x]) H (upd (upd H dx (.own x)) x (.ins (A.c i) dx [])):=by
   intro α hs H R x dx hx hd hne
   have ne:∀b y,H b=some y->b≠dx:=λb y e z=>by rw[z,hd]at e;cases e
   have R0:Rep T A X.K α hs (upd H dx (.own x)):=⟨⟨R.h.len,R.h.nd_keep λb x w e=>by rw[Qd (ne _ _ e)];exact e,λn a o e1 e2=>RO.keep (R.h.ob n a o e1 e2) (λw w e=>e) λw y e w=>by rw[Qd (ne _ _ e)];exact e⟩,R.s.keep λy e w=>by rw[Qd (ne _ _ e)];exact e⟩
   obtain⟨R1,E1⟩:=R0.new (p:=x) (o:=.ins i []) (ho:=.ins (A.c i) dx []) (by rw[Qd (Wr hne)];exact hx) ⟨dx,[],Qh,.nil,li⟩
   refine⟨R1,⟨E1.pre,λn a e l=>?_,λb o e hb=>E1.keep b o (by rw[Qd (ne _ _ e)];exact e) hb,λb o kv e=>E1.fz b o kv (by rw[Qd (ne _ _ e)];exact e),λb o e=>E1.tr b o (by rw[Qd (ne _ _ e)];exact e)⟩⟩
   rcases QQ e with z|⟨_,z⟩
   ·have:=getElem?_lt z;omega
   ·rw[z];exact .inl hx
  cases hi:Cl.init with
  |none=>
   have ini:=cl.ini;rw[hi]at ini
   cases args with
   |cons a r=>
    refine Yu ?_;rintro Y H Q ⟨α,ρ,hs,u,hs',rs,R,e,q⟩;simp only[ev]at e;obtain⟨us,h1,e1,e⟩:=Qb e;have l1:=Yr e1;rw[QO ha]at l1;simp only[ZZ,hC,hi]at e;split at e
    ·rename_i z;rw[z]at l1;simp at l1
    ·cases e
   |nil=>
    refine QY (QdE (C:=A.c i) ⟨cl.mks,ini,cl.kp⟩ (Q5 g hg) (g.gcl x i hx) (QV hn)) ?_;rintro Y H Q ⟨α,ρ,hs,u,hs',rs,R,e,q⟩
    have ee:es=[]:=by
     have:=QO ha;simpa using this
    subst ee;simp only[ev,evs,bd,ZZ,hC,hi,Wg]at e;cases e;intro y dx h1 h2 h3;obtain⟨R1,E1⟩:=new R y dx h1 h2 h3
    exact q _ _ _ E1 R1 ⟨y,by rw[<-R.h.len];exact Q8,rfl⟩
  |some f=>
   have ini:=cl.ini;rw[hi]at ini
   have key:∀dvs:List V,RUs A [] (Qfx T f (es.length+1)) dvs->∀Y H Q,TI T A X.K (ev T cf (d+1) (.make i es)) Y H Q->TIA T A X.K (λρ hs=>evs (ev T cf d) ρ es hs) Y H λvs H1=>∀x dx,H1 x=none->H1 dx=none->dx≠x ->
     spC T A X.K cf f (.ref x::(vs++dvs)) (upd (upd H1 dx (.own x)) x (.ins (A.c i) dx [])) (λv H2=>v=.non/\Q (.ref x) H2) E0:=by
    rintro dvs rdv Y H Q ⟨α,ρ,hs,u,hs',rs,R,e,q⟩;simp only[ev]at e;obtain⟨us,h1,e1,e⟩:=Qb e;simp only[ZZ,hC,hi]at e;rw[Yr e1]at e;split at e
    case h_2=>cases e
    rename_i h2 e2;cases e;refine TIA.run rs R e1 λα1 vs H1 E1 R1 r1 rs1=>?_;intro y dx g1 g2 g3;obtain⟨R2,E2⟩:=new R1 y dx g1 g2 g3
    have at1:(α1++[y])[h1.length]?=some y:=by rw[<-R1.h.len];exact Q8
    refine Qdi F (us:=.ref h1.length::(us++Qfx T f (es.length+1))) (.cons ⟨y,at1,rfl⟩ ((RUs.mono E2.pre r1).app (RUs.nilA rdv))) R2 e2 λα3 v H3 E3 R3 r3=>⟨r3,?_⟩;exact q α3 _ H3 (((E1.trans E2 R2.h)).trans E3 R3.h) R3 ⟨y,E3.pre _ _ at1,rfl⟩
   cases hF:T.fns[f]? with
   |none=>
    refine Yu ?_;rintro Y H Q ⟨α,ρ,hs,u,hs',rs,R,e,q⟩;simp only[ev]at e;obtain⟨us,h1,e1,e⟩:=Qb e;simp only[ZZ,hC,hi]at e;split at e
    case h_2=>cases e
    rename_i h2 e2;obtain⟨F',h,_⟩:=F.some _ _ _ _ e2;rw[hF]at h;cases h
   |some Fn=>
    obtain⟨fd,ps,ds,dvs,G,kp,b,vd,rdv⟩:=Qg3 F (n:=es.length+1) hF;have M:Mk X.K (A.c i) (A.f f):=⟨cl.mks,ini.1,ini.2,cl.kp⟩
    cases args with
    |nil=>
     have ee:es=[]:=by
      have:=QO ha;simpa using this
     subst ee;refine QY (Qfu M G hr (Q5 g hg) (g.gcl x i hx) b vd Qcx (QV hn)) λY H Q h=>?_;obtain⟨α,ρ,hs,us,hs',rs,R,e,q⟩:=key dvs rdv Y H Q h;cases e;exact q α [] H Ext.refl R .nil
    |cons a r=>exact QY (Qie M G hr (Q5 g hg) (g.gcl x i hx) b vd Qcx pa (QV hn) (Qk (Qr ha a (Xm ..))) (QZ λz hz=>Qr ha z (Xj _ hz))) (key dvs rdv)
end
end
section
variable {o':E}{env:Env}{o:Expr}{hs:Hs}{es:List E}{args:List Expr}{d:Nat}{p pos q:Pos}{x:Str}
section
variable {X:Cx}{T:Tbl}{A:Adr}{C:Ctx}{cf:Cf}{m k:Nat}
theorem JX{env:Env}{pos:Pos}:∀{es:List Expr},Yi es->(backTo pos (starEach es env)).all (λx=>!x.1)=true
 |[],_=>rfl
 |e::r,h=>by
  rw[Qk (h e (Xm ..))];have ih:=JX (env:=env) (pos:=pos) (es:=r) λx hx=>h x (Xj _ hx);unfold backTo at ih ⊢;rw[Vw,V5,ih];rfl
def QiZ(hn:Yi args)(hl:args.length<29):methodCallForm (args.length+([]:List Keyword).length) (backTo pos (starEach args env)) (backToKw pos (keywordEach [] env))=true:=by
 unfold methodCallForm;rw[JX hn]
 have:(args.length+([]:List Keyword).length+(if(backToKw pos (keywordEach [] env)).isEmpty then 0 else 1) < 30):=by
  simp only[W2];split<;>omega
 simp only[Wv this,U3,T6];rfl
def QiF(h1:Zx o=true)(h2:(p.endLine==q.line)=true)(h3:args.length<29)(h4:Yi args):
  eval (.Call (.Attribute o x p) args [] q) env=(do
   let ov <-eval o env
   standAt p.atName
   let (f,first) <-holding [ov] (getMethod ov x (do return (<-importBound o env).getD true))
   callWith q f first (backTo q (starEach args env)) (backToKw q (keywordEach [] env))):=by
 rw[PySem.arm_eval_Call,Zh h1];unfold methodCall;rw[QiZ h4 h3];unfold calleeOf methodCallPos;rw[h2];rfl
theorem RF.none_of{α:List Addr}{x:Str}(hx:x∉T.fns'):∀{fs:List (Nat×U)} {fv:List (Str×V)},RF T A α fs fv->fv.lookup x=none
 |_,_,.nil=>rfl
 |_,_,.cons (a:=p) (b:=q) r t=>by
  obtain⟨qx,qv⟩:=q;rw[W6]
  have n2:(x==qx)=false:=by
   rw[Wq];rintro rfl;exact hx (X2 r.1)
  rw[n2];exact RF.none_of hx t
def QcA{i f:Nat}{u:U}(h:Qbl T i u hs=some f):∃n c fs Cl,u=.ref n/\hs[n]?=some (.ins c fs)/\T.cls[c]?=some Cl/\Cl.meths.lookup i=some f:=by
 cases u with
 |ref n=>
  simp only[Qbl]at h;split at h
  ·rename_i c fs e;split at h
   ·rename_i Cl e2;exact⟨n,c,fs,Cl,rfl,e,e2,h⟩
   ·cases h
  ·cases h
 |_=>simp[Qbl]at h
def Qkh{i:Nat}(g:GX T A C X)(F:Fc X T A cf k)(hr:Room k X.A)(S:Snd T A C X cf m)(h1:Zx o=true)(h2:(p.endLine==q.line)=true)(h3:args.length<29)
  (hx:idx x C.T.mns=some i) (ho:Qe m C o=some o') (ha:compA m C args=some es):PE X (.Call (.Attribute o x p) args [] q) (TI T A X.K (ev T cf (d+1) (.meth i o' es))):=by
 intro pins s Y H Q I hw;obtain⟨α,ρ,hs,u,hs',rs,R,e,q'⟩:=hw;simp only[ev]at e;obtain⟨u1,h1',e1,e⟩:=Qb e;split at e
 case h_2=>cases e
 rename_i f hf;obtain⟨us,h2',e2,e⟩:=Qb e
 have hx':T.mns[i]?=some x:=by rw[<-g.CT];exact Q3 hx
 have hns:=Qr ha;refine W.methodCall_KW (thn (S.e d o o' ho pins s Y H (λv H1=>∃α1,Ext α α1 H H1/\Rep T A X.K α1 h1' H1/\RU A α1 u1 v/\RS A α1 ρ Y) I (TI.run rs R e1 λα1 v H1 E1 R1 r1 rs1=>⟨α1,E1,R1,r1,rs1⟩)) λov s1 y=>?_) (QiF h1 h2 h3 hns);obtain⟨v,H1,I1,rv,α1,E1,R1,r1,rs1⟩:=y;obtain⟨n,c,fs,Cl,rfl,eo,hC,hf⟩:=QcA hf;obtain⟨pa',hpa,rfl⟩:=r1;cases(show ov=_ from rv);obtain⟨dx,fv,q1,rf,lc⟩:=R1.h.ob n pa' _ hpa eo;have cl:=g.txt.cl c Cl hC;obtain⟨x',hx2,hm⟩:=cl.me i f hf;have ex:x=x':=Xw (hx'.symm.trans hx2);subst ex;have nx:x∉T.fns':=λz=>g.txt.fm x z (X2 hx');obtain⟨Fn,hF,_⟩:=F.some _ _ _ _ e;obtain⟨fd,ps,ds,dvs,G,kp,b,vd,rdv⟩:=Qg3 F (n:=us.length+1) hF;refine QcI I1 q1 cl.cls hm (RF.none_of nx rf) ?_
 have fin:∀(s2:Shared) (H2:Hp) (α2:List Addr) (vs:List V) (ws:List Value),Inv X pins Y H2 s2->Ext α1 α2 H1 H2->Rep T A X.K α2 h2' H2->RUs A α2 us vs->Vals vs ws ->
   wpAny (model X.prog X.w) X.A (call (.ref (A.f f)) (.ref pa'::ws)) (EP X pins Y Q) X.xe s2:=by
  intro s2 H2 α2 vs ws I2 E2 R2 r2 rw';refine Qdo (us:=.ref pa'::ws) (vs:=.ref pa'::vs) G hr b vd Qcx I2 (.cons rfl rw') ?_;exact Qdi F (us:=.ref n::(us++Qfx T f (us.length+1))) (.cons ⟨pa',E2.pre _ _ hpa,rfl⟩ (r2.app (RUs.nilA rdv))) R2 e λα3 v H3 E3 R3 r3=>q' α3 v H3 ((E1.trans E2 R2.h).trans E3 R3.h) R3 r3
 cases args with
 |nil=>
  have ee:es=[]:=by
   have:=QO ha;simpa using this
  subst ee;cases e2
  exact W.callWith_K0 (first:=[.ref pa']) I1.kIn hm.kp (fin s1 H1 α1 [] [] I1 Ext.refl R1 .nil .nil)
 |cons a r=>
  refine Tc (first:=[.ref pa']) (h₀:=X.base) I.ok.mod.kin hm.kp (thn (S.a d (a::r) es ha q pins s1 Y H1 (λvs H2=>∃α2,Ext α1 α2 H1 H2/\Rep T A X.K α2 h2' H2/\RUs A α2 us vs) I1 (TIA.run rs1 R1 e2 λα2 vs H2 E2 R2 r2 rs2=>⟨α2,E2,R2,r2⟩)) λws s2 ⟨vs,H2,I2,rw',α2,E2,R2,r2⟩=>⟨I2.kIn,?_⟩)
   (Qk (hns a (Xm ..))) (QZ λz hz=>hns z (Xj _ hz))
  exact fin s2 H2 α2 vs ws I2 E2 R2 r2 rw'
def QlH{e:Expr}{es:List Expr}(hn:Yi (e::es))(hl:(e::es).length<29):((backTo pos (starEach (e::es) env)).all (λx=>!x.1)&&(backToKw pos (keywordEach [] env)).all (λx=>x.1.isSome)
   && decide ((e::es).length+([]:List Keyword).length+(if([]:List Keyword).isEmpty then 0 else 1) < 30))=true:=by
 rw[JX hn]
 have:(e::es).length+([]:List Keyword).length+(if([]:List Keyword).isEmpty then 0 else 1) < 30:=by
  simp only[W2,List.isEmpty_nil,Wg];omega
 rw[Wv this];rfl
def Qan{b:Bm}{id ty:String}(S:Snd T A C X cf m)(B:BmS X T A b id)(pa:PlainAttrs ty)(slot:Slot ty x id)(hty:typeOf (.builtin id)=pure (.type "method_descriptor"))
  (ty:∀{u:U} {hs:Hs} {α:List Addr} {v:V} {H:Hp},QcS b u hs=true->RU A α u v->Rep T A X.K α hs H->L2.tyV X.K ty v H) (h1:Zx o=true) (h2:(p.endLine==q.line)=true) (h3:args.length<29)
  (ho:Qe m C o=some o') (ha:compA m C args=some es):PE X (.Call (.Attribute o x p) args [] q) (TI T A X.K (ev T cf (d+1) (.bm b o' es))):=by
 obtain⟨r,hm,hB⟩:=B;have hns:=Qr ha
 cases args with
 |nil=>
  have ee:es=[]:=by
   have:=QO ha;simpa using this
  subst ee;refine QY (QkM pa slot hty hm (S.e d o o' ho) (Zh h1) h2) ?_;rintro Y H Q ⟨α,ρ,hs,u,hs',rs,R,e,q⟩;simp only[ev,evs]at e;obtain⟨u1,h1',e1,e⟩:=Qb e;split at e
  case isFalse=>cases e
  rename_i il;obtain⟨us,h2',e2,e⟩:=Qb e;cases e2;exact TI.run rs R e1 λα1 v H1 E1 R1 r1 rs1=>⟨ty il r1 R1,hB e r1 .nil R1 λα2 v2 H2 E2 R2 r2=>q α2 v2 H2 (E1.trans E2 R2.h) R2 r2⟩
 |cons a t=>
  refine QY (Qny pa slot hty hm (S.e d o o' ho) (S.a d (a::t) es ha) (Zh h1) (QlH hns h3) h2 (Qk (hns a (Xm ..))) (QZ λz hz=>hns z (Xj _ hz))) ?_;rintro Y H Q ⟨α,ρ,hs,u,hs',rs,R,e,q⟩;simp only[ev]at e;obtain⟨u1,h1',e1,e⟩:=Qb e;split at e
  case isFalse=>cases e
  rename_i il;obtain⟨us,h2',e2,e⟩:=Qb e;exact TI.run rs R e1 λα1 v H1 E1 R1 r1 rs1=>⟨ty il r1 R1,TIA.run rs1 R1 e2 λα2 vs H2 E2 R2 r2 rs2=>hB e (r1.mono E2.pre) r2 R2 λα3 v2 H3 E3 R3 r3=>q α3 v2 H3 ((E1.trans E2 R2.h).trans E3 R3.h) R3 r3⟩
noncomputable def kdB:Bm->String
 |.setdef=>"dict"
 |.get=>"dict"
 |.update=>"dict"
 |.join=>"str"
 |.split=>"str"
 |.find=>"str"
 |.index=>"str"
 |_=>"list"
def QbY{b:Bm}{u:U}{α:List Addr}{v:V}{H:Hp}(e:QcS b u hs=true)(r:RU A α u v)(R:Rep T A X.K α hs H):L2.tyV X.K (kdB b) v H:=by
 cases u with
 |ref n=>
  obtain⟨a,ha,rfl⟩:=r;simp only[QcS]at e;split at e
  ·rename_i xs eo;obtain⟨vs,q,_⟩:=R.h.ob n a _ ha eo
   have:kdB b="list":=by cases b<;>first|rfl|cases e
   rw[this];exact .inl ⟨rfl,vs,SqL.of q⟩
  ·rename_i kvs eo;obtain⟨kv,q,_⟩:=R.h.ob n a _ ha eo
   have:kdB b="dict":=by cases b<;>first|rfl|cases e
   rw[this];exact .inr (.inr (.inl ⟨rfl,.inl ⟨kv,q⟩⟩))
  ·cases e
 |str x=>
  cases(show v=_ from r)
  have:kdB b="str":=by cases b<;>first|rfl|cases e
  exact this
 |_=>cases e
def QpT{b:Bm}(hu:X.A.units+64<cLine)(tx:Txt T A X.K X.mg)(S:Snd T A C X cf m)(hb:Qmx x=some b)(h1:Zx o=true)(h2:(p.endLine==q.line)=true)(h3:args.length<29)
  (ho:Qe m C o=some o') (ha:compA m C args=some es):PE X (.Call (.Attribute o x p) args [] q) (TI T A X.K (ev T cf (d+1) (.bm b o' es))):=by
 unfold Qmx at hb;split at hb
 ·rename_i e;subst e;cases hb;exact Qan S QcN Tj PySem.F.slot_list_append PySem.F.type_list_append (λe r R=>QbY e r R) h1 h2 h3 ho ha
 split at hb
 ·rename_i e;subst e;cases hb;exact Qan S QeD Tj PySem.F.slot_list_clear PySem.F.type_list_clear (λe r R=>QbY e r R) h1 h2 h3 ho ha
 split at hb
 ·rename_i e;subst e;cases hb;exact Qan S QeB PySem.F.plainAttrs_str PySem.F.slot_str_index PySem.F.type_str_index (λe r R=>QbY e r R) h1 h2 h3 ho ha
 unfold Ql0 at hb;split at hb
 ·rename_i e;subst e;cases hb;exact Qan S (QeC tx hu) Tj PySem.F.slot_list_count PySem.F.type_list_count (λe r R=>QbY e r R) h1 h2 h3 ho ha
 ·cases hb
def Jm{args:List Expr}{b:Bi}{fv:Value}{r:List V->Hp->VK->Prop}{e0:Expr}(hB:∀{α:List Addr} {us:List U} {u':U} {hs hs':Hs} {vs:List V} {H:Hp} {Q:VK},biU T b us hs=some (u',hs')->RUs A α us vs->Rep T A X.K α hs H ->
   (∀α' v' H',Ext α α' H H'->Rep T A X.K α' hs' H'->RU A α' u' v'->Q v' H')->r vs H Q)
  (h:PE X e0 (tCB r (TIA T A X.K (λρ hs=>evs (ev T cf d) ρ es hs)))):PE X e0 (TI T A X.K (ev T cf (d+1) (.bi b es))):=by
 refine QY h ?_;rintro Y H Q ⟨α,ρ,hs,u,hs',rs,R,e,q⟩;simp only[ev]at e;obtain⟨us,h1,e1,e⟩:=Qb e;exact TIA.run rs R e1 λα1 vs H1 E1 R1 r1 rs1=>hB e r1 R1 λα2 v2 H2 E2 R2 r2=>q α2 v2 H2 (E1.trans E2 R2.h) R2 r2
def Qi8{b:Bi}:biU T b [] hs=none:=by cases b<;>rfl
def QiA{kw:Keyword}(h:Qk8 C x args kw.arg=true): x="max"/\args=[]/\(∃e p,kw=⟨some "default",e,p⟩)/\ZI C x=true/\¬C.bl.contains x=false:=by
 unfold Qk8 at h;simp only[Xe,Xs,List.isEmpty_iff]at h;obtain⟨⟨⟨⟨⟨h1,h2⟩,h3⟩,h4⟩,_⟩,h6⟩:=h;obtain⟨ar,e,p⟩:=kw;dsimp only at h3;subst h3
 exact⟨h1,h2,⟨e,p,rfl⟩,h4,by rw[h6];decide⟩
def Qki{a:Expr}{kw:Keyword}{a' d':E}(g:GX T A C X)(hh:hdC C=false)(S:Snd T A C X cf m)(hb:Qk8 C x args kw.arg=true)(ha:Qe m C a=some a')(hd:Qe m C kw.value=some d'):
  PE X (.Call (.Name x p) (a::args) [kw] pos) (TI T A X.K (ev T cf (d+1) (.maxd a' d'))):=by
 obtain⟨rfl,rfl,⟨e,kp,rfl⟩,hg,hl⟩:=QiA hb;refine QY (Qid (g.calm hh) (Q5 g hg) (g.blt _ hl) (S.e d a a' ha) (S.e d e d' hd) (Qk (Qw ha))) ?_;rintro Y H Q ⟨α,ρ,hs,u,hs',rs,R,e1,q⟩;simp only[ev]at e1;obtain⟨v,h1,e2,e1⟩:=Qb e1;obtain⟨w,h2,e3,e1⟩:=Qb e1;unfold Qk7 at e1;split at e1
 case h_2=>cases e1
 rename_i dd;split at e1
 case h_2=>cases e1
 rename_i xs el;rw[Xc]at e1;obtain⟨ns,en,e1⟩:=e1;cases e1;refine TI.run rs R e2 λα1 y H1 E1 R1 r1 rs1=>TI.run rs1 R1 e3 λα2 z H2 E2 R2 r2 rs2=>?_;obtain⟨l,vs,rfl,rr,sq⟩:=Zm g.txt R2 el (r1.mono E2.pre);cases Qah en rr;cases Qee r2;refine⟨l,ns,dd,rfl,rfl,sq,λM hM=>?_⟩;refine q α2 _ H2 (E1.trans E2 R2.h) R2 ⟨_,rfl,?_⟩
 rcases hM with⟨rfl,rfl⟩|⟨hM,ub⟩
 ·exact Cg.refl _ _
 ·cases em:Qjn ns with
  |none=>cases ns with
   |nil=>cases hM
   |cons _ _=>cases em
  |some mm=>
   cases QdT em hM ub;exact Cg.refl _ _
def QpU{b:Bi}(g:GX T A C X)(hh:hdC C=false)(hu:X.A.units+2<cLine)(S:Snd T A C X cf m)(hg:ZI C x=true)(hn:x≠"__debug__")(hn2:x≠"__name__")(hx:Qmz C x=some b)(ha:compA m C args=some es):
  PE X (.Call (.Name x p) args [] pos) (TI T A X.K (ev T cf (d+1) (.bi b es))):=by
 have hns:=Qr ha
 cases args with
 |nil=>
  refine Yu ?_;rintro Y H Q ⟨α,ρ,hs,u,hs',rs,R,e,q⟩
  have ee:es=[]:=by
   have:=QO ha;simpa using this
  subst ee;simp[ev,evs,bd,Qi8]at e
 |cons a t=>
  unfold Qmz at hx;split at hx
  ·cases hx
  split at hx
  ·cases hx
  rename_i hl;have hm:X.mg x=none:=g.blt x hl;have pa:=S.a d (a::t) es ha;have st:=Qk (env:=X.env) (es:=t) (hns a (Xm ..));have sa:=QZ (env:=X.env) (pos:=pos) (es:=t) λz hz=>hns z (Xj _ hz);split at hx
  ·rename_i e;subst e;cases hx;obtain⟨r,hc,hB⟩:=Qja (X:=X) (A:=A) g.txt
   exact Jm (fv:=.builtin "len") (args:=[]) hB (YL hc (Q5 g hg) hm (by decide +kernel) pa hn2 (QV hn) st sa)
  split at hx
  ·rename_i e;subst e;cases hx;obtain⟨r,hc,hB⟩:=Qjb (X:=X) (A:=A) (T:=T)
   exact Jm (fv:=.none) (args:=[]) hB (QaD hc (Q5 g hg) hm (by decide +kernel) pa hn2 (QV hn) st sa)
  split at hx
  ·rename_i e;subst e;cases hx;obtain⟨r,hc,hB⟩:=QeH (X:=X) (A:=A) (T:=T)
   exact Jm (fv:=.none) (args:=[]) hB (QaD hc (Q5 g hg) hm (by decide +kernel) pa hn2 (QV hn) st sa)
  split at hx
  ·rename_i e;subst e;cases hx;obtain⟨r,hc,hB⟩:=Qjc (X:=X) (A:=A) g.txt (g.calm hh)
   exact Jm (fv:=.builtin "any") (args:=[]) hB (YL hc (Q5 g hg) hm (by decide +kernel) pa hn2 (QV hn) st sa)
  split at hx
  ·rename_i e;subst e;cases hx;obtain⟨r,hc,hB⟩:=Qi9 (X:=X) (A:=A) g.txt (g.calm hh)
   exact Jm (fv:=.builtin "max") (args:=[]) hB (YL hc (Q5 g hg) hm (by decide +kernel) pa hn2 (QV hn) st sa)
  exact nomatch hx
def QpS{t:Str}{ty:Ty}(g:GX T A C X)(hg:ZI C t=true)(hn:t≠"__debug__")(hn2:t≠"__name__")(h:QjO C t=some ty): ∃v,PE X (.Name t p) (tC v)/\Qoa v=some (tyW A ty):= by
 unfold QjO at h;split at h
 ·rename_i i e;cases h;exact⟨.ref (A.c i),Qbg (Q5 g hg) (g.gcl t i e) rfl (QV hn),rfl⟩
 ·cases h
 ·split at h
  ·cases h
  rename_i e;have hm:X.mg t=none:=g.blt t e;have fin:∀n:String,bootBuiltins t=some (.type n)->PE X (.Name t p) (tC (.ty n)):=λn hb=>Qij (Q5 g hg) hm hb rfl hn2 (QV hn);split at h
  ·rename_i e;subst e;cases h;exact⟨_,fin "int" (by decide +kernel),rfl⟩
  split at h
  ·rename_i e;subst e;cases h;exact⟨_,fin "str" (by decide +kernel),rfl⟩
  split at h
  ·rename_i e;subst e;cases h;exact⟨_,fin "bool" (by decide +kernel),rfl⟩
  split at h
  ·rename_i e;subst e;cases h;exact⟨_,fin "list" (by decide +kernel),rfl⟩
  split at h
  ·rename_i e;subst e;cases h;exact⟨_,fin "tuple" (by decide +kernel),rfl⟩
  split at h
  ·rename_i e;subst e;cases h;exact⟨_,fin "dict" (by decide +kernel),rfl⟩
  split at h
  ·rename_i e;subst e;cases h;exact⟨_,fin "ValueError" (by decide +kernel),rfl⟩
  ·cases h
def Qnf{a:Expr}{t:Str}{ty:Ty}{a':E}{p1:Pos}(g:GX T A C X)(S:Snd T A C X cf m)(hi:ZI C "isinstance"=true)(hl:¬C.bl.contains ("isinstance":Str)=false)(hg:ZI C t=true)(hn:t≠"__debug__")(hn2:t≠"__name__")(h:QjO C t=some ty)(ha:Qe m C a=some a'):
  PE X (.Call (.Name "isinstance" p) [a,.Name t p1] [] pos) (TI T A X.K (ev T cf (d+1) (.isi a' ty))):=by
 obtain⟨v,hv,hc⟩:=QpS (p:=p1) g hg hn hn2 h;have s1:starEach [a,.Name t p1] X.env=(false,eval a X.env)::starEach [.Name t p1] X.env:=Qk (Qw ha)
 refine QY (YL Qgb (Q5 g hi) (g.blt _ hl) (by decide +kernel) (Zk (S.e d a a' ha) (Zk hv JD) s1) (by decide) (by decide) s1 rfl) ?_
 rintro Y H Q ⟨α,ρ,hs,u,hs',rs,R,e,q⟩;simp only[ev]at e;obtain⟨u1,h1,e1,e⟩:=Qb e;simp only[Xc]at e;obtain⟨b,e2,e⟩:=e;cases e;refine TI.run rs R e1 λα1 x H1 E1 R1 r1 rs1=>?_;obtain⟨tv,h1,h2⟩:=Qlq g.txt e2 r1 R1;exact⟨x,v,_,tv,b,rfl,hc,h1,h2,q α1 _ H1 E1 R1 rfl⟩
end
end
end Iv
namespace L2
open PySem PySem.Spec PyProof.Rows
section
open Sem (wp)
variable {xs ys:Array Value}{k1 k2:Nat}{a x:Value}{Q:Value->Shared->Prop}
structure Nx(prog:Program)(w:World)(it l:Addr)(P:Nat->Heap->Prop)(L:Array Value->Heap->Prop):Prop where
 item:∀(A:Around) (E:Value->Shared->Prop) (s:Shared) (k:Nat) (xs:Array Value) (x:Value) (Q:Value->Shared->Prop),P k s.heap->L xs s.heap->xs[k]?=some x->(∀h',P (k+1) h'->Heap.SameBut it s.heap h'->Q x {s with heap:=h'}) ->
  wpAny (model prog w) A (Builtin.SmallTypes.nextOf (.ref it)) Q E s
 done:∀(A:Around) (E:Value->Shared->Prop) (s:Shared) (k:Nat) (xs:Array Value) (Q:Value->Shared->Prop),A.handled=none->P k s.heap->L xs s.heap->xs[k]?=none ->
  (∀h' e,Heap.ExtBut it s.heap h'->(∃o,h'.get? e=some o/\o.cls=.type "StopIteration")->E (.ref e) {s with heap:=h'})->wpAny (model prog w) A (Builtin.SmallTypes.nextOf (.ref it)) Q E s
 keepP:∀k h h',P k h->(∀o,h.get? it=some o->h'.get? it=some o)->P k h'
 keepL:∀xs h h',L xs h->(∀o,h.get? l=some o->h'.get? l=some o)->L xs h'
 obj:∀k h,P k h->∃o vs,h.get? it=some o/\o.data=.fields vs
def Qiv(prog:Program)(w:World)(it l:Addr):Nx prog w it l (λk h=>h.IsListIter it l k) (λxs h=>h.IsList l xs) where
 item:=λA E s k xs x Q p q e h=>wpAny_nextOf_list_item p q e h
 done:=λA E s k xs Q hh p q e h=>wpAny_nextOf_list_end hh p q e h
 keepP:=λk h h' p f=>p.at λo e=>f o e
 keepL:=λxs h h' p f=>p.at λo e=>f o e
 obj:=λk h z=>by obtain⟨o,e,_,d⟩:=z;exact⟨o,_,e,d⟩
section
variable {prog:Program}{w:World}{A:Around}{E:Value->Shared->Prop}{s:Shared}
def Yq{it t:Addr}{i:Nat}{items:Array Value}(hit:s.heap.IsTupleIter it t i)
  (ht:s.heap.IsTuple t items) (hx:items[i]?=some x) (hQ:∀h',h'.IsTupleIter it t (i+1)->Heap.SameBut it s.heap h'->Q x {s with heap:=h'}):
  wpAny (model prog w) A (Builtin.SmallTypes.nextOf (.ref it)) Q E s:=by
 obtain⟨o,ho,hc,hd⟩:=id hit;obtain⟨ol,hol,_,nl,hdl⟩:=ht;unfold Builtin.SmallTypes.nextOf
 refine Xa (V6 (name:=Str.ofString "__next__") hit.typeIs Uf
  (Uz Uf hit.typeIs F.entry_tuple_iterator_next ?_ (F.args_tuple_iterator_next_1 _)))
 show wpAny _ _ (field (.ref it) 0 >>= _) _ _ s;refine Xa (Wl ho hd (x:=.ref t) rfl ?_);show wpAny _ _ (if(Value.ref t==Value.none)=true then _ else _) _ _ s;rw[if_neg (show ¬((Value.ref t==Value.none)=true)from Xn)];show wpAny _ _ (field (.ref it) 1 >>= _) _ _ s;refine Xa (Wl ho hd (x:=.int i 0) rfl ?_);show wpAny _ _ (seqItems? (.ref t) >>= _) _ _ s;refine Xa (W9 hol hdl ?_);simp only[Int.toNat_natCast,hx]
 refine Xa (wpAny_setField ho hd (by simp) (Xf ⟨x,rfl,Xf (hQ _ ?_ (Heap.SameBut.update ..))⟩))
 exact⟨_,Wz _ ho (Ts (Us hd _)),(Obj.cls_mapFields ..).trans hc,by
  rw[Us hd];simp[rawInt]⟩
def YF{it t:Addr}{i:Nat}{items:Array Value}(hh:A.handled=none)
  (hit:s.heap.IsTupleIter it t i) (ht:s.heap.IsTuple t items) (hx:items[i]?=none)
  (hE:∀h' e,Heap.ExtBut it s.heap h'->(∃o,h'.get? e=some o/\o.cls=.type "StopIteration")->E (.ref e) {s with heap:=h'}):
  wpAny (model prog w) A (Builtin.SmallTypes.nextOf (.ref it)) Q E s:=by
 obtain⟨o,ho,hc,hd⟩:=id hit;obtain⟨ol,hol,_,nl,hdl⟩:=ht;unfold Builtin.SmallTypes.nextOf
 refine Xa (V6 (name:=Str.ofString "__next__") hit.typeIs Uf
  (Uz Uf hit.typeIs F.entry_tuple_iterator_next ?_ (F.args_tuple_iterator_next_1 _)))
 show wpAny _ _ (field (.ref it) 0 >>= _) _ _ s;refine Xa (Wl ho hd (x:=.ref t) rfl ?_);show wpAny _ _ (if(Value.ref t==Value.none)=true then _ else _) _ _ s;rw[if_neg (show ¬((Value.ref t==Value.none)=true)from Xn)];show wpAny _ _ (field (.ref it) 1 >>= _) _ _ s;refine Xa (Wl ho hd (x:=.int i 0) rfl ?_);show wpAny _ _ (seqItems? (.ref t) >>= _) _ _ s;refine Xa (W9 hol hdl ?_);simp only[Int.toNat_natCast,hx]
 refine Xa (wpAny_rule (Xa (wpAny_setField ho hd (by simp) ?_)))
 show wpAny _ _ (newExc (.type "StopIteration") [] >>= _) _ _ _;refine Xa ?_;simp only[newExc,newTuple]
 refine Xa (Ws ?_ (by size_fits))
 refine Xa (m:=firstArgMember _ _) (Tn (a:=Value.none) (by first|rfl|(simp only[firstArgMember];rfl)) ?_)
 refine Ws ?_ (by size_fits)
 simp only[raiseNew];refine Xa (wpAny_handled ?_)
 first|rw[show A.in1.handled=none from hh]|rw[hh]
 refine Xa (Xf (wpAny_throw ?_));exact hE _ _ (((Heap.SameBut.update ..).extBut.push _).push _) ⟨_,Xu _ rfl,rfl⟩
end
def QfC(prog:Program)(w:World)(it l:Addr):Nx prog w it l (λk h=>h.IsTupleIter it l k) (λxs h=>h.IsTuple l xs) where
 item:=λA E s k xs x Q p q e h=>Yq p q e h
 done:=λA E s k xs Q hh p q e h=>YF hh p q e h
 keepP:=λk h h' p f=>p.at λo e=>f o e
 keepL:=λxs h h' p f=>p.at λo e=>f o e
 obj:=λk h z=>by obtain⟨o,e,_,d⟩:=z;exact⟨o,_,e,d⟩
section
variable {prog:Program}{w:World}{A:Around}{E:Value->Shared->Prop}{s:Shared}{z TI TO i1 i2 l1 l2:Addr}{P1 P2:Nat->Heap->Prop}{L1 L2:Array Value->Heap->Prop}
def QcX{y b:Value}(N1:Nx prog w i1 l1 P1 L1)(N2:Nx prog w i2 l2 P2 L2)(D:ZipApart z TI TO i1 i2 l1 l2)
  (hz:IsZip s.heap z TI TO .none) (hTI:IsPair s.heap TI (.ref i1) (.ref i2)) (hTO:IsPair s.heap TO a b)
  (h1:P1 k1 s.heap) (h2:P2 k2 s.heap) (hl1:L1 xs s.heap) (hl2:L2 ys s.heap) (hx:xs[k1]?=some x) (hy:ys[k2]?=some y)
  (hQ:∀h',IsZip h' z TI TO (rawInt s.heap.objs.size)->IsPair h' TO x y->P1 (k1+1) h'->P2 (k2+1) h'->IsPair h' s.heap.objs.size x y->h'.objs.size=s.heap.objs.size+1 ->
   (∀c o,c≠z->c≠TO->c≠i1->c≠i2->s.heap.get? c=some o->h'.get? c=some o)->Q (.ref s.heap.objs.size) {s with heap:=h'}):
  wpAny (model prog w) A (Builtin.«zip.__next__» ⟨[.ref z],[]⟩) (λfin s'=>∃v,fin=.done (.ret v)/\Q v s') E s:=by
 have kP1:∀{k:Nat} {h h':Heap} {c:Addr},P1 k h->Heap.SameBut c h h'->i1≠c->P1 k h':=λ{k h h' c} p sb ne=>N1.keepP k h h' p λo e=>(sb.2 i1 ne).trans e;have kP2:∀{k:Nat} {h h':Heap} {c:Addr},P2 k h->Heap.SameBut c h h'->i2≠c->P2 k h':=λ{k h h' c} p sb ne=>N2.keepP k h h' p λo e=>(sb.2 i2 ne).trans e;have kL1:∀{h h':Heap} {c:Addr},L1 xs h->Heap.SameBut c h h'->l1≠c->L1 xs h':=λ{h h' c} p sb ne=>N1.keepL xs h h' p λo e=>(sb.2 l1 ne).trans e;have kL2:∀{h h':Heap} {c:Addr},L2 ys h->Heap.SameBut c h h'->l2≠c->L2 ys h':=λ{h h' c} p sb ne=>N2.keepL ys h h' p λo e=>(sb.2 l2 ne).trans e;show wpAny _ _ (field (.ref z) 2 >>= _) _ _ _;refine Xa (Wl hz rfl (x:=.bool false) rfl ?_);show wpAny _ _ (field (.ref z) 3 >>= _) _ _ _;refine Xa (Wl hz rfl (x:=.ref TI) rfl ?_);refine Xa (W9 hTI rfl ?_);show wpAny _ _ (Builtin.SmallTypes.ownedTupleIsFree (.ref z) >>= _) _ _ _;refine Xa ?_;unfold Builtin.SmallTypes.ownedTupleIsFree;refine Xa (Wl hz rfl (x:=.none) rfl (Xf ?_));simp only[Wg];refine Xa (wpAny_rule ?_);refine Xa (Wl hz rfl (x:=.ref TO) rfl ?_)
 refine Xa (Ub hz (by simp) λh₁ hz₁ hs₁=>?_)
 replace hz₁:IsZip h₁ z TI TO .ellipsis:=hz₁;refine Xa ?_;simp only[List.zipIdx_cons,List.zipIdx_nil,List.forIn_cons,List.forIn_nil];refine Xa (Xa (wpAny_onRaise ?_));show wpAny _ _ (Builtin.SmallTypes.nextOf (.ref i1) >>= _) _ _ _;refine Xa (N1.item _ _ _ _ _ _ _ (kP1 h1 hs₁ D.i1z) (kL1 hl1 hs₁ D.l1z) hx λh₂ h1₂ hs₂=>Xf ?_);have hTO₂:IsPair h₂ TO a b:=hs₂.extBut _ _ D.TOi1 (hs₁.extBut _ _ D.TOz hTO);refine Xa (W9 hTO₂ rfl ?_);refine Xa (wpAny_updateSeq_pair hTO₂ λh₃ hTO₃ hs₃=>?_);replace hTO₃:IsPair h₃ TO x b:=hTO₃;refine Xa (U8 (Xf ?_));refine Xa (Xa (wpAny_onRaise ?_));show wpAny _ _ (Builtin.SmallTypes.nextOf (.ref i2) >>= _) _ _ _;refine Xa (N2.item _ _ _ _ _ _ _ (kP2 (kP2 (kP2 h2 hs₁ D.i2z) hs₂ D.i12.symm) hs₃ D.TOi2.symm) (kL2 (kL2 (kL2 hl2 hs₁ D.l2z) hs₂ D.l2i1) hs₃ D.l2TO) hy λh₄ h2₄ hs₄=>Xf ?_);have hTO₄:IsPair h₄ TO x b:=hs₄.extBut _ _ D.TOi2 hTO₃;refine Xa (W9 hTO₄ rfl ?_);refine Xa (wpAny_updateSeq_pair hTO₄ λh₅ hTO₅ hs₅=>?_);replace hTO₅:IsPair h₅ TO x y:=hTO₅;refine Xa (U8 (Xf (Xf ?_)));refine Xa (W9 hTO₅ rfl ?_);refine Xa (wpAny_newTuple ?_)
 have hsz:h₅.objs.size=s.heap.objs.size:=by rw[hs₅.1,hs₄.1,hs₃.1,hs₂.1,hs₁.1]
 have hz₅:IsZip h₅ z TI TO .ellipsis:=hs₅.extBut _ _ D.TOz.symm (hs₄.extBut _ _ D.i2z.symm (hs₃.extBut _ _ D.TOz.symm (hs₂.extBut _ _ D.i1z.symm hz₁)))
 have hk₅:∀c o,c≠z->c≠TO->c≠i1->c≠i2->s.heap.get? c=some o->h₅.get? c=some o:=λc o c1 c2 c3 c4 e=>
  hs₅.extBut _ _ c2 (hs₄.extBut _ _ c4 (hs₃.extBut _ _ c2 (hs₂.extBut _ _ c3 (hs₁.extBut _ _ c1 e))))
 have h1₅:P1 (k1+1) h₅:=kP1 (kP1 (kP1 h1₂ hs₃ D.TOi1.symm) hs₄ D.i12) hs₅ D.TOi1.symm;have h2₅:P2 (k2+1) h₅:=kP2 h2₄ hs₅ D.TOi2.symm;have hzlt:z<h₅.objs.size:=Xk hz₅;show wpAny _ _ (Builtin.SmallTypes.ownedTupleHandOut (.ref z) (.ref h₅.objs.size) >>= _) _ _ _;refine Xa ?_;unfold Builtin.SmallTypes.ownedTupleHandOut;have hz₆:IsZip (h₅.push {cls:=.type "tuple",data:=.seq #[x,y]}) z TI TO .ellipsis:=Xd _ hz₅
 refine Xa (Ub hz₆ (by simp) λh₇ hz₇ hs₇=>?_)
 replace hz₇:IsZip h₇ z TI TO (rawInt h₅.objs.size):=hz₇
 refine Ub hz₇ (by simp) λh₈ hz₈ hs₈=>?_
 replace hz₈:IsZip h₈ z TI TO (rawInt h₅.objs.size):=hz₈;have up:∀c o,c≠z->h₅.get? c=some o->h₈.get? c=some o:=λc o c1 e=>hs₈.extBut _ _ c1 (hs₇.extBut _ _ c1 (Xd _ e));have hT₈:IsPair h₈ h₅.objs.size x y:=hs₈.extBut _ _ (Nat.ne_of_gt hzlt) (hs₇.extBut _ _ (Nat.ne_of_gt hzlt) (Xu _ rfl))
 have hz8:h₈.objs.size=h₅.objs.size+1:=by rw[hs₈.1,hs₇.1,W7]
 rw[hsz]at hz₈ hT₈ hz8;refine Xf ⟨_,rfl,?_⟩;show Q (.ref h₅.objs.size) _;rw[hsz];exact hQ h₈ hz₈ (up _ _ D.TOz hTO₅) (N1.keepP _ _ _ h1₅ λo e=>up _ o D.i1z e) (N2.keepP _ _ _ h2₅ λo e=>up _ o D.i2z e) hT₈ hz8 λc o c1 c2 c3 c4 e=>up c o c1 (hk₅ c o c1 c2 c3 c4 e)
def QeQ{b:Value}{Q:Fin->Shared->Prop}(N1:Nx prog w i1 l1 P1 L1)(N2:Nx prog w i2 l2 P2 L2)(hh:A.handled=none)(D:ZipApart z TI TO i1 i2 l1 l2)
  (hz:IsZip s.heap z TI TO .none) (hTI:IsPair s.heap TI (.ref i1) (.ref i2)) (hTO:IsPair s.heap TO a b)
  (h1:P1 k1 s.heap) (h2:P2 k2 s.heap) (hl1:L1 xs s.heap) (hl2:L2 ys s.heap) (hend:xs[k1]?=none\/ys[k2]?=none)
  (hE:∀h' e,(∀c o,c≠z->c≠TO->c≠i1->c≠i2->s.heap.get? c=some o->h'.get? c=some o)->(∃o,h'.get? e=some o/\o.cls=.type "StopIteration")->E (.ref e) {s with heap:=h'}):
  wpAny (model prog w) A (Builtin.«zip.__next__» ⟨[.ref z],[]⟩) Q E s:=by
 have kP1:∀{k:Nat} {h h':Heap} {c:Addr},P1 k h->Heap.SameBut c h h'->i1≠c->P1 k h':=λ{k h h' c} p sb ne=>N1.keepP k h h' p λo e=>(sb.2 i1 ne).trans e;have kP2:∀{k:Nat} {h h':Heap} {c:Addr},P2 k h->Heap.SameBut c h h'->i2≠c->P2 k h':=λ{k h h' c} p sb ne=>N2.keepP k h h' p λo e=>(sb.2 i2 ne).trans e;have kL1:∀{h h':Heap} {c:Addr},L1 xs h->Heap.SameBut c h h'->l1≠c->L1 xs h':=λ{h h' c} p sb ne=>N1.keepL xs h h' p λo e=>(sb.2 l1 ne).trans e;have kL2:∀{h h':Heap} {c:Addr},L2 ys h->Heap.SameBut c h h'->l2≠c->L2 ys h':=λ{h h' c} p sb ne=>N2.keepL ys h h' p λo e=>(sb.2 l2 ne).trans e;show wpAny _ _ (field (.ref z) 2 >>= _) _ _ _;refine Xa (Wl hz rfl (x:=.bool false) rfl ?_);show wpAny _ _ (field (.ref z) 3 >>= _) _ _ _;refine Xa (Wl hz rfl (x:=.ref TI) rfl ?_);refine Xa (W9 hTI rfl ?_);show wpAny _ _ (Builtin.SmallTypes.ownedTupleIsFree (.ref z) >>= _) _ _ _;refine Xa ?_;unfold Builtin.SmallTypes.ownedTupleIsFree;refine Xa (Wl hz rfl (x:=.none) rfl (Xf ?_));simp only[Wg];refine Xa (wpAny_rule ?_);refine Xa (Wl hz rfl (x:=.ref TO) rfl ?_)
 refine Xa (Ub hz (by simp) λh₁ hz₁ hs₁=>?_)
 replace hz₁:IsZip h₁ z TI TO .ellipsis:=hz₁;refine Xa ?_;simp only[List.zipIdx_cons,List.zipIdx_nil,List.forIn_cons,List.forIn_nil];refine Xa (Xa (wpAny_onRaise ?_));show wpAny _ _ (Builtin.SmallTypes.nextOf (.ref i1) >>= _) _ _ _
 cases hx:xs[k1]? with
 |none=>
  refine Xa (N1.done _ _ _ _ _ _ hh (kP1 h1 hs₁ D.i1z) (kL1 hl1 hs₁ D.l1z) hx λh₂ e hs₂ he=>?_);obtain⟨oe,hoe,hce⟩:=he;have hz₂:IsZip h₂ z TI TO .ellipsis:=hs₂ _ _ D.i1z.symm hz₁
  have hez:e≠z:=λx=>by subst x;rw[hz₂]at hoe;cases hoe;simp at hce
  refine Ub hz₂ (by simp) λh₃ y hs₃=>hE h₃ e (λc o c1 y c3 y x=>hs₃.extBut _ _ c1 (hs₂ _ _ c3 (hs₁.extBut _ _ c1 x))) ⟨oe,hs₃.extBut _ _ hez hoe,hce⟩
 |some x=>
  have hy:ys[k2]?=none:=by rcases hend with h|h;rw[hx]at h;cases h;exact h
  refine Xa (N1.item _ _ _ _ _ _ _ (kP1 h1 hs₁ D.i1z) (kL1 hl1 hs₁ D.l1z) hx λh₂ h1₂ hs₂=>Xf ?_);have hTO₂:IsPair h₂ TO a b:=hs₂.extBut _ _ D.TOi1 (hs₁.extBut _ _ D.TOz hTO);refine Xa (W9 hTO₂ rfl ?_);refine Xa (wpAny_updateSeq_pair hTO₂ λh₃ hTO₃ hs₃=>?_);refine Xa (U8 (Xf ?_));refine Xa (Xa (wpAny_onRaise ?_));show wpAny _ _ (Builtin.SmallTypes.nextOf (.ref i2) >>= _) _ _ _;refine Xa (N2.done _ _ _ _ _ _ hh (kP2 (kP2 (kP2 h2 hs₁ D.i2z) hs₂ D.i12.symm) hs₃ D.TOi2.symm) (kL2 (kL2 (kL2 hl2 hs₁ D.l2z) hs₂ D.l2i1) hs₃ D.l2TO) hy λh₄ e hs₄ he=>?_);obtain⟨oe,hoe,hce⟩:=he;have hz₄:IsZip h₄ z TI TO .ellipsis:=hs₄ _ _ D.i2z.symm (hs₃.extBut _ _ D.TOz.symm (hs₂.extBut _ _ D.i1z.symm hz₁))
  have hez:e≠z:=λx=>by subst x;rw[hz₄]at hoe;cases hoe;simp at hce
  refine Ub hz₄ (by simp) λh₅ y hs₅=>hE h₅ e (λc o c1 c2 c3 c4 x=>hs₅.extBut _ _ c1 (hs₄ _ _ c4 (hs₃.extBut _ _ c2 (hs₂.extBut _ _ c3 (hs₁.extBut _ _ c1 x))))) ⟨oe,hs₅.extBut _ _ hez hoe,hce⟩
def YE{y b:Value}{Q:Option Value->Shared->Prop}(N1:Nx prog w i1 l1 P1 L1)(N2:Nx prog w i2 l2 P2 L2)(D:ZipApart z TI TO i1 i2 l1 l2)
  (hz:IsZip s.heap z TI TO .none) (hTI:IsPair s.heap TI (.ref i1) (.ref i2)) (hTO:IsPair s.heap TO a b)
  (h1:P1 k1 s.heap) (h2:P2 k2 s.heap) (hl1:L1 xs s.heap) (hl2:L2 ys s.heap) (hx:xs[k1]?=some x) (hy:ys[k2]?=some y)
  (hQ:∀h',IsZip h' z TI TO (rawInt s.heap.objs.size)->IsPair h' TO x y->P1 (k1+1) h'->P2 (k2+1) h'->IsPair h' s.heap.objs.size x y->h'.objs.size=s.heap.objs.size+1 ->
   (∀c o,c≠z->c≠TO->c≠i1->c≠i2->s.heap.get? c=some o->h'.get? c=some o)->Q (some (.ref s.heap.objs.size)) {s with heap:=h'}):
  wpAny (model prog w) A (pyNext (.ref z)) Q E s:=by
 have hT:s.TypeIs (.ref z) "zip":=⟨_,hz,rfl⟩;unfold pyNext
 exact Xa (U4 (V6 (name:=Str.ofString "__next__") hT Tz
  (Uz Tz hT F.entry_zip_next
   (QcX N1 N2 D hz hTI hTO h1 h2 hl1 hl2 hx hy λh' a1 a2 a3 a4 a5 a6 a7=>Xf (hQ h' a1 a2 a3 a4 a5 a6 a7)) (F.args_zip_next_1 _))))
def Y1{b:Value}{Q:Option Value->Shared->Prop}(N1:Nx prog w i1 l1 P1 L1)(N2:Nx prog w i2 l2 P2 L2)(hh:A.handled=none)(D:ZipApart z TI TO i1 i2 l1 l2)
  (hz:IsZip s.heap z TI TO .none) (hTI:IsPair s.heap TI (.ref i1) (.ref i2)) (hTO:IsPair s.heap TO a b)
  (h1:P1 k1 s.heap) (h2:P2 k2 s.heap) (hl1:L1 xs s.heap) (hl2:L2 ys s.heap) (hend:xs[k1]?=none\/ys[k2]?=none)
  (hQ:∀h',(∀c o,c≠z->c≠TO->c≠i1->c≠i2->s.heap.get? c=some o->h'.get? c=some o)->Q none {s with heap:=h'}):wpAny (model prog w) A (pyNext (.ref z)) Q E s:=by
 have hT:s.TypeIs (.ref z) "zip":=⟨_,hz,rfl⟩;unfold pyNext
 refine Xa (U4 (V6 (name:=Str.ofString "__next__") hT Tz
  (Uz Tz hT F.entry_zip_next (QeQ N1 N2 hh D hz hTI hTO h1 h2 hl1 hl2 hend λh' e hk he=>?_) (F.args_zip_next_1 _))))
 obtain⟨o,ho,hc⟩:=he;refine Xa (wpAny_isInstance (T:="StopIteration") (b:=true) ⟨o,ho,hc⟩ isSubtype_stop ?_);exact Xf (hQ _ hk)
end
end
section
variable {X:Cx}{H:Hp}{pins:List (Addr×Obj)}{s:Shared}{Y:St}
section
variable {h':Heap}
def Inv.turnedLay{t':Nat}{ch:List Addr}{p:Addr}{vs:List V}{its:List Value}(I:Inv X pins Y H s)(hf:∀b∈ch,Js X pins H b)(k:∀b o,b∉ch->s.heap.get? b=some o->h'.get? b=some o)
  (there:∀b o,b∈ch->s.heap.get? b=some o->∃o',h'.get? b=some o')
  (hp:s.heap.objs.size<=p) (hv:Vals vs its) (ht:IsTup h' p its.toArray) (hz:vs.length<=sizeLine):Inv X pins Y (upd H p (.tup vs)) {s with heap:=h',toks:=t'}:=by
 have hn:H p=none:=I.hok.fresh hp
 have ne:∀b o,s.heap.get? b=some o->b≠p:=λb o e z=>by
  have:=Xk e;rw[z]at this;exact absurd (Xr this hp) (Wu _)
 have nch:∀b u,H b=some u->b∉ch:=λb u e z=>by rw[(hf b z).1]at e;cases e
 have up:∀b u,H b=some u->upd H p (.tup vs) b=some u:=λb u e=>by rw[Qd (Zo e hn)];exact e
 refine I.step (g':=s.gens) (d':=s.drawn) (ch:=ch) (λb hb=>?_) (λb o y y hc e y=>k b o hc e) (λb o y y hc e y=>⟨o.slots,k b o hc e⟩) (λb o y e n=>by rw[Qd (ne b o e)];exact n)
  (λb o hc e=>⟨o,k b o hc e⟩) (λb xs e=>up b _ e) (λb o u e=>up b _ e) (λb ps e=>⟨#[],by rw[up b _ e];simp⟩) (λm hm=>?_) (λb u e=>?_) I.bare
 ·obtain⟨_,f1,_,f3,f4,f5⟩:=hf b hb;exact⟨f3,f1,f4,f5⟩
 ·obtain⟨o,es,ep,ho,r⟩:=hm;refine⟨o,es,ep,k _ o (λz=>(hf _ z).2.1 rfl) ho,r⟩
 ·by_cases hb:b=p
  ·subst hb;rw[Qh]at e;cases e;exact⟨hz,its,hv,ht⟩
  ·rw[Qd hb]at e;refine(I.hok b u e).stay (λc v hc q=>k c v ?_ q) (λc q=>up c _ q) λc xs q=>up c _ q
   rcases hc with z|z
   ·rw[z];exact nch b u e
   ·exact nch c _ z
def Inv.turnedL{t':Nat}{ch:List Addr}(I:Inv X pins Y H s)(hf:∀b∈ch,Js X pins H b)(k:∀b o,b∉ch->s.heap.get? b=some o->h'.get? b=some o):Inv X pins Y H {s with heap:=h',toks:=t'}:=by
 have nch:∀b u,H b=some u->b∉ch:=λb u e z=>by rw[(hf b z).1]at e;cases e
 refine I.step (g':=s.gens) (d':=s.drawn) (ch:=ch) (λb hb=>?_) (λb o y y hc e y=>k b o hc e) (λb o y y hc e y=>⟨o.slots,k b o hc e⟩) (λb o y e n=>n)
  (λb o hc e=>⟨o,k b o hc e⟩) (λb xs e=>e) (λb o u e=>e) (λb ps e=>⟨#[],by rw[e];simp⟩) (λm hm=>?_) (λb u e=>?_) I.bare
 ·obtain⟨_,f1,_,f3,f4,f5⟩:=hf b hb;exact⟨f3,f1,f4,f5⟩
 ·obtain⟨o,es,ep,ho,r⟩:=hm;exact⟨o,es,ep,k _ o (λz=>(hf _ z).2.1 rfl) ho,r⟩
 ·refine(I.hok b u e).stay (λc v hc q=>k c v ?_ q) (λc q=>q) λc xs q=>q
  rcases hc with z|z
  ·rw[z];exact nch b u e
  ·exact nch c _ z
end
def SqB:Bool->W.Frag->Hp->Addr->List V->Prop
 |true=>SqL
 |false=>SqT
def LB:Bool->Addr->Array Value->Heap->Prop
 |true,l=>λxs h=>h.IsList l xs
 |false,l=>λxs h=>h.IsTuple l xs
def PB:Bool->Addr->Addr->Nat->Heap->Prop
 |true,it,l=>λk h=>h.IsListIter it l k
 |false,it,l=>λk h=>h.IsTupleIter it l k
def nxB(b:Bool)(prog:Program)(w:World)(it l:Addr):Nx prog w it l (PB b it l) (LB b l):=by
 cases b with
 |true=>exact Qiv prog w it l
 |false=>exact QfC prog w it l
def Inv.sqB{b:Bool}{a:Addr}{xs:List V}(I:Inv X pins Y H s)(h:SqB b X.K H a xs):∃its:List Value,Vals xs its/\LB b a its.toArray s.heap/\xs.length<=sizeLine:=by
 cases b with
 |true=>obtain⟨its,r,p,z⟩:=I.list h;exact⟨its,r,p.isList,z⟩
 |false=>obtain⟨its,r,p,z⟩:=I.tuple h;exact⟨its,r,p,z⟩
def Inv.sqB_inj{b:Bool}{a:Addr}{xs ys:List V}(I:Inv X pins Y H s)(h:SqB b X.K H a xs)(h':SqB b X.K H a ys):xs=ys:=by
 cases b with
 |true=>exact I.list_inj h h'
 |false=>exact I.tuple_inj h h'
noncomputable def Itz(b c:Bool)(K:W.Frag)(a1 a2:Addr):It :=
 ⟨λi H=>∃xs ys x y,SqB b K H a1 xs/\SqB c K H a2 ys/\xs[i]?=some x/\ys[i]?=some y,
   λi H x H'=>∃p v w,H p=none/\x=.ref p/\H'=upd H p (.tup [v,w])/\(∀xs,SqB b K H a1 xs->xs[i]?=some v)/\∀ys,SqB c K H a2 ys->ys[i]?=some w,
   λi H=>∃xs ys,SqB b K H a1 xs/\SqB c K H a2 ys/\(xs.length<=i\/ys.length<=i)⟩
def QeW{P:Program}{w:World}{K:W.Frag}{elts:List Expr}{kt:Nat}{pt:Pos}(b b':Bool)(a1 a2 z TI TO i1 i2:Addr)(D:ZipApart z TI TO i1 i2 a1 a2):
  Turn P w K (.Tuple elts kt pt) (Itz b b' K a1 a2) [z,TI,TO,i1,i2] z (λi h=>IsZip h z TI TO .none/\IsPair h TI (.ref i1) (.ref i2)/\(∃a c,IsPair h TO a c)/\PB b i1 a1 i h/\PB b' i2 a2 i h) where
 mem:=by simp
 obj:=λi h st c hc=>by
  obtain⟨hz,hTI,⟨a,c',hTO⟩,p1,p2⟩:=st
  have hc':c=z\/c=TI\/c=TO\/c=i1\/c=i2:=by simpa using hc
  rcases hc' with rfl|rfl|rfl|rfl|rfl
  ·exact⟨_,hz,λv q=>nomatch q⟩
  ·exact⟨_,hTI,λv q=>nomatch q⟩
  ·exact⟨_,hTO,λv q=>nomatch q⟩
  ·obtain⟨o,vs,e,d⟩:=(nxB b P w c a1).obj i h p1
   exact⟨o,e,λv q=>by rw[d]at q;cases q⟩
  ·obtain⟨o,vs,e,d⟩:=(nxB b' P w c a2).obj i h p2
   exact⟨o,e,λv q=>by rw[d]at q;cases q⟩
 keep:=λi h h' st k=>by
  obtain⟨hz,hTI,⟨a,c',hTO⟩,p1,p2⟩:=st
  exact⟨k z (by simp) _ hz,k TI (by simp) _ hTI,⟨a,c',k TO (by simp) _ hTO⟩,(nxB b P w i1 a1).keepP i h h' p1 λo e=>k i1 (by simp) o e,(nxB b' P w i2 a2).keepP i h h' p2 λo e=>k i2 (by simp) o e⟩
 item:=by
  intro X hP hw hK hc i pins s Y H E I hf st hg;subst hP hw hK;obtain⟨hz,hTI,⟨a,c',hTO⟩,p1,p2⟩:=st;obtain⟨xs,ys,x,y,q1,q2,ex,ey⟩:=hg;obtain⟨it1,r1,l1,_⟩:=I.sqB q1;obtain⟨it2,r2,l2,_⟩:=I.sqB q2;obtain⟨u,hu,ru⟩:=r1.get ex;obtain⟨v,hv,rv⟩:=r2.get ey
  have ltz:∀c,c∈[z,TI,TO,i1,i2]->c<s.heap.objs.size:=λc hc=>by
   have hc':c=z\/c=TI\/c=TO\/c=i1\/c=i2:=by simpa using hc
   rcases hc' with rfl|rfl|rfl|rfl|rfl
   ·exact Xk hz
   ·exact Xk hTI
   ·exact Xk hTO
   ·obtain⟨o,vs,e,d⟩:=(nxB b X.prog X.w c a1).obj i _ p1;exact Xk e
   ·obtain⟨o,vs,e,d⟩:=(nxB b' X.prog X.w c a2).obj i _ p2;exact Xk e
  refine YE (nxB b X.prog X.w i1 a1) (nxB b' X.prog X.w i2 a2) D hz hTI hTO p1 p2 l1 l2 (x:=u) (y:=v) (by simpa using hu) (by simpa using hv) λh' b1 b2 b3 b4 b5 b6 b7=>?_
  refine⟨_,rfl,?_⟩;refine wpAny_letOwnedTupleGo_zip (s:={s with heap:=h'}) b1 λh2 c1 c2=>?_;have nep:∀c,c∈[z,TI,TO,i1,i2]->c≠s.heap.objs.size:=λc hc=>X1 (ltz c hc);have up:∀c o,c≠z->h'.get? c=some o->h2.get? c=some o:=λc o hc e=>c2.extBut _ _ hc e
  have kp:∀c o,c∉[z,TO,i1,i2]->s.heap.get? c=some o->h2.get? c=some o:=λc o hc e=>by
   have hc':¬(c=z\/c=TO\/c=i1\/c=i2):=by simpa using hc
   exact up c o (λq=>hc' (.inl q)) (b7 c o (λq=>hc' (.inl q)) (λq=>hc' (.inr (.inl q))) (λq=>hc' (.inr (.inr (.inl q)))) (λq=>hc' (.inr (.inr (.inr q)))) e)
  have hf':∀c∈[z,TO,i1,i2],Js X pins H c:=λc hc=>hf c (by
   have hc':c=z\/c=TO\/c=i1\/c=i2:=by simpa using hc
   rcases hc' with rfl|rfl|rfl|rfl<;>simp)
  have hT:IsPair h2 s.heap.objs.size u v:=up _ _ (Wr (nep z (by simp))) b5
  have I2:Inv X pins Y (upd H s.heap.objs.size (.tup [x,y])) {s with heap:=h2}:=I.turnedLay (t':=s.toks) (its:=[u,v]) hf' kp (λc o t e=>by
   by_cases hc:c∈[z,TO,i1,i2]
   ·have hc':c=z\/c=TO\/c=i1\/c=i2:=by simpa using hc
    rcases hc' with rfl|rfl|rfl|rfl
    ·exact⟨_,c1⟩
    ·exact⟨_,up _ _ D.TOz b2⟩
    ·obtain⟨o,vs,e,d⟩:=(nxB b X.prog X.w c a1).obj _ _ b3;exact⟨o,up _ _ D.i1z e⟩
    ·obtain⟨o,vs,e,d⟩:=(nxB b' X.prog X.w c a2).obj _ _ b4;exact⟨o,up _ _ D.i2z e⟩
   ·exact⟨o,kp c o hc e⟩) (Xi _) (.cons ru (.cons rv .nil)) ⟨_,hT,rfl,_,rfl⟩ (by show 2<=sizeLine;decide)
  have hn:H s.heap.objs.size=none:=I.hok.fresh (Xi _)
  refine⟨.ref s.heap.objs.size,_,I2,rfl,⟨_,x,y,hn,rfl,rfl,λws hw=>by rw[I.sqB_inj hw q1];exact ex,λws hw=>by rw[I.sqB_inj hw q2];exact ey⟩,⟨c1,?_,⟨_,_,up _ _ D.TOz b2⟩,?_,?_⟩,λc hc=>?_⟩
  ·exact kp _ _ (by
    have d1:=D.TIz;have d2:=D.TITO;have d3:=D.TIi1;have d4:=D.TIi2
    simp[d1,d2,d3,d4]) hTI
  ·exact(nxB b X.prog X.w i1 a1).keepP _ _ _ b3 λo e=>up _ _ D.i1z e
  ·exact(nxB b' X.prog X.w i2 a2).keepP _ _ _ b4 λo e=>up _ _ D.i2z e
  ·rw[Qd (nep c hc)];exact(hf c hc).1
 done:=by
  intro X hP hw hK hc i pins s Y H E I hf st hg;subst hP hw hK;obtain⟨hz,hTI,⟨a,c',hTO⟩,p1,p2⟩:=st;obtain⟨xs,ys,q1,q2,hl⟩:=hg;obtain⟨it1,r1,l1,_⟩:=I.sqB q1;obtain⟨it2,r2,l2,_⟩:=I.sqB q2;have e1:=r1.length;have e2:=r2.length
  refine Y1 (nxB b X.prog X.w i1 a1) (nxB b' X.prog X.w i2 a2) (I.ok.hd hc) D hz hTI hTO p1 p2 l1 l2 (by
   rcases hl with q|q
   ·exact .inl (by simp;omega)
   ·exact .inr (by simp;omega)) λh' kp=>⟨rfl,I.turnedL (t':=s.toks) (ch:=[z,TO,i1,i2]) (λc hc=>hf c (by
    have hc':c=z\/c=TO\/c=i1\/c=i2:=by simpa using hc
    rcases hc' with rfl|rfl|rfl|rfl<;>simp)) λc o hc e=>?_⟩
  have hc':¬(c=z\/c=TO\/c=i1\/c=i2):=by simpa using hc
  exact kp c o (λq=>hc' (.inl q)) (λq=>hc' (.inr (.inl q))) (λq=>hc' (.inr (.inr (.inl q)))) (λq=>hc' (.inr (.inr (.inr q)))) e
 self:=λA i s Q E st h=>wpAny_pyIter_zip st.1 h
noncomputable abbrev QaN(b:Bool)(l:Addr):Obj:={cls:=.type (if b then "list_iterator" else "tuple_iterator"),data:=.fields #[.ref l,.int 0 0]}
noncomputable abbrev zH1(b:Bool)(h:Heap)(l1:Addr):Heap:=h.push (QaN b l1)
noncomputable abbrev zH2(b b':Bool)(h:Heap)(l1 l2:Addr):Heap:=(zH1 b h l1).push (QaN b' l2)
noncomputable abbrev zH3(b b':Bool)(h:Heap)(l1 l2:Addr):Heap:=(zH2 b b' h l1 l2).push {cls:=.type "tuple",data:=.seq #[.ref h.objs.size,.ref (zH1 b h l1).objs.size]}
noncomputable abbrev zH4(b b':Bool)(h:Heap)(l1 l2:Addr):Heap:=(zH3 b b' h l1 l2).push {cls:=.type "tuple",data:=.seq #[.none,.none]}
noncomputable abbrev zH5(b b':Bool)(h:Heap)(l1 l2:Addr):Heap:=(zH4 b b' h l1 l2).push {cls:=.type "zip",data:=.fields #[.none,.bool false,.bool false,.ref (zH2 b b' h l1 l2).objs.size,.ref (zH3 b b' h l1 l2).objs.size]}
def QcB(b b':Bool)(l1 l2:Addr)(xs ys:Array Value):
  Meets (Builtin.«zip.__new__» ⟨[.type "zip",.ref l1,.ref l2],[]⟩) (λz R s=>LB b l1 xs s.heap/\LB b' l2 ys s.heap /\
   R (.ok (.ret (.ref (zH4 b b' s.heap l1 l2).objs.size))) {s with heap:=zH5 b b' s.heap l1 l2}):=by
 refine .of_wp λprog w A R s h=>?_;obtain⟨hp,g,d,tk,os⟩:=s;obtain⟨hl1,hl2,h⟩:=h;have hsub:=sub_zip
 cases b with
 |true=>
  have hL1:Heap.IsList (Shared.heap ⟨hp,g,d,tk,os⟩) l1 xs:=hl1
  cases b' with
  |true=>
   have hL2:Heap.IsList (Shared.heap ⟨hp.push {cls:=.type "list_iterator",data:=.fields #[.ref l1,.int 0 0]},g,d,tk,os⟩) l2 ys:=Heap.IsList.push hl2 _
   wp_walk using Uh hL1,Uh hL2
   exact⟨_,rfl,h⟩
  |false=>
   have hL2:Heap.IsTuple (Shared.heap ⟨hp.push {cls:=.type "list_iterator",data:=.fields #[.ref l1,.int 0 0]},g,d,tk,os⟩) l2 ys:=Heap.IsTuple.at hl2 λo e=>Xd _ e
   wp_walk using Uh hL1,Ur hL2
   exact⟨_,rfl,h⟩
 |false=>
  have hL1:Heap.IsTuple (Shared.heap ⟨hp,g,d,tk,os⟩) l1 xs:=hl1
  cases b' with
  |true=>
   have hL2:Heap.IsList (Shared.heap ⟨hp.push {cls:=.type "tuple_iterator",data:=.fields #[.ref l1,.int 0 0]},g,d,tk,os⟩) l2 ys:=Heap.IsList.push hl2 _
   wp_walk using Ur hL1,Uh hL2
   exact⟨_,rfl,h⟩
  |false=>
   have hL2:Heap.IsTuple (Shared.heap ⟨hp.push {cls:=.type "tuple_iterator",data:=.fields #[.ref l1,.int 0 0]},g,d,tk,os⟩) l2 ys:=Heap.IsTuple.at hl2 λo e=>Xd _ e
   wp_walk using Ur hL1,Ur hL2
   exact⟨_,rfl,h⟩
section
variable {prog:Program}{w:World}{A:Around}{E:Value->Shared->Prop}
def Qet{b b':Bool}{l1 l2:Addr}{xs ys:Array Value}{Q:Value->Shared->Prop}(hl1:LB b l1 xs s.heap)(hl2:LB b' l2 ys s.heap)
  (h:∀h',IsZip h' (s.heap.objs.size+4) (s.heap.objs.size+2) (s.heap.objs.size+3) .none->IsPair h' (s.heap.objs.size+2) (.ref s.heap.objs.size) (.ref (s.heap.objs.size+1)) ->
   IsPair h' (s.heap.objs.size+3) .none .none->PB b s.heap.objs.size l1 0 h'->PB b' (s.heap.objs.size+1) l2 0 h'->h'.objs.size=s.heap.objs.size+5 ->
   (∀c o,s.heap.get? c=some o->h'.get? c=some o)->Q (.ref (s.heap.objs.size+4)) {s with heap:=h'}):
  wpAny (model prog w) A (call (.type "zip") [.ref l1,.ref l2]) Q E s:=by
 refine callType_new F.called_zip (by decide) (F.typeCall_zip_2 _ _) (F.newCall_zip_2 _ _) (λobj=>F.args_object_init_3 obj _ _) F.entry_zip_new
  (QcB b b' l1 l2 xs ys) ⟨hl1,hl2,?_⟩
 have z1:(zH1 b s.heap l1).objs.size=s.heap.objs.size+1:=W7 ..
 have z2:(zH2 b b' s.heap l1 l2).objs.size=s.heap.objs.size+2:=by rw[W7,z1]
 have z3:(zH3 b b' s.heap l1 l2).objs.size=s.heap.objs.size+3:=by rw[W7,z2]
 have z4:(zH4 b b' s.heap l1 l2).objs.size=s.heap.objs.size+4:=by rw[W7,z3]
 have z5:(zH5 b b' s.heap l1 l2).objs.size=s.heap.objs.size+5:=by rw[W7,z4]
 have g5:(zH5 b b' s.heap l1 l2).get? (zH4 b b' s.heap l1 l2).objs.size=some _:=Xu _ rfl;have g4:(zH5 b b' s.heap l1 l2).get? (zH3 b b' s.heap l1 l2).objs.size=some _:=Xd _ (Xu _ rfl);have g3:(zH5 b b' s.heap l1 l2).get? (zH2 b b' s.heap l1 l2).objs.size=some _:=Xd _ (Xd _ (Xu _ rfl));have g2:(zH5 b b' s.heap l1 l2).get? (zH1 b s.heap l1).objs.size=some (QaN b' l2):=Xd _ (Xd _ (Xd _ (Xu _ rfl)));have g1:(zH5 b b' s.heap l1 l2).get? s.heap.objs.size=some (QaN b l1):=Xd _ (Xd _ (Xd _ (Xd _ (Xu _ rfl))));show _/\_;rw[z2,z3,z4]at g5;rw[z1,z2]at g3;rw[z3]at g4;rw[z1]at g2;rw[z4];refine⟨⟨_,g5,rfl⟩,h _ g5 g3 g4 ?_ ?_ z5 λc o x=>Xd _ (Xd _ (Xd _ (Xd _ (Xd _ x))))⟩
 ·cases b<;>exact⟨_,g1,rfl,rfl⟩
 ·cases b'<;>exact⟨_,g2,rfl,rfl⟩
end
section

def Qo6(b b':Bool)(K:W.Frag)(ta:TA):TI:=λY H R=>ta Y H λvs H1=>∃a1 a2,vs=[.ref a1,.ref a2]/\(∃xs,SqB b K H1 a1 xs)/\(∃ys,SqB b' K H1 a2 ys)/\R (Itz b b' K a1 a2) H1
def Qb2{b b':Bool}{e1 e2:Expr}{ta:TA}{elts:List Expr}{kt:Nat}{pt p pos:Pos}(hg:Gl X "zip")(hm:X.mg "zip"=none)(ha:PA X [e1,e2] ta)(hs:starEach [e1,e2] X.env=[(false,eval e1 X.env),(false,eval e2 X.env)])(hs2:starEach [e2] X.env=[(false,eval e2 X.env)]):
  PI X (.Tuple elts kt pt) (.Call (.Name "zip" p) [e1,e2] [] pos) (Qo6 b b' X.K ta):=by
 intro pins s Y H R I h
 refine Call_ (Yc I hg hm PyProof.Rows.boot_zip (W3 (thn (ha pos pins s Y H _ I h) λus s1 z=>?_) (by rw[hs,hs2]) (by rw[hs2];rfl)));obtain⟨vs,H1,I1,r1,q1⟩:=z
 obtain⟨a1,a2,e,⟨xs,q1⟩,⟨ys,q2⟩,q⟩:=q1;subst e;obtain⟨u,w',rfl,ru,rw'⟩:=Qc6 r1;cases(show u=_ from ru);cases(show w'=_ from rw');obtain⟨it1,v1,l1,_⟩:=I1.sqB q1;obtain⟨it2,v2,l2,_⟩:=I1.sqB q2
 have hlt1:a1<s1.heap.objs.size:=by
  cases b with
  |true=>obtain⟨o,e,_⟩:=l1;exact Xk e
  |false=>obtain⟨o,e,_⟩:=l1;exact Xk e
 have hlt2:a2<s1.heap.objs.size:=by
  cases b' with
  |true=>obtain⟨o,e,_⟩:=l2;exact Xk e
  |false=>obtain⟨o,e,_⟩:=l2;exact Xk e
 refine Qet l1 l2 λh' b1 b2 b3 b4 b5 b6 b7=>?_;refine wpAny_pyIter_zip b1 ?_;have I2:Inv X pins Y H1 {s1 with heap:=h'}:=I1.kept (t':=s1.toks) b7;refine⟨_,[s1.heap.objs.size+4,s1.heap.objs.size+2,s1.heap.objs.size+3,s1.heap.objs.size,s1.heap.objs.size+1],_,_,H1,rfl,I2,QeW b b' a1 a2 _ _ _ _ _ (W.ktu_apart _ _ _ hlt1 hlt2),⟨b1,b2,⟨_,_,b3⟩,b4,b5⟩,λc hc=>?_,q⟩
 have hc':c=s1.heap.objs.size+4\/c=s1.heap.objs.size+2\/c=s1.heap.objs.size+3\/c=s1.heap.objs.size\/c=s1.heap.objs.size+1:=by simpa using hc
 have le:s1.heap.objs.size<=c:=by rcases hc' with rfl|rfl|rfl|rfl|rfl<;>omega
 exact I1.fpOk le (I1.hok.fresh le)
end
end
section
noncomputable abbrev QoI(xs:Array Value):Obj:={cls:=.type "tuple",data:=.seq xs}
noncomputable abbrev qH4(h:Heap)(l:Nat->Nat):Heap:=(((h.push (QaN false (l 0))).push (QaN true (l 1))).push (QaN true (l 2))).push (QaN true (l 3))
noncomputable abbrev qTI(n:Nat):Obj:=QoI #[.ref n,.ref (n+1),.ref (n+2),.ref (n+3)]
noncomputable abbrev qH(h:Heap)(l:Nat->Nat):Heap:=(((qH4 h l).push (qTI h.objs.size)).push (QoI #[.none,.none,.none,.none])).push {cls:=.type "zip",data:=.fields #[.none,.bool false,.bool false,.ref (h.objs.size+4),.ref (h.objs.size+5)]}
end
section
variable {elt iter tg:Expr}{n:Nat}{tl:Option Expr}{pos:Pos}{y:Str}{te:TE}{g:TG}{tt:TT}
noncomputable def Cx.block(X:Cx)(xs:List Str)(scope:Scope)(C:Addr)(s:Shared)(H:Hp)(fp:List Addr):Cx :=
 {X with N:=hideN xs X.N++xs,s₀:=s,H₀:=H,env:=compEnvC scope (QbD X.env.cells scope.names []) C X.env,outer:=X.stack,ex:=fp,fn:=λz=>false,pn:=[],xe:=λz z=>False}
structure CompOk(X:Cx)(xs:List Str)(scope:Scope):Prop where
 kind:scope.kind=.function
 loc:∀x∈xs,scope.names.lookup x=some .local
 all:∀y∈scope.names,(y.2=.local->(y.1∈xs\/y.1=".0")/\scope.names.lookup y.1=some .local)/\y.2≠.cell/\(y.2=.free->X.env.scope.names.lookup y.1=some .cell\/X.env.scope.names.lookup y.1=some .free)
 hid:∀x∈xs,scope.names.lookup (mang x)=none
 nd:xs.Nodup
 dot:(".0":Str)∉X.N
section
variable {X:Cx}{xs:List Str}{scope:Scope}{pins:List (Addr×Obj)}{Y:St}{H:Hp}{s:Shared}{fp:List Addr}
def CompOk.free_of(k:CompOk X xs scope)(hk:X.env.scope.kind=.function)(h:(relabel scope X.env).names.lookup y=some .cell\/(relabel scope X.env).names.lookup y=some .free):(y,NameKind.free)∈scope.names:=by
 rw[Q0 hk,ZK]at h
 cases q:scope.names.lookup y with
 |none=>rw[q]at h;simp at h
 |some kd=>
  rw[q]at h;have m:=ZS q
  cases kd with
  |free=>exact m
  |cell=>exact absurd rfl (k.all _ m).2.1
  |_=>simp at h
def CompOk.local_of(k:CompOk X xs scope)(hk:X.env.scope.kind=.function)(h:(relabel scope X.env).names.lookup y=some .local): y∈xs\/y=".0":=by
 rw[Q0 hk,ZK]at h
 cases q:scope.names.lookup y with
 |none=>rw[q]at h;simp at h
 |some kd=>
  rw[q]at h;have m:=ZS q
  cases kd with
  | «local»=>exact((k.all _ m).1 rfl).1
  |free=>
   simp only[Up]at h;split at h<;>cases h
  |_=>simp at h
def Zf{cells:List (Str×Addr)}{l:List (Str×NameKind)}{c:Addr}(e:(QbD cells l []).lookup y=some c):cells.lookup y=some c:=by
 rcases QaU e with z|z
 ·simp at z
 ·exact z
def Qil{Y:St}{i:Nat}{v:V}(e:(Y++List.replicate n none)[i]?=some (some v)):Y[i]?=some (some v):=by
 by_cases h:i < Y.length
 ·rw[X4 h]at e;exact e
 ·rw[Wi (by omega),Th]at e
  split at e<;>cases e
theorem Inv.block{h₁:Heap}{m:Str->Option Value}{tk:Nat}(I:Inv X pins Y H s)(k:CompOk X xs scope)(hf:∀b∈fp,Js X pins H b)(hfs:∀b∈fp,b<s.heap.objs.size)
  (hn:h₁.Ns s.heap.objs.size m) (kp:∀b o,s.heap.get? b=some o->h₁.get? b=some o):Inv (X.block xs scope s.heap.objs.size s H fp) [] (Y++List.replicate xs.length none) H {s with heap:=h₁,toks:=tk}:=by
 have hk:X.env.scope.kind=.function:=I.ok.kind
 have fsub:∀b∈fp,b∉frs X.stack:=λb hb z=>by
  rcases Xg.mp (I.stkSub b z)with e|e
  ·exact(hf b hb).2.1 e
  ·exact(hf b hb).2.2.1 e
 have okB:(X.block xs scope s.heap.objs.size s H fp).Ok:={
  mod:=I.ok.mod
  kind:=k.kind
  glob:=I.ok.glob
  blt:=I.ok.blt
  above:=Xi _
  inj:=λy z c e1 e2=>I.ok.inj y z c (Zf e1) (Zf e2)
  has:=λy h=>by
   have m:=k.free_of hk h;obtain⟨c,hc⟩:=I.ok.has y ((k.all _ m).2.2 rfl);exact⟨c,Qak hc (.inl m)⟩
  cab:=λy c h=>nomatch h
  hd:=I.ok.hd
  frames:=I.ok.frames
  stk:=.inl rfl
  exf:=λb hb=>⟨X1 (hfs b hb),λy c e=>(hf b hb).2.2.2.2.1 y c (Zf e)⟩
  bs:=I.bs
  bsz:=X7 I.ok.bsz I.sz
  noex:=λb o e hb=>by
   rcases (hf b hb).2.2.2.1 with z|z
   ·exact I.ok.noex b o e z
   ·exact absurd (Xr (Xk e) (X7 I.ok.bsz z)) (Wu _)
  exfs:=λb hb z=>fsub b hb z
  funs:=I.stack
  frf:=λb hb=>I.stkFree b hb}
 refine⟨okB,rfl,I.bare,Un.kept kp,⟨m,hn,λi y v e1 e2 e3=>?_⟩,λy c e=>?_,I.hok.fresh (Xi _),λy c e=>I.freeC y c (Zf e),(λp hp=>by cases hp),I.hok.kept kp,?_⟩
 ·have e1:(hideN xs X.N++xs)[i]?=some y:=e1;have e3:Vis (relabel scope X.env) y:=e3;have q2:Y[i]?=some (some v):=Qil e2
  have q0:(hideN xs X.N)[i]?=some y:=by
   have:=(Xh.mp q2).1;rw[I.len,<-Yd (xs:=xs)]at this;rw[X4 this]at e1;exact e1
  obtain⟨z,q1,⟨zm,rfl⟩|⟨zn,rfl⟩⟩:=QfX q0
  ·have no:=k.hid z zm
   have no':(relabel scope X.env).names.lookup (mang z)=none:=by rw[Q0 hk,ZK,no];rfl
   rcases e3 with w|w|w<;>(rw[no']at w;cases w)
  have ym:y∈X.N:=X2 q1
  have hcf:(relabel scope X.env).names.lookup y=some .cell\/(relabel scope X.env).names.lookup y=some .free:=by
   rcases e3 with z|z
   ·rcases k.local_of hk z with q|q
    ·exact absurd q zn
    ·exact absurd (q▸ym) k.dot
   ·exact z
  have m':=k.free_of hk hcf;have xk:=(k.all _ m').2.2 rfl;obtain⟨mm,hnn,hl⟩:=I.loc;obtain⟨u,r,l⟩:=hl i y v q1 q2 (.inr xk);refine⟨u,r,.inr ⟨hcf,?_⟩⟩
  rcases l with⟨l,_⟩|⟨_,c,e,o,ho,hd⟩
  ·have l:X.env.scope.names.lookup y=some .local:=l
   rcases xk with z|z<;>(rw[l]at z;cases z)
  ·exact⟨c,Qak e (.inl m'),o,kp c o ho,hd⟩
 ·obtain⟨v,o,ho,hd⟩:=I.cell y c (Zf e);exact⟨v,o,kp c o ho,hd⟩
 ·show(Y++List.replicate xs.length none).length=(hideN xs X.N++xs).length;simp[I.len,Yd]
def PTO(X:Cx)(tl:Option Expr)(tt:TT):Prop:=match tl with
 |none=>∀Y H Q,tt Y H Q->Q true H
 |some c=>PT X c tt
def Qay(wi:TI)(n:Nat)(g:TG)(tt:TT)(te:TE):TE:=λY H Q=>wi Y H λJ H1=>∀D,H1 D=none->∃W:Nat->Nat->List V->Hp->Prop,(∃m,W 0 m [] (upd H1 D (.lst [])))/\∀i m ys H2,W i m ys H2->H2 D=some (.lst ys) /\
 ((J.stop i H2/\Q (.ref D) H2)\/(J.go i H2/\ys.length<sizeLine/\∀x H3 os,os.length=n->J.yld i H2 x H3->g x (Y++os) H3 λY' H4=>(∃os',os'.length=n/\Y'=Y++os')/\tt Y' H4 λb H5=>if b=true then te Y' H5 λy H6=>H6 D=some (.lst ys)/\∃m',m'<m/\W (i+1) m' (ys++[y]) (upd H6 D (.lst (ys++[y])))else ∃m',m'<m/\W (i+1) m' ys H5))
def JN{Q:VK}{it:Addr}{tn:Nat->Heap->Prop}{J:It}{E:Value->Shared->Prop}{RR:Value->Addr->Result->Shared->Prop}(hc:X.calm=true)(k:CompOk X xs scope)
  (hn:xs.length=n) (hg:∀C s H fp,PG (X.block xs scope C s H fp) tg g) (ht:∀C s H fp,PTO (X.block xs scope C s H fp) tl tt) (he:∀C s H fp,PE (X.block xs scope C s H fp) elt te)
  (I2:Inv X pins Y H s) (T:Turn X.prog X.w X.K tg J fp it tn) (st2:tn 0 s.heap) (f2:∀b∈fp,Js X pins H b)
  (q:∀D,H D=none->∃W:Nat->Nat->List V->Hp->Prop,(∃m,W 0 m [] (upd H D (.lst [])))/\∀i m ys H2,W i m ys H2->H2 D=some (.lst ys) /\
   ((J.stop i H2/\Q (.ref D) H2)\/(J.go i H2/\ys.length<sizeLine/\∀x H3 os,os.length=n->J.yld i H2 x H3->g x (Y++os) H3 λY' H4=>(∃os',os'.length=n/\Y'=Y++os')/\tt Y' H4 λb H5=>if b=true then te Y' H5 λy H6=>H6 D=some (.lst ys)/\∃m',m'<m/\W (i+1) m' (ys++[y]) (upd H6 D (.lst (ys++[y])))else ∃m',m'<m/\W (i+1) m' ys H5)))
  (hRR:∀D C s' H' m,Inv X pins Y H' s'->s'.heap.Ns C m->Js X pins H' C->Q (.ref D) H'->RR (.ref D) C (.ok .next) s'):
  wpAny (model X.prog X.w) X.A (newList []) (λacc s₃=>wpAny (model X.prog X.w) X.A (newFunctionEnv scope X.env.globals (QbD X.env.cells scope.names []) [] X.env.qual none .none (some X.env)) (λcenv s₄=>
   codeAny (model X.prog X.w) X.A (.compStart (.ListComp elt [⟨tg,iter,tl.toList,0⟩] scope pos) 0 (.ref it) acc {cenv with scope:=relabel scope X.env}) (RR acc cenv.locals) s₄) E s₃) E s:=by
 have hk:X.env.scope.kind=.function:=I2.ok.kind
 refine Ws (wpAny_newFunctionEnv (λy hy=>(k.all y hy).2.1) (by intro y hy;simp at hy) (λh₁ hns₁ hsb₁=>?_) k.kind)
 dsimp only at hns₁ hsb₁ ⊢;have hD:H s.heap.objs.size=none:=I2.hok.fresh (Xi _);obtain⟨W,⟨m0,w0⟩,turn⟩:=q s.heap.objs.size hD
 have I3:Inv X pins Y (upd H s.heap.objs.size (.lst [])) {s with heap:=s.heap.push {cls:=.type "list",dict:=none,data:=.seq ([]:List Value).toArray} }:=
  I2.laid (t':=s.toks) (λb o e=>Xd _ e) (Xi _) (show ObjOk X.prog X.w _ _ _ (.lst [])from⟨W8 _,[],_,.nil,Xu _ rfl⟩)
 have lt2:∀b∈fp,b<s.heap.objs.size:=λb hb=>by
  obtain⟨o,e,_⟩:=T.obj 0 _ st2 b hb;exact Xk e
 have f3:∀b∈fp,Js X pins (upd H s.heap.objs.size (.lst [])) b:=λb hb=>⟨by rw[Qd (X1 (lt2 b hb))];exact(f2 b hb).1,(f2 b hb).2⟩
 have lt3:∀b∈fp,b<(s.heap.push {cls:=.type "list",dict:=none,data:=.seq ([]:List Value).toArray}).objs.size:=λb hb=>by
  rw[W7];exact Nat.lt_succ_of_lt (lt2 b hb)
 generalize hs3:({s with heap:=s.heap.push {cls:=.type "list",dict:=none,data:=.seq ([]:List Value).toArray} }:Shared)=s3 at I3
 have e3:s3.heap=s.heap.push {cls:=.type "list",dict:=none,data:=.seq ([]:List Value).toArray}:=by rw[<-hs3]
 rw[<-e3]at hns₁ hsb₁ lt3 ⊢;have kp:∀b o,s3.heap.get? b=some o->h₁.get? b=some o:=λb o e=>hsb₁.extBut b o (X1 (Xk e)) (Xd _ e);have IB:=I3.block (tk:=s.toks+([]:List (Str×Value)).length) k f3 lt3 hns₁ kp
 have es:({s3 with heap:=h₁,toks:=s.toks+([]:List (Str×Value)).length}:Shared)={s with heap:=h₁,toks:=s.toks+([]:List (Str×Value)).length}:=by rw[<-hs3]
 rw[es]at IB;generalize hX:X.block xs scope s3.heap.objs.size s3 (upd H s.heap.objs.size (.lst [])) fp=Yyy at IB;have HE:PE Yyy elt te:=hX▸he _ _ _ _;have HT:PTO Yyy tl tt:=hX▸ht _ _ _ _;have HG:PG Yyy tg g:=hX▸hg _ _ _ _
 have hP:Yyy.prog=X.prog:=by rw[<-hX];rfl
 have hw:Yyy.w=X.w:=by rw[<-hX];rfl
 have hK:Yyy.K=X.K:=by rw[<-hX];rfl
 have hA:Yyy.A=X.A:=by rw[<-hX];rfl
 have hcY:Yyy.calm=true:=by rw[<-hX];exact hc
 have hxe:Yyy.xe=λt t=>False:=by rw[<-hX];rfl
 have henv:Yyy.env=compEnvC scope (QbD X.env.cells scope.names []) s3.heap.objs.size X.env:=by rw[<-hX];rfl
 have fpY:∀{H':Hp},(∀b∈fp,H' b=none)->∀b∈fp,Js Yyy [] H' b:=λhn b hb=>by
  have hb1:=(f2 b hb).2;rw[<-hX]
  refine⟨hn b hb,?_,λz=>?_,.inl hb,λy c e=>hb1.2.2.2.1 y c (Zf e),(λp hp=>by cases hp)⟩
  ·exact X1 (lt3 b hb)
  ·rcases Xg.mp (I3.stkSub b z)with e|e
   ·exact hb1.1 e
   ·exact hb1.2.1 e
 have back:∀{Y':St} {H':Hp} {s':Shared},Inv Yyy [] Y' H' s'->Inv X pins Y H' s'/\(∃m,s'.heap.Ns s3.heap.objs.size m)/\Js X pins H' s3.heap.objs.size:=λ{Y' H' s'} J'=>by
  have u:=J'.base;have os:=J'.os;have hok:=J'.hok;have bare:=J'.bare;obtain⟨mm,hnn,_⟩:=J'.loc;have fr:=J'.free;rw[henv]at hnn fr;rw[<-hX]at u os hok;refine⟨I3.call' os u hok bare λb hb=>?_,⟨mm,hnn⟩,I3.fpOk (Xi _) fr⟩;exact⟨(f2 b hb).2.2.2.1,(f2 b hb).2.1,(f2 b hb).2.2.2.2.1,(f2 b hb).2.2.2.2.2⟩
 have loop:∀s₃:Shared,Inv Yyy [] (Y++List.replicate xs.length none) (upd H s.heap.objs.size (.lst [])) s₃->tn 0 s₃.heap ->
   codeAny (model X.prog X.w) X.A (.compLoop (.ListComp elt [⟨tg,iter,tl.toList,0⟩] scope pos) 0 (.ref it) (.ref s.heap.objs.size) Yyy.env) (RR (.ref s.heap.objs.size) s3.heap.objs.size) s₃:=by
  intro s₃ J3 t3
  refine Jj (λm s'=>∃i os H' ys,os.length=n/\Inv Yyy [] (Y++os) H' s'/\tn i s'.heap/\(∀b∈fp,H' b=none)/\W i m ys H') ?_ m0 ⟨0,_,_,[],by rw[Tq];exact hn,J3,t3,λb hb=>(f3 b hb).1,w0⟩
  rintro m s4 ⟨i,os,H4,ys,lo,J4,st4,fr4,w4⟩;obtain⟨hDl,tr⟩:=turn i m ys H4 w4
  rcases tr with⟨stop,qn⟩|⟨go,hz,step⟩
  ·have dn:=T.done Yyy hP hw hK hcY i [] s4 (Y++os) H4 (notedBy (model X.prog X.w) X.A Yyy.env λe s'=>RR (.ref s.heap.objs.size) s3.heap.objs.size (.error e) s') J4 (fpY fr4) st4 stop;rw[hA]at dn;refine thn dn λr s5 l=>?_;obtain⟨hr,J5⟩:=l;subst hr;obtain⟨I5,⟨m5,n5⟩,f5⟩:=back J5;exact hRR _ _ _ _ _ I5 n5 f5 qn
  ·have im:=T.item Yyy hP hw hK hcY i [] s4 (Y++os) H4 (notedBy (model X.prog X.w) X.A Yyy.env λe s'=>RR (.ref s.heap.objs.size) s3.heap.objs.size (.error e) s') J4 (fpY fr4) st4 go;rw[hA]at im;refine thn im λr s5 j=>?_;obtain⟨u,hr,h5⟩:=j;subst hr;refine thn h5 λt s6 f=>?_;obtain⟨v,H6,J6,rv,y6,st6,fr6⟩:=f;have J6':=J6.pinned (fpY fr6) (T.obj _ _ st6)
   have noE:∀{EE:Value->Shared->Prop},∀e s',Yyy.xe e s'->EE e s':=λ{EE} e s' z=>by rw[hxe]at z;exact z.elim
   have asg:=HG _ s6 (Y++os) H6 v u _ J6' rv (step v H6 os lo y6);rw[hP,hw,hA]at asg;refine Xo asg (λt s7 a=>?_) noE;obtain⟨σ7,H7,J7,⟨os',lo',e7⟩,q7⟩:=a;subst e7
   have fin:∀{s9:Shared} {H9:Hp} {m':Nat} {zs:List V},Inv Yyy ([]++ZW fp s6.heap) (Y++os') H9 s9->m'<m->W (i+1) m' zs H9->∃m',m'<m/\∃i os H' ys,os.length=n/\Inv Yyy [] (Y++os) H' s9/\tn i s9.heap/\(∀b∈fp,H' b=none)/\W i m' ys H':=λ{s9 H9 m' zs} J9 hm' w9=>by
    refine⟨m',hm',i+1,os',H9,zs,lo',J9.unpinned,T.keep _ _ _ st6 λb hb ob e=>(J9.pin (b,ob) (X0 _ (X0 _ (QX hb e)))).1,λb hb=>?_,w9⟩;obtain⟨ob,e,d⟩:=T.obj _ _ st6 b hb;exact(J9.pin (b,ob) (X0 _ (X0 _ (QX hb e)))).2.1
   have tst:wpAny (model X.prog X.w) X.A (forIn tl.toList true λc r=>if r=true then do let ok <-isTrue c Yyy.env (eval c Yyy.env);pure (ForInStep.yield ok)else pure (ForInStep.yield r)) (TP Yyy ([]++ZW fp s6.heap) (Y++os') λb H5=>if b=true then te (Y++os') H5 λy H6=>H6 s.heap.objs.size=some (.lst ys)/\∃m',m'<m/\W (i+1) m' (ys++[y]) (upd H6 s.heap.objs.size (.lst (ys++[y])))else ∃m',m'<m/\W (i+1) m' ys H5) (notedBy (model X.prog X.w) X.A Yyy.env λe s'=>RR (.ref s.heap.objs.size) s3.heap.objs.size (.error e) s') s7:=by
    refine QbK ?_
    cases tl with
    |none=>exact⟨H7,J7,HT _ _ _ q7⟩
    |some c=>
     have z:=(show PT Yyy c tt from HT) _ s7 _ _ _ J7 q7;rw[hP,hw,hA]at z;exact Xo z (λt t h=>h) noE
   refine Xo tst (λb s8 Z=>?_) λt t e=>e;obtain⟨H8,J8,q8⟩:=Z
   cases b with
   |false=>
    rw[if_neg Xn]at q8 ⊢;obtain⟨m',hm',w8⟩:=q8;exact fin J8 hm' w8
   |true=>
    rw[if_pos rfl]at q8 ⊢;have ev:=HE _ s8 _ _ _ J8 q8;rw[hP,hw,hA]at ev;refine Xo ev (λy s8 U=>?_) noE;obtain⟨yv,H8,J8,ry,hD8,m',hm',w8⟩:=U;have ap:=Y6 (X:=Yyy) _ s8 _ H8 (.ref s.heap.objs.size) [yv] (.ref s.heap.objs.size) [y] (λt H'=>H'=upd H8 s.heap.objs.size (.lst (ys++[yv]))) J8 rfl (.cons ry .nil) ⟨_,ys,yv,rfl,rfl,hD8,hz,rfl⟩;rw[hP,hw,hA]at ap;refine Xo ap (λt s9 S=>?_) noE;obtain⟨_,H9,J9,_,e9⟩:=S;subst e9;exact fin J9 hm' w8
 have t1:tn 0 h₁:=T.keep 0 _ _ st2 λb hb o e=>kp b o (by rw[e3];exact Xd _ e)
 have go:=loop _ IB t1;rw[henv]at go;refine codeAny_compStart_list ?_ ?_
 ·exact go
 ·exact T.self X.A 0 _ _ _ t1 go
def QdF{wi:TI}(hc:X.calm=true)(k:CompOk X xs scope)(hi:PI X tg iter wi)(hn:xs.length=n)(hg:∀C s H fp,PG (X.block xs scope C s H fp) tg g)(ht:∀C s H fp,PTO (X.block xs scope C s H fp) tl tt)(he:∀C s H fp,PE (X.block xs scope C s H fp) elt te)
  (hs:∀v,foldedSetIterable iter X.env v=pure v):PE X (.ListComp elt [⟨tg,iter,tl.toList,0⟩] scope pos) (Qay wi n g tt te):=by
 intro pins s Y H Q I h;rw[eval_ListComp];refine wpAny_comprehension_free (use:=none) rfl hs (ZT λy hy hf=>I.ok.has y.1 ((k.all y hy).2.2 hf)) k.kind (λy hy hl=>((k.all y hy).1 hl).2) ?_;refine thn (hi pins s Y H _ I h) λv s1 h1=>thn h1 λitv s2 h2=>?_;obtain⟨it,fp,tn,J,H2,e,I2,T,st2,f2,q⟩:=h2;subst e;refine JN (RR:=λacc C=>compPost (model X.prog X.w) X.A X.xe none (EP X pins Y Q) acc C) hc k hn hg ht he I2 T st2 f2 q ?_;intro D C s' H' m I' n' f' q';refine⟨m,n',λh' sb=>?_⟩;exact⟨.ref D,H',I'.turned (t':=s'.toks) (λb o hb e=>sb.extBut b o hb e) f'.1 f'.2.1 f'.2.2.2.1 f'.2.2.2.2.1 f'.2.2.2.2.2,rfl,q'⟩
def Qh6{py spos:Pos}{wi:TI}{j:Nat}(hc:X.calm=true)(hN:X.N.Nodup)(k:CompOk X xs scope)(hi:PI X tg iter wi)(hn:xs.length=n)(hg:∀C s H fp,PG (X.block xs scope C s H fp) tg g)(ht:∀C s H fp,PTO (X.block xs scope C s H fp) tl tt)(he:∀C s H fp,PE (X.block xs scope C s H fp) elt te)
  (hs:∀v,foldedSetIterable iter X.env v=pure v) (hj:X.N[j]?=some y) (hy:Loc X.env.scope y) (hfn:X.fn y=true\/X.env.scope.names.lookup y=some .local):
  PS X (.Assign [.Name y py] (.ListComp elt [⟨tg,iter,tl.toList,0⟩] scope pos) spos) (λD Y H=>Qay wi n g tt te Y H λv H1=>D.nx (Y.set j (some v)) H1):=by
 have hsw:∃b,swapsWith (.ListComp elt [⟨tg,iter,tl.toList,0⟩] scope pos) (some (.Name y py)) spos.line X.env=pure b:=⟨_,rfl⟩;obtain⟨b,hsw⟩:=hsw
 cases b with
 |false=>exact JB hN hj hy (QdF hc k hi hn hg ht he hs) hsw hfn
 |true=>
  intro pins s Y H D I h;rw[exec_Assign_Name_used _ _ _ _ hsw];refine Xa (Uo (Xa ?_))
  show wpAny _ _ (do let _ <-comprehension (.ListComp elt [⟨tg,iter,tl.toList,0⟩] scope pos) scope X.env _ (newList []) false (eval iter X.env) (some (assign (.Name y py) X.env))) _ _ s
  refine Xa (Xo (wpAny_comprehension_free (use:=some (assign (.Name y py) X.env)) (Q:=λx s'=>SP X pins D .next s') rfl hs (ZT λy hy hf=>I.ok.has y.1 ((k.all y hy).2.2 hf)) k.kind (λy hy hl=>((k.all y hy).1 hl).2) ?_)
   (λx s' hq=>Xf (Xf hq)) λx x e=>e)
  refine thn (hi pins s Y H _ I h) λv s1 h1=>thn h1 λitv s2 h2=>?_;obtain⟨it,fp,tn,J,H2,e,I2,T,st2,f2,q⟩:=h2;subst e;refine JN (Q:=λv H1=>D.nx (Y.set j (some v)) H1) (RR:=λacc C=>compPost (model X.prog X.w) X.A X.xe (some (assign (.Name y py) X.env)) (λx s'=>SP X pins D .next s') acc C) hc k hn hg ht he I2 T st2 f2 q ?_;intro Da C s' H' m I' n' f' q';obtain⟨o,es,ep,ho,hd,r⟩:=id n'
  have Ip:Inv X (pins++ZW [C] s'.heap) Y H' s':=I'.pinned (λb hb=>by
   have e:b=C:=by simpa using hb
   subst e
   exact f') λb hb=>by
    have e:b=C:=by simpa using hb
    subst e
    exact⟨o,ho,λv z=>by rw[hd]at z;cases z⟩
  refine thn (Yp (i:=j) hN hj hy hfn _ s' Y H' (.ref Da) (.ref Da) _ Ip rfl q') λx s'' u=>?_;obtain⟨σ2,H2',J2,q2⟩:=u
  have pc:=J2.pin (C,o) (X0 _ (X0 _ (QX (by simp) ho)))
  refine⟨m,⟨o,es,ep,pc.1,hd,r⟩,λh' sb=>?_⟩;exact⟨σ2,H2',J2.unpinned.turned (t':=s''.toks) (λb ob hb e=>sb.extBut b ob hb e) pc.2.1 f'.2.1 f'.2.2.2.1 f'.2.2.2.2.1 f'.2.2.2.2.2,q2⟩
end
end
end L2
namespace L2
open PySem PySem.Spec PySem.W PyProof.Rows
variable {elt iter tg:Expr}{n:Nat}{tl:Option Expr}{pos:Pos}{s:Shared}{te:TE}{g:TG}{tt:TT}{E2:XK}
def Fl(X:Cx)(B:Heap)(e C:Addr)(a0:Value)(h:Heap):Prop:=Heap.FlyingW B X.stack e (.ref C) a0 h\/∃L,X.env.frame=some L/\Heap.HeldW B X.stack e (.ref C) a0 L h
structure CovX(X:Cx)(B:Heap)(H:Hp):Prop where
 trk:∀b u,H b=some u->∃o,B.get? b=some o
 old:∀b o,X.s₀.heap.get? b=some o->b∉frs X.stack->b∉X.ex->∃o',B.get? b=some o'
def QeP(X:Cx)(E:XK):Prop:=∀pins Y H s e C B a0 dd,Inv X pins Y H s->Fl X B e C a0 s.heap->CovX X B H->H e=none->(∀o,X.s₀.heap.get? e=some o->e∈X.ex)->DictAt s.heap e dd->E (.ref C) dd H->X.xe (.ref e) s
def QcW(E:XK)(Yyy:Cx):Value->Shared->Prop:=λv s=>∃pins Y H e C B a0 dd,v=.ref e/\Inv Yyy pins Y H s/\Fl Yyy B e C a0 s.heap/\CovX Yyy B H/\H e=none/\(∀o,Yyy.s₀.heap.get? e=some o->e∈Yyy.ex)/\DictAt s.heap e dd/\E (.ref C) dd H
def Qqm{E:XK}{Yyy:Cx}:QeP (Yyy.wish (QcW E Yyy)) E:=λpins Y H s e C B a0 dd I f cv hn h0 da hE=>⟨pins,Y,H,e,C,B,a0,dd,rfl,I.unwish,f,⟨cv.trk,cv.old⟩,hn,h0,da,hE⟩
def Qaf{c d:Env}(h:c.frame=d.frame)(e:Value):noteFrame e c=noteFrame e d:=by
 unfold noteFrame PySem.frameOf;rw[h]
def Qc7{P:Program}{w:World}{l:List Env}{ch:List Addr}{H H':Hp}{h h1 h2 B base:Heap}(un:Un (frs l) ch H H' h h1)(hok:HOk P w H' h1)(ff:h.FunFrames base l)(fr:∀b∈frs l,H b=none)
  (st1:B.StaysIn h1) (st2:B.StaysIn h2) (up:h1.UpToSlots h2) (c1:∀b u,H' b=some u->∃o,B.get? b=some o) (c2:∀b o,h.get? b=some o->b∉frs l->b∉ch->∃o',B.get? b=some o'):Un (frs l) ch H H' h h2/\HOk P w H' h2:=by
 have fsl:∀b o,h.get? b=some o->b∈frs l->b∉ch->∃sl,h2.get? b=some {o with slots:=sl}:=λb o q hb hx=>by
  obtain⟨sl,e⟩:=un.slot b o q (fr b hb) hb hx;obtain⟨_,o2,ho2,hd⟩:=ff.mem hb;rw[q]at ho2;cases ho2;obtain⟨sl',e'⟩:=up b _ e hd;exact⟨sl',e'⟩
 refine⟨⟨λb o q n hb hx=>?_,λb o q n hb hx=>fsl b o q hb hx,un.free,λb o q hx=>?_,un.tups,un.frzs,un.tbls⟩,λa o e=>?_⟩
 ·have e1:=un.keep b o q n hb hx;obtain⟨o',e2⟩:=c2 b o q hb hx;have e3:=st1 b o' e2;rw[e1]at e3;cases e3;exact st2 b _ e2
 ·by_cases hb:b∈frs l
  ·obtain⟨sl,e⟩:=fsl b o q hb hx;exact⟨_,e⟩
  ·obtain⟨o',e2⟩:=c2 b o q hb hx;exact⟨o',st2 b _ e2⟩
 ·refine(hok a o e).stay (λb u hb q=>?_) (λy z=>z) λy y z=>z
  have ht:∃x,H' b=some x:=by
   rcases hb with rfl|z
   ·exact⟨_,e⟩
   ·exact⟨_,z⟩
  obtain⟨x,hx⟩:=ht;obtain⟨o',e2⟩:=c1 b x hx;have e3:=st1 b o' e2;rw[q]at e3;cases e3;exact st2 b _ e2
theorem Qg2{B h h':Heap}{D:Addr}(hs:∀b,b≠D->h'.get? b=h.get? b):∀{l:List Env},h.FunFrames B l->(∀b∈frs l,b≠D)->h'.FunFrames (hideAll B [D]) l
 |[],_,_=>trivial
 |env::r,⟨hk,⟨L,o,hf,hn,ho,hd⟩,hr⟩,hne=>by
  have e:frs (env::r)=L::frs r:=by unfold frs;rw[U9,hf]
  refine⟨hk,⟨L,o,hf,?_,(hs L (hne L (e▸Xm))).trans ho,hd⟩,Qg2 hs hr λb hb=>hne b (e▸Xj _ hb)⟩
  cases q:(hideAll B [D]).get? L with
  |none=>rfl
  |some o'=>rw[of_hideAll _ q]at hn;cases hn
section
variable {M:Model}{A:Around}{Q:Unit->Shared->Prop}{E:Value->Shared->Prop}{B:Heap}{l:List Env}{e L D:Addr}{cls a0:Value}{h h':Heap}
def QiS(R:Heap.HeldW B l e cls a0 L s.heap)(h:∀h',Heap.HeldW B l e cls a0 L h'->s.heap.UpToSlots h'->Q () {s with heap:=h'}):wpAny M A (setFlight (.ref e) (some L)) Q E s:=by
 obtain⟨st,en,fr,oe,vs,T,oT,ts,ge,cl,de,v1,nT,ne,gT,dT,t3⟩:=R;have ot:∀b,b≠T->(s.heap.update T (Obj.mapFields (·.setIfInBounds 3 (rawInt L)))).get? b=s.heap.get? b:=λb hb=>Wo _ _ (Wr hb)
 have nf:∀b o,s.heap.get? b=some o->(∀vs,o.data≠.fields vs)->b≠T:=λb o g hd z=>by
  subst z;cases gT.symm.trans g;exact hd _ dT
 unfold setFlight;refine Xa (Wl ge de v1 ?_)
 rw[if_pos (by simp)]
 have z3:3<ts.size:=(U5.mp t3).1
 refine wpAny_setField gT dT z3 (h _ ⟨λb o g=>(ot b λz=>by rw[z,nT]at g;cases g).trans (st b o g),en,fr.of_keeps λb o g hd=>⟨o,(ot b (nf b o g hd)).trans g,rfl⟩,?_⟩ λb o g hd=>⟨o.slots,(ot b (nf b o g hd)).trans g⟩)
 exact⟨oe,vs,T,_,_,(ot e (Wr ne)).trans ge,cl,de,v1,nT,ne,Wz _ gT (Ts (Us dT _)),Us dT _,by simp[z3]⟩
def Qf0(R:Heap.HeldW B l e cls a0 L h)(hs:∀b,b≠D->h'.get? b=h.get? b)(hf:∀b∈frs l,b≠D){o:Obj}(hD:h.get? D=some o)(hd:∀vs,o.data≠.fields vs):Heap.HeldW (hideAll B [D]) l e cls a0 L h':=by
 obtain⟨st,en,fr,oe,vs,T,oT,ts,ge,cl,de,v1,nT,ne,gT,dT,t3⟩:=R
 have hid:∀{b:Addr},B.get? b=none->(hideAll B [D]).get? b=none:=λ{b} n=>by
  cases q:(hideAll B [D]).get? b with
  |none=>rfl
  |some o'=>rw[of_hideAll _ q]at n;cases n
 have nD:∀{b:Addr} {ob:Obj} {ws:Array Value},h.get? b=some ob->ob.data=.fields ws->b≠D:=λ{b ob ws} g w z=>by
  subst z;cases hD.symm.trans g;exact hd _ w
 refine⟨λb o' q=>?_,hid en,Qg2 hs fr hf,oe,vs,T,oT,ts,(hs e (nD ge de)).trans ge,cl,de,v1,hid nT,ne,(hs T (nD gT dT)).trans gT,dT,t3⟩
 have hb:b≠D:=λz=>by
  rw[z,hideAll_none _ (Xm ..)]at q;cases q
 exact(hs b hb).trans (st b o' (of_hideAll _ q))
end
noncomputable def cpX(M:Model)(A:Around)(env:Env)(E:Value->Shared->Prop)(use:Option (Value->Sem Unit))(Q:Value->Shared->Prop)(acc:Value)(C:Addr)(r:Result)(s':Shared):Prop :=
 match r,use with
 |.ok _,none=>∃m,s'.heap.Ns C m/\∀h',Heap.SameBut C s'.heap h'->Q acc {s' with heap:=h'}
 |.ok _,some u=>wpAny M A (u acc) (λz s''=>∃m,s''.heap.Ns C m/\∀h',Heap.SameBut C s''.heap h'->Q .none {s'' with heap:=h'}) E s'
 |.error x,_=>∃m,s'.heap.Ns C m/\∀h',Heap.SameBut C s'.heap h'->∀c:Env,c.frame=env.frame->wpAny M A (passOn "comprehension.variables-let-go" x c:Sem Value) (λz z=>False) E {s' with heap:=h'}
section
variable {prog:Program}{w:World}{A:Around}{E:Value->Shared->Prop}{env:Env}
def JM{e:Expr}{scope:Scope}{newAcc first:Sem Value}{g:Comprehension}{gs:List Comprehension}{cl:List (Str×Addr)}{use:Option (Value->Sem Unit)}{Q:Value->Shared->Prop}
  (hcl:clausesOf e=g::gs) (hs:∀x,foldedSetIterable g.iter env x=pure x) (hclos:closureFor scope env=pure cl) (hk:scope.kind=.function) (hn:∀x∈scope.names,x.2=.local->scope.names.lookup x.1=some .local)
  (h:wpAny (model prog w) A first (λx s₁=>wpAny (model prog w) A (pyIter x) (λit s₂=>wpAny (model prog w) A newAcc (λacc s₃=>
   wpAny (model prog w) A (newFunctionEnv scope env.globals cl [] env.qual none .none (some env)) (λcenv s₄=>cenv.frame=env.frame /\
    codeAny (model prog w) A (.compStart e 0 it acc {cenv with scope:=relabel scope env}) (cpX (model prog w) A env E use Q acc cenv.locals) s₄) E s₃) E s₂) E s₁) E s):
  wpAny (model prog w) A (comprehension e scope env pos newAcc false first use) Q E s:=by
 unfold comprehension;rw[hclos,hcl];refine Xa (thn h λx s₁ h₁=>Xa (Uo (Xa (Tn (hs x) (Xa (Wh (thn h₁ λit s₂ h₂=>wpAny_standIf (Xa (thn h₂ λacc s₃ h₃=>Xa (Xf (Xa (thn h₃ λcenv s₄ h₄=>?_))))))))))));obtain⟨fe,h₄⟩:=h₄;have hv:∀x∈(scope.names.filter λx=>(x.2==.local||x.2==.cell)&&x.1 != (".0":Str)).reverse,x.2=.local->Env.kindOf {cenv with scope:=relabel scope env} x.1=some .local:=λx hx hl=>lookup_relabel_local (hn x (Tt.mp (List.mem_reverse.mp hx)).1 hl);dsimp only;refine Wh (Xa (U4 (Wh (wpAny_run (V1 h₄ λr s' hr=>?_)))))
 cases r with
 |ok f=>
  cases use with
  |none=>
   obtain⟨m,hm,hr⟩:=hr;exact Xa (Wh (wpAny_comp_letGo (cenv:={cenv with scope:=relabel scope env}) hk _ s' m hv hm λh' y y hs'=>Xf (hr h' hs')))
  |some u=>
   refine Xa (wpAny_rule (Xa (Wh (thn hr λy s'' v=>?_))));obtain⟨m,hm,hr'⟩:=v;exact Xa (wpAny_comp_letGo (cenv:={cenv with scope:=relabel scope env}) hk _ s'' m (λx hx hl=>hv x ((Uq.mp hx).elim List.mem_of_mem_drop List.mem_of_mem_take) hl) hm λh' y y hs'=>Xf (hr' h' hs'))
 |error x=>
  have hr:∃m,s'.heap.Ns cenv.locals m/\∀h',Heap.SameBut cenv.locals s'.heap h'->∀c:Env,c.frame=env.frame->wpAny (model prog w) A (passOn "comprehension.variables-let-go" x c:Sem Value) (λy y=>False) E {s' with heap:=h'}:= by cases use<;>exact hr
  obtain⟨m,hm,hr⟩:=hr;exact Xa (Wh (wpAny_comp_letGo (cenv:={cenv with scope:=relabel scope env}) hk _ s' m hv hm λh' y y hs'=>Xo (hr h' hs' {cenv with scope:=relabel scope env} fe) (λy y z=>z.elim) λy y z=>z))
end
section
variable {X:Cx}{xs:List Str}{scope:Scope}{pins:List (Addr×Obj)}{Y:St}{H:Hp}{fp:List Addr}
def QeE{E:XK}{Yyy:Cx}{C:Addr}{s3 s':Shared}{H3:Hp}{v:Value}(hY:X.block xs scope C s3 H3 fp=Yyy)(hx:QeP X E)(fr:∃c l L,X.stack=c::l/\c.frame=some L/\X.env.frame=some L)(I3:Inv X pins Y H3 s3)(hC:C=s3.heap.objs.size)(f3:∀b∈fp,Js X pins H3 b)
  (z:QcW E Yyy v s'): notedBy (model X.prog X.w) X.A Yyy.env (λv s'=>∃m,s'.heap.Ns C m/\∀h',Heap.SameBut C s'.heap h'->∀c:Env,c.frame=X.env.frame->wpAny (model X.prog X.w) X.A (passOn "comprehension.variables-let-go" v c:Sem Value) (λt t=>False) X.xe {s' with heap:=h'}) v s':=by
 obtain⟨pl,Y',H',e,Ce,B,a0,dd,rfl,J,f,cv,hn,h0,da,hE⟩:=z;subst hY;obtain⟨c,l,L,st,cf,xf⟩:=fr;have u:Un (frs X.stack) fp H3 H' s3.heap s'.heap:=J.base;have Jos:=J.os;obtain⟨m,hns,_⟩:=J.loc;have hns:s'.heap.Ns C m:=hns;have hCn:H' C=none:=J.free;have f:Heap.FlyingW B X.stack e (.ref Ce) a0 s'.heap\/∃L,X.env.frame=some L/\Heap.HeldW B X.stack e (.ref Ce) a0 L s'.heap:=f;have c1:∀b o,s3.heap.get? b=some o->b∉frs X.stack->b∉fp->∃o',B.get? b=some o':=cv.old;have h0:∀o,s3.heap.get? e=some o->e∈fp:=h0
 have st1:B.StaysIn s'.heap:=by
  rcases f with f|⟨_,_,f⟩<;>exact f.1
 show wpAny _ _ (noteFrame (.ref e) _) _ _ s';rw[Qaf (c:=(X.block xs scope C s3 H3 fp).env) (d:=c) (show X.env.frame=c.frame from xf.trans cf.symm)]
 have nt:wpAny (model X.prog X.w) X.A (noteFrame (.ref e) c) (λt s''=>(∃h₄,s''={s' with heap:=h₄}/\Heap.HeldW B X.stack e (.ref Ce) a0 L h₄/\s'.heap.UpToSlots h₄)/\DK s'.heap s''.heap) (λt t=>False) s':=by
  rcases f with f|⟨L',e',f⟩
  ·exact Xo (Yy (E:=λt t=>False) Qbs (wpAny_looks_onW (Q:=λt s''=>∃h₄,s''={s' with heap:=h₄}/\Heap.HeldW B (c::l) e (.ref Ce) a0 L h₄/\s'.heap.UpToSlots h₄) (st▸I3.ok.frames) cf (st▸f) λh₄ x y=>⟨h₄,rfl,x,y⟩)) (λt t q=>⟨st▸q.1,q.2⟩) λt t z=>z.1
  ·cases e'.symm.trans xf;exact wpAny_noteFrame_againW cf f.2.2.2 ⟨⟨s'.heap,rfl,f,.refl _⟩,.refl _⟩
 refine Xo nt (λt s4 r=>?_) λt t z=>z.elim;obtain⟨⟨h₄,e4,hl,up⟩,dk⟩:=r;subst e4;have hn4:h₄.Ns C m:=up.ns hns;obtain⟨oC,es,ep,goC,doC,_⟩:=id hn4
 have ndC:∀vs,oC.data≠.fields vs:=λvs z=>by rw[doC]at z;cases z
 refine⟨m,hn4,λh₅ sb d hd=>?_⟩
 have neC:∀{b:Addr} {o:Obj},s3.heap.get? b=some o->b≠C:=λ{b o} q z=>by
  have:=Xk q;rw[z,hC]at this;exact Wu _ this
 have hid:∀{b:Addr} {o:Obj},B.get? b=some o->b≠C->(hideAll B [C]).get? b=some o:=λ{b o} q ne=>hideAll_get _ q (by simpa using ne)
 have tr:∀b u,H' b=some u->∃o,(hideAll B [C]).get? b=some o:=λb u q=>by
  obtain⟨o,ho⟩:=cv.trk b u q
  exact⟨o,hid ho λz=>by rw[z,hCn]at q;cases q⟩
 have old3:∀b o,s3.heap.get? b=some o->b∉frs X.stack->b∉fp->∃o',(hideAll B [C]).get? b=some o':=λb o q hb hx=>by
  obtain⟨o',ho⟩:=c1 b o q hb hx;exact⟨o',hid ho (neC q)⟩
 have nfC:∀b∈frs X.stack,b≠C:=λb hb=>by
  obtain⟨_,o,ho,_⟩:=I3.stack.mem hb;exact neC ho
 obtain⟨un4,hok4⟩:=Qc7 u J.hok I3.stack I3.stkFree st1 hl.1 up cv.trk c1;have ch:∀b∈fp,(b∈X.ex\/X.s₀.heap.objs.size<=b)/\b≠X.env.locals/\(∀x c,X.env.cells.lookup x=some c->c≠b)/\∀p∈X.pn++pins,p.1≠b:=λb hb=>⟨(f3 b hb).2.2.2.1,(f3 b hb).2.1,(f3 b hb).2.2.2.2.1,(f3 b hb).2.2.2.2.2⟩;have I4:Inv X pins Y H' {s' with heap:=h₄}:=I3.call' (ch:=fp) Jos un4 hok4 J.bare ch;have fC:Js X pins H' C:=I3.fpOk (Nat.le_of_eq hC.symm) hCn;have hl5:=Qf0 hl (λb hb=>sb.2 b hb) nfC goC ndC;have I5:Inv X pins Y H' {s' with heap:=h₅,toks:=s'.toks}:=I4.turned (λb o hb q=>(sb.2 b hb).trans q) fC.1 fC.2.1 fC.2.2.2.1 fC.2.2.2.2.1 fC.2.2.2.2.2
 have un5:Un (frs X.stack) fp H3 H' s3.heap h₅:=⟨λb o q n hb hx=>(sb.2 b (neC q)).trans (un4.keep b o q n hb hx),λb o q n hb hx=>by
   obtain⟨sl,z⟩:=un4.slot b o q n hb hx
   exact⟨sl,(sb.2 b (neC q)).trans z⟩,un4.free,λb o q hx=>by
   obtain⟨o',z⟩:=un4.there b o q hx
   exact⟨o',(sb.2 b (neC q)).trans z⟩,un4.tups,un4.frzs,un4.tbls⟩
 obtain⟨o4,ge4,gd4⟩:=da.dk dk;obtain⟨_,_,_,oe,vs,T,oT,ts,ge,cl,de,v1,_⟩:=id hl5
 have eC:e≠C:=λz=>by
  obtain⟨_,_,_,oe',vs',_,_,_,ge',_,de',_⟩:=id hl;subst z;cases goC.symm.trans ge';exact ndC _ de'
 have da5:DictAt h₅ e dd:=⟨o4,(sb.2 e eC).trans ge4,gd4⟩
 have c2:CovX X (hideAll B [C]) H':=⟨tr,λb o q hb hx=>by
  obtain⟨o',z⟩:=I3.base.there b o q hx;refine old3 b o' z hb λw=>?_
  rcases (f3 b w).2.2.2.1 with y|y
  ·exact hx y
  ·exact absurd (Xr (Xk q) y) (Wu _)⟩
 have h0X:∀o,X.s₀.heap.get? e=some o->e∈X.ex:=λo q=>by
  by_cases hx:e∈X.ex
  ·exact hx
  ·obtain⟨o',z⟩:=I3.base.there e o q hx
   rcases (f3 e (h0 o' z)).2.2.2.1 with y|y
   ·exact y
   ·exact absurd (Xr (Xk q) y) (Wu _)
 unfold PySem.passOn;refine Xa (Wl ge de v1 ?_)
 rw[if_neg (show ¬((Value.ref T==Value.none)=true)from by simp),hd,xf]
 have fin:wpAny (model X.prog X.w) X.A (setFlight (.ref e) (some L)) (λt s''=>X.xe (.ref e) s'') X.xe {s' with heap:=h₅}:=by
  refine Xo (Yy (E:=λt t=>False) ZL (QiS (s:={s' with heap:=h₅}) (Q:=λt s''=>∃h₆,s''={s' with heap:=h₆}/\Heap.HeldW (hideAll B [C]) X.stack e (.ref Ce) a0 L h₆/\h₅.UpToSlots h₆) hl5 λh₆ x y=>⟨h₆,rfl,x,y⟩)) (λt s6 k=>?_) λt t z=>z.1.elim;obtain⟨⟨h₆,e6,hl₆,up₆⟩,dk₆⟩:=k;subst e6;obtain⟨un6,hok6⟩:=Qc7 un5 I5.hok I3.stack I3.stkFree hl5.1 hl₆.1 up₆ tr old3;exact hx pins Y H' _ e Ce _ a0 dd (I3.call' (ch:=fp) Jos un6 hok6 J.bare ch) (.inr ⟨L,xf,hl₆⟩) c2 hn h0X (da5.dk dk₆) hE
 first
  |exact Xa (Xf (Xa (thn fin λt t q=>wpAny_throw q)))
  |exact Xa (thn fin λt t q=>wpAny_throw q)
def Jh{Q:VK}{it:Addr}{tn:Nat->Heap->Prop}{J:It}{E:Value->Shared->Prop}{RR:Value->Addr->Result->Shared->Prop}(hx:QeP X E2)(fr:∃c l L,X.stack=c::l/\c.frame=some L/\X.env.frame=some L)(hc:X.calm=true)(k:CompOk X xs scope)
  (hn:xs.length=n) (hg:∀C s H fp,PG (X.block xs scope C s H fp) tg g) (ht:∀C s H fp,PTO (X.block xs scope C s H fp) tl tt) (he:∀C s H fp,PE ((X.block xs scope C s H fp).wish (QcW E2 (X.block xs scope C s H fp))) elt te)
  (I2:Inv X pins Y H s) (T:Turn X.prog X.w X.K tg J fp it tn) (st2:tn 0 s.heap) (f2:∀b∈fp,Js X pins H b)
  (q:∀D,H D=none->∃W:Nat->Nat->List V->Hp->Prop,(∃m,W 0 m [] (upd H D (.lst [])))/\∀i m ys H2,W i m ys H2->H2 D=some (.lst ys) /\
   ((J.stop i H2/\Q (.ref D) H2)\/(J.go i H2/\ys.length<sizeLine/\∀x H3 os,os.length=n->J.yld i H2 x H3->g x (Y++os) H3 λY' H4=>(∃os',os'.length=n/\Y'=Y++os')/\tt Y' H4 λb H5=>if b=true then te Y' H5 λy H6=>H6 D=some (.lst ys)/\∃m',m'<m/\W (i+1) m' (ys++[y]) (upd H6 D (.lst (ys++[y])))else ∃m',m'<m/\W (i+1) m' ys H5)))
  (hRE:∀acc C x s',(∃m,s'.heap.Ns C m/\∀h',Heap.SameBut C s'.heap h'->∀c:Env,c.frame=X.env.frame->wpAny (model X.prog X.w) X.A (passOn "comprehension.variables-let-go" x c:Sem Value) (λt t=>False) X.xe {s' with heap:=h'})->RR acc C (.error x) s')
  (hRR:∀D C s' H' m,Inv X pins Y H' s'->s'.heap.Ns C m->Js X pins H' C->Q (.ref D) H'->RR (.ref D) C (.ok .next) s'):
  wpAny (model X.prog X.w) X.A (newList []) (λacc s₃=>wpAny (model X.prog X.w) X.A (newFunctionEnv scope X.env.globals (QbD X.env.cells scope.names []) [] X.env.qual none .none (some X.env)) (λcenv s₄=>cenv.frame=X.env.frame /\
   codeAny (model X.prog X.w) X.A (.compStart (.ListComp elt [⟨tg,iter,tl.toList,0⟩] scope pos) 0 (.ref it) acc {cenv with scope:=relabel scope X.env}) (RR acc cenv.locals) s₄) E s₃) E s:=by
 have hk:X.env.scope.kind=.function:=I2.ok.kind
 refine Ws (wpAny_newFunctionEnv (λy hy=>(k.all y hy).2.1) (by intro y hy;simp at hy) (λh₁ hns₁ hsb₁=>?_) k.kind)
 dsimp only at hns₁ hsb₁ ⊢;have hD:H s.heap.objs.size=none:=I2.hok.fresh (Xi _);obtain⟨W,⟨m0,w0⟩,turn⟩:=q s.heap.objs.size hD
 have I3:Inv X pins Y (upd H s.heap.objs.size (.lst [])) {s with heap:=s.heap.push {cls:=.type "list",dict:=none,data:=.seq ([]:List Value).toArray} }:=
  I2.laid (t':=s.toks) (λb o e=>Xd _ e) (Xi _) (show ObjOk X.prog X.w _ _ _ (.lst [])from⟨W8 _,[],_,.nil,Xu _ rfl⟩)
 have lt2:∀b∈fp,b<s.heap.objs.size:=λb hb=>by
  obtain⟨o,e,_⟩:=T.obj 0 _ st2 b hb;exact Xk e
 have f3:∀b∈fp,Js X pins (upd H s.heap.objs.size (.lst [])) b:=λb hb=>⟨by rw[Qd (X1 (lt2 b hb))];exact(f2 b hb).1,(f2 b hb).2⟩
 have lt3:∀b∈fp,b<(s.heap.push {cls:=.type "list",dict:=none,data:=.seq ([]:List Value).toArray}).objs.size:=λb hb=>by
  rw[W7];exact Nat.lt_succ_of_lt (lt2 b hb)
 generalize hs3:({s with heap:=s.heap.push {cls:=.type "list",dict:=none,data:=.seq ([]:List Value).toArray} }:Shared)=s3 at I3
 have e3:s3.heap=s.heap.push {cls:=.type "list",dict:=none,data:=.seq ([]:List Value).toArray}:=by rw[<-hs3]
 rw[<-e3]at hns₁ hsb₁ lt3 ⊢;have kp:∀b o,s3.heap.get? b=some o->h₁.get? b=some o:=λb o e=>hsb₁.extBut b o (X1 (Xk e)) (Xd _ e);have IB:=I3.block (tk:=s.toks+([]:List (Str×Value)).length) k f3 lt3 hns₁ kp
 have es:({s3 with heap:=h₁,toks:=s.toks+([]:List (Str×Value)).length}:Shared)={s with heap:=h₁,toks:=s.toks+([]:List (Str×Value)).length}:=by rw[<-hs3]
 rw[es]at IB;generalize hX:X.block xs scope s3.heap.objs.size s3 (upd H s.heap.objs.size (.lst [])) fp=Yyy at IB;have HE:PE (Yyy.wish (QcW E2 Yyy)) elt te:=hX▸he _ _ _ _;have out:∀{v:Value} {s':Shared},QcW E2 Yyy v s'->notedBy (model X.prog X.w) X.A Yyy.env (λv s'=>RR (.ref s.heap.objs.size) s3.heap.objs.size (.error v) s') v s':=λ{v s'} z=>Xo (QeE hX hx fr I3 rfl f3 z) (λt s'' q=>hRE _ _ _ s'' q) λt s'' q=>hRE _ _ _ s'' q;have HT:PTO Yyy tl tt:=hX▸ht _ _ _ _;have HG:PG Yyy tg g:=hX▸hg _ _ _ _
 have hP:Yyy.prog=X.prog:=by rw[<-hX];rfl
 have hw:Yyy.w=X.w:=by rw[<-hX];rfl
 have hK:Yyy.K=X.K:=by rw[<-hX];rfl
 have hA:Yyy.A=X.A:=by rw[<-hX];rfl
 have hcY:Yyy.calm=true:=by rw[<-hX];exact hc
 have hxe:Yyy.xe=λt t=>False:=by rw[<-hX];rfl
 have henv:Yyy.env=compEnvC scope (QbD X.env.cells scope.names []) s3.heap.objs.size X.env:=by rw[<-hX];rfl
 have fpY:∀{H':Hp},(∀b∈fp,H' b=none)->∀b∈fp,Js Yyy [] H' b:=λhn b hb=>by
  have hb1:=(f2 b hb).2;rw[<-hX]
  refine⟨hn b hb,?_,λz=>?_,.inl hb,λy c e=>hb1.2.2.2.1 y c (Zf e),(λp hp=>by cases hp)⟩
  ·exact X1 (lt3 b hb)
  ·rcases Xg.mp (I3.stkSub b z)with e|e
   ·exact hb1.1 e
   ·exact hb1.2.1 e
 have back:∀{Y':St} {H':Hp} {s':Shared},Inv Yyy [] Y' H' s'->Inv X pins Y H' s'/\(∃m,s'.heap.Ns s3.heap.objs.size m)/\Js X pins H' s3.heap.objs.size:=λ{Y' H' s'} J'=>by
  have u:=J'.base;have os:=J'.os;have hok:=J'.hok;have bare:=J'.bare;obtain⟨mm,hnn,_⟩:=J'.loc;have fr:=J'.free;rw[henv]at hnn fr;rw[<-hX]at u os hok;refine⟨I3.call' os u hok bare λb hb=>?_,⟨mm,hnn⟩,I3.fpOk (Xi _) fr⟩;exact⟨(f2 b hb).2.2.2.1,(f2 b hb).2.1,(f2 b hb).2.2.2.2.1,(f2 b hb).2.2.2.2.2⟩
 have loop:∀s₃:Shared,Inv Yyy [] (Y++List.replicate xs.length none) (upd H s.heap.objs.size (.lst [])) s₃->tn 0 s₃.heap ->
   codeAny (model X.prog X.w) X.A (.compLoop (.ListComp elt [⟨tg,iter,tl.toList,0⟩] scope pos) 0 (.ref it) (.ref s.heap.objs.size) Yyy.env) (RR (.ref s.heap.objs.size) s3.heap.objs.size) s₃:=by
  intro s₃ J3 t3
  refine Jj (λm s'=>∃i os H' ys,os.length=n/\Inv Yyy [] (Y++os) H' s'/\tn i s'.heap/\(∀b∈fp,H' b=none)/\W i m ys H') ?_ m0 ⟨0,_,_,[],by rw[Tq];exact hn,J3,t3,λb hb=>(f3 b hb).1,w0⟩
  rintro m s4 ⟨i,os,H4,ys,lo,J4,st4,fr4,w4⟩;obtain⟨hDl,tr⟩:=turn i m ys H4 w4
  rcases tr with⟨stop,qn⟩|⟨go,hz,step⟩
  ·have dn:=T.done Yyy hP hw hK hcY i [] s4 (Y++os) H4 (notedBy (model X.prog X.w) X.A Yyy.env λe s'=>RR (.ref s.heap.objs.size) s3.heap.objs.size (.error e) s') J4 (fpY fr4) st4 stop;rw[hA]at dn;refine thn dn λr s5 j=>?_;obtain⟨hr,J5⟩:=j;subst hr;obtain⟨I5,⟨m5,n5⟩,f5⟩:=back J5;exact hRR _ _ _ _ _ I5 n5 f5 qn
  ·have im:=T.item Yyy hP hw hK hcY i [] s4 (Y++os) H4 (notedBy (model X.prog X.w) X.A Yyy.env λe s'=>RR (.ref s.heap.objs.size) s3.heap.objs.size (.error e) s') J4 (fpY fr4) st4 go;rw[hA]at im;refine thn im λr s5 f=>?_;obtain⟨u,hr,h5⟩:=f;subst hr;refine thn h5 λt s6 a=>?_;obtain⟨v,H6,J6,rv,y6,st6,fr6⟩:=a;have J6':=J6.pinned (fpY fr6) (T.obj _ _ st6)
   have noE:∀{EE:Value->Shared->Prop},∀e s',Yyy.xe e s'->EE e s':=λ{EE} e s' z=>by rw[hxe]at z;exact z.elim
   have asg:=HG _ s6 (Y++os) H6 v u _ J6' rv (step v H6 os lo y6);rw[hP,hw,hA]at asg;refine Xo asg (λt s7 Z=>?_) noE;obtain⟨σ7,H7,J7,⟨os',lo',e7⟩,q7⟩:=Z;subst e7
   have fin:∀{s9:Shared} {H9:Hp} {m':Nat} {zs:List V},Inv Yyy ([]++ZW fp s6.heap) (Y++os') H9 s9->m'<m->W (i+1) m' zs H9->∃m',m'<m/\∃i os H' ys,os.length=n/\Inv Yyy [] (Y++os) H' s9/\tn i s9.heap/\(∀b∈fp,H' b=none)/\W i m' ys H':=λ{s9 H9 m' zs} J9 hm' w9=>by
    refine⟨m',hm',i+1,os',H9,zs,lo',J9.unpinned,T.keep _ _ _ st6 λb hb ob e=>(J9.pin (b,ob) (X0 _ (X0 _ (QX hb e)))).1,λb hb=>?_,w9⟩;obtain⟨ob,e,d⟩:=T.obj _ _ st6 b hb;exact(J9.pin (b,ob) (X0 _ (X0 _ (QX hb e)))).2.1
   have tst:wpAny (model X.prog X.w) X.A (forIn tl.toList true λc r=>if r=true then do let ok <-isTrue c Yyy.env (eval c Yyy.env);pure (ForInStep.yield ok)else pure (ForInStep.yield r)) (TP Yyy ([]++ZW fp s6.heap) (Y++os') λb H5=>if b=true then te (Y++os') H5 λy H6=>H6 s.heap.objs.size=some (.lst ys)/\∃m',m'<m/\W (i+1) m' (ys++[y]) (upd H6 s.heap.objs.size (.lst (ys++[y])))else ∃m',m'<m/\W (i+1) m' ys H5) (notedBy (model X.prog X.w) X.A Yyy.env λe s'=>RR (.ref s.heap.objs.size) s3.heap.objs.size (.error e) s') s7:=by
    refine QbK ?_
    cases tl with
    |none=>exact⟨H7,J7,HT _ _ _ q7⟩
    |some c=>
     have z:=(show PT Yyy c tt from HT) _ s7 _ _ _ J7 q7;rw[hP,hw,hA]at z;exact Xo z (λt t h=>h) noE
   refine Xo tst (λb s8 U=>?_) λt t e=>e;obtain⟨H8,J8,q8⟩:=U
   cases b with
   |false=>
    rw[if_neg Xn]at q8 ⊢;obtain⟨m',hm',w8⟩:=q8;exact fin J8 hm' w8
   |true=>
    rw[if_pos rfl]at q8 ⊢;have ev:wpAny (model Yyy.prog Yyy.w) Yyy.A (eval elt Yyy.env) _ (QcW E2 Yyy) s8:=HE _ s8 _ _ _ (J8.wish _) q8;rw[hP,hw,hA]at ev;refine Xo ev (λy s8 S=>?_) λt t z=>out z;obtain⟨yv,H8,J8,ry,hD8,m',hm',w8⟩:=S;have J8:=J8.unwish;have ap:=Y6 (X:=Yyy) _ s8 _ H8 (.ref s.heap.objs.size) [yv] (.ref s.heap.objs.size) [y] (λt H'=>H'=upd H8 s.heap.objs.size (.lst (ys++[yv]))) J8 rfl (.cons ry .nil) ⟨_,ys,yv,rfl,rfl,hD8,hz,rfl⟩;rw[hP,hw,hA]at ap;refine Xo ap (λt s9 R=>?_) noE;obtain⟨_,H9,J9,_,e9⟩:=R;subst e9;exact fin J9 hm' w8
 have t1:tn 0 h₁:=T.keep 0 _ _ st2 λb hb o e=>kp b o (by rw[e3];exact Xd _ e)
 have go:=loop _ IB t1;rw[henv]at go;refine⟨rfl,codeAny_compStart_list ?_ ?_⟩
 ·exact go
 ·exact T.self X.A 0 _ _ _ t1 go
def Qb4{wi:TI}(hx:QeP X E2)(fr:∃c l L,X.stack=c::l/\c.frame=some L/\X.env.frame=some L)(hc:X.calm=true)(k:CompOk X xs scope)(hi:PI X tg iter wi)(hn:xs.length=n)(hg:∀C s H fp,PG (X.block xs scope C s H fp) tg g)(ht:∀C s H fp,PTO (X.block xs scope C s H fp) tl tt)(he:∀C s H fp,PE ((X.block xs scope C s H fp).wish (QcW E2 (X.block xs scope C s H fp))) elt te)
  (hs:∀v,foldedSetIterable iter X.env v=pure v):PE X (.ListComp elt [⟨tg,iter,tl.toList,0⟩] scope pos) (Qay wi n g tt te):=by
 intro pins s Y H Q I h;rw[eval_ListComp];refine JM (use:=none) rfl hs (ZT λy hy hf=>I.ok.has y.1 ((k.all y hy).2.2 hf)) k.kind (λy hy hl=>((k.all y hy).1 hl).2) ?_;refine thn (hi pins s Y H _ I h) λv s1 h1=>thn h1 λitv s2 h2=>?_;obtain⟨it,fp,tn,J,H2,e,I2,T,st2,f2,q⟩:=h2;subst e;refine Jh (RR:=λacc C=>cpX (model X.prog X.w) X.A X.env X.xe none (EP X pins Y Q) acc C) hx fr hc k hn hg ht he I2 T st2 f2 q (λx x x x z=>z) ?_;intro D C s' H' m I' n' f' q';refine⟨m,n',λh' sb=>?_⟩;exact⟨.ref D,H',I'.turned (t':=s'.toks) (λb o hb e=>sb.extBut b o hb e) f'.1 f'.2.1 f'.2.2.2.1 f'.2.2.2.2.1 f'.2.2.2.2.2,rfl,q'⟩
def Qfp{py spos:Pos}{wi:TI}{y:Str}{j:Nat}(hx:QeP X E2)(fr:∃c l L,X.stack=c::l/\c.frame=some L/\X.env.frame=some L)(hc:X.calm=true)(hN:X.N.Nodup)(k:CompOk X xs scope)(hi:PI X tg iter wi)(hn:xs.length=n)(hg:∀C s H fp,PG (X.block xs scope C s H fp) tg g)(ht:∀C s H fp,PTO (X.block xs scope C s H fp) tl tt)(he:∀C s H fp,PE ((X.block xs scope C s H fp).wish (QcW E2 (X.block xs scope C s H fp))) elt te)
  (hs:∀v,foldedSetIterable iter X.env v=pure v) (hj:X.N[j]?=some y) (hy:Loc X.env.scope y) (hfn:X.fn y=true\/X.env.scope.names.lookup y=some .local):
  PS X (.Assign [.Name y py] (.ListComp elt [⟨tg,iter,tl.toList,0⟩] scope pos) spos) (λD Y H=>Qay wi n g tt te Y H λv H1=>D.nx (Y.set j (some v)) H1):=by
 have hsw:∃b,swapsWith (.ListComp elt [⟨tg,iter,tl.toList,0⟩] scope pos) (some (.Name y py)) spos.line X.env=pure b:=⟨_,rfl⟩;obtain⟨b,hsw⟩:=hsw
 cases b with
 |false=>exact JB hN hj hy (Qb4 hx fr hc k hi hn hg ht he hs) hsw hfn
 |true=>
  intro pins s Y H D I h;rw[exec_Assign_Name_used _ _ _ _ hsw];refine Xa (Uo (Xa ?_))
  show wpAny _ _ (do let _ <-comprehension (.ListComp elt [⟨tg,iter,tl.toList,0⟩] scope pos) scope X.env _ (newList []) false (eval iter X.env) (some (assign (.Name y py) X.env))) _ _ s
  refine Xa (Xo (JM (use:=some (assign (.Name y py) X.env)) (Q:=λx s'=>SP X pins D .next s') rfl hs (ZT λy hy hf=>I.ok.has y.1 ((k.all y hy).2.2 hf)) k.kind (λy hy hl=>((k.all y hy).1 hl).2) ?_)
   (λx s' hq=>Xf (Xf hq)) λx x e=>e)
  refine thn (hi pins s Y H _ I h) λv s1 h1=>thn h1 λitv s2 h2=>?_;obtain⟨it,fp,tn,J,H2,e,I2,T,st2,f2,q⟩:=h2;subst e;refine Jh (Q:=λv H1=>D.nx (Y.set j (some v)) H1) (RR:=λacc C=>cpX (model X.prog X.w) X.A X.env X.xe (some (assign (.Name y py) X.env)) (λx s'=>SP X pins D .next s') acc C) hx fr hc k hn hg ht he I2 T st2 f2 q (λx x x x z=>z) ?_;intro Da C s' H' m I' n' f' q';obtain⟨o,es,ep,ho,hd,r⟩:=id n'
  have Ip:Inv X (pins++ZW [C] s'.heap) Y H' s':=I'.pinned (λb hb=>by
   have e:b=C:=by simpa using hb
   subst e
   exact f') λb hb=>by
    have e:b=C:=by simpa using hb
    subst e
    exact⟨o,ho,λv z=>by rw[hd]at z;cases z⟩
  refine thn (Yp (i:=j) hN hj hy hfn _ s' Y H' (.ref Da) (.ref Da) _ Ip rfl q') λx s'' u=>?_;obtain⟨σ2,H2',J2,q2⟩:=u
  have pc:=J2.pin (C,o) (X0 _ (X0 _ (QX (by simp) ho)))
  refine⟨m,⟨o,es,ep,pc.1,hd,r⟩,λh' sb=>?_⟩;exact⟨σ2,H2',J2.unpinned.turned (t':=s''.toks) (λb ob hb e=>sb.extBut b ob hb e) pc.2.1 f'.2.1 f'.2.2.2.1 f'.2.2.2.2.1 f'.2.2.2.2.2,q2⟩
end
end L2
namespace L2
open PySem PySem.Spec PyProof.Rows
end L2
namespace Iv
open PySem PySem.Spec PyProof.Rows L2
section
variable {D:Addr}{a':E}{a it tg:Expr}{J:It}{d:Nat}{p q:Pos}{w:Wk}
section
variable {X:Cx}{T:Tbl}{A:Adr}{cf:Cf}{m k:Nat}{α:List Addr}{hs:Hs}{H:Hp}{u:U}{v:V}{ρ:Rho}{Y:St}
def WJ(A:Adr)(K:W.Frag)(α:List Addr)(J:It)(H:Hp):Wk->Prop
 |.seqL u=>∃a,RU A α u (.ref a)/\J=Itl K a
 |.seqT u=>∃a,RU A α u (.ref a)/\J=Itt K a
 |.rng lo n=>J=Itr lo n
 |.zipB p q x y=>∃a b,RU A α x (.ref a)/\RU A α y (.ref b)/\J=Itz p q K a b
theorem WJ.mono{K:W.Frag}{α':List Addr}{H':Hp}(p:∀(n:Nat) a,α[n]?=some a->α'[n]?=some a)(f:∀b o u,H b=some (.frz o u)->H' b=some (.frz o u))(h:WJ A K α J H w):WJ A K α' J H' w:=by
 cases w with
 |seqL u=>obtain⟨a,r,e⟩:=h;exact⟨a,r.mono p,e⟩
 |seqT u=>obtain⟨a,r,e⟩:=h;exact⟨a,r.mono p,e⟩
 |rng lo n=>exact h
 |zipB b c x y=>obtain⟨a,b,r,r',e⟩:=h;exact⟨a,b,r.mono p,r'.mono p,e⟩
noncomputable def gT(K:W.Frag):Tg->TG
 |.name i=>Qbu i
 |.pair i j=>Qo8 K 2 (QiY (Qbu i) (QiY (Qbu j) Qo9))
def Jz{b:Bool}{xs:List U}(tx:Txt T A X.K X.mg)(R:Rep T A X.K α hs H)(h:sqU T b u hs=some xs)(r:RU A α u v):∃a vs,v=.ref a/\RUs A α xs vs/\SqB b X.K H a vs:=by
 cases b with
 |true=>exact Zm tx R h r
 |false=>exact YW tx R h r
def Qcd{i:Nat}(tx:Txt T A X.K X.mg)(R:Rep T A X.K α hs H)(W:WJ A X.K α J H w)(h:itm T w i hs=some none):J.stop i H:=by
 cases w with
 |seqL u=>
  obtain⟨a,r,rfl⟩:=W;simp only[itm,Xc,Option.map_eq_none_iff]at h;obtain⟨xs,e,h⟩:=h;obtain⟨a',vs,ea,rr,q⟩:=Zm tx R e r;cases ea
  exact⟨vs,q,by rw[<-rr.length];exact Tb.mp h⟩
 |seqT u=>
  obtain⟨a,r,rfl⟩:=W;simp only[itm,Xc,Option.map_eq_none_iff]at h;obtain⟨xs,e,h⟩:=h;obtain⟨a',vs,ea,rr,q⟩:=YW tx R e r;cases ea
  exact⟨vs,q,by rw[<-rr.length];exact Tb.mp h⟩
 |rng lo n=>
  cases(show J=_ from W);simp only[itm,Vs]at h;split at h
  ·cases h
  ·rename_i l;show n<=i;omega
 |zipB p q x y=>
  obtain⟨a,b,r1,r2,rfl⟩:=W;simp only[itm]at h;split at h
  case h_2=>cases h
  rename_i xs ys e1 e2;obtain⟨a',vs,ea,rr,q⟩:=Jz tx R e1 r1;cases ea;obtain⟨b',ws,eb,rr',q'⟩:=Jz tx R e2 r2;cases eb;refine⟨vs,ws,q,q',?_⟩;unfold two at h;rw[<-rr.length,<-rr'.length];by_cases l1:i<xs.length
  ·by_cases l2:i<ys.length
   ·rw[Xp l1,Xp l2]at h;cases h
   ·exact .inr (by omega)
  ·exact .inl (by omega)
def JU{t:Tg}{ρ':Rho}{Q:St->Hp->Prop}(R:Rep T A X.K α hs H)(rs:RS A α ρ Y)(r:RU A α u v)(h:tgt t (.one u) ρ hs=some ρ')(k:∀σ2,RS A α ρ' σ2->Q σ2 H):gT X.K t v Y H Q:=by
 cases t with
 |name i=>cases h;exact k _ (rs.set i r)
 |pair i j=>
  cases u with
  |ref n=>
   obtain⟨a,ha,rfl⟩:=r;simp only[tgt]at h;split at h
   case h_2=>cases h
   rename_i x y e;cases h;obtain⟨vs,q,rr⟩:=R.h.ob n a _ ha e;obtain⟨v1,ws,rfl,r1,rr⟩:=Qp rr;obtain⟨v2,ws,rfl,r2,rr⟩:=Qp rr;cases Qy rr;exact⟨a,[v1,v2],rfl,SqT.of q,rfl,v1,[v2],rfl,v2,[],rfl,rfl,k _ ((rs.set i r1).set j r2)⟩
  |_=>simp[tgt]at h
def JG{i:Nat}{x:Im}{t:Tg}{ρ':Rho}(tx:Txt T A X.K X.mg)(R:Rep T A X.K α hs H)(W:WJ A X.K α J H w)(rs:RS A α ρ Y)(h:itm T w i hs=some (some x))(ht:tgt t x ρ hs=some ρ'):
  J.go i H/\∀v H' (Q:St->Hp->Prop),J.yld i H v H'->(∀σ2,RS A α ρ' σ2->Rep T A X.K α hs H'->Ext α α H H'->Q σ2 H')->gT X.K t v Y H' Q:=by
 have zip:∀{b c:Bool} {a1 a2:Addr} {xs ys:List U} {vs ws:List V},SqB b X.K H a1 vs->SqB c X.K H a2 ws->RUs A α xs vs->RUs A α ys ws->some (two xs ys i)=some (some x) ->
   (Itz b c X.K a1 a2).go i H/\∀v H' (Q:St->Hp->Prop),(Itz b c X.K a1 a2).yld i H v H'->(∀σ2,RS A α ρ' σ2->Rep T A X.K α hs H'->Ext α α H H'->Q σ2 H')->gT X.K t v Y H' Q:=by
  intro b c a1 a2 xs ys vs ws q1 q2 r1 r2 h;unfold two at h;split at h
  case h_2=>cases h
  rename_i x1 y1 e1 e2;cases h;obtain⟨v1,f1,g1⟩:=r1.get e1;obtain⟨v2,f2,g2⟩:=r2.get e2;refine⟨⟨vs,ws,v1,v2,q1,q2,f1,f2⟩,?_⟩;rintro v H' Q ⟨p,w1,w2,hp,rfl,rfl,k1,k2⟩ k;have n1:w1=v1:=Xw ((k1 vs q1).symm.trans f1);have n2:w2=v2:=Xw ((k2 ws q2).symm.trans f2);subst n1 n2
  have ne:∀b y,H b=some y->b≠p:=λb y e z=>by rw[z,hp]at e;cases e
  have R':Rep T A X.K α hs (upd H p (.tup [w1,w2])):=⟨⟨R.h.len,R.h.nd_keep λb x m e=>by rw[Qd (ne _ _ e)];exact e,λn a o e1 e2=>RO.keep (R.h.ob n a o e1 e2) (λm m e=>e) λm y e m=>by rw[Qd (ne _ _ e)];exact e⟩,R.s.keep λy e m=>by rw[Qd (ne _ _ e)];exact e⟩
  have E':Ext α α H (upd H p (.tup [w1,w2])):=⟨λm m e=>e,λn a e l=>by have:=getElem?_lt e;omega,λb o e m=>by rw[Qd (ne _ _ e)];exact e,λb o kv e=>by rw[Qd (ne _ _ e)];exact e,λb o e=>⟨o,by rw[Qd (ne _ _ e)];exact e,λm=>Iff.rfl⟩⟩
  cases t with
  |name i=>simp[tgt]at ht
  |pair i j=>
   cases ht;exact⟨p,[w1,w2],rfl,SqT.of Qh,rfl,w1,[w2],rfl,w2,[],rfl,rfl,k _ ((rs.set i g1).set j g2) R' E'⟩
 cases w with
 |seqL u=>
  obtain⟨a,r,rfl⟩:=W;simp only[itm,Xc]at h;obtain⟨xs,e,y,h,rfl⟩:=h;obtain⟨a',vs,ea,rr,q⟩:=Zm tx R e r;cases ea;obtain⟨v1,f1,g1⟩:=rr.get h;refine⟨⟨vs,v1,q,f1⟩,?_⟩;rintro v H' Q ⟨rfl,k1⟩ k;have n1:v=v1:=Xw ((k1 vs q).symm.trans f1);subst n1;exact JU R rs g1 ht λσ2 r2=>k σ2 r2 R Ext.refl
 |seqT u=>
  obtain⟨a,r,rfl⟩:=W;simp only[itm,Xc]at h;obtain⟨xs,e,y,h,rfl⟩:=h;obtain⟨a',vs,ea,rr,q⟩:=YW tx R e r;cases ea;obtain⟨v1,f1,g1⟩:=rr.get h;refine⟨⟨vs,v1,q,f1⟩,?_⟩;rintro v H' Q ⟨rfl,k1⟩ k;have n1:v=v1:=Xw ((k1 vs q).symm.trans f1);subst n1;exact JU R rs g1 ht λσ2 r2=>k σ2 r2 R Ext.refl
 |rng lo n=>
  cases(show J=_ from W);simp only[itm,Vs]at h;split at h
  case isFalse=>cases h
  rename_i l;cases h;refine⟨l,?_⟩;rintro v H' Q ⟨rfl,rfl⟩ k;exact JU (u:=.int (lo+i) 0) R rs ⟨_,rfl,Cg.refl _ _⟩ ht λσ2 r2=>k σ2 r2 R Ext.refl
 |zipB p q x1 y1=>
  obtain⟨a,b,r1,r2,rfl⟩:=W;simp only[itm]at h;split at h
  case h_2=>cases h
  rename_i xs ys e1 e2;obtain⟨a',vs,ea,rr,q⟩:=Jz tx R e1 r1;cases ea;obtain⟨b',ws,eb,rr',q'⟩:=Jz tx R e2 r2;cases eb;exact zip q q' rr rr' h
noncomputable def TIW(T:Tbl)(A:Adr)(K:W.Frag)(f:Rho->Hs->Option (Wk×Hs)):L2.TI:=λY H R=>∃α ρ hs w hs',RS A α ρ Y/\Rep T A K α hs H/\f ρ hs=some (w,hs') /\
 ∀α' J H',Ext α α' H H'->Rep T A K α' hs' H'->WJ A K α' J H' w->R J H'
def Qgm{t t':L2.TI}(h:PI X tg it t)(i:∀Y H R,t' Y H R->t Y H R):PI X tg it t':=λpins s Y H R I q=>h pins s Y H R I (i Y H R q)
def Ql9{t t':L2.TI}(h:PI X tg it t)(h':PI X tg it t'):PI X tg it (λY H R=>t Y H R\/t' Y H R):=λpins s Y H R I q=>q.elim (h pins s Y H R I) (h' pins s Y H R I)
def Qp2:PI X tg it (λz z z=>False):=λpins s Y H R I h=>h.elim
def QkG{ir:E}(tx:Txt T A X.K X.mg)(h:PE X it (Iv.TI T A X.K (ev T cf d ir))):PI X tg it (TIW T A X.K (λρ hs=>Zs T (ev T cf d) ρ (.seq ir) hs)):=by
 refine Qgm (Ql9 (Ql9 (Qib h) (QkF h)) Qp2) ?_;rintro Y H R ⟨α,ρ,hs,w,hs',rs,Rp,e,q⟩;simp only[Zs]at e;obtain⟨u,h1,e1,e⟩:=Qb e;simp only[Xc]at e;obtain⟨w',e2,e⟩:=e;cases e;unfold wkS at e2;split at e2
 ·rename_i xs el;cases e2;refine .inl (.inl (TI.run rs Rp e1 λα1 x H1 E1 R1 r1 rs1=>?_));obtain⟨a,vs,rfl,rr,sq⟩:=Zm tx R1 el r1;exact⟨a,rfl,⟨vs,sq⟩,q α1 _ H1 E1 R1 ⟨a,r1,rfl⟩⟩
 ·split at e2
  ·rename_i xs el;cases e2;refine .inl (.inr (TI.run rs Rp e1 λα1 x H1 E1 R1 r1 rs1=>?_));obtain⟨a,vs,rfl,rr,sq⟩:=YW tx R1 el r1;exact⟨a,rfl,⟨vs,sq⟩,q α1 _ H1 E1 R1 ⟨a,r1,rfl⟩⟩
  ·cases e2
def YZ{i:Int}(h:Qs (i*4)=true):-(2 ^ 62)<=i/\i<2 ^ 62:=by
 obtain⟨h1,h2⟩:=ZB h;constructor<;>omega
def QkH(hg:Gl X "range")(hm:X.mg "range"=none)(hns:∀x p,a≠.Starred x p)(h:PE X a (Iv.TI T A X.K (ev T cf d a'))):PI X tg (.Call (.Name "range" p) [a] [] q) (TIW T A X.K (λρ hs=>Zs T (ev T cf d) ρ (.rng a') hs)):=by
 refine Qgm (QdB hg hm (Zk h JD (Qk hns)) (Qk hns)) ?_;rintro Y H R ⟨α,ρ,hs,w,hs',rs,Rp,e,q⟩;simp only[Zs]at e;obtain⟨u,h1,e1,e⟩:=Qb e;split at e
 case h_2=>cases e
 split at e
 case isFalse=>cases e
 rename_i i c;cases e;refine TI.run rs Rp e1 λα1 x H1 E1 R1 r1 rs1=>?_;obtain⟨j,rfl,cg⟩:=r1;cases cg.exact;obtain⟨b1,b2⟩:=YZ c;exact⟨_,rfl,b1,b2,q α1 _ H1 E1 R1 rfl⟩
def Qia{b:Expr}{b':E}(hg:Gl X "range")(hm:X.mg "range"=none)(hna:∀x p,a≠.Starred x p)(hnb:∀x p,b≠.Starred x p)(ha:PE X a (Iv.TI T A X.K (ev T cf d a')))(hb:PE X b (Iv.TI T A X.K (ev T cf d b'))):PI X tg (.Call (.Name "range" p) [a,b] [] q) (TIW T A X.K (λρ hs=>Zs T (ev T cf d) ρ (.rng2 a' b') hs)):=by
 have s2:starEach [b] X.env=[(false,eval b X.env)]:=Qk hnb
 have s1:starEach [a,b] X.env=[(false,eval a X.env),(false,eval b X.env)]:=by rw[Qk hna,s2]
 refine Qgm (QdA hg hm (Zk ha (Zk hb JD (Qk hnb)) (Qk hna)) s1 s2) ?_;rintro Y H R ⟨α,ρ,hs,w,hs',rs,Rp,e,q⟩;simp only[Zs]at e;obtain⟨u,h1,e1,e⟩:=Qb e;obtain⟨u2,h2,e2,e⟩:=Qb e;split at e
 case h_2=>cases e
 split at e
 case isFalse=>cases e
 rename_i i j c;cases e;rw[Xe]at c;refine TI.run rs Rp e1 λα1 x H1 E1 R1 r1 rs1=>?_;refine TI.run rs1 R1 e2 λα2 y H2 E2 R2 r2 rs2=>?_;obtain⟨i',rfl,cg⟩:=r1;cases cg.exact;obtain⟨j',rfl,cg⟩:=r2;cases cg.exact;obtain⟨b1,b2⟩:=YZ c.1;obtain⟨b3,b4⟩:=YZ c.2;exact⟨_,_,rfl,⟨b1,b2,b3,b4⟩,q α2 _ H2 (E1.trans E2 R2.h) R2 rfl⟩
def Qh9{elts:List Expr}{kt:Nat}{pt:Pos}{b:Expr}{b':E}(tx:Txt T A X.K X.mg)(hg:Gl X "zip")(hm:X.mg "zip"=none)(hna:∀x p,a≠.Starred x p)(hnb:∀x p,b≠.Starred x p)(ha:PE X a (Iv.TI T A X.K (ev T cf d a')))(hb:PE X b (Iv.TI T A X.K (ev T cf d b'))):
  PI X (.Tuple elts kt pt) (.Call (.Name "zip" p) [a,b] [] q) (TIW T A X.K (λρ hs=>Zs T (ev T cf d) ρ (.zip a' b') hs)):=by
 have s2:starEach [b] X.env=[(false,eval b X.env)]:=Qk hnb
 have s1:starEach [a,b] X.env=[(false,eval a X.env),(false,eval b X.env)]:=by rw[Qk hna,s2]
 have pa:=Zk ha (Zk hb JD (Qk hnb)) (Qk hna);refine Qgm (Ql9 (Ql9 (Qb2 (b:=true) (b':=true) hg hm pa s1 s2) (Qb2 (b:=true) (b':=false) hg hm pa s1 s2)) (Ql9 (Qb2 (b:=false) (b':=true) hg hm pa s1 s2) (Qb2 (b:=false) (b':=false) hg hm pa s1 s2))) ?_;rintro Y H R ⟨α,ρ,hs,w,hs',rs,Rp,e,q⟩;simp only[Zs]at e;obtain⟨u1,h1,e1,e⟩:=Qb e;obtain⟨u2,h2,e2,e⟩:=Qb e;simp only[Xc]at e;obtain⟨w',e3,e⟩:=e;cases e;unfold wkZ at e3;simp only at e3;generalize (Q4 T u1 hs').isSome=p at e3;generalize (Q4 T u2 hs').isSome=p' at e3;split at e3
 case isFalse=>cases e3
 rename_i c;simp only[Xe]at c;obtain⟨xs,l1⟩:=Wy.mp c.1;obtain⟨ys,l2⟩:=Wy.mp c.2;cases e3
 have key:Qo6 p p' X.K (QhC (Iv.TI T A X.K (ev T cf d a')) (QhC (Iv.TI T A X.K (ev T cf d b')) Qmh)) Y H R:=by
  refine TI.run rs Rp e1 λα1 x H1 E1 R1 r1 rs1=>TI.run rs1 R1 e2 λα2 y H2 E2 R2 r2 rs2=>?_;obtain⟨a,vs,rfl,rr,sq⟩:=Jz tx R2 l1 (r1.mono E2.pre);obtain⟨b,ws,rfl,rr',sq'⟩:=Jz tx R2 l2 r2;exact⟨a,b,rfl,⟨vs,sq⟩,⟨ws,sq'⟩,q α2 _ H2 (E1.trans E2 R2.h) R2 ⟨a,b,r1.mono E2.pre,r2,rfl⟩⟩
 cases p<;>cases p'
 ·exact .inr (.inr key)
 ·exact .inr (.inl key)
 ·exact .inl (.inr key)
 ·exact .inl (.inl key)
def Rep.aside{ho:HO}(R:Rep T A X.K α hs H)(hn:D∉α)(hs':∀o u,H D≠some (.frz o u)):Rep T A X.K α hs (upd H D ho):=
 ⟨⟨R.h.len,R.h.nd_keep λb x hb e=>by rw[Qd (λ(z:b=D)=>hn (z▸hb))];exact e,λn a o e1 e2=>RO.keep (R.h.ob n a o e1 e2) (λv v e=>e) λc y e w=>by
   rcases w with rfl|⟨oz,fs,rfl⟩
   ·have ne:c≠D:=λz=>hn (z▸X2 e1);rw[Qd ne];exact e
   ·rw[Qd (λz=>hs' _ _ (z▸e))];exact e⟩,
  R.s.keep λy e z=>by
   obtain⟨ob,u,rfl⟩:=z;have ne:A.s≠D:=λz=>hs' ob _ (z▸e);rw[Qd ne]
   exact e⟩
def Rep.adopt{us:List U}{ys:List V}(R:Rep T A X.K α hs H)(hn:D∉α)(hD:H D=some (.lst ys))(r:RUs A α us ys):Rep T A X.K (α++[D]) (hs++[.lst us]) H:=by
 refine⟨⟨by simp[R.h.len],QdR R.h.nd hn,λn a o e1 e2=>?_⟩,R.s⟩
 rcases QQ e1 with q|⟨q1,q2⟩
 ·rcases QQ e2 with z|⟨z,_⟩
  ·exact RO.keep (R.h.ob n a o q z) QP λy y e y=>e
  ·have:=getElem?_lt q;rw[R.h.len]at this;omega
 ·subst q2
  rcases QQ e2 with z|⟨_,z⟩
  ·have:=(Xh.mp z).1;rw[<-R.h.len]at this;omega
  ·subst z;exact⟨ys,hD,RUs.mono QP r⟩
def RS.pad{p:Rho}{os:St}(rs:RS A α ρ Y)(hl:p.length=os.length)(hp:∀x∈p,x=none):RS A α (ρ++p) (Y++os):=by
 refine⟨by simp[rs.len,hl],λi u e=>?_⟩
 by_cases l:i < ρ.length
 ·rw[X4 l]at e;obtain⟨v,h1,h2⟩:=rs.val i u e
  exact⟨v,by rw[X4 (Xh.mp h1).1];exact h1,h2⟩
 ·rw[Wi (by omega)]at e
  cases hp _ (X2 e)
noncomputable def nN(b:Bool):Nat:=if b then 2 else 1
def YM(b:Bool):(QcU b).length=nN b:=by cases b<;>rfl
def Z7(b:Bool):∀x∈QcU b,x=none:=by cases b<;>simp[QcU]
def Qd8{K:W.Frag}{b:Bool}{os:St}{Q:St->Hp->Prop}(hl:os.length=nN b)(h:gT K (tgN b Y.length) v (Y++os) H Q):
  gT K (tgN b Y.length) v (Y++os) H λσ2 H2=>(∃os':St,os'.length=nN b/\σ2=Y++os')/\Q σ2 H2:=by
 cases b with
 |false=>
  have h:Q ((Y++os).set Y.length (some v)) H:=h
  exact⟨⟨os.set 0 (some v),by simp[hl],by rw[Vm _ _ (Xi _),Uw]⟩,h⟩
 |true=>
  obtain⟨a,xs,rfl,sq,len,v1,r1,rfl,v2,r2,rfl,e,q⟩:=h
  refine⟨a,_,rfl,sq,len,v1,_,rfl,v2,_,rfl,e,⟨(os.set 0 (some v1)).set 1 (some v2),by simp[hl],?_⟩,q⟩
  rw[Vm _ _ (Xi _),Uw,Vm _ _ (Uk _)]
  congr 1
  congr 1
  omega
def Qb6{α4:List Addr}{ho:HO}{H4:Hp}(E4:Ext α α4 H H4)(nD:D∉α)(d3:H D=some ho)(hnt:∀vs,ho≠.tup vs:=by intro _ z;cases z):D∉α4:=λz=>by
 obtain⟨n,hn⟩:=V3 z;by_cases l:n < α.length
 ·have e1:α[n]?=some α[n]:=Xp l;have e2:=E4.pre _ _ e1;rw[hn]at e2;cases e2;exact nD (U0 l)
 ·rcases E4.new n D hn (by omega)with q|⟨vs,q⟩
  ·rw[d3]at q;cases q
  ·rw[d3]at q;exact hnt vs (Xw q)
def Qem{src:Src}{b:Bool}{t:Option E}{el:E}{Y:St}{H:Hp}{Q:VK}(tx:Txt T A X.K X.mg)(hl:Y.length=X.N.length)(h:Iv.TI T A X.K (ev T cf (d+1) (.comp src b t el)) Y H Q):
  Qay (TIW T A X.K (λρ hs=>Zs T (ev T cf d) ρ src hs)) (nN b) (gT X.K (tgN b X.N.length)) (TIT T A X.K (Qbz (evT T cf d) t)) (Iv.TI T A X.K (ev T cf d el)) Y H Q:=by
 rw[<-hl];obtain⟨α,ρ,hs,u,hs',rs,R,e,q⟩:=h;simp only[ev]at e;obtain⟨w,h1,e1,e⟩:=Qb e;obtain⟨us,h2,e2,e⟩:=Qb e;cases e;refine⟨α,ρ,hs,w,h1,rs,R,e1,λα1 J H1 E1 R1 W1 D hD=>?_⟩;have rs1:=rs.mono E1.pre
 refine⟨λi m ys H2=>∃αc hc acc,RS A αc ρ Y/\Rep T A X.K αc hc H2/\D∉αc/\H2 D=some (.lst ys)/\RUs A αc acc ys/\Ext α1 αc H1 H2/\WJ A X.K αc J H2 w/\Yt T (ev T cf d) (Qbz (evT T cf d) t) w b el ρ m i acc hc=some (us,h2),⟨Q7 T w h1,α1,h1,[],rs1,?_,R1.h.notIn hD,Qh,.nil,?_,W1.mono (λs s e=>e) (λb o u e=>by rw[Qd (λz=>by rw[z,hD]at e;cases e)];exact e),e2⟩,?_⟩
 ·exact R1.aside (R1.h.notIn hD) λo u z=>by rw[hD]at z;cases z
 ·exact⟨λs s e=>e,λn a e l=>by have:=getElem?_lt e;omega,λb o e s=>by rw[Qd (λz=>by rw[z,hD]at e;cases e)];exact e,λb o kv e=>by rw[Qd (λz=>by rw[z,hD]at e;cases e)];exact e,λb o e=>⟨o,by rw[Qd (λz=>by rw[z,hD]at e;cases e)];exact e,λs=>Iff.rfl⟩⟩
 rintro i m ys H2 ⟨αc,hc,acc,rsc,Rc,nD,hDl,rr,Ec,Wc,ec⟩;refine⟨hDl,?_⟩
 cases m with
 |zero=>cases ec
 |succ m=>
  simp only[Yt]at ec;split at ec
  ·cases ec
  ·rename_i ei;cases ec;refine .inl ⟨Qcd tx Rc Wc ei,?_⟩;have Ra:=Rc.adopt nD hDl rr
   have Ea:Ext α1 (αc++[D]) H1 H2:=⟨λn a e=>QP n a (Ec.pre n a e),λn a e l=>by
    rcases QQ e with z|⟨_,z⟩
    ·exact Ec.new n a z l
    ·rw[z];exact .inl hD,Ec.keep,Ec.fz,Ec.tr⟩
   exact q _ _ _ (E1.trans Ea Ra.h) Ra ⟨D,by rw[<-Rc.h.len];exact Q8,rfl⟩
  ·rename_i x ei;split at ec
   ·cases ec
   rename_i ρ' et;split at ec
   case isFalse=>cases ec
   rename_i small;obtain⟨c,h3,e3,ec⟩:=Qb ec
   have go:J.go i H2:=(JG tx Rc Wc (rsc.pad (os:=List.replicate (nN b) none) (by rw[YM];simp) (Z7 b)) ei et).1
   refine .inr ⟨go,?_,λv H3 os lo yl=>?_⟩
   ·have:=rr.length;rw[U7];omega
   have rsn:RS A αc (ρ++QcU b) (Y++os):=rsc.pad (by rw[YM,lo]) (Z7 b)
   obtain⟨_,stp⟩:=JG tx Rc Wc rsn ei et;rw[rs.len]at stp;refine Qd8 lo (stp v H3 _ yl λσ2 rs2 R3 E3=>?_);have d3:H3 D=some (.lst ys):=E3.keep D _ hDl nD;refine TIT.run rs2 R3 e3 λα4 H4 E4 R4 rs4=>?_;have d4:H4 D=some (.lst ys):=E4.keep D _ d3 nD;have nD4:=Qb6 E4 nD d3;have Et4:=(Ec.trans E3 R3.h).trans E4 R4.h
   cases c with
   |false=>
    rw[if_neg Xn]at ec ⊢;exact⟨m,W4 _,α4,h3,acc,rsc.mono E4.pre,R4,nD4,d4,RUs.mono E4.pre rr,Et4,Wc.mono E4.pre λb o u e=>E4.fz _ _ _ (E3.fz _ _ _ e),ec⟩
   |true=>
    rw[if_pos rfl]at ec ⊢;obtain⟨u',h5,e5,ec⟩:=Qb ec;refine TI.run rs4 R4 e5 λα5 y H5 E5 R5 r5 rs5=>?_;have d5:H5 D=some (.lst ys):=E5.keep D _ d4 nD4;have nD5:=Qb6 E5 nD4 d4
    refine⟨d5,m,W4 _,α5,h5,acc++[u'],(rsc.mono E4.pre).mono E5.pre,R5.aside nD5 (λo u z=>by rw[d5]at z;cases z),nD5,Qh,?_,?_,(Wc.mono (λn a e=>E5.pre n a (E4.pre n a e)) λb o u e=>by rw[Qd (λz=>by rw[z,hDl]at e;cases e)];exact E5.fz _ _ _ (E4.fz _ _ _ (E3.fz _ _ _ e))),ec⟩
    ·exact Paired.snoc (RUs.mono E5.pre (RUs.mono E4.pre rr)) r5
    ·have Et:=Et4.trans E5 R5.h
     exact⟨Et.pre,Et.new,λb o e hb=>by rw[Qd (λz=>by rw[z,hD]at e;cases e)];exact Et.keep b o e hb,λb o kv e=>by rw[Qd (λz=>by rw[z,hD]at e;cases e)];exact Et.fz b o kv e,λb o e=>by
      obtain⟨o',q1,q2⟩:=Et.tr b o e
      exact⟨o',by rw[Qd (λz=>by rw[z,hD]at e;cases e)];exact q1,q2⟩⟩
end
end
section
variable {scope:Scope}
section
variable {X:Cx}{T:Tbl}{A:Adr}{C:Ctx}{cf:Cf}{m k:Nat}
def QhV{α:List Addr}{us xs:List U}{vs:List V}(h:QgF us=some xs)(r:RUs A α us vs):∃a b c:Int,Qml vs=some (a,b,c)/\(-(2 ^ 62)<=a/\a<2 ^ 62/\-(2 ^ 62)<=b/\b<2 ^ 62)/\(c=1\/c=-1) /\
  Qa5 a b c<=sizeLine/\Qa5 a b c<=2 ^ 24/\∀α',RUs A α' xs (QeN a (Qa5 a b c) c):=by
 have one:∀{i:Int} {v:V},RU A α (.int i 0) v->v=.int i:=λz=>by obtain⟨j,e,c⟩:=z;cases c.exact;exact e
 have core:∀{a b c:Int},Qkp a b c=some xs->(-(2 ^ 62)<=a/\a<2 ^ 62/\-(2 ^ 62)<=b/\b<2 ^ 62)/\(c=1\/c=-1)/\Qa5 a b c<=sizeLine/\Qa5 a b c<=2 ^ 24/\∀α',RUs A α' xs (QeN a (Qa5 a b c) c):=by
  intro a b c h;unfold Qkp at h;split at h
  case isFalse=>cases h
  rename_i cc;simp only[Xe,Ut,Xs]at cc;obtain⟨⟨c1,c2⟩,c3⟩:=cc;obtain⟨b1,b2⟩:=YZ c1;obtain⟨b3,b4⟩:=YZ c2;have h:(if Qa5 a b c<=1000000 then some ((List.range (Qa5 a b c)).map λi:Nat=>U.int (a+(i:Int)*c) 0)else none)=some xs:=h;split at h
  case isFalse=>cases h
  rename_i hn;cases h
  refine⟨⟨b1,b2,b3,b4⟩,c3,by rw[U7];omega,by omega,λα'=>?_⟩
  unfold QeN;generalize List.range (Qa5 a b c)=l
  induction l with
  |nil=>exact .nil
  |cons x r ih=>exact .cons ⟨_,rfl,Cg.refl _ _⟩ ih
 unfold QgF at h;split at h
 ·obtain⟨v,ws,rfl,r1,rr⟩:=Qp r;cases Qy rr;cases one r1;exact⟨_,_,_,rfl,core h⟩
 ·obtain⟨v,ws,rfl,r1,rr⟩:=Qp r;obtain⟨v2,ws,rfl,r2,rr⟩:=Qp rr;cases Qy rr;cases one r1;cases one r2;exact⟨_,_,_,rfl,core h⟩
 ·obtain⟨v,ws,rfl,r1,rr⟩:=Qp r;obtain⟨v2,ws,rfl,r2,rr⟩:=Qp rr;obtain⟨v3,ws,rfl,r3,rr⟩:=Qp rr;cases Qy rr;cases one r1;cases one r2;cases one r3;exact⟨_,_,_,rfl,core h⟩
 ·cases h
def Qka{f:Str}{args ra:List Expr}{es:List E}{p pos:Pos}{d:Nat}(g:GX T A C X)(hh:hdC C=false)(hg:ZI C f=true)(hx:¬C.bl.contains f=false)(hra:J0 C f args=some ra)(ha:PA X ra (TIA T A X.K (λρ hs=>evs (ev T cf d) ρ es hs)))(hns:Yi ra):
  PE X (.Call (.Name f p) args [] pos) (TI T A X.K (ev T cf (d+1) (.tupR es))):=by
 unfold J0 at hra;split at hra
 case isFalse=>cases hra
 rename_i ef;subst ef;split at hra
 case h_2=>cases hra
 rename_i r pr ra' pc;split at hra
 case isFalse=>cases hra
 rename_i c;simp only[Xe,Xs]at c;obtain⟨⟨⟨⟨⟨c1,c2⟩,c3⟩,c4⟩,c5⟩,c6⟩:=c;cases hra;subst c1
 cases ra with
 |nil=>simp at c6
 |cons a0 args=>
  refine QY (Qic (g.calm hh) (Q5 g hg) (g.blt _ hx) (Q5 g c2) (g.blt _ (by rw[c4];simp)) ha (Qk (hns a0 (Xm ..))) (QZ λz hz=>hns z (Xj _ hz))) ?_
  rintro Y H Q ⟨α,ρ,hs,u,hs',rs,R,e,q⟩;simp only[ev]at e;obtain⟨us,h1,e1,e⟩:=Qb e;split at e
  case h_2=>cases e
  rename_i xs er;cases e;refine TIA.run rs R e1 λα1 vs H1 E1 R1 r1 rs1=>?_;obtain⟨a,b,c,h1,h2,h3,h4,h5,h6⟩:=QhV er r1;refine⟨a,b,c,h1,h2,h3,h4,h5,λp hp=>?_⟩;obtain⟨R2,E2⟩:=R1.new (p:=p) (o:=.tup xs) (ho:=.tup (QeN a (Qa5 a b c) c)) hp ⟨_,Qh,h6 _⟩
  exact q _ _ _ (E1.trans E2 R2.h) R2 ⟨p,by rw[<-R1.h.len];exact Q8,rfl⟩
def Qkd{tg it:Expr}{src:Src}{d:Nat}(g:GX T A C X)(S:Snd T A C X cf m)(h:compSrc (m+1) C it=some src)(hz:Qmr src=true->∃elts kt pt,tg=.Tuple elts kt pt):PI X tg it (TIW T A X.K (λρ hs=>Zs T (ev T cf d) ρ src hs)):=by
 have seq:∀{it:Expr} {src:Src},(Qe m C it).map Src.seq=some src->PI X tg it (TIW T A X.K (λρ hs=>Zs T (ev T cf d) ρ src hs)):=by
  intro it src h;simp only[Xc]at h;obtain⟨ir,hi,rfl⟩:=h;exact QkG g.txt (S.e d it ir hi)
 simp only[compSrc]at h;split at h
 ·rename_i f p args q;split at h
  case isFalse=>cases h
  rename_i hg;split at h
  ·exact seq h
  ·split at h
   ·cases h
   rename_i hx;split at h
   ·rename_i e;subst e;split at h
    ·rename_i a;simp only[Xc]at h;obtain⟨a',ha,rfl⟩:=h;exact QkH (Q5 g hg) (g.blt _ hx) (Qw ha) (S.e d a a' ha)
    ·rename_i a b;simp only[Xb,Xc]at h;obtain⟨a',ha,b',hb,rfl⟩:=h;exact Qia (Q5 g hg) (g.blt _ hx) (Qw ha) (Qw hb) (S.e d a a' ha) (S.e d b b' hb)
    ·cases h
   ·split at h
    ·rename_i e;subst e;split at h
     ·rename_i a b;simp only[Xb,Xc]at h;obtain⟨a',ha,b',hb,rfl⟩:=h;obtain⟨elts,kt,pt,rfl⟩:=hz rfl;exact Qh9 g.txt (Q5 g hg) (g.blt _ hx) (Qw ha) (Qw hb) (S.e d a a' ha) (S.e d b b' hb)
     ·cases h
    ·exact seq h
 ·exact seq h
def QaI{it:Expr}{src:Src}{env:Env}(h:compSrc m C it=some src):∀x,foldedSetIterable it env x=pure x:=by
 intro x
 cases it<;>first|rfl|skip
 cases m with
 |zero=>simp[compSrc]at h
 |succ m=>
  simp only[compSrc,Xc]at h;obtain⟨_,h,_⟩:=h
  cases m<;>first|exact Znn h|simp[Qe]at h
def ZN{xs:List Str}(g:GX T A C X)(h:Ji C xs scope=true):CompOk X xs scope/\∀C0 s H fp,GX T A (C.inner xs scope) (X.block xs scope C0 s H fp):=by
 unfold Ji at h;simp only[Xe,Wj,Xz,Vt,Xs]at h;obtain⟨⟨⟨⟨h1,h2⟩,hd⟩,h3⟩,h5⟩:=h
 have nd:(".0":Str)∉X.N:=λz=>by
  rw[g.N]at z;rw[V0.mpr z]at h5;cases h5
 refine⟨⟨h1,λx hx=>(h2 x hx).1,λy hy=>?_,λx hx=>(h2 x hx).2,(List.nodup_append.mp hd).2.1,nd⟩,λC0 s H fp=>?_⟩
 ·have:=h3 y hy;obtain⟨n,kd⟩:=y
  cases kd with
  | «local»=>
   simp only[Xe,Ut,Xs,Wj,V0]at this;exact⟨λw=>this,(λz=>nomatch z),λz=>nomatch z⟩
  |cell=>cases this
  |free=>
   simp only[Ut,Wj]at this;rw[<-g.sc]at this;exact⟨(λz=>nomatch z),(λz=>nomatch z),λw=>this⟩
  |_=>exact⟨(λz=>nomatch z),(λz=>nomatch z),λz=>nomatch z⟩
 ·refine⟨g.CT,?_,?_,?_,g.calm,h1,rfl,g.gfn,g.gcl,g.gco,g.gtx,g.blt,g.txt,g.tab⟩
  ·show hideN xs X.N++xs=hideN xs C.N++xs;rw[g.N]
  ·show(hideN xs X.N++xs).Nodup;rw[g.N];exact hd
  ·show(relabel scope X.env).names=relN C.names scope.names;rw[Q0 g.kind,g.sc]
def Qad{tg:Expr}{b:Bool}{xs:List Str}{C0:Addr}{s:Shared}{H:Hp}{fp:List Addr}(g:GX T A C X)(hh:hdC C=false)(k:CompOk X xs scope)(gb:GX T A (C.inner xs scope) (X.block xs scope C0 s H fp))(h:QmB tg b xs):PG (X.block xs scope C0 s H fp) tg (gT X.K (tgN b X.N.length)):=by
 have nm:∀{x:Str} {p:Pos} {i:Nat},x∈xs->(hideN xs X.N++xs)[i]?=some x->PG (X.block xs scope C0 s H fp) (.Name x p) (Qbu i):=λ{x p i} hx hi=>by
  have loc:(X.block xs scope C0 s H fp).env.scope.names.lookup x=some .local:=by
   show(relabel scope X.env).names.lookup x=some .local;rw[Q0 g.kind,ZK,k.loc x hx];rfl
  exact Yp gb.nd hi (.inl loc) (.inr loc)
 rcases h with⟨rfl,x,p,rfl,rfl⟩|⟨rfl,x,p,y,q,kt,pt,rfl,rfl⟩
 ·exact nm (by simp) (by rw[<-Yd (xs:=[x])];simp)
 ·refine QdC (gb.calm hh) (ZQ (nm (by simp) (by rw[<-Yd (xs:=[x,y])];simp)) (ZQ (nm (by simp) ?_) Qbf))
  rw[<-Yd (xs:=[x,y]),Wi (by omega)]
  simp
def CompParts(X:Cx)(elt:Expr)(gens:List Comprehension)(scope:Scope)(t:TE):Prop:=∃tg iter tl xs n wi g tt te,gens=[⟨tg,iter,Option.toList tl,0⟩]/\CompOk X xs scope/\PI X tg iter wi/\xs.length=n/\(∀C s H fp,PG (X.block xs scope C s H fp) tg g)/\(∀C s H fp,PTO (X.block xs scope C s H fp) tl tt)/\(∀C s H fp,PE (X.block xs scope C s H fp) elt te) /\
 (∀v,foldedSetIterable iter X.env v=pure v)/\∀Y H Q,Y.length=X.N.length->t Y H Q->Qay wi n g tt te Y H Q
def CompParts.pe{elt:Expr}{gens:List Comprehension}{pos:Pos}{t:TE}(hc:X.calm=true)(h:CompParts X elt gens scope t):PE X (.ListComp elt gens scope pos) t:=by
 obtain⟨tg,iter,tl,xs,n,wi,gg,tt,te,rfl,ok,hi,hn,hg,ht,he,hf,imp⟩:=h;intro pins s Y H Q I q;exact QdF hc ok hi hn hg ht he hf pins s Y H Q I (imp Y H Q I.len q)
end
end
section
variable {ir:E}{d:Nat}{p:Pos}
section
variable {X:Cx}{T:Tbl}{A:Adr}{C:Ctx}{cf:Cf}{m k:Nat}
def Qdj{b:Expr}(h:Qmk b=none):ZR b=true:=by
 cases b with
 |Slice lo hi st p=>
  cases st with
  |none=>cases h
  |some e=>
   cases h
 |_=>rfl
def Qfe{b:Expr}{lo hi:Option Expr}(h:Qmk b=some (.cut lo hi)):∃p,b=.Slice lo hi none p:=by
 cases b with
 |Slice lo' hi' st p=>
  cases st with
  |none=>cases h;exact⟨p,rfl⟩
  |some e=>
   cases h
 |_=>cases h
def QiT{a:Expr}{x:Str}(h:Qms a=.nm x):∃p,a=.Name x p:=by
 unfold Qms at h;split at h
 ·cases h;exact⟨_,rfl⟩
 ·cases h
def Qba{a b:Expr}(g:GX T A C X)(hu:X.A.units+1<cLine)(S:Snd T A C X cf m)(h:Qe (m+1) C (.Subscript a b p)=some ir):PE X (.Subscript a b p) (TI T A X.K (ev T cf d ir)):=by
 simp only[QqT]at h;split at h
 ·rename_i lo hi hb;obtain⟨p2,rfl⟩:=Qfe hb;exact QhQ S h
 ·cases h
 ·rename_i hb;have hs:=Qdj hb;refine QE λd=>?_;simp only[Xb]at h;obtain⟨b',hb',h⟩:=h
  have gen:((Qe m C a).bind λa'=>some (E.ix a' b'))=some ir->PE X (.Subscript a b p) (TI T A X.K (ev T cf (d+1) ir)):=λh=>by
   simp only[Xb]at h;obtain⟨a',ha,h⟩:=h;cases h;exact QiL hu g.txt (S.e d a a' ha) (S.e d b b' hb') hs
  split at h
  ·rename_i x hh;split at h
   ·rename_i k ht;obtain⟨px,rfl⟩:=QiT hh;cases h;unfold Qhy at ht;split at ht
    case isFalse=>cases ht
    rename_i c;simp only[Xe,Xs]at c;split at ht
    case h_2=>cases ht
    rename_i k' hx;split at ht
    ·cases ht;exact Qnd g (S.e d b b' hb') hs c.1 c.2 hx
    ·cases ht
   ·exact gen h
  ·exact gen h
def hd0{C:Ctx}(h:¬hdC C=true):hdC C=false:=by
 cases q:hdC C with
 |true=>exact absurd q h
 |false=>rfl
def QiH{elt:Expr}{gens:List Comprehension}{scope:Scope}(h:Qe (m+1) C (.ListComp elt gens scope p)=some ir):hdC C=false:=by
 simp only[Qpm]at h;split at h
 case h_2=>cases h
 split at h
 case isFalse=>cases h
 rename_i ok;simp only[Xe,Vt]at ok;exact ok.2
def Qcu{f:Expr}{args:List Expr}{kws:List Keyword}(g:GX T A C X)(F:Fc X T A cf k)(hr:hdC C=false->Room (k+1) X.A)(hu:X.A.units+64<cLine)(S:Snd T A C X cf m)(h:Qe (m+1) C (.Call f args kws p)=some ir):PE X (.Call f args kws p) (TI T A X.K (ev T cf d ir)):=by
 refine QE λd=>?_
 cases kws with
 |cons kw kws=>
  cases f with
  |Name x px=>
   match args,kws,h with
   |a::args,[],h=>
    simp only[QqQ]at h;split at h
    ·cases h
    rename_i hh;split at h
    ·rename_i hb;simp only[Xb]at h;obtain⟨a',ha,d',hd,h⟩:=h;cases h;exact Qki g (hd0 hh) S hb ha hd
    cases h
   |[],[],h=>exact Znn h
   |[],_::_,h=>exact Znn h
   |_::_,_::_,h=>exact Znn h
  |_=>exact Znn h
 |nil=>
  cases f with
  |Name x px=>
   simp only[QqR]at h;split at h
   ·cases h
   rename_i hn;have n1:x≠"__debug__":=λz=>hn (.inl z);have n2:x≠"__name__":=λz=>hn (.inr (.inl z))
   have hg:ZI C x=true:=by
    cases q:ZI C x with
    |true=>rfl
    |false=>exact absurd (.inr (.inr q)) hn
   split at h
   ·rename_i i hx;split at h
    ·cases h
    rename_i hh;simp only[Xb]at h;obtain⟨es,ha,h⟩:=h;exact QhU g F ((hr (hd0 hh)).mono (Uk _)) S hg n1 hx ha h
   ·rename_i i hx;split at h
    ·cases h
    rename_i hh;simp only[Xb]at h;obtain⟨es,ha,h⟩:=h;cases h;exact Qkj g F (hr (hd0 hh)) S hg n1 hx ha
   ·cases h
   ·cases h
   ·split at h
    ·cases h
    rename_i hx;split at h
    ·rename_i e;subst e;split at h
     ·rename_i a t pt;split at h
      ·rename_i c;simp only[Xb]at h;obtain⟨a',ha,ty,ht,h⟩:=h;cases h;exact Qnf g S hg hx c.1 c.2.1 c.2.2 ht ha
      ·cases h
     ·cases h
    ·split at h
     ·cases h
     rename_i hh;have hh:=hd0 hh;split at h
     ·rename_i ra hra;simp only[Xb]at h;obtain⟨es,ha,h⟩:=h;cases h;exact Qka g hh hg hx hra (S.a d ra es ha) (Qr ha)
     ·simp only[Xb]at h;obtain⟨b,hb,es,ha,h⟩:=h;cases h
      exact QpU g hh (by omega) S hg n1 n2 hb ha
  |Attribute o x pa=>
   simp only[QqP]at h;split at h
   case isFalse=>cases h
   rename_i c;simp only[Xe,Xs]at c;split at h
   ·rename_i i hx;split at h
    ·cases h
    rename_i hh;simp only[Xb]at h;obtain⟨o',ho,es,ha,h⟩:=h;cases h;exact Qkh g F ((hr (hd0 hh)).mono (Uk _)) S c.1.1 c.1.2 c.2 hx ho ha
   ·simp only[Xb]at h;obtain⟨b,hb,o',ho,es,ha,h⟩:=h;cases h
    exact QpT (by omega) g.txt S hb c.1.1 c.1.2 c.2 ho ha
  |_=>exact Znn h
def Qdm(g:GX T A C X)(F:Fc X T A cf k)(hr:hdC C=false->Room (k+1) X.A)(hu:X.A.units+64<cLine)(S:Snd T A C X cf m)(cp:∀d elt gens scope p ir,Qe (m+1) C (.ListComp elt gens scope p)=some ir->CompParts X elt gens scope (TI T A X.K (ev T cf d ir)))(d:Nat)(e:Expr)(ir:E)(h:Qe (m+1) C e=some ir):PE X e (TI T A X.K (ev T cf d ir)):=by
 cases e with
 |Constant c j p=>exact QhT h
 |Name x p=>exact Qkg g h
 |BinOp a o b p=>exact Qng S h
 |UnaryOp o a p=>
  cases o with
  |USub=>exact Qne S h
  |Not=>exact(Qkf g.txt S h).1
  |_=>exact Znn h
 |BoolOp o vs p=>
  cases vs with
  |nil=>cases o<;>first|exact Znn h|simp[Qe]at h
  |cons a r=>
   cases o with
   |And=>exact(S.an d a r p ir h).2
   |Or=>exact(S.orr d a r p ir h).2
 |Compare a os bs p=>
  match os,bs,h with
  |[o],[b],h=>exact(Qkl g.txt g.tab hu S h).1
  |[_,_],[_,_],h=>exact Znn h
  |[],_,h=>exact Znn h
  |[_],[],h=>exact Znn h
  |[_],_::_::_,h=>exact Znn h
  |[_,_],[],h=>exact Znn h
  |[_,_],[_],h=>exact Znn h
  |[_,_],_::_::_::_,h=>exact Znn h
  |_::_::_::_,_,h=>exact Znn h
 |IfExp t a b p=>exact QhR S h
 |Tuple es j p=>exact QhO S h
 |List es p=>exact Qkk S h
 |Subscript a b p=>exact Qba g (by omega) S h
 |ListComp elt gens scope p=>exact(cp d elt gens scope p ir h).pe (g.calm (QiH h))
 |Attribute a f p=>exact Qkm g S h
 |Call f args kws p=>exact Qcu g F hr hu S h
 |_=>exact Znn h
def Q1{e:Expr}(g:GX T A C X)(he:∀whole,isTrue e X.env whole=(do let v <-whole;standAt e.pos;holding [v] (truthy v)))(h:∀d,PE X e (TI T A X.K (ev T cf d ir)))(hir:∀d ρ hs,evT T cf (d+1) ir ρ hs=bd (ev T cf d ir ρ hs) λu h1=>(ZO T u h1).map λb=>(b,h1)):
  PT X e (TIT T A X.K (evT T cf d ir)):=by
 refine Qb1 λd=>?_;refine Qjg (Qfo (h d) he) ?_;rintro Y H Q ⟨α,ρ,hs,u,hs',rs,R,e,q⟩;rw[hir]at e;obtain⟨u1,h1,e1,e⟩:=Qb e;simp only[Xc]at e;obtain⟨b,e2,e⟩:=e;cases e;exact TI.run rs R e1 λα1 x H1 E1 R1 r1 rs1=>⟨_,Qdc g.txt R1 e2 r1,q α1 H1 E1 R1⟩
def QN(h:Qdz ir=true):∀d ρ hs,evT T cf (d+1) ir ρ hs=bd (ev T cf d ir ρ hs) λu h1=>(ZO T u h1).map λb=>(b,h1):=by
 intro d ρ hs
 cases ir<;>first|rfl|cases h
def Qkb(g:GX T A C X)(F:Fc X T A cf k)(hr:hdC C=false->Room (k+1) X.A)(hu:X.A.units+64<cLine)(S:Snd T A C X cf m)(cp:∀d elt gens scope p ir,Qe (m+1) C (.ListComp elt gens scope p)=some ir->CompParts X elt gens scope (TI T A X.K (ev T cf d ir)))(d:Nat)(e:Expr)(ir:E)(hne:∀t a b p,e≠.IfExp t a b p)(ok:okT e ir=true)(h:Qe (m+1) C e=some ir):PT X e (TIT T A X.K (evT T cf d ir)):=by
 have all:=λd=>Qdm g F hr hu S cp d e ir h
 cases e with
 |Constant c j p=>exact Q1 g (λz=>rfl) all (QN ok)
 |Name x p=>exact Q1 g (λz=>rfl) all (QN ok)
 |BinOp a o b p=>exact Q1 g (λz=>rfl) all (QN ok)
 |UnaryOp o a p=>
  cases o with
  |USub=>exact Q1 g (λz=>rfl) all (QN ok)
  |Not=>exact(Qkf g.txt S h).2
  |_=>exact Znn h
 |BoolOp o vs p=>
  cases vs with
  |nil=>cases o<;>first|exact Znn h|simp[Qe]at h
  |cons a r=>
   cases o with
   |And=>exact(S.an d a r p ir h).1.pt
   |Or=>exact(S.orr d a r p ir h).1.pt
 |Compare a os bs p=>
  match os,bs,h with
  |[o],[b],h=>exact(Qkl g.txt g.tab hu S h).2
  |[_,_],[_,_],h=>exact Znn h
  |[],_,h=>exact Znn h
  |[_],[],h=>exact Znn h
  |[_],_::_::_,h=>exact Znn h
  |[_,_],[],h=>exact Znn h
  |[_,_],[_],h=>exact Znn h
  |[_,_],_::_::_::_,h=>exact Znn h
  |_::_::_::_,_,h=>exact Znn h
 |IfExp t a b p=>exact absurd rfl (hne t a b p)
 |Tuple es j p=>exact Q1 g (λz=>rfl) all (QN ok)
 |List es p=>exact Q1 g (λz=>rfl) all (QN ok)
 |Subscript a b p=>exact Q1 g (λz=>rfl) all (QN ok)
 |ListComp elt gens scope p=>exact Q1 g (λz=>rfl) all (QN ok)
 |Dict ks vs p=>exact Q1 g (λz=>rfl) all (QN ok)
 |Attribute a f p=>exact Q1 g (λz=>rfl) all (QN ok)
 |Call f args kws p=>exact Q1 g (λz=>rfl) all (QN ok)
 |_=>exact Znn h
def QpP:Snd T A C X cf 0 where
 e:=λd e ir h=>by first|exact Znn h|simp[Qe]at h
 t:=λd e ir h=>by simp[compT]at h
 an:=λd a r p ir h=>by simp[compAnd]at h
 orr:=λd a r p ir h=>by simp[compOr]at h
 a:=λd es irs h=>by simp[compA]at h
 o:=λd e ir h=>by simp[compO]at h
structure Snd2(T:Tbl)(A:Adr)(C:Ctx)(X:Cx)(cf:Cf)(m:Nat):Prop where
 s:Snd T A C X cf m
 w:∀d it src tg,compSrc m C it=some src->(Qmr src=true->∃elts kt pt,tg=.Tuple elts kt pt)->PI X tg it (TIW T A X.K (λρ hs=>Zs T (ev T cf d) ρ src hs))
 c:∀d elt gens scope p ir,Qe m C (.ListComp elt gens scope p)=some ir->CompParts X elt gens scope (TI T A X.K (ev T cf d ir))
def Qkz{tl:Option Expr}{t:Option E}{Yyy:Cx}{C':Ctx}(S:Snd T A C' Yyy cf m)(h:compTO (m+1) C' tl=some t):PTO Yyy tl (TIT T A Yyy.K (Qbz (evT T cf d) t)):=by
 cases tl with
 |none=>
  simp only[compTO]at h;cases h;rintro Y H Q ⟨α,ρ,hs,u,hs',rs,R,e,q⟩;simp only[Qbz]at e;cases e;exact q α H Ext.refl R
 |some e=>
  simp only[compTO,Xb]at h;obtain⟨e',he,h⟩:=h;cases h;exact(S.t d e e' he).1
def Qa9{tg:Expr}{b:Bool}{xs:List Str}{src:Src}(ht:QmB tg b xs)(ok:QaG src (tgN b 0)=true):Qmr src=true->∃elts kt pt,tg=.Tuple elts kt pt:=by
 intro hp
 rcases ht with⟨rfl,_⟩|⟨rfl,x,p,y,q,k,pt,rfl,_⟩
 ·cases src<;>first|(cases hp;done)|(cases ok;done)
 ·exact⟨_,_,_,rfl⟩
def JL(g:GX T A C X)(S:Snd2 T A C X cf m)(SB:∀xs scope C0 s H fp,Ji C xs scope=true->Snd2 T A (C.inner xs scope) (X.block xs scope C0 s H fp) cf m)(ST:∀xs scope C0 s H fp tl t d,Ji C xs scope=true->compTO m (C.inner xs scope) tl=some t->PTO (X.block xs scope C0 s H fp) tl (TIT T A X.K (Qbz (evT T cf d) t)))(d:Nat)(elt:Expr)(gens:List Comprehension)(scope:Scope)(p:Pos)(ir:E)
  (h:Qe (m+1) C (.ListComp elt gens scope p)=some ir):CompParts X elt gens scope (TI T A X.K (ev T cf d ir)):=by
 simp only[Qpm]at h;split at h
 case h_2=>cases h
 rename_i gn hgen;split at h
 case isFalse=>cases h
 rename_i ok;simp only[Xe,Vt]at ok;obtain⟨ok,hh⟩:=ok;simp only[Xb]at h;obtain⟨src,hsrc,h⟩:=h;split at h
 case isFalse=>cases h
 rename_i oks;simp only[Xb]at h;obtain⟨t,ht,el,hel,h⟩:=h;cases h;obtain⟨tg,rfl,htg⟩:=JK hgen;obtain⟨ck,gb⟩:=ZN g ok
 have hn:gn.xs.length=nN gn.b:=by
  rcases htg with⟨e,x,p,_,e'⟩|⟨e,x,p,y,q,k,pt,_,e'⟩<;>rw[e,e']<;>rfl
 cases d with
 |zero=>
  exact⟨tg,gn.iter,gn.tl,gn.xs,nN gn.b,_,_,TIT T A X.K (Qbz (evT T cf 0) t),TI T A X.K (ev T cf 0 el),rfl,ck,S.w 0 gn.iter src tg hsrc (Qa9 htg oks),hn,(λC0 s H fp=>Qad g hh ck (gb C0 s H fp) htg),(λC0 s H fp=>ST _ _ C0 s H fp _ _ 0 ok ht),(λC0 s H fp=>show PE _ elt (TI T A X.K (ev T cf 0 el))from(SB _ scope C0 s H fp ok).s.e 0 elt el hel),QaI hsrc,λY H Q z v=>by obtain⟨_,_,_,_,_,_,_,e,_⟩:=v;exact nomatch e⟩
 |succ d=>
  exact⟨tg,gn.iter,gn.tl,gn.xs,nN gn.b,_,_,TIT T A X.K (Qbz (evT T cf d) t),TI T A X.K (ev T cf d el),rfl,ck,S.w d gn.iter src tg hsrc (Qa9 htg oks),hn,(λC0 s H fp=>Qad g hh ck (gb C0 s H fp) htg),(λC0 s H fp=>ST _ _ C0 s H fp _ _ d ok ht),(λC0 s H fp=>show PE _ elt (TI T A X.K (ev T cf d el))from(SB _ scope C0 s H fp ok).s.e d elt el hel),QaI hsrc,λY H Q hl hq=>Qem g.txt hl hq⟩
theorem Qcs:∀(m:Nat) {C:Ctx} {X:Cx},GX T A C X->Fc X T A cf k->(hdC C=false->Room (k+1) X.A)->X.A.units+64<cLine->Snd2 T A C X cf m
 |0,C,X,g,F,hr,hu=>⟨QpP,λd it src tg h=>by simp[compSrc]at h,λd elt gens scope p ir h=>by first|exact Znn h|simp[Qe]at h⟩
 |1,C,X,g,F,hr,hu=>by
  have S0:=Qcs 0 g F hr hu;have S:=S0.s
  have cp:=JL g S0 (λx scope C0 s H fp ok=>Qcs 0 ((ZN g ok).2 C0 s H fp) ⟨F.ok,F.some,F.df,F.xf,F.hk⟩ hr hu) (λxs scope C0 s H fp tl t d ok h=>by simp[compTO]at h)
  refine⟨⟨Qdm g F hr hu S cp,λd e ir h=>?_,Qkn S,QoP S,QgD S,Qke S⟩,λd it src tg h hz=>Qkd g S h hz,cp⟩;cases e<;>exact Znn h
 |m+2,C,X,g,F,hr,hu=>by
  have S1:=Qcs (m+1) g F hr hu;have S:=S1.s;have S':=Qcs m g F hr hu;have cp:=JL g S1 (λx scope C0 s H fp ok=>Qcs (m+1) ((ZN g ok).2 C0 s H fp) ⟨F.ok,F.some,F.df,F.xf,F.hk⟩ hr hu) (λxs scope C0 s H fp tl t d ok h=>Qkz (Qcs m ((ZN g ok).2 C0 s H fp) ⟨F.ok,F.some,F.df,F.xf,F.hk⟩ hr hu).s h);refine⟨⟨Qdm g F hr hu S cp,λd e ir h=>?_,Qkn S,QoP S,QgD S,Qke S⟩,λd it src tg h hz=>Qkd g S h hz,cp⟩
  have hne:∀t a b p,e≠.IfExp t a b p:=by
   rintro t a b p rfl;simp[compT]at h
  have h':((Qe (m+1) C e).bind λir=>if okT e ir=true then some ir else none)=some ir:=by
   cases e<;>first|exact h|(simp[compT]at h;done)
  simp only[Xb]at h';obtain⟨ir',he,h'⟩:=h';split at h'
  ·rename_i ok;cases h';exact⟨Qkb g F hr hu S'.s S1.c d e ir hne ok he,S.e d e ir he⟩
  ·cases h'
end
end
section
variable {ir:E}{env:Env}{e i o:Expr}{α:List Addr}{ts:List Expr}{d l:Nat}{p:Pos}{st:Stmt}{f x:Str}{t:Tg}{v:Value}
section
variable {X:Cx}{T:Tbl}{A:Adr}{C:Ctx}{cf:Cf}{m k:Nat}
def Zy{t:TS}(h:∀D Y H,¬t D Y H):PS X st t:=λz z Y H D z q=>(h D Y H q).elim
def ZU{st:List Stmt}{t:TS}(h:∀D Y H,¬t D Y H):PSs X st t:=λz z Y H D z q=>(h D Y H q).elim
def Qb8{tg:Option Expr}(h:Qe m C e=some ir)(hn:∀elt gens scope p,e≠.ListComp elt gens scope p):swapsWith e tg l env=pure false:=by
 cases e<;>first|rfl|exact absurd rfl (hn _ _ _ _)|(cases m<;>exact Znn h)
def Qiy(h:Qe m C e=some ir):swapsWith e (some (.Attribute o f p)) l env=pure false:=by
 cases e<;>first|rfl|(cases m<;>exact Znn h)
def QoO{tg:Expr}(hc:X.calm=true)(g:GX T A C X)(fl:∀x,X.fn x=true\/X.env.scope.names.lookup x=some .local)(h:YA C tg=some t):PG X tg (gT X.K t):=by
 have nm:∀{x:Str} {p:Pos} {i:Nat},QaO C x=true->idx x C.N=some i->PG X (.Name x p) (Qbu i):=λ{x p i} h1 h2=>Yp g.nd (by rw[g.N];exact Q3 h2) (QaK g h1) (fl x)
 unfold YA at h;split at h
 ·split at h
  ·rename_i hl;simp only[Xc]at h;obtain⟨i,hi,rfl⟩:=h;exact nm hl hi
  ·cases h
 ·split at h
  ·rename_i c;simp only[Xe]at c;simp only[Xb,Xc]at h;obtain⟨i,hi,j,hj,rfl⟩:=h;exact QdC hc (ZQ (nm c.1.1 hi) (ZQ (nm c.1.2 hj) Qbf))
  ·cases h
 ·cases h
def QcO{pos:Pos}(h:ZR i=true):∀v,assign (.Subscript o i pos) env v=(do
   let ov <-holding [v] (eval o env);let iv <-holding [v,ov] (eval i env)
   standAt pos
   holding [v,ov,iv] (setItem ov iv v)
   release [v,ov,iv] []):=by
 intro v
 cases i<;>first|rfl|cases h
def Qix(h:Qe m C e=some ir):swapsWithSole [.Subscript o i p] e l env=pure false:=by
 cases e<;>first|rfl|(cases m<;>exact Znn h)
def Qiw{es:List Expr}{kt:Nat}(h:Qe m C e=some ir):swapsWithSole [.Tuple es kt p] e l env=pure false:=by
 cases e<;>first|rfl|(cases m<;>exact Znn h)
def QaH{es:List Expr}{kt:Nat}(h:QgU e=true):swappedStores [.Tuple es kt p] e env=pure none:=by
 cases e<;>first|rfl|cases h
def Qf6(h:Qn2 e=some true):∃x j q,e=.Constant (.str x) j q:=by
 cases e with
 |Constant c j q=>cases c<;>first|exact⟨_,_,_,rfl⟩|cases h
 |_=>cases h
def YS{a:As}(h:Qgk ts=some a):∃t,ts=[t]/\as1 t=some a:=by
 match ts,h with
 |[t],h=>exact⟨t,rfl,h⟩
def QbH(h:Qgk ts=some (.nm x)):∃p,ts=[.Name x p]:=by
 obtain⟨t,rfl,h'⟩:=YS h;clear h;have h:=h';clear h';unfold as1 at h;split at h
 ·cases h;exact⟨_,rfl⟩
 ·cases h
 ·cases h
 ·split at h
  ·unfold Qc8 at h;split at h<;>cases h
  all_goals cases h
 ·cases h
def Qjd(h:Qgk ts=some (.at o f)):∃p,ts=[.Attribute o f p]:=by
 obtain⟨t,rfl,h'⟩:=YS h;clear h;have h:=h';clear h';unfold as1 at h;split at h
 ·cases h
 ·cases h;exact⟨_,rfl⟩
 ·cases h
 ·split at h
  ·unfold Qc8 at h;split at h<;>cases h
  all_goals cases h
 ·cases h
def Qgj(h:Qgk ts=some (.sub o i)):∃p,ts=[.Subscript o i p]:=by
 obtain⟨t,rfl,h'⟩:=YS h;clear h;have h:=h';clear h';unfold as1 at h;split at h
 ·cases h
 ·cases h
 ·cases h;exact⟨_,rfl⟩
 ·split at h
  ·unfold Qc8 at h;split at h<;>cases h
  all_goals cases h
 ·cases h
def Qgi{y:Str}{q:Pos}(h:Qgk ts=some (.two x p y q)):∃kt pt,ts=[.Tuple [.Name x p,.Name y q] kt pt]:=by
 obtain⟨t,rfl,h'⟩:=YS h;clear h;have h:=h';clear h';unfold as1 at h;split at h
 ·cases h
 ·cases h
 ·cases h
 ·split at h
  ·unfold Qc8 at h;split at h
   ·cases h;exact⟨_,_,rfl⟩
   ·cases h
  all_goals cases h
 ·cases h
def ZM(h:Yz C x=true):C.names.lookup x=some .local:=by
 unfold Yz at h;split at h
 ·rename_i e;exact e
 ·cases h
theorem RUs.set{u:U}{v:V}(p:Nat)(r:RU A α u v):∀{us:List U} {vs:List V},RUs A α us vs->RUs A α (us.set p u) (vs.set p v):=λ{us vs} h=>by
 induction h generalizing p with
 |nil=>exact .nil
 |cons a t ih=>
  cases p with
  |zero=>exact .cons r t
  |succ p=>exact .cons a (ih p)
def Qgz{tg:Expr}{src:Src}(ht:YA C tg=some t)(ok:QaG src t=true):Qmr src=true->∃elts kt pt,tg=.Tuple elts kt pt:=by
 intro hp
 cases tg with
 |Tuple elts kt pt=>exact⟨_,_,_,rfl⟩
 |Name x p=>
  simp only[YA]at ht;split at ht
  ·simp only[Xc]at ht;obtain⟨i,_,rfl⟩:=ht
   cases src<;>first|(cases hp;done)|(cases ok;done)
  ·cases ht
 |_=>simp[YA]at ht
structure SndS(T:Tbl)(A:Adr)(C:Ctx)(X:Cx)(cf:Cf)(m:Nat):Prop where
 s:∀d st ir,QR m C st=some ir->PS X st (TIS T A X.K (ex T cf d ir))
 ss:∀d sts irs,compSs m C sts=some irs->PSs X sts (TIS T A X.K (exs T cf d irs))
def SndS.sB(SS:SndS T A C X cf m)(d:Nat)(st:Stmt):PS X st (TIS T A X.K (ex T cf d (Ql1 (QR m C st)))):=by
 cases e:QR m C st with
 |some ir=>exact SS.s d st ir e
 |none=>exact Zy λD Y H y=>by obtain⟨_,_,_,_,_,_,_,_,z,_⟩:=y;cases d<;>simp[Ql1,ex]at z
def QnL{K:W.Frag}{ir:S}:∀D Y H,¬TIS T A K (ex T cf 0 ir) D Y H:=λz z z y=>by obtain⟨_,_,_,_,_,_,_,_,h,_⟩:=y;exact nomatch h
def QdN{K:W.Frag}{irs:List S}:∀D Y H,¬TIS T A K (exs T cf 0 irs) D Y H:=λz z z y=>by obtain⟨_,_,_,_,_,_,_,_,h,_⟩:=y;exact nomatch h
def Qac{ir:S}(h:∀d',PS X st (TIS T A X.K (ex T cf (d'+1) ir))):PS X st (TIS T A X.K (ex T cf d ir)):=by
 cases d with
 |zero=>exact Zy QnL
 |succ d=>exact h d
def TIS.run{K:W.Frag}{ρ ρ':Rho}{Y:St}{hs h1:Hs}{H:Hp}{f:Ex}{fl:Fl}{D:Ends}(rs:RS A α ρ Y)(rp:Rep T A K α hs H)(h:f ρ hs=some (fl,ρ',h1))
  (k:∀α1 σ1 H1,Ext α α1 H H1->Rep T A K α1 h1 H1->RS A α1 ρ' σ1->flE A α1 D σ1 H1 fl):TIS T A K f D Y H:=⟨α,ρ,hs,fl,ρ',h1,rs,rp,h,k⟩
def Qf5{body:List S}{w:Wk}{J:It}{K:PySem.W.Frag}{D:Ends}{α0:List Addr}{H0:Hp}{σ0:St}{ρ0 ρ':Rho}{h0 hs':Hs}{fl:Fl}{n:Nat}(hK:K=X.K)(tx:Txt T A X.K X.mg)(rs0:RS A α0 ρ0 σ0)(R0:Rep T A X.K α0 h0 H0)(W0:WJ A X.K α0 J H0 w)
  (e0:Je T w t (exs T cf d body) n 0 ρ0 h0=some (fl,ρ',hs'))
  (q:∀α' Y' H',Ext α0 α' H0 H'->Rep T A X.K α' hs' H'->RS A α' ρ' Y'->flE A α' D Y' H' fl):
  ∃W:Nat->Nat->St->Hp->Prop,(∃m,W 0 m σ0 H0)/\∀i m Y H,W i m Y H->(J.stop i H/\D.nx Y H)\/(J.go i H/\∃N:St->Hp->Prop,(∀Y' H',N Y' H'->∃m',m'<m/\W (i+1) m' Y' H') /\
   ∀x H',J.yld i H x H'->gT X.K t x Y H' λσ2 H2=>TIS T A X.K (exs T cf d body) {D with nx:=N,ct:=N,bk:=D.nx} σ2 H2):=by
 refine⟨λi m Y H=>∃α ρ hs,RS A α ρ Y/\Rep T A X.K α hs H/\Ext α0 α H0 H/\Je T w t (exs T cf d body) m i ρ hs=some (fl,ρ',hs'),⟨n,α0,ρ0,h0,rs0,R0,Ext.refl,e0⟩,?_⟩;rintro i m Y H ⟨α,ρ,hs,rs,R,E,e⟩
 cases m with
 |zero=>cases e
 |succ m=>
  have W:=W0.mono E.pre E.fz;simp only[Je]at e;split at e
  ·cases e
  ·rename_i ei;cases e;exact .inl ⟨Qcd tx R W ei,q α Y H E R rs⟩
  ·rename_i x ei;split at e
   ·cases e
   ·rename_i ρ1 et;obtain⟨go,yl⟩:=JG tx R W rs ei et;refine .inr ⟨go,λY' H'=>∃α ρ hs,RS A α ρ Y'/\Rep T A X.K α hs H'/\Ext α0 α H0 H'/\Je T w t (exs T cf d body) m (i+1) ρ hs=some (fl,ρ',hs'),λY' H' z=>⟨m,W4 _,z⟩,?_⟩;intro v H' hy;refine yl v H' _ hy λσ2 rs2 R2 E2=>?_;have E02:Ext α0 α H0 H':=E.trans E2 R2.h;split at e
    ·rename_i ρ2 h2 eb;exact TIS.run rs2 R2 eb λα3 σ3 H3 E3 R3 rs3=>⟨α3,ρ2,h2,rs3,R3,E02.trans E3 R3.h,e⟩
    ·rename_i ρ2 h2 eb;exact TIS.run rs2 R2 eb λα3 σ3 H3 E3 R3 rs3=>⟨α3,ρ2,h2,rs3,R3,E02.trans E3 R3.h,e⟩
    ·rename_i ρ2 h2 eb;cases e;exact TIS.run rs2 R2 eb λα3 σ3 H3 E3 R3 rs3=>q α3 σ3 H3 (E02.trans E3 R3.h) R3 rs3
    ·rename_i n1 n2 n3
     cases fl with
     |next=>exact absurd e (n1 _ _)
     |cont=>exact absurd e (n2 _ _)
     |brk=>exact absurd e (n3 _ _)
     |ret u=>exact TIS.run rs2 R2 e λα3 σ3 H3 E3 R3 rs3=>q α3 σ3 H3 (E02.trans E3 R3.h) R3 rs3
theorem RF.put{α:List Addr}{x:Str}{i:Nat}{u:U}{v:V}(hk:T.fns'[i]?=some x)(nd:T.fns'.Nodup)(r:RU A α u v):∀{fs:List (Nat×U)} {fv:List (Str×V)},RF T A α fs fv->RF T A α (QcT i u fs) (Qaa x v fv)
 |_,_,.nil=>.cons ⟨hk,r⟩ .nil
 |_,_,.cons (a:=p) (b:=q) h t=>by
  obtain⟨pk,pu⟩:=p;obtain⟨qx,qv⟩:=q;simp only[QcT,Qaa];by_cases e:pk=i
  ·subst e;have e2:qx=x:=Xw (h.1.symm.trans hk);subst e2;rw[if_pos rfl,if_pos rfl];exact .cons ⟨hk,r⟩ t
  ·have n2:¬qx=x:=λz=>by
    subst z;obtain⟨l1,q1⟩:=Xh.mp hk;obtain⟨l2,q2⟩:=Xh.mp h.1;exact e ((List.getElem_inj nd).mp (q2.trans q1.symm))
   rw[if_neg e,if_neg n2];exact .cons h (RF.put hk nd r t)
theorem RF.length{fs:List (Nat×U)}{fv:List (Str×V)}(r:RF T A α fs fv):fs.length=fv.length:=Paired.length r
def QeX{b:List Stmt}{hs:List ExceptHandler}{o fn:List Stmt}{t:Tr}(h:Qdb C b hs o fn=some t):∃f pf a args q1 q2 x px n b0 body ph,b=[.Expr (.Call (.Name f pf) (a::args) [] q1) q2] /\
  hs=[.ExceptHandler (some (.Name x px)) n (b0::body) ph]/\o=[]/\fn=[]/\QeZ C n=some t.j/\Qe1 C x=some t.c/\Qaw C f=some t.f/\t.args=a::args/\t.body=b0::body:=by
 unfold Qdb at h;split at h
 ·simp only[Xb]at h;obtain⟨p,hp,c,hc,k,hk,h⟩:=h;cases h;exact⟨_,_,_,_,_,_,_,_,_,_,_,_,rfl,rfl,rfl,rfl,hp,hc,hk,rfl,rfl⟩
 ·cases h
def QeY{n:Str}{j:Option Nat}(h:QeZ C (some n)= some j): ∃i,j=some i/\Yz C n=true/\n≠"__debug__"/\idx n C.N=some i:=by
 simp only[QeZ]at h;split at h
 ·rename_i c;simp only[Xe,Xs]at c;simp only[Xc]at h;obtain⟨i,hi,h⟩:=h;exact⟨i,h.symm,c.1,c.2,hi⟩
 ·cases h
def Qe0{c:Nat}(h:Qe1 C x=some c): ZI C x=true/\x≠"__debug__"/\C.gl.lookup x=some (.cls c):= by
 unfold Qe1 at h;split at h
 ·rename_i q;simp only[Xe,Xs]at q;split at h
  ·rename_i z;cases h;exact⟨q.1,q.2,z⟩
  ·cases h
 ·cases h
def JT{c:Nat}(h:Qaw C x=some c): ZI C x=true/\x≠"__debug__"/\C.gl.lookup x=some (.fn c):= by
 unfold Qaw at h;split at h
 ·rename_i q;simp only[Xe,Xs]at q;split at h
  ·rename_i z;cases h;exact⟨q.1,q.2,z⟩
  ·cases h
 ·cases h
structure Bd(X:Cx):Prop where
 stk:X.stack=X.env::X.outer
 frm:X.env.frame=some X.env.locals
 ex:X.ex=[]
 cm:X.calm=true
def Qce:hdC (hdX C)=true:=by simp[hdC,hdX]
def Qcj{p:Nat×Expr}(h:Qgh C st=some p):∃y py pos,st=.Assign [.Name y py] p.2 pos/\Yz C y=true/\idx y C.N=some p.1:=by
 cases st with
 |Assign ts e pos=>
  simp only[Qgh]at h;split at h
  ·rename_i y hy;obtain⟨py,rfl⟩:=QbH hy;split at h
   ·rename_i hl;simp only[Xc]at h;obtain⟨i,hi,rfl⟩:=h;exact⟨y,py,pos,rfl,hl,hi⟩
   ·cases h
  ·cases h
 |_=>cases h
def Qd6{t:Nat×List Expr}(h:Qo7 C e=some t): ∃f pf a args q,e=.Call (.Name f pf) (a::args) [] q/\t.2=a::args/\ZI C f=true/\f≠"__debug__"/\C.gl.lookup f=some (.fn t.1)/\C.T.hfs.contains t.1=true:=by
 cases e with
 |Call g as ks q=>
  cases g with
  |Name f pf=>
   cases as with
   |nil=>cases h
   |cons a r=>
    cases ks with
    |cons _ _=>cases h
    |nil=>
     have h:((Qaw C f).bind λk=>if C.T.hfs.contains k&&(C.T.fns[k]?).isSome then some (k,a::r)else none)=some t:=h;rw[Xb]at h;obtain⟨k,hk,h⟩:=h;rw[Xy,Xe]at h;obtain⟨h4,h⟩:=h;cases h;obtain⟨h1,h2,h3⟩:=JT hk;exact⟨f,pf,a,r,q,rfl,rfl,h1,h2,h3,h4.1⟩
  |_=>exact nomatch (show none=some _ from h)
 |_=>exact nomatch (show none=some _ from h)
def Qf2{tg:Option Expr}(h:hcE m C e=some ir):swapsWith e tg l env=pure false:=by
 unfold hcE at h;split at h
 ·rename_i t ht;obtain⟨f,pf,a,args,q,rfl,_⟩:=Qd6 ht;rfl
 ·refine Qb8 h λelt gens scope q z=>?_;rw[z]at h
  cases m with
  |zero=>cases h
  |succ m=>
   have:=QiH h;rw[Qce]at this;cases this
def QlD(g:GX T A C X)(hbl:C.bl.contains ("isinstance":Str)=true):GX T A (hdX C) (X.hd v):=⟨g.CT,g.N,g.nd,g.sc,(λz=>by rw[Qce]at z;cases z),g.kind,g.xe,g.gfn,g.gcl,g.gco,g.gtx,(λz hz=>by
 refine g.blt z λw=>hz ?_;by_cases e:z=("isinstance":Str)
 ·rw[e,hbl]at w;cases w
 ·refine Bool.eq_false_iff.mpr λh=>?_
  rcases Xg.mp (V0.mp h)with h|h
  ·exact e h
  ·rw[V0.mpr (Tt.mp h).1]at w
   cases w),g.txt,g.tab⟩
def QhS{pf q1:Pos}{a:Expr}{args:List Expr}{i:Nat}{es:List E}(gh:GX T A (hdX C) (X.hd v))(F:Fc X T A cf k)(hr:Room k X.A)(S:Snd T A (hdX C) (X.hd v) cf m)(gf:ZI C f=true)(df:f≠"__debug__")(lf:C.gl.lookup f=some (.fn i))(hf:T.hfs.contains i=true)(ha:compA m (hdX C) (a::args)=some es):
  PE (X.hd v) (.Call (.Name f pf) (a::args) [] q1) (TI T A X.K (ev T cf d (.call i es))):=by
 have hns:=Qr ha;have st:starEach (a::args) X.env=(false,eval a X.env)::starEach args X.env:=Qk (hns a (Xm ..));have sa:(backTo q1 (starEach args X.env)).any (·.1)=false:=QZ λz hz=>hns z (Xj _ hz);intro pins s Y H Q I q;obtain⟨α,ρ,hs0,u,h2,rs,R,e,q⟩:=q
 cases d with
 |zero=>cases e
 |succ d=>
 simp only[ev]at e;obtain⟨us,hh1,e1,e⟩:=Qb e;obtain⟨Fn,hF,l3⟩:=F.some _ _ _ _ e;obtain⟨fd,G,bb,kp⟩:=F.hk i Fn hF hf;refine X8 (Zd I (Q5 gh (show ZI (hdX C) f=true from gf)) (gh.gfn f i lf) ?_ (QV df));have pa0:=S.a d (a::args) es ha q1 pins s Y H (λvs H1=>∃α1,Ext α α1 H H1/\Rep T A X.K α1 hh1 H1/\RUs A α1 us vs) I ⟨α,ρ,hs0,us,hh1,rs,R,e1,λα' vs H' E' R' r'=>⟨α',E',R',r'⟩⟩;refine Tc (h₀:=X.base) I.ok.mod.kin kp (Xo pa0 (λus1 s1 ⟨vs,H1,I1,r,α1,E1,R1,ru⟩=>⟨I1.kIn,?_⟩) λy y z=>z) st sa
 have ll:us1.length=Fn.ps.length:=by
  obtain⟨fd',fn',_,_,lp,_⟩:=gh.txt.fn i Fn hF;rw[lp,<-l3,ru.length,r.length]
 have hsp:spC T A X.K cf i vs H1 (λv' H'=>Q v' H') (λy y y=>False):=⟨α1,us,hh1,u,h2,ru,R1,e,⟨Fn,hF,l3⟩,λα' v' H' E' R' r'=>q α' v' H' (E1.trans E' R'.h) R' r'⟩
 refine Vx (V1 (G.run X.A v X.stack s1 H1 ⟨us1,[]⟩ us1 vs _ _ hr (show Env0 X.prog X.w X.K X.mg X.base X.A X.stack s1 H1 from⟨I1.env0.frames,I1.env0.mod,I1.env0.bs,I1.env0.bsz,I1.env0.funs,I1.env0.frf,I1.env0.hok,I1.env0.bare⟩) (by have:=bb s1 us1 I1.kIn (by rw[Vu];exact ll);rw[Vu]at this;exact this) r hsp) λrr s' hq=>?_)
 cases rr with
 |ok fl=>
  cases fl with
  |ret u=>exact I1.after hq
  |next=>exact False.elim hq
  |brk=>exact False.elim hq
  |cont=>exact False.elim hq
 |error ev=>exact False.elim hq
def QlC(gh:GX T A (hdX C) (X.hd v))(F:Fc X T A cf k)(hr:Room k X.A)(S:Snd T A (hdX C) (X.hd v) cf m)(CT:C.T=T)(d:Nat)(e:Expr)(ir:E)(h:hcE m C e=some ir):PE (X.hd v) e (TI T A X.K (ev T cf d ir)):=by
 unfold hcE at h;split at h
 ·rename_i t ht;obtain⟨f,pf,a,args,q,rfl,t2,gf,df,lf,hf⟩:=Qd6 ht;rw[Xc,t2]at h;obtain⟨es,ha,rfl⟩:=h;exact QhS gh F hr S gf df lf (CT▸hf) ha
 ·exact S.e d e ir h
theorem Qdl(g:GX T A (hdX C) X)(fl:∀x,X.fn x=true\/X.env.scope.names.lookup x=some .local)(S:∀d e ir,hcE m C e=some ir->PE X e (TI T A X.K (ev T cf d ir))):∀(sts:List Stmt) (d:Nat) (irs:List Iv.S),Qer m C sts=some irs->PSs X sts (TIS T A X.K (exs T cf d irs))
 |_,0,_,_=>ZU QdN
 |[],d+1,irs,h=>by
  cases h
  exact JO Qbc λD Y H v=>by obtain⟨α,ρ,hs,fl,ρ',hs',rs,R,e,q⟩:=v;cases e;exact q α Y H Ext.refl R rs
 |st::r,d+1,irs,h=>by
  simp only[Qer,Xb]at h;obtain⟨p,hp,e',he,r',hr,h⟩:=h;cases h;obtain⟨y,py,pos,rfl,hl,hi⟩:=Qcj hp
  have ly:X.env.scope.names.lookup y=some .local:=by rw[g.sc];exact ZM hl
  have P:∀d,PS X (.Assign [.Name y py] p.2 pos) (TIS T A X.K (ex T cf d (.set p.1 e'))):=λd=>by
   refine Qac (λd=>?_) (d:=d)
   refine Zr (JB (i:=p.1) g.nd (by rw[g.N];exact Q3 hi) (.inl ly) (S d p.2 e' he) (Qf2 he) (fl y)) ?_
   rintro D Y H ⟨α,ρ,hs,fl,ρ',hs',rs,R,e,q⟩;simp only[ex]at e;obtain⟨u,h1,e1,e⟩:=Qb e;cases e;exact TI.run rs R e1 λα1 x H1 E1 R1 r1 rs1=>q α1 _ H1 E1 R1 (rs1.set p.1 r1)
  refine JO (ZP (P d) (Qdl g fl S r d r' hr)) ?_;rintro D Y H ⟨α,ρ,hs,fl,ρ',hs',rs,R,e,q⟩;simp only[exs]at e;split at e
  ·rename_i ρ1 h1 e1;exact TIS.run rs R e1 λα1 σ1 H1 E1 R1 rs1=>TIS.run rs1 R1 e λα2 σ2 H2 E2 R2 rs2=>q α2 σ2 H2 (E1.trans E2 R2.h) R2 rs2
  ·rename_i n1;exfalso
   cases d with
   |zero=>cases e
   |succ d=>
    simp only[ex]at e n1
    cases z:ev T cf d e' ρ hs with
    |none=>rw[z]at e;cases e
    |some w=>rw[z]at n1;exact n1 _ _ rfl
def Qf3{ρ:Rho}{Y:St}{j:Nat}(r:RS A α ρ Y):RS A α (ρ.set j none) (Y.set j none):=by
 refine⟨by simpa using r.len,λk u e=>?_⟩
 have hk:k≠j:=λz=>by
  subst z
  have l:k < ρ.length:=(Xh.mp e).1 |> λz=>by simpa using z
  rw[X9 l]at e;cases e
 rw[X3 (Wr hk)]at e;rw[X3 (Wr hk)];exact r.val k u e
def Qnc{b:List Stmt}{hs:List ExceptHandler}{o fn:List Stmt}{t:Tr}{es:List E}{sb:List Iv.S}(bX:Bd X)(g:GX T A C X)(fl:∀x,X.fn x=true\/X.env.scope.names.lookup x=some .local)(F:Fc X T A cf k)(hr:Room k X.A)(S:Snd T A C X cf m)(hbl:C.bl.contains ("isinstance":Str)= true)(ht:Qdb C b hs o fn=some t)(ha:compA m C t.args=some es)(hb:Qer m C t.body=some sb):
  PS X (.Try b hs o fn p) (TIS T A X.K (ex T cf (d+1) (.tryS t.j t.f es t.c sb))):=by
 obtain⟨f,pf,a,args,q1,q2,x,px,n,b0,body,ph,rfl,rfl,rfl,rfl,t1,t2,t3,t4,t5⟩:=QeX ht;obtain⟨gx,dx,lx⟩:=Qe0 t2;obtain⟨gf,df,lf⟩:=JT t3;rw[t4]at ha;rw[t5]at hb;have hns:=Qr ha;have st:starEach (a::args) X.env=(false,eval a X.env)::starEach args X.env:=Qk (hns a (Xm ..));have sa:(backTo q1 (starEach args X.env)).any (·.1)=false:=QZ λz hz=>hns z (Xj _ hz);intro pins s Y H D I q;obtain⟨α,ρ,hs0,fw,ρ',hs',rs,R,e,q⟩:=q;simp only[Iv.ex]at e;obtain⟨us,hh1,e1,e⟩:=Qb e;refine wpAny_Try_except ?_
 have sw:swapsWith (.Call (.Name f pf) (a::args) [] q1) none q2.line X.env=pure false:=by rfl
 split at e
 ·rename_i u0 h2 ec;cases e;have P1:PS X (.Expr (.Call (.Name f pf) (a::args) [] q1) q2) _:=Qab (QgC (d:=d) g F hr S gf df lf ha) sw;have P2:=Qdt P1
  have r:=P2 pins s Y H D I (TI.run rs R (u:=u0) (h1:=_) (by simp only[ev,e1,Iv.bd];exact ec) λα1 v H1 E1 R1 r1 rs1=>q α1 Y H1 E1 R1 rs1)
  rw[g.xe]at r ⊢;refine Xo r (λfl' s1 z=>?_) λy y z=>z.elim
  cases fl' with
  |next=>exact Tu z
  |ret v=>exact z
  |brk=>exact z
  |cont=>exact z
 ·rename_i ec;split at e
  case h_2=>cases e
  rename_i c' h2 ex';rw[Xy]at e;obtain⟨⟨c1,c2,c3⟩,e⟩:=e;split at e
  case h_2=>cases e
  rename_i ρ2 h3 eb;cases e
  cases hF:T.fns[t.f]? with
  |none=>rw[hF]at c3;cases c3
  |some Fn=>
  rw[hF]at c3;have c3:us.length=Fn.np:=Wt c3;obtain⟨fd,G,bb,kp⟩:=F.xf t.f Fn hF;refine wpAny_execs_cons (wpAny_Expr_any ?_ I.quiet sw);refine X8 (Zd I (Q5 g gf) (g.gfn f t.f lf) ?_ (QV df));have pa0:=S.a d (a::args) es ha q1 pins s Y H (λvs H1=>∃α1,Ext α α1 H H1/\Rep T A X.K α1 hh1 H1/\RUs A α1 us vs) I ⟨α,ρ,hs0,us,hh1,rs,R,e1,λα' vs H' E' R' r'=>⟨α',E',R',r'⟩⟩;rw[g.xe]at pa0;refine PySem.W.callWith_K (h₀:=X.base) I.ok.mod.kin kp (Xo pa0 (λus1 s1 ⟨vs,H1,I1,r,α1,E1,R1,ru⟩=>⟨I1.kIn,?_⟩) λy y z=>z.elim) st sa
  have ll:us1.length=Fn.ps.length:=by
   obtain⟨fd',fn',_,_,lp,_⟩:=g.txt.fn t.f Fn hF;rw[lp,<-c3,ru.length,r.length]
  have hsp:spX T A X.K T.xf t.f vs H1 (λy y=>False) (λCv o H'=>Cv=.ref (A.c c'.1)/\EF T H' c' o/\∃α',Ext α1 α' H1 H'/\Rep T A X.K α' h2 H'):=
   ⟨α1,us,hh1,c',h2,ru,R1,ex',⟨Fn,hF,c3⟩,λα' H' dd E' R' ef=>⟨rfl,ef,α',E',R'⟩⟩
  refine Vx (V1 (G.run X.A X.stack s1 H1 ⟨us1,[]⟩ us1 vs _ _ hr I1.env0 (by have:=bb s1 us1 I1.kIn (by rw[Vu];exact ll);rw[Vu]at this;exact this) r hsp) λrr s' hq=>?_)
  cases rr with
  |ok fl=>
   cases fl with
   |ret u=>
    obtain⟨_,_,_,_,_,_,_,z⟩:=hq;exact z.elim
   |next=>exact False.elim hq
   |brk=>exact False.elim hq
   |cont=>exact False.elim hq
  |error ev=>
   obtain⟨e0,C0,H',B,a0,dd,rfl,os,bare,un,hok,flw,cv,hn,hs0',da,⟨hC,ef,α2,E2,R2⟩⟩:=hq;cases hC
   have h00:X.s₀.heap.get? e0=none:=by
    cases q:X.s₀.heap.get? e0 with
    |none=>rfl
    |some ob=>
     obtain⟨o',ho⟩:=I1.base.there e0 ob q (by rw[bX.ex];simp)
     rw[hs0']at ho;cases ho
   have M:Met X pins Y H1 H' s1 s' e0 (A.c c'.1) dd B a0:=⟨I1,os,bare,un,hok,flw,cv,hn,hs0',h00,da⟩;have gh:GX T A (hdX C) (X.hd (.ref e0)):=QlD g hbl
   have Sh:=(Qcs (k:=k) m gh (⟨F.ok,F.some,F.df,F.xf,F.hk⟩:Fc (X.hd (.ref e0)) T A cf k) (λz=>by rw[Qce]at z;cases z) hr.units).s
   have HS:=QlC gh F hr Sh g.CT;have rs2:=(rs.mono E1.pre).mono E2.pre;have xeh:(X.hd (.ref e0)).xe=λy y=>False:=g.xe
   cases n with
   |none=>cases t1
   |some n=>
    obtain⟨j,hj,ln,nd,hi⟩:=QeY t1;rw[hj]at eb q;have PP:=Qdl gh fl HS (b0::body) d sb hb
    obtain⟨R3,E3⟩:=R2.new (p:=e0) (o:=.err c'.1 c'.2) (ho:=QcV e0 (A.c c'.1) dd) hn ⟨dd,Qh,c1,ef.fz λb o fs e=>by rw[Qd (λz=>by rw[z,hn]at e;cases e)];exact e⟩
    have at3:(α2++[e0])[h2.length]?=some e0:=by rw[<-R2.h.len];exact Q8
    have rs4:=(rs2.mono E3.pre).set j (u:=.ref h2.length) (v:=.ref e0) ⟨e0,at3,rfl⟩
    refine Qi7 (W:=λσ8 H8=>∃α8,Ext (α2++[e0]) α8 (upd H' e0 (QcV e0 (A.c c'.1) dd)) H8/\Rep T A X.K α8 hs' H8/\RS A α8 ρ2 σ8) bX.stk bX.frm g.nd M (Q5 g gx) (g.gcl x t.c lx) (g.txt.es c'.1 t.c c2) (QV dx) (by rw[g.N];exact Q3 hi) (by rw[g.sc];exact ZM ln) (λs7 J7=>?_) (λσ8 H8 s'' ⟨α8,E8,R8,r8⟩ J=>?_)
    ·have r:=PP pins s7 _ _ ⟨λσ8 H8=>∃α8,Ext (α2++[e0]) α8 (upd H' e0 (QcV e0 (A.c c'.1) dd)) H8/\Rep T A X.K α8 hs' H8/\RS A α8 ρ2 σ8,λy y=>False,λy y=>False,λy y=>False⟩ J7 ⟨α2++[e0],ρ.set j (some (.ref h2.length)),h2++[O.err c'.1 c'.2],.next,ρ2,hs',rs4,R3,eb,λα' Y' H' E' R' r'=>⟨α',E',R',r'⟩⟩;rw[xeh]at r;refine Xo r (λf8 s8 z=>?_) λy y z=>z
     cases f8 with
     |next=>exact⟨rfl,z⟩
     |brk=>obtain⟨_,_,_,z⟩:=z;exact z.elim
     |cont=>obtain⟨_,_,_,z⟩:=z;exact z.elim
     |ret u=>obtain⟨_,_,_,_,_,z⟩:=z;exact z.elim
    ·exact⟨_,_,J,q _ _ _ (((E1.trans E2 R2.h).trans E3 R3.h).trans E8 R8.h) R8 (Qf3 r8)⟩
def Qkc(bX:Bd X)(F:Fc X T A cf k)(hr:Room k X.A)(hu:X.A.units+1<cLine)(g:GX T A C X)(fl:∀x,X.fn x=true\/X.env.scope.names.lookup x=some .local)(S2:Snd2 T A C X cf m)(SS:SndS T A C X cf m)(d:Nat)(st:Stmt)(ir:Iv.S)(h:QR (m+1) C st=some ir):PS X st (TIS T A X.K (ex T cf d ir)):=by
 have S:=S2.s;refine Qac λd=>?_
 cases st with
 |Pass p=>cases h;exact Zr Qh3 λD Y H r=>by obtain⟨α,ρ,hs,fl,ρ',hs',rs,R,e,q⟩:=r;cases e;exact q α Y H Ext.refl R rs
 |Break p=>cases h;exact Zr Qfq λD Y H Z=>by obtain⟨α,ρ,hs,fl,ρ',hs',rs,R,e,q⟩:=Z;cases e;exact q α Y H Ext.refl R rs
 |Continue p=>cases h;exact Zr Qbd λD Y H W=>by obtain⟨α,ρ,hs,fl,ρ',hs',rs,R,e,q⟩:=W;cases e;exact q α Y H Ext.refl R rs
 |Expr e p=>
  unfold QR at h;try dsimp only at h;split at h
  ·rename_i hd;obtain⟨x,j,q,rfl⟩:=Qf6 hd;cases h
   exact Zr QkD λD Y H V=>by obtain⟨α,ρ,hs,fl,ρ',hs',rs,R,e,q⟩:=V;cases e;exact q α Y H Ext.refl R rs
  ·cases h
  ·rename_i hn;simp only[Xc]at h;obtain⟨e',he,rfl⟩:=h
   refine Zr (Qab (S.e d e e' he) (Qb8 he λelt gens scope q z=>by subst z;cases hn)) ?_
   rintro D Y H ⟨α,ρ,hs,fl,ρ',hs',rs,R,e,q⟩;simp only[ex]at e;obtain⟨u,h1,e1,e⟩:=Qb e;cases e;exact TI.run rs R e1 λα1 x H1 E1 R1 r1 rs1=>q α1 Y H1 E1 R1 rs1
 |Return v p=>
  cases v with
  |none=>
   cases h
   exact Zr Qh2 λD Y H U=>by obtain⟨α,ρ,hs,fl,ρ',hs',rs,R,e,q⟩:=U;cases e;exact q α Y H Ext.refl R rs .non rfl
  |some e=>
   unfold QR at h;simp only[Xc]at h;obtain⟨e',he,rfl⟩:=h;refine Zr (Qdu (S.e d e e' he)) ?_;rintro D Y H ⟨α,ρ,hs,fl,ρ',hs',rs,R,e,q⟩;simp only[ex]at e;obtain⟨u,h1,e1,e⟩:=Qb e;cases e;exact TI.run rs R e1 λα1 x H1 E1 R1 r1 rs1=>q α1 Y H1 E1 R1 rs1 x r1
 |Raise x c p=>
  unfold QR at h;try dsimp only at h;split at h
  ·simp only[Xb]at h;obtain⟨es,_,h⟩:=h;cases h
   exact Zy λD Y H Q=>by obtain⟨_,_,_,_,_,_,_,_,e,_⟩:=Q;simp[ex]at e
  ·cases h
   exact Zy λD Y H P=>by obtain⟨_,_,_,_,_,_,_,_,e,_⟩:=P;simp[ex]at e
 |Try b hs o fn p=>
  unfold QR at h;try dsimp only at h;split at h
  ·rename_i t ht;split at h
   case isFalse=>cases h
   rename_i hbl;simp only[Xb]at h;obtain⟨es,hes,sb,hsb,h⟩:=h;cases h;exact Qnc bX g fl F hr S hbl ht hes hsb
  ·cases h
 |AugAssign t o e p=>first|exact Znn h|simp[QR]at h
 |If t a b p=>
  unfold QR at h;simp only[Xb]at h;obtain⟨t',ht,a',ha,b',hb,h⟩:=h;cases h;refine Zr (Qh4 (S.t d t t' ht).1 (SS.ss d a a' ha) (SS.ss d b b' hb)) ?_;rintro D Y H ⟨α,ρ,hs,fl,ρ',hs',rs,R,e,q⟩;simp only[ex]at e;split at e
  ·rename_i h1 e1;refine TIT.run rs R e1 λα1 H1 E1 R1 rs1=>?_;rw[if_pos rfl];exact TIS.run rs1 R1 e λα2 σ2 H2 E2 R2 rs2=>q α2 σ2 H2 (E1.trans E2 R2.h) R2 rs2
  ·rename_i h1 e1;refine TIT.run rs R e1 λα1 H1 E1 R1 rs1=>?_;rw[if_neg Xn];exact TIS.run rs1 R1 e λα2 σ2 H2 E2 R2 rs2=>q α2 σ2 H2 (E1.trans E2 R2.h) R2 rs2
  ·cases e
 |While t a b p=>first|exact Znn h|simp[QR]at h
 |For tg it a b p=>
  cases b with
  |cons _ _=>first|exact Znn h|simp[QR]at h
  |nil=>
   unfold QR at h;try dsimp only at h;simp only[Xb]at h;obtain⟨tg',ht,it',hi,h⟩:=h;split at h
   case isFalse=>cases h
   rename_i ok;simp only[Xb]at h;obtain⟨a',ha,h⟩:=h;cases h
   refine Zr (QgJ (by rw[g.xe];exact PassesOwn.never) bX.cm (S2.w d it _ tg hi (Qgz ht ok)) (QoO bX.cm g fl ht) (SS.ss d a a' ha) (QaI hi)) ?_
   rintro D Y H ⟨α,ρ,hs,fl,ρ',hs',rs,R,e,q⟩;simp only[ex]at e;obtain⟨w,h1,e1,e⟩:=Qb e;refine⟨α,ρ,hs,w,h1,rs,R,e1,λα1 J H1 E1 R1 W1=>?_⟩;exact Qf5 rfl g.txt (rs.mono E1.pre) R1 W1 e λα2 σ2 H2 E2 R2 rs2=>q α2 σ2 H2 (E1.trans E2 R2.h) R2 rs2
 |Assign ts e p=>
  unfold QR at h;try dsimp only at h;split at h
  ·rename_i x ht;obtain⟨px,rfl⟩:=QbH ht;split at h
   case isFalse=>cases h
   rename_i hl;simp only[Xb]at h;obtain⟨i,hi,e',he,h⟩:=h;cases h
   have fin:∀e' D Y H,TIS T A X.K (ex T cf (d+1) (.set i e')) D Y H->TI T A X.K (ev T cf d e') Y H λv H1=>D.nx (Y.set i (some v)) H1:=by
    intro e';rintro D Y H ⟨α,ρ,hs,fl,ρ',hs',rs,R,e,q⟩;simp only[ex]at e;obtain⟨u,h1,e1,e⟩:=Qb e;cases e;exact TI.run rs R e1 λα1 x H1 E1 R1 r1 rs1=>q α1 _ H1 E1 R1 (rs1.set i r1)
   by_cases hc:∃elt gens scope q,e=.ListComp elt gens scope q
   ·obtain⟨elt,gens,scope,pc,rfl⟩:=hc;obtain⟨tg,iter,tl,xs,n,wi,gg,tt,te,rfl,ok,hi',hn',hg',ht',he',hf,imp⟩:=S2.c d elt gens scope pc e' he;intro pins s Y H D I hq
    exact Qh6 bX.cm g.nd ok hi' hn' hg' ht' he' hf (by rw[g.N];exact Q3 hi) (QaK g hl) (fl x) pins s Y H D I (imp Y H _ I.len (fin _ D Y H hq))
   ·exact Zr (JB (i:=i) g.nd (by rw[g.N];exact Q3 hi) (QaK g hl) (S.e d e e' he) (Qb8 he λelt gens scope q z=>hc ⟨elt,gens,scope,q,z⟩) (fl x)) (fin _)
  ·rename_i o f ht;obtain⟨pa,rfl⟩:=Qjd ht;split at h
   case isFalse=>cases h
   rename_i hn;simp only[Xb]at h;obtain⟨e',he,o',ho,i,hi,h⟩:=h;cases h
   have hk':T.fns'[i]?=some f:=by rw[<-g.CT];exact Q3 hi
   refine Zr (QkC (S.e d o o' ho) (S.e d e e' he) (Qiy he)) ?_;rintro D Y H ⟨α,ρ,hs,fl,ρ',hs',rs,R,e,q⟩;simp only[ex]at e;obtain⟨u,h1,e1,e⟩:=Qb e;obtain⟨u2,h2,e2,e⟩:=Qb e;refine TI.run rs R e1 λα1 x H1 E1 R1 r1 rs1=>TI.run rs1 R1 e2 λα2 y H2 E2 R2 r2 rs2=>?_;split at e
   case h_2=>cases e
   rename_i n;split at e
   case h_2=>cases e
   rename_i c fs eo;split at e
   case isFalse=>cases e
   rename_i l;cases e;obtain⟨a,ha,rfl⟩:=r2;obtain⟨dx,fv,q1,rf,lc⟩:=R2.h.ob n a _ ha eo;have cl:=g.txt.cl c _ (Xp lc)
   refine⟨a,A.c c,dx,fv,rfl,q1,cl.cls,cl.nf f (X2 hk'),by rw[<-RF.length rf];omega,?_⟩
   obtain⟨R',E'⟩:=R2.put (o:=.ins c (QcT i u fs)) (ho:=.ins (A.c c) dx (Qaa f x fv)) ha ⟨dx,_,Qh,RF.put hk' g.txt.fd (r1.mono E2.pre) rf,lc⟩;exact q α2 Y _ ((E1.trans E2 R2.h).trans E' R'.h) R' rs2
  ·rename_i o i ht;obtain⟨ps,rfl⟩:=Qgj ht;split at h
   case isFalse=>cases h
   rename_i nsl;simp only[Xb]at h;obtain⟨e',he,o',ho,i',hi,h⟩:=h;cases h;refine Zr (QgK (S.e d e e' he) (QkI (S.e d o o' ho) (S.e d i i' hi) (Qj9 Qff (Qfh hu)) (QcO nsl)) (Qix he) rfl rfl) ?_;rintro D Y H ⟨α,ρ,hs,fl,ρ',hs',rs,R,e,q⟩;simp only[ex]at e;obtain⟨u,h1,e1,e⟩:=Qb e;obtain⟨x,h2,e2,e⟩:=Qb e;obtain⟨k,h3,e3,e⟩:=Qb e;simp only[Xc]at e;obtain⟨h4,e4,e⟩:=e;cases e;refine TI.run rs R e1 λα1 v H1 E1 R1 r1 rs1=>TI.run rs1 R1 e2 λα2 y H2 E2 R2 r2 rs2=>TI.run rs2 R2 e3 λα3 z H3 E3 R3 r3 rs3=>?_;unfold Qh1 at e4;split at e4
   case h_2=>cases e4
   rename_i n;split at e4
   case h_2=>cases e4
   rename_i xs eo;split at e4
   case h_2=>cases e4
   rename_i j;simp only[Xc]at e4;obtain⟨p,ep,rfl⟩:=e4;obtain⟨a,ha,rfl⟩:=r2.mono E3.pre;cases Zv r3;obtain⟨vs,q1,rr⟩:=R3.h.ob n a _ ha eo
   refine .inl ⟨a,vs,j,p,rfl,rfl,q1,by rw[<-rr.length];exact ep,?_⟩
   obtain⟨R',E'⟩:=R3.put (o:=.lst (xs.set p u)) (ho:=.lst (vs.set p v)) ha ⟨_,Qh,RUs.set p (r1.mono λn a e=>E3.pre n a (E2.pre n a e)) rr⟩;exact q α3 Y _ (((E1.trans E2 R2.h).trans E3 R3.h).trans E' R'.h) R' rs3
  ·rename_i x px y py ht;obtain⟨kt,pt,rfl⟩:=Qgi ht;split at h
   case isFalse=>cases h
   rename_i c;simp only[Xe,Xs]at c;obtain⟨⟨lx,ly⟩,nxy⟩:=c;simp only[Xb]at h;obtain⟨i,hi,j,hj,h⟩:=h
   have kx:X.env.scope.names.lookup x=some .local:=by rw[g.sc];exact ZM lx
   have ky:X.env.scope.names.lookup y=some .local:=by rw[g.sc];exact ZM ly
   have ix:X.N[i]?=some x:=by rw[g.N];exact Q3 hi
   have iy:X.N[j]?=some y:=by rw[g.N];exact Q3 hj
   split at h
   ·cases h
   ·split at h
    case isFalse=>cases h
    rename_i nt;simp only[Xc]at h;obtain⟨e',he,rfl⟩:=h;refine Zr (QgK (S.e d e e' he) (QdC bX.cm (ZQ (Yp g.nd ix (.inl kx) (.inr kx)) (ZQ (Yp g.nd iy (.inl ky) (.inr ky)) Qbf))) (Qiw he) (QaH nt) rfl) ?_;rintro D Y H ⟨α,ρ,hs,fl,ρ',hs',rs,R,e,q⟩;simp only[ex]at e;obtain⟨u,h1,e1,e⟩:=Qb e;simp only[Xc]at e;obtain⟨ρ2,e2,e⟩:=e;cases e;refine TI.run rs R e1 λα1 v H1 E1 R1 r1 rs1=>?_;exact JU (t:=.pair i j) R1 rs1 r1 e2 λσ2 r2=>q α1 σ2 H1 E1 R1 r2
  ·cases h
  ·cases h
 |_=>exact Znn h
def Qhd{s0 s':S}(hs:Qpe m C st s0=some s')(h:∀d,PS X st (TIS T A X.K (ex T cf d s0)))(d:Nat):PS X st (TIS T A X.K (ex T cf d s')):=by
 cases hs;unfold QmH;split
 ·rename_i x hx
  cases d with
  |zero=>exact Zy λD Y H y=>by obtain⟨_,_,_,_,_,_,_,_,e,_⟩:=y;cases e
  |succ d=>
   have z:ex T cf (d+1) (.xal s0 x)=ex T cf d s0:=by funext ρ hs;simp only[ex]
   rw[z];exact h d
 ·exact h d
def QhP(SS:SndS T A C X cf m)(d:Nat)(sts:List Stmt)(irs:List S)(h:compSs (m+1) C sts=some irs):PSs X sts (TIS T A X.K (exs T cf d irs)):=by
 cases d with
 |zero=>exact ZU QdN
 |succ d=>
  cases sts with
  |nil=>
   cases h
   exact JO Qbc λD Y H z=>by obtain⟨α,ρ,hs,fl,ρ',hs',rs,R,e,q⟩:=z;cases e;exact q α Y H Ext.refl R rs
  |cons st r=>
   simp only[compSs,Xb]at h;obtain⟨s',hs,r',hr,h⟩:=h;cases h;refine JO (ZP (Qhd hs (λd=>SS.sB d st) d) (SS.ss d r r' hr)) ?_;rintro D Y H ⟨α,ρ,hs,fl,ρ',hs',rs,R,e,q⟩;simp only[exs]at e;split at e
   ·rename_i ρ1 h1 e1;exact TIS.run rs R e1 λα1 σ1 H1 E1 R1 rs1=>TIS.run rs1 R1 e λα2 σ2 H2 E2 R2 rs2=>q α2 σ2 H2 (E1.trans E2 R2.h) R2 rs2
   ·rename_i n1;refine TIS.run rs R e λα1 σ1 H1 E1 R1 rs1=>?_
    cases fl with
    |next=>exact absurd e (n1 _ _)
    |cont=>exact q α1 σ1 H1 E1 R1 rs1
    |brk=>exact q α1 σ1 H1 E1 R1 rs1
    |ret u=>exact q α1 σ1 H1 E1 R1 rs1
theorem Qm6(bX:Bd X)(g:GX T A C X)(fl:∀x,X.fn x=true\/X.env.scope.names.lookup x=some .local)(F:Fc X T A cf k)(hr:Room (k+1) X.A):∀m,SndS T A C X cf m
 |0=>⟨λd st ir h=>by first|exact Znn h|simp[QR]at h,λd sts irs h=>by exact Znn h⟩
 |m+1=>by
  have SS:=Qm6 bX g fl F hr m;exact⟨Qkc bX F (hr.mono (Uk k)) (QnY hr) g fl (Qcs m g F (λz=>hr) hr.units) SS,QhP SS⟩
end
end
section
variable {n:Nat}
structure Top(T:Tbl)(A:Adr)(K:W.Frag)(mg:Str->Option Value)(gl:List (Str×G))(bl:List Str):Prop where
 txt:Txt T A K mg
 gfn:∀x i,gl.lookup x=some (.fn i)->mg x=some (.ref (A.f i))
 gcl:∀x i,gl.lookup x=some (.cls i)->mg x=some (.ref (A.c i))
 gco:∀x k,gl.lookup x=some (.con k)->mg x=some (.ref (A.k k))
 gtx:∀x t,gl.lookup x=some (.txt t)->∃v w,mg x=some w/\RelV v w/\∀α,RU A α t v
 blt:∀x,¬bl.contains x=false->mg x=none
def Jp(T:Tbl)(gl:List (Str×G))(bl:List Str):Prop:=∀(i:Nat) (F:Fn),T.fns[i]?=some F->∃m,(compSs m ⟨T,F.N,(Qg F.st).names,gl,bl,F.lc⟩ (Ze F.st),if T.hfs.contains i=true then Qeq m ⟨T,F.N,(Qg F.st).names,gl,bl,F.lc⟩ (Ze F.st)else some F.body)=(some F.body,some F.body)
section
variable {X:Cx}{T:Tbl}{A:Adr}{C:Ctx}{cf:Cf}{k:Nat}
theorem Qj6(g:GX T A C X)(F:Fc X T A cf k)(hh:hdC C=true)(hu:X.A.units+64<cLine)(fl:∀x,X.fn x=true\/X.env.scope.names.lookup x=some .local):∀m,(∀d sts irs,Jk m C sts=some irs->PSs X sts (TIS T A X.K (exs T cf d irs)))/\∀d st ir,hdSt m C st=some ir->PS X st (TIS T A X.K (ex T cf d ir))
 |0=>⟨λd sts irs h=>by simp[Jk]at h,λd st ir h=>by simp[hdSt]at h⟩
 |m+1=>by
  have IH:=Qj6 g F hh hu fl m
  have S:=(Qcs m g F (λz=>by rw[hh]at z;cases z) hu).s
  refine⟨λd sts irs h=>?_,λd st ir h=>?_⟩
  ·cases d with
   |zero=>exact ZU QdN
   |succ d=>
   cases sts with
   |nil=>
    cases h
    exact JO Qbc λD Y H o=>by obtain⟨α,ρ,hs,fl,ρ',hs',rs,R,e,q⟩:=o;cases e;exact q α Y H Ext.refl R rs
   |cons st r=>
    simp only[Jk,Xb,Xc]at h;obtain⟨s',hs',r',hr',rfl⟩:=h;refine JO (ZP (IH.2 d st s' hs') (IH.1 d r r' hr')) ?_;rintro D Y H ⟨α,ρ,hs,fl,ρ',hs1,rs,R,e,q⟩;simp only[exs]at e;split at e
    ·rename_i ρ1 h1 e1;exact TIS.run rs R e1 λα1 σ1 H1 E1 R1 rs1=>TIS.run rs1 R1 e λα2 σ2 H2 E2 R2 rs2=>q α2 σ2 H2 (E1.trans E2 R2.h) R2 rs2
    ·rename_i n1;refine TIS.run rs R e λα1 σ1 H1 E1 R1 rs1=>?_;have z:=q α1 σ1 H1 E1 R1 rs1
     cases fl with
     |next=>exact absurd e (n1 _ _)
     |brk=>exact z
     |cont=>exact z
     |ret u=>exact z
  ·refine Qac (λd=>?_) (d:=d)
   cases st with
   |Return v p=>
    cases v with
    |none=>cases h
    |some e=>
     simp only[hdSt,Option.bind_some,Xc]at h;obtain⟨e',he,rfl⟩:=h;refine Zr (Qdu (S.e d e e' he)) ?_;rintro D Y H ⟨α,ρ,hs,fl,ρ',hs',rs,R,e,q⟩;simp only[ex]at e;obtain⟨u,h1,e1,e⟩:=Qb e;cases e;exact TI.run rs R e1 λα1 x H1 E1 R1 r1 rs1=>q α1 Y H1 E1 R1 rs1 x r1
   |If t a b p=>
    simp only[hdSt,Xb,Xc]at h;obtain⟨t',ht,a',ha,b',hb,rfl⟩:=h;refine Zr (Qh4 (S.t d t t' ht).1 (IH.1 d a a' ha) (IH.1 d b b' hb)) ?_;rintro D Y H ⟨α,ρ,hs,fl,ρ',hs',rs,R,e,q⟩;simp only[ex]at e;split at e
    ·rename_i h1 e1;refine TIT.run rs R e1 λα1 H1 E1 R1 rs1=>?_;rw[if_pos rfl];exact TIS.run rs1 R1 e λα2 σ2 H2 E2 R2 rs2=>q α2 σ2 H2 (E1.trans E2 R2.h) R2 rs2
    ·rename_i h1 e1;refine TIT.run rs R e1 λα1 H1 E1 R1 rs1=>?_;rw[if_neg Xn];exact TIS.run rs1 R1 e λα2 σ2 H2 E2 R2 rs2=>q α2 σ2 H2 (E1.trans E2 R2.h) R2 rs2
    ·cases e
   |Assign ts e0 pos0=>
    simp only[hdSt,Xb,Xc]at h;obtain⟨p,hp,e',he,rfl⟩:=h;obtain⟨y,py,pos,z,hl,hi⟩:=Qcj hp;rw[z]
    have ly:X.env.scope.names.lookup y=some .local:=by rw[g.sc];exact ZM hl
    refine Zr (JB (i:=p.1) g.nd (by rw[g.N];exact Q3 hi) (.inl ly) (S.e d p.2 e' he) (Qb8 he λelt gens scope q w=>?_) (fl y)) ?_
    ·rw[w]at he
     cases m with
     |zero=>cases he
     |succ m=>
      have:=QiH he;rw[hh]at this;cases this
    ·rintro D Y H ⟨α,ρ,hs,fl,ρ',hs',rs,R,e,q⟩;simp only[ex]at e;obtain⟨u,h1,e1,e⟩:=Qb e;cases e;exact TI.run rs R e1 λα1 x H1 E1 R1 r1 rs1=>q α1 _ H1 E1 R1 (rs1.set p.1 r1)
   |_=>cases h
end
section
variable {P:Program}{w:World}{K:W.Frag}{mg:Str->Option Value}{base:Heap}{T:Tbl}{A:Adr}{gl:List (Str×G)}{bl:List Str}
def JW{α:List Addr}{us:List U}{vs:List V}{N:List Str}(r:RUs A α us vs)(hn:N.length=n):RS A α (QgG us n) (L2.start N vs):=by
 unfold QgG L2.start;have l:=r.length
 refine⟨by simp[l,hn],λi u e=>?_⟩
 by_cases hi:i<us.length
 ·rw[X4 (by simpa using hi),Ui]at e
  rw[X4 (by simpa[<-l]using hi),Ui]
  cases q:us[i]? with
  |none=>rw[q]at e;cases e
  |some x=>
   rw[q]at e;cases e;obtain⟨v,h1,h2⟩:=r.get q
   exact⟨v,by rw[h1];rfl,h2⟩
 ·rw[Wi (by simpa using To hi),Th]at e
  split at e<;>cases e
def QcM:∀f us hs r,Qa T n f us hs=some r->∃F,T.fns[f]?=some F/\us.length=F.np:=by
 intro f us hs r h
 cases n with
 |zero=>cases h
 |succ n=>
  simp only[Qa]at h;split at h
  ·cases h
  ·rename_i F e;split at h
   ·rename_i l;exact⟨F,e,l⟩
   ·cases h
def XOk(P:Program)(w:World)(K:W.Frag)(mg:Str->Option Value)(base:Heap)(T:Tbl)(A:Adr)(r:Nat):Prop:=∀f F,T.fns[f]?=some F->∃fd,FnOk P w K mg base (CXw P w) r (A.f f) fd F.ps (spX T A K T.xf f)/\Binds K fd F.ps []/\W.keepIn K (.ref (A.f f))=true
def Qp3(tp:Top T A K mg gl bl)(h:T.xf=λy y y=>none):XOk P w K mg base T A 0:=λf F hF=>by
 obtain⟨fd,fn,b,_⟩:=tp.txt.fn f F hF
 have no:∀vs H Q E,¬spX T A K T.xf f vs H Q E:=λvs H Q E z=>by
  obtain⟨α,us,hs,u,hs',_,_,e,_⟩:=z;rw[h]at e;cases e
 exact⟨fd,⟨λvs H Q E h=>absurd h (no vs H Q E),λA outer s H args us vs Q E y y y y h=>absurd h (no vs H Q E)⟩,b,fn.kp⟩
def Qi4{X:Cx}{rm:Nat}{T:Tbl}{A:Adr}{gl:List (Str×G)}{bl:List Str}(tp:Top T A X.K X.mg gl bl)(hX:XOk X.prog X.w X.K X.mg X.base T A rm)(IH:∀f F,T.fns[f]?=some F->∃fd,FnOk X.prog X.w X.K X.mg X.base CX0 (rm+2*n) (A.f f) fd F.ps (spC T A X.K (Qa T n) f)/\Binds X.K fd F.ps []/\W.keepIn X.K (.ref (A.f f))=true/\(T.hfs.contains f=true->FnOkH X.prog X.w X.K X.mg X.base (rm+2*n) (A.f f) fd F.ps (spC T A X.K (Qa T n) f))/\FunD X.K F.name F.qual F.st (A.f f) fd):
  Fc X T A (Qa T n) (rm+2*n):=⟨λf' F' h'=>by
 obtain⟨fd',G,b',kp,_⟩:=IH f' F' h'
 exact⟨fd',G,b',kp⟩,QcM,λi D F' hD h'=>by
 obtain⟨fd',G,_,kp,_,fn'⟩:=IH i F' h';obtain⟨fd2,x,q,st,fn2,dk,hp⟩:=tp.txt.df i D hD;have e:=FunD.same fn2 fn';subst e;rw[(hp F' h').1]at G
 exact⟨fd2,G,kp,dk⟩,λf' F' h'=>by
 obtain⟨fd',G,b',kp⟩:=hX f' F' h'
 exact⟨fd',G.mono (Nat.le_add_right _ _),b',kp⟩,λf' F' h' hf=>by
 obtain⟨fd',_,b',kp,G,_⟩:=IH f' F' h'
 exact⟨fd',G hf,b',kp⟩⟩
def Qec{f:Nat}{F:Fn}{α:List Addr}{us:List U}{vs:List V}{hs hs':Hs}{u:U}{H:Hp}{Q:VK}(hF:T.fns[f]?=some F)(lN:F.N.length=F.nN)(r:RUs A α us vs)(R:Rep T A K α hs H)(e:Qa T (n+1) f us hs=some (u,hs'))(q:∀α' v H',Ext α α' H H'->Rep T A K α' hs' H'->RU A α' u v->Q v H'):
  TIS T A K (exs T (Qa T n) dd F.body) {nx:=λz H'=>Q .non H',rt:=Q} (L2.start F.N vs) H:=by
 simp only[Qa,hF]at e;split at e
 case isFalse=>cases e
 unfold fin at e;split at e
 ·rename_i u' ρ' h1 e1;cases e;exact TIS.run (JW r lN) R e1 λα1 σ1 H1 E1 R1 rs1 v rv=>q α1 v H1 E1 R1 rv
 ·rename_i ρ' h1 e1;cases e;exact TIS.run (JW r lN) R e1 λα1 σ1 H1 E1 R1 rs1=>q α1 .non H1 E1 R1 rfl
 ·cases e
theorem Qeb{rm:Nat}(tp:Top T A K mg gl bl)(tab:Jx P w T A K)(hb:Jp T gl bl)(hX:XOk P w K mg base T A rm):∀n f F,T.fns[f]?=some F->∃fd,FnOk P w K mg base CX0 (rm+2*n) (A.f f) fd F.ps (spC T A K (Qa T n) f)/\Binds K fd F.ps []/\W.keepIn K (.ref (A.f f))=true/\(T.hfs.contains f=true->FnOkH P w K mg base (rm+2*n) (A.f f) fd F.ps (spC T A K (Qa T n) f))/\FunD K F.name F.qual F.st (A.f f) fd
 |0,f,F,hF=>by
  obtain⟨fd,fn,b,_⟩:=tp.txt.fn f F hF
  have no:∀vs H Q E,¬spC T A K (Qa T 0) f vs H Q E:=λvs H Q E h=>by
   obtain⟨α,us,hs,u,hs',_,_,e,_⟩:=h;cases e
  exact⟨fd,⟨λvs H Q E h=>absurd h (no vs H Q E),λA outer s H args us vs Q E z z z z h=>absurd h (no vs H Q E)⟩,b,fn.kp,λz=>⟨λvs H Q E h=>absurd h (no vs H Q E),λA v outer s H args us vs Q E z z z z h=>absurd h (no vs H Q E)⟩,fn⟩
 |n+1,f,F,hF=>by
  obtain⟨fd,fn,b,sc,lp,lN⟩:=tp.txt.fn f F hF;obtain⟨m,hm⟩:=hb f F hF;have h1:=congrArg Prod.fst hm;have h2:=congrArg Prod.snd hm;dsimp only at h1 h2;have IH:=Qeb tp tab hb hX n
  have ln:∀vs H Q E,spC T A K (Qa T (n+1)) f vs H Q E->vs.length=F.ps.length:=λvs H Q E h=>by
   obtain⟨α,us,hs,u,hs',r,_,_,⟨F',h1,h2⟩,_⟩:=h;rw[hF]at h1;cases h1;rw[<-r.length,h2,lp]
  refine⟨fd,fn.ok (k:=rm+2*n+1) sc ln λcdv A' outer s H vs Q E hr h=>?_,b,fn.kp,λhf=>?_,fn⟩
  ·obtain⟨α,us,hs,u,hs',r,R,e,_,q⟩:=h;refine⟨TIS T A K (exs T (Qa T n) dd F.body),?_,Qec hF lN r R e q⟩
   have gx:GX T A ⟨T,F.N,(Qg F.st).names,gl,bl,F.lc⟩ (Qao CX0 P w K mg base F.N F.qual (Qg F.st) (A.f f) cdv A' outer s H E).nox :=
    ⟨rfl,rfl,sc.nd,rfl,λz=>rfl,sc.kind,rfl,tp.gfn,tp.gcl,tp.gco,tp.gtx,tp.blt,tp.txt,tab⟩
   exact(Qm6 ⟨rfl,rfl,rfl,rfl⟩ gx (λz=>.inl rfl) (Qi4 (X:=(Qao CX0 P w K mg base F.N F.qual (Qg F.st) (A.f f) cdv A' outer s H E).nox) tp hX IH) hr m).ss dd (Ze F.st) F.body h1
  ·rw[if_pos hf,Qeq,Xy]at h2;obtain⟨hbl,h2⟩:=h2;refine fn.okH (k:=rm+2*n+1) sc ln λcdv A' v outer s H vs Q E hr h=>?_;obtain⟨α,us,hs,u,hs',r,R,e,_,q⟩:=h;refine⟨TIS T A K (exs T (Qa T n) dd F.body),?_,Qec hF lN r R e q⟩
   have gx:GX T A ⟨T,F.N,(Qg F.st).names,gl,bl,F.lc⟩ (Qao CX0 P w K mg base F.N F.qual (Qg F.st) (A.f f) cdv A' outer s H E).nox :=
    ⟨rfl,rfl,sc.nd,rfl,λz=>rfl,sc.kind,rfl,tp.gfn,tp.gcl,tp.gco,tp.gtx,tp.blt,tp.txt,tab⟩
   exact(Qj6 (QlD (v:=v) gx hbl) (Qi4 (X:=((Qao CX0 P w K mg base F.N F.qual (Qg F.st) (A.f f) cdv A' outer s H E).hd v).nox) tp hX IH) Qce (by have:=hr.un;show(A'.deeper (envOfC F.qual (Qg F.st) s.heap.objs.size (A.f f) cdv)).units+64<cLine;omega) (λz=>.inl rfl) m).1 dd (Ze F.st) F.body h2
end
end
section
variable {i:Nat}{Y:St}
def TXB(T:Tbl)(A:Adr)(K:W.Frag)(f:Rho->Hs->Option (Er×Hs))(E:XK)(Y:St)(H:Hp):Prop:=∃α ρ hs c hs',RS A α ρ Y/\Rep T A K α hs H/\f ρ hs=some (c,hs') /\
 ∀α' H' dd,Ext α α' H H'->Rep T A K α' hs' H'->EF T H' c dd->E (.ref (A.c c.1)) dd H'
def TX(T:Tbl)(A:Adr)(K:W.Frag)(f:Rho->Hs->Option (Er×Hs))(E:XK):TS:=λz Y H=>TXB T A K f E Y H
def TXE(T:Tbl)(A:Adr)(K:W.Frag)(f:Rho->Hs->Option (Er×Hs))(E:XK):TE:=λY H z=>TXB T A K f E Y H
def TXA(T:Tbl)(A:Adr)(K:W.Frag)(f:Rho->Hs->Option (Er×Hs))(E:XK):TA:=λY H z=>TXB T A K f E Y H
section
variable {X:Cx}{T:Tbl}{A:Adr}{C:Ctx}{cf:Cf}{m k d:Nat}{E:XK}{x y:EX}{e:Expr}{es:List Expr}
def Qov{st:Stmt}{t:TS}(h:PS X.nox st t):PS X st t:=λpins s Y H D I hw=>
 Xo (h pins s Y H D (I.wish _) hw) (λy y q=>q.unwish) λy y z=>False.elim z
def Qoy{es:List Expr}{t:TA}(h:PA X.nox es t):PA X es t:=λpos pins s Y H Q I hw=>
 Xo (h pos pins s Y H Q (I.wish _) hw) (λy y x=>by obtain⟨vs,H',I',r,q⟩:=x;exact⟨vs,H',I'.unwish,r,q⟩) λy y z=>False.elim z
def Qma{tg it:Expr}{wi:L2.TI}(h:PI X.nox tg it wi):PI X tg it wi:=λpins s Y H R I hw=>
 Xo (h pins s Y H R (I.wish _) hw) (λv s1 z=>Xo z (λitv s2 y=>by obtain⟨it,fp,tn,J,H2,e,I2,T,st,f2,r⟩:=y;exact⟨it,fp,tn,J,H2,e,I2.unwish,T,st,f2,r⟩) λx x z=>False.elim z) λx x z=>False.elim z
def Qow{tg:Expr}{g:TG}(h:PG X.nox tg g):PG X tg g:=λpins s Y H v u Q I r hw=>
 Xo (h pins s Y H v u Q (I.wish _) r hw) (λy s' x=>by obtain⟨Y',H',I',q⟩:=x;exact⟨Y',H',I'.unwish,q⟩) λy y z=>False.elim z
def Qox{t1 t2:TE}(h1:PE X e t1)(h2:PE X e t2):PE X e (λY H Q=>t1 Y H Q\/t2 Y H Q):=λpins s Y H Q I z=>z.elim (h1 pins s Y H Q I) (h2 pins s Y H Q I)
def Qi2{pins:List (Addr×Obj)}{H:Hp}{s s':Shared}(I:Inv X pins Y H s){v:Value}(h:CXw X.prog X.w X.stack H s E v s'):∃e C H' B a0 dd,v=.ref e/\Inv X pins Y H' s'/\Heap.FlyingW B X.stack e (.ref C) a0 s'.heap/\CovX X B H'/\H' e=none/\(∀o,X.s₀.heap.get? e=some o->e∈X.ex)/\DictAt s'.heap e dd/\E (.ref C) dd H':=by
 obtain⟨a,C,H',B,a0,dd,e,os,bare,un,hok,fl,cv,hn,hs,da,hE⟩:=h
 refine⟨a,C,H',B,a0,dd,e,I.call' (ch:=[]) os un hok bare (λb z=>absurd z (by simp)),fl,⟨cv.trk,λb o q hb hx=>?_⟩,hn,λo q=>?_,da,hE⟩
 ·obtain⟨o',z⟩:=I.base.there b o q hx;exact cv.old b o' z hb
 ·by_cases hx:a∈X.ex
  ·exact hx
  ·obtain⟨o',z⟩:=I.base.there a o q hx;rw[hs]at z;cases z
def Qif{f:Str}{pf q1:Pos}{a:Expr}{args:List Expr}{es:List Iv.E}(hxf:QeP X E)(g:GX T A C X.nox)(F:Fc X.nox T A cf k)(hr:Room k X.A)(S:Snd T A C X.nox cf m)(gf:ZI C f=true)(df:f≠"__debug__")(lf:C.gl.lookup f=some (.fn i))(ha:compA m C (a::args)=some es):
  PE X (.Call (.Name f pf) (a::args) [] q1) (TXE T A X.K (evX T cf (.call i es) d) E):=by
 have hns:=Qr ha;have st:starEach (a::args) X.env=(false,eval a X.env)::starEach args X.env:=Qk (hns a (Xm ..));have sa:(backTo q1 (starEach args X.env)).any (·.1)=false:=QZ λz hz=>hns z (Xj _ hz);intro pins s Y H Q I q;obtain⟨α,ρ,hs0,c',h2,rs,R,e,q⟩:=q;simp only[evX]at e;obtain⟨us,hh1,e1,e⟩:=Qb e;rw[Xy]at e;obtain⟨c3,ex'⟩:=e
 cases hF:T.fns[i]? with
 |none=>rw[hF]at c3;cases c3
 |some Fn=>
 rw[hF]at c3;have c3:us.length=Fn.np:=Wt c3;obtain⟨fd,G,bb,kp⟩:=F.xf i Fn hF;refine X8 (Zd I (show Gl X f from Q5 (X:=X.nox) g gf) (g.gfn f i lf) ?_ (QV df));have pa0:=Qoy (S.a d (a::args) es ha) q1 pins s Y H (λvs H1=>∃α1,Ext α α1 H H1/\Rep T A X.K α1 hh1 H1/\RUs A α1 us vs) I ⟨α,ρ,hs0,us,hh1,rs,R,e1,λα' vs H' E' R' r'=>⟨α',E',R',r'⟩⟩;refine Tc (h₀:=X.base) I.ok.mod.kin kp (Xo pa0 (λus1 s1 ⟨vs,H1,I1,r,α1,E1,R1,ru⟩=>⟨I1.kIn,?_⟩) λy y z=>z) st sa
 have ll:us1.length=Fn.ps.length:=by
  obtain⟨fd',fn',_,_,lp,_⟩:=g.txt.fn i Fn hF;rw[lp,<-c3,ru.length,r.length]
 have hsp:spX T A X.K T.xf i vs H1 (λy y=>False) (λCv o H'=>Cv=.ref (A.c c'.1)/\EF T H' c' o/\∃α',Ext α1 α' H1 H'/\Rep T A X.K α' h2 H'):=
  ⟨α1,us,hh1,c',h2,ru,R1,ex',⟨Fn,hF,c3⟩,λα' H' dd E' R' ef=>⟨rfl,ef,α',E',R'⟩⟩
 refine Vx (V1 (G.run X.A X.stack s1 H1 ⟨us1,[]⟩ us1 vs _ _ hr I1.env0 (by have:=bb s1 us1 I1.kIn (by rw[Vu];exact ll);rw[Vu]at this;exact this) r hsp) λrr s' hq=>?_)
 cases rr with
 |ok fl=>
  cases fl with
  |ret u=>
   obtain⟨_,_,_,_,_,_,_,z⟩:=hq;exact z.elim
  |next=>exact False.elim hq
  |brk=>exact False.elim hq
  |cont=>exact False.elim hq
 |error ev=>
  obtain⟨e0,C0,H',B,a0,dd,rfl,J,flw,cv,hn,h00,da,⟨hC,ef,α2,E2,R2⟩⟩:=Qi2 I1 (show CXw X.prog X.w X.stack H1 s1 (λCv o H'=>Cv=.ref (A.c c'.1)/\EF T H' c' o/\∃α',Ext α1 α' H1 H'/\Rep T A X.K α' h2 H') ev s' from hq);cases hC;exact hxf pins Y H' s' e0 _ B a0 dd J (.inl flw) cv hn h00 da (q α2 H' dd (E1.trans E2 R2.h) R2 ef)
def Qik{f:Str}{pf q1:Pos}{a:Expr}{args:List Expr}{Fn:Fn}{g0:Rho->Hs->Option (Er×Hs)}(g:GX T A C X.nox)(F:Fc X.nox T A cf k)(gf:ZI C f=true)(df:f≠"__debug__")(lf:C.gl.lookup f=some (.fn i))(hF:T.fns[i]?=some Fn)(ns:Yi (a::args))(pa:PA X (a::args) (TXA T A X.K g0 E)):
  PE X (.Call (.Name f pf) (a::args) [] q1) (TXE T A X.K g0 E):=λpins s Y H Q I q=>by
 obtain⟨_,_,_,kp⟩:=F.xf i Fn hF;refine X8 (Zd I (show Gl X f from Q5 (X:=X.nox) g gf) (g.gfn f i lf) ?_ (QV df));exact Tc (h₀:=X.base) I.ok.mod.kin kp (Xo (pa q1 pins s Y H (λy y=>False) I q) (λy y x=>by obtain⟨_,_,_,_,z⟩:=x;exact z.elim) λy y z=>z) (Qk (ns a (Xm ..))) (QZ λz hz=>ns z (Xj _ hz))
def Qpo{ρ:Rho}{hs:Hs}{r:Er×Hs}(e:evX T cf (.alt x y) d ρ hs=some r):evX T cf x d ρ hs=some r\/evX T cf y d ρ hs=some r:=by
 simp only[evX]at e;split at e
 ·rename_i z;cases e;exact .inl z
 ·exact .inr e
def Ql4(h1:PE X e (TXE T A X.K (evX T cf x d) E))(h2:PE X e (TXE T A X.K (evX T cf y d) E)):PE X e (TXE T A X.K (evX T cf (.alt x y) d) E):=λpins s Y H Q I ⟨α,ρ,hs,c,hs',rs,R,e,q⟩=>
 (Qpo e).elim (λe=>h1 pins s Y H Q I ⟨α,ρ,hs,c,hs',rs,R,e,q⟩) λe=>h2 pins s Y H Q I ⟨α,ρ,hs,c,hs',rs,R,e,q⟩
def Ql5(h1:PA X es (TXA T A X.K (evX T cf x d) E))(h2:PA X es (TXA T A X.K (evX T cf y d) E)):PA X es (TXA T A X.K (evX T cf (.alt x y) d) E):=λpos pins s Y H Q I ⟨α,ρ,hs,c,hs',rs,R,e,q⟩=>
 (Qpo e).elim (λe=>h1 pos pins s Y H Q I ⟨α,ρ,hs,c,hs',rs,R,e,q⟩) λe=>h2 pos pins s Y H Q I ⟨α,ρ,hs,c,hs',rs,R,e,q⟩
def QgS{a b:Option EX}{x:EX}(h:orX a b=some x):(∃y z,a=some y/\b=some z/\x=.alt y z)\/a=some x\/b=some x:=by
 cases a with
 |none=>exact .inr (.inr h)
 |some y=>
  cases b with
  |none=>exact .inr (.inl h)
  |some z=>cases h;exact .inl ⟨y,z,rfl,rfl,rfl⟩
def Qp4{es:List Expr}(h:Qiz es=true):Yi es:=λz hz x p e=>by
 have:=Xz.mp h z hz;rw[e]at this;cases this
def QjC{g0:Expr}{ks:List Keyword}(h:xFn C g0 ks=some i): ∃f p,g0=.Name f p/\ks=[]/\hdC C=false/\ZI C f=true/\f≠"__debug__"/\C.gl.lookup f=some (.fn i)/\(C.T.fns[i]?).isSome=true:=by
 cases g0 with
 |Name f p=>
  cases ks with
  |cons _ _=>cases h
  |nil=>
   have h:(if hdC C=true then none else(Qaw C f).bind λk=>if(C.T.fns[k]?).isSome then some k else none)=some i:=h;rw[Option.ite_none_left_eq_some,Xb]at h;obtain⟨hh,k,hk,h⟩:=h;rw[Xy]at h;obtain⟨hs,h⟩:=h;cases h;obtain⟨h1,h2,h3⟩:=JT hk
   exact⟨f,p,rfl,rfl,by simpa using hh,h1,h2,h3,hs⟩
 |_=>cases h
def QcK{src:Src}{b:Bool}{el:Iv.E}{d:Nat}{H:Hp}{Q:VK}(tx:Txt T A X.K X.mg)(hl:Y.length=X.N.length)(h:TXB T A X.K (evX T cf (.comp src b el x) d) E Y H):
  Qay (TIW T A X.K (λρ hs=>Zs T (ev T cf d) ρ src hs)) (nN b) (gT X.K (tgN b X.N.length)) (λt H Q=>Q true H) (λY H Q=>Iv.TI T A X.K (ev T cf d el) Y H Q\/TXE T A X.K (evX T cf x d) E Y H Q) Y H Q:=by
 rw[<-hl];obtain⟨α,ρ,hs,c,hs',rs,R,e,q⟩:=h;simp only[evX]at e;obtain⟨w,h1,e1,e⟩:=Qb e;refine⟨α,ρ,hs,w,h1,rs,R,e1,λα1 J H1 E1 R1 W1 D hD=>?_⟩;have rs1:=rs.mono E1.pre
 refine⟨λi m ys H2=>∃αc hc,RS A αc ρ Y/\Rep T A X.K αc hc H2/\D∉αc/\H2 D=some (.lst ys)/\ys.length=i/\Ext α1 αc H1 H2/\WJ A X.K αc J H2 w/\Qjr T (ev T cf d el) (evX T cf x d) w b ρ m i hc=some (c,hs'),⟨Q7 T w h1,α1,h1,rs1,?_,R1.h.notIn hD,Qh,rfl,?_,W1.mono (λt t e=>e) (λb o u e=>by rw[Qd (λz=>by rw[z,hD]at e;cases e)];exact e),e⟩,?_⟩
 ·exact R1.aside (R1.h.notIn hD) λo u z=>by rw[hD]at z;cases z
 ·exact⟨λt t e=>e,λn a e l=>by have:=getElem?_lt e;omega,λb o e t=>by rw[Qd (λz=>by rw[z,hD]at e;cases e)];exact e,λb o kv e=>by rw[Qd (λz=>by rw[z,hD]at e;cases e)];exact e,λb o e=>⟨o,by rw[Qd (λz=>by rw[z,hD]at e;cases e)];exact e,λt=>Iff.rfl⟩⟩
 rintro i m ys H2 ⟨αc,hc,rsc,Rc,nD,hDl,ly,Ec,Wc,ec⟩;refine⟨hDl,?_⟩
 cases m with
 |zero=>cases ec
 |succ m=>
  simp only[Qjr]at ec;split at ec
  ·cases ec
  ·cases ec
  ·rename_i xx ei;split at ec
   ·cases ec
   rename_i ρ' et;rw[Xy]at ec;obtain⟨small,ec⟩:=ec
   have go:J.go i H2:=(JG tx Rc Wc (rsc.pad (os:=List.replicate (nN b) none) (by rw[YM];simp) (Z7 b)) ei et).1
   refine .inr ⟨go,?_,λv H3 os lo yl=>?_⟩
   ·rw[U7];omega
   have rsn:RS A αc (ρ++QcU b) (Y++os):=rsc.pad (by rw[YM,lo]) (Z7 b)
   obtain⟨_,stp⟩:=JG tx Rc Wc rsn ei et;rw[rs.len]at stp;refine Qd8 lo (stp v H3 _ yl λσ2 rs2 R3 E3=>?_);have d3:H3 D=some (.lst ys):=E3.keep D _ hDl nD;show(if(true:Bool)=true then _ else _);rw[if_pos rfl];split at ec
   ·rename_i u' h5 e5;refine .inl (TI.run rs2 R3 e5 λα5 y H5 E5 R5 r5 rs5=>?_);have nD3:=Qb6 E3 nD hDl;have d5:H5 D=some (.lst ys):=E5.keep D _ d3 nD;have nD5:=Qb6 E5 nD d3
    refine⟨d5,m,W4 _,α5,h5,rsc.mono E5.pre,R5.aside nD5 (λo u z=>by rw[d5]at z;cases z),nD5,Qh,by simp[ly],?_,(Wc.mono (λn a e=>E5.pre n a e) λb o u e=>by rw[Qd (λz=>by rw[z,hDl]at e;cases e)];exact E5.fz _ _ _ (E3.fz _ _ _ e)),ec⟩
    have Et:=(Ec.trans E3 R3.h).trans E5 R5.h
    exact⟨Et.pre,Et.new,λb o e hb=>by rw[Qd (λz=>by rw[z,hD]at e;cases e)];exact Et.keep b o e hb,λb o kv e=>by rw[Qd (λz=>by rw[z,hD]at e;cases e)];exact Et.fz b o kv e,λb o e=>by
     obtain⟨o',q1,q2⟩:=Et.tr b o e
     exact⟨o',by rw[Qd (λz=>by rw[z,hD]at e;cases e)];exact q1,q2⟩⟩
   ·exact .inr ⟨αc,ρ',_,c,hs',rs2,R3,ec,λα' H' dd E' R' ef=>q α' H' dd (E1.trans ((Ec.trans E3 R3.h).trans E' R'.h) R'.h) R' ef⟩
abbrev Frm(X:Cx):Prop:=∃c l L,X.stack=c::l/\c.frame=some L/\X.env.frame=some L
def CompPX(X:Cx)(E:XK)(elt:Expr)(gens:List Comprehension)(scope:Scope)(t:TE):Prop:=∃(tg iter:Expr) (tl:Option Expr) (xs:List Str) (n:Nat) (wi:L2.TI) (gt:TG) (tt:TT) (te:TE),gens=[⟨tg,iter,tl.toList,0⟩]/\CompOk X xs scope/\PI X tg iter wi/\xs.length=n/\(∀C0 s H fp,PG (X.block xs scope C0 s H fp) tg gt)/\(∀C0 s H fp,PTO (X.block xs scope C0 s H fp) tl tt) /\
 (∀C0 s H fp,PE ((X.block xs scope C0 s H fp).wish (QcW E (X.block xs scope C0 s H fp))) elt te)/\(∀v,foldedSetIterable iter X.env v=pure v)/\∀Y H Q,Y.length=X.N.length->t Y H Q->Qay wi n gt tt te Y H Q
def Qpq(T:Tbl)(A:Adr)(cf:Cf)(E:XK)(k m:Nat):Prop:=∀{C:Ctx} {X:Cx},GX T A C X.nox->QeP X E->Frm X->Fc X.nox T A cf k->Room (k+1) X.A ->
 (∀d e x,xE m C e=some x->PE X e (TXE T A X.K (evX T cf x d) E))/\∀d es x,xA m C es=some x->PA X es (TXA T A X.K (evX T cf x d) E)
def Qgn(IH:Qpq T A cf E k m)(g:GX T A C X.nox)(fr:Frm X)(F:Fc X.nox T A cf k)(hr:Room (k+1) X.A){elt:Expr}{gens:List Comprehension}{scope:Scope}{p:Pos}{x:EX}(h:xE (m+1) C (.ListComp elt gens scope p)=some x)(d:Nat):
  hdC C=false/\CompPX X E elt gens scope (TXE T A X.K (evX T cf x d) E):=by
 simp only[xE]at h;split at h
 case h_2=>cases h
 rename_i gn hgen;rw[Xy]at h;obtain⟨ok,h⟩:=h;simp only[Xe,Vt]at ok;obtain⟨⟨ok,hh⟩,tln⟩:=ok;simp only[Xb]at h;obtain⟨src,hsrc,h⟩:=h;rw[Xy]at h;obtain⟨oks,h⟩:=h;simp only[Xb,Xc]at h;obtain⟨el,hel,x',hx',rfl⟩:=h;obtain⟨tg,rfl,htg⟩:=JK hgen;obtain⟨ck,gb⟩:=ZN g ok;have N:Snd2 T A C X.nox cf m:=Qcs m g F (λv=>hr) hr.units
 have hn:gn.xs.length=nN gn.b:=by
  rcases htg with⟨e,x,p,_,e'⟩|⟨e,x,p,y,q,k,pt,_,e'⟩<;>rw[e,e']<;>rfl
 refine⟨hh,tg,gn.iter,gn.tl,gn.xs,nN gn.b,_,gT X.K (tgN gn.b X.N.length),λv H Q=>Q true H,λY H Q=>Iv.TI T A X.K (ev T cf d el) Y H Q\/TXE T A X.K (evX T cf x' d) E Y H Q,rfl,⟨ck.kind,ck.loc,ck.all,ck.hid,ck.nd,ck.dot⟩,Qma (N.w d gn.iter src tg hsrc (Qa9 htg oks)),hn,(λC0 s H fp=>show PG (X.nox.block gn.xs scope C0 s H fp) tg _ from Qad g hh ck (gb C0 s H fp) htg),(λC0 s H fp=>?_),(λC0 s H fp=>?_),QaI hsrc,λY H Q hl hq=>QcK g.txt hl hq⟩
 ·rw[Option.isNone_iff_eq_none.mp tln];exact λv v v z=>z
 ·have S2:Snd2 T A (C.inner gn.xs scope) (X.nox.block gn.xs scope C0 s H fp) cf m:=Qcs m (gb C0 s H fp) ⟨F.ok,F.some,F.df,F.xf,F.hk⟩ (λv=>hr) hr.units;have P1:PE (X.nox.block gn.xs scope C0 s H fp) elt (Iv.TI T A X.K (ev T cf d el)):=S2.s.e d elt el hel;have P2:PE ((X.block gn.xs scope C0 s H fp).wish (QcW E (X.block gn.xs scope C0 s H fp))) elt (TXE T A X.K (evX T cf x' d) E):=(IH (C:=C.inner gn.xs scope) (X:=(X.block gn.xs scope C0 s H fp).wish (QcW E (X.block gn.xs scope C0 s H fp))) (gb C0 s H fp) Qqm fr ⟨F.ok,F.some,F.df,F.xf,F.hk⟩ hr).1 d elt x' hx';exact Qox (PE.nox (X:=(X.block gn.xs scope C0 s H fp).wish (QcW E (X.block gn.xs scope C0 s H fp))) P1) P2
def CompPX.pe{elt:Expr}{gens:List Comprehension}{scope:Scope}{pos:Pos}{t:TE}(hx:QeP X E)(fr:Frm X)(hc:X.calm=true)(h:CompPX X E elt gens scope t):PE X (.ListComp elt gens scope pos) t:=λpins s Y H Q I q=>by
 obtain⟨tg,iter,tl,xs,n,wi,gt,tt,te,rfl,ck,hi,hn,hg,ht,he,hf,imp⟩:=h;exact Qb4 hx fr hc ck hi hn hg ht he hf pins s Y H Q I (imp Y H Q I.len q)
def Qc2(h:xE m C e=some x):∀y p,e≠.Starred y p:=by
 rintro y p rfl;cases m<;>simp[xE]at h
theorem Qjk:∀m,Qpq T A cf E k m
 |0,_,_=>λg hx fr F hr=>⟨λd e x h=>by simp[xE]at h,λd es x h=>by simp[xA]at h⟩
 |m+1,C,X=>by
  intro g hx fr F hr;have IH:=Qjk m g hx fr F hr;have N:Snd2 T A C X.nox cf m:=Qcs m g F (λw=>hr) hr.units;refine⟨λd e x h=>?_,λd es x h=>?_⟩
  ·cases e with
   |Call g0 as ks q=>
    cases as with
    |nil=>cases h
    |cons a r=>
     simp only[xE]at h;rw[Option.ite_none_left_eq_some,Xb]at h;obtain⟨ns,i,hi,h⟩:=h;obtain⟨f,p,rfl,rfl,hh,gf,df,lf,hF⟩:=QjC hi;obtain⟨Fn,hF⟩:=Wy.mp hF;rw[g.CT]at hF
     have ns:=Qp4 (show Qiz (a::r)=true by simpa using ns)
     have own:∀y,QnB m C i (a::r)=some y->PE X (.Call (.Name f p) (a::r) [] q) (TXE T A X.K (evX T cf y d) E):=λy hy=>by
      unfold QnB at hy;rw[Xy,Xc]at hy;obtain⟨_,es,ha,rfl⟩:=hy;exact Qif hx g F (hr.mono (Uk _)) N.s gf df lf ha
     have arg:∀y,xA m C (a::r)=some y->PE X (.Call (.Name f p) (a::r) [] q) (TXE T A X.K (evX T cf y d) E):=λy hy=>Qik g F gf df lf hF ns (IH.2 d _ _ hy)
     rcases QgS h with⟨y,z,h1,h2,rfl⟩|h1|h1
     ·exact Ql4 (own y h1) (arg z h2)
     ·exact own x h1
     ·exact arg x h1
   |Tuple es c p=>exact QY (QgN (IH.2 d es x h)) λY H Q z=>z
   |ListComp elt gens scope p=>
    obtain⟨hh,cp⟩:=Qgn (Qjk m) g fr F hr h d;exact cp.pe hx fr (g.calm hh)
   |_=>cases h
  ·cases es with
   |nil=>cases h
   |cons e r=>
    simp only[xA]at h
    have one:∀y,xE m C e=some y->PA X (e::r) (TXA T A X.K (evX T cf y d) E):=λy hy pos pins s Y H Q I q=>
     Zk (t:=λw w w=>False) (IH.1 d e y hy) (Qjh λw w w z=>z) (Qk (Qc2 hy)) pos pins s Y H Q I q
    have two:∀y,((Qe m C e).bind λe'=>(xA m C r).map (.arg e'))=some y->PA X (e::r) (TXA T A X.K (evX T cf y d) E):=λy hy pos pins s Y H Q I q=>by
     simp only[Xb,Xc]at hy;obtain⟨e',he,z,hz,rfl⟩:=hy;refine Zk (PE.nox (N.s.e d e e' he)) (IH.2 d r z hz) (Qk (Qw he)) pos pins s Y H Q I ?_;obtain⟨α,ρ,hs,c,hs',rs,R,e,q⟩:=q;simp only[evX]at e;obtain⟨u,h1,e1,e⟩:=Qb e;exact TI.run rs R e1 λα1 v H1 E1 R1 r1 rs1=>⟨α1,ρ,h1,c,hs',rs1,R1,e,λα2 H2 dd E2 R2 f2=>q α2 H2 dd (E1.trans E2 R2.h) R2 f2⟩
    rcases QgS h with⟨y,z,h1,h2,rfl⟩|h1|h1
    ·exact Ql5 (one y h1) (two z h2)
    ·exact one x h1
    ·exact two x h1
def Qj3{tg:Option Expr}{l:Nat}{env:Env}(h:xE m C e=some x)(hn:∀elt gens scope p,e≠.ListComp elt gens scope p):swapsWith e tg l env=pure false:=by
 cases m with
 |zero=>cases h
 |succ m=>
  cases e with
  |ListComp elt gens scope p=>exact absurd rfl (hn elt gens scope p)
  |_=>first|rfl|cases h
def QcG{pins:List (Addr×Obj)}{H':Hp}{s':Shared}{e C:Addr}{dd:Option Addr}{B:Heap}{a0:Value}{E2:Value->Shared->Prop}{L:Addr}(hst:X.stack=X.env::X.outer)(hf:X.env.frame=some L)(hex:X.ex=[])(J:Inv X pins Y H' s')(f:L2.Fl X B e C a0 s'.heap)(cv:CovX X B H')
  (hn:H' e=none) (h0:∀o,X.s₀.heap.get? e=some o->e∈X.ex) (da:DictAt s'.heap e dd) (hE:E (.ref C) dd H'):wpAny (model X.prog X.w) X.A (leaving X.env (.ref e)) (λv s''=>CXw X.prog X.w X.outer X.H₀ X.s₀ E (.ref e) s'') E2 s':=by
 have cv':Cov B H' X.s₀ X.outer:=⟨cv.trk,λb o q hb=>cv.old b o q (λz=>by
  rcases Xg.mp (J.stkSub b z)with w|w
  ·exact X1 (Xr (Xk q) J.ok.above) w
  ·exact hb w) (by rw[hex];simp)⟩
 have h0':X.s₀.heap.get? e=none:=by
  cases q:X.s₀.heap.get? e with
  |none=>rfl
  |some o=>have:=h0 o q;rw[hex]at this;cases this
 rcases f with fl|⟨L',hf',fl⟩
 ·exact QdY hst hf hex J fl cv' hn h0' da hE
 ·rw[hst]at fl;unfold leaving;refine Xa (PySem.wpAny_noteFrame_againW hf' fl.2.2.2 ?_);refine Xo (Yy (E:=λv v=>False) ZL (wpAny_landsW (s:=s') (Q:=λv s''=>∃h',s''={s' with heap:=h'}/\Heap.FlyingW B (X.env::X.outer) e (.ref C) a0 h'/\s'.heap.UpToSlots h') fl λh' x y=>⟨h',rfl,x,y⟩)) (λv s'' u=>?_) λv v z=>z.1.elim;obtain⟨⟨h',e',fl',up⟩,dk⟩:=u;subst e';obtain⟨k1,k2,⟨_,_,k3⟩,k4⟩:=fl';have b:=J.base;rw[hex]at b;obtain⟨un,hok⟩:=QbR b J.hok J.ok.funs J.ok.frf fl.1 k1 up cv';exact⟨e,C,H',B,a0,dd,rfl,J.os,J.bare,un,hok,⟨k1,k2,k3,k4⟩,cv',hn,h0',da.dk dk,hE⟩
def Qnb{stt:Stmt}{n:Iv.S}(hx:QeP X E)(bX:Bd X)(g:GX T A C X.nox)(fl:∀x,X.fn x=true\/X.env.scope.names.lookup x=some .local)(F:Fc X.nox T A cf k)(hr:Room (k+1) X.A)(hs:xS m C stt=some x):
  PS X stt (TX T A X.K (exX T cf (d+1) (.xal n x)) E):=by
 have fr:Frm X:=⟨_,_,_,bX.stk,bX.frm,bX.frm⟩
 have z:exX T cf (d+1) (.xal n x)=evX T cf x d:=by funext ρ hs;simp only[exX]
 rw[z]
 cases stt with
 |Assign ts e p=>
  simp only[xS]at hs;split at hs
  ·rename_i y hy;obtain⟨py,rfl⟩:=QbH hy;rw[Xy]at hs;obtain⟨hl,hs⟩:=hs;rw[Xe]at hl;obtain⟨i,hi⟩:=Wy.mp hl.2
   have hN:X.N[i]?=some y:=by have:=g.N;rw[show X.N=X.nox.N from rfl,this];exact Q3 hi
   by_cases hc:∃elt gens scope q,e=.ListComp elt gens scope q
   ·obtain⟨elt,gens,scope,q,rfl⟩:=hc
    cases m with
    |zero=>cases hs
    |succ m=>
     obtain⟨hh,cp⟩:=Qgn (Qjk m) g fr F hr hs d;intro pins s Y H D I w;obtain⟨tg,iter,tl,xs,n,wi,gt,tt,te,rfl,ck,hi',hn,hg,ht,he,hf,imp⟩:=cp;exact Qfp hx fr bX.cm g.nd ck hi' hn hg ht he hf hN (QaK (X:=X.nox) g hl.1) (fl y) pins s Y H D I (imp Y H _ I.len w)
   ·exact Zr (JB (i:=i) g.nd hN (QaK (X:=X.nox) g hl.1) ((Qjk m g hx fr F hr).1 d e x hs) (Qj3 hs λa b c q w=>hc ⟨a,b,c,q,w⟩) (fl y)) λD Y H w=>w
  ·cases hs
 |Return v p=>
  cases v with
  |none=>cases hs
  |some e=>exact Zr (Qdu ((Qjk m g hx fr F hr).1 d e x hs)) λD Y H w=>w
 |Expr e p=>
  simp only[xS]at hs;rw[Xy]at hs;obtain⟨nl,hs⟩:=hs
  exact Zr (Qab ((Qjk m g hx fr F hr).1 d e x hs) (Qj3 hs λa b c q w=>by rw[w]at nl;cases nl)) λD Y H w=>w
 |_=>cases hs
end
end
section
variable {c:Er}{H:Hp}{p:Pos}{ir:S}{st:Stmt}{T':Tbl}
section
variable {X:Cx}{T:Tbl}{A:Adr}{C:Ctx}{cf:Cf}{m k:Nat}{E:XK}
def TX.run{K:W.Frag}{α:List Addr}{ρ:Rho}{Y:St}{hs h1:Hs}{f:Rho->Hs->Option (Er×Hs)}{D:Ends}(rs:RS A α ρ Y)(rp:Rep T A K α hs H)(h:f ρ hs=some (c,h1))
  (q:∀α1 H1 dd,Ext α α1 H H1->Rep T A K α1 h1 H1->EF T H1 c dd->E (.ref (A.c c.1)) dd H1):TX T A K f E D Y H:=⟨α,ρ,hs,c,h1,rs,rp,h,q⟩
def Qfj{e f:Option Expr}{c:Nat}{args:List Expr}(h:Qfk C e f=some (c,args)): ∃x px q,e=some (.Call (.Name x px) args [] q)/\f=none/\ZI C x=true/\x≠"__debug__"/\C.gl.lookup x=some (.cls c)/\C.T.ers.contains c=true:=by
 unfold Qfk at h;split at h
 ·split at h
  ·rename_i q;simp only[Xe,Xs]at q;split at h
   ·rename_i z;split at h
    ·rename_i z2;cases h;exact⟨_,_,_,rfl,rfl,q.1,q.2,z,z2⟩
    ·cases h
   ·cases h
  ·cases h
 ·cases h
structure SndX(T:Tbl)(A:Adr)(C:Ctx)(X:Cx)(cf:Cf)(E:XK)(m:Nat):Prop where
 s:∀d st ir,QR m C st=some ir->PS X st (TX T A X.K (exX T cf d ir) E)
 ss:∀d sts irs,compSs m C sts=some irs->PSs X sts (TX T A X.K (exsX T cf d irs) E)
def SndX.sB{E:XK}(SS:SndX T A C X cf E m)(d:Nat)(st:Stmt):PS X st (TX T A X.K (exX T cf d (Ql1 (QR m C st))) E):=by
 cases e:QR m C st with
 |some ir=>exact SS.s d st ir e
 |none=>exact Zy λD Y H y=>by obtain⟨_,_,_,_,_,_,_,z,_⟩:=y;cases d<;>simp[Ql1,exX]at z
noncomputable def kdX:S->Bool
 |.rse ..|.ite ..|.xal ..|.loop ..=>true
 |_=>false
def nx(o:Option S):Prop:=∀ir,o=some ir->kdX ir=false
def Q2:nx none:=λz h=>nomatch h
def Zw{s:S}(h:kdX s=false):nx (some s):=λz e=>by cases e;exact h
def Zl{α:Type}{o:Option α}{f:α->Option S}(h:∀a,nx (f a)):nx (o.bind f):=by
 cases o with
 |none=>exact Q2
 |some a=>exact h a
def QdM{α:Type}{o:Option α}{f:α->S}(h:∀a,kdX (f a)=false):nx (o.map f):=by
 cases o with
 |none=>exact Q2
 |some a=>exact Zw (h a)
def Qcz{c:Prop}[Decidable c]{a b:Option S}(ha:nx a)(hb:nx b):nx (if c then a else b):=by
 by_cases h:c
 ·rw[if_pos h];exact ha
 ·rw[if_neg h];exact hb
def Qae(h1:∀e f p,st≠.Raise e f p)(h2:∀t a b p,st≠.If t a b p)(h3:∀tg it a o p,st≠.For tg it a o p):nx (QR (m+1) C st):=by
 cases st with
 |Raise e f p=>exact absurd rfl (h1 e f p)
 |If t a b p=>exact absurd rfl (h2 t a b p)
 |Pass=>exact Zw rfl
 |Break=>exact Zw rfl
 |Continue=>exact Zw rfl
 |Expr e p=>
  unfold QR;dsimp only;generalize Qn2 e=z
  rcases z with _|_|_
  ·exact QdM λw=>rfl
  ·exact Q2
  ·exact Zw rfl
 |Return v p=>
  cases v with
  |none=>exact Zw rfl
  |some e=>exact QdM λw=>rfl
 |Assign ts e p=>
  unfold QR;dsimp only;generalize Qgk ts=z
  rcases z with _|z
  ·exact Q2
  ·cases z with
   |nm x=>exact Qcz (Zl λw=>Zl λw=>Zw rfl) Q2
   | «at» o f=>exact Qcz (Zl λw=>Zl λw=>Zl λw=>Zw rfl) Q2
   |sub o i=>exact Qcz (Zl λw=>Zl λw=>Zl λw=>Zw rfl) Q2
   |two x p y q=>
    refine Qcz (Zl λw=>Zl λw=>?_) Q2;generalize QgR e=z
    rcases z with _|⟨a,b⟩
    ·exact Qcz (QdM λw=>rfl) Q2
    ·exact Q2
   |many es=>exact Q2
 |Try b hs o fn p=>
  unfold QR;dsimp only;generalize Qdb C b hs o fn=z
  rcases z with _|z
  ·exact Q2
  ·exact Qcz (Zl λw=>Zl λw=>Zw rfl) Q2
 |For tg it a o p=>exact absurd rfl (h3 tg it a o p)
 |_=>exact Q2
def Qqk(C:Ctx)(m:Nat)(tg it:Expr)(a:List Stmt):S->Prop
 |.loop t s b=>YA C tg=some t/\compSrc m C it=some s/\QaG s t=true/\compSs m C a=some b
 |_=>False
def Yg{tg it:Expr}{a o:List Stmt}(h:QR (m+1) C (.For tg it a o p)=some ir):o=[]/\Qqk C m tg it a ir:=by
 cases o with
 |cons _ _=>exact nomatch (show none=some _ from h)
 |nil=>
  unfold QR at h;try dsimp only at h;simp only[Xb]at h;obtain⟨tg',ht,it',hi,h⟩:=h;split at h
  ·rename_i ok;simp only[Xb]at h;obtain⟨a',ha,h⟩:=h;cases h;exact⟨rfl,ht,hi,ok,ha⟩
  ·cases h
def Qmu(st:Stmt):(∃e f p,st=.Raise e f p)\/(∃t a b p,st=.If t a b p)\/(∃tg it a o p,st=.For tg it a o p)\/((∀e f p,st≠.Raise e f p)/\(∀t a b p,st≠.If t a b p)/\∀tg it a o p,st≠.For tg it a o p):=by
 cases st with
 |Raise e f p=>exact .inl ⟨e,f,p,rfl⟩
 |If t a b p=>exact .inr (.inl ⟨t,a,b,p,rfl⟩)
 |For tg it a o p=>exact .inr (.inr (.inl ⟨tg,it,a,o,p,rfl⟩))
 |_=>exact .inr (.inr (.inr ⟨λy y y z=>(nomatch z),λy y y y z=>(nomatch z),λy y y y y z=>(nomatch z)⟩))
def ZE{e f:Option Expr}(h:QR (m+1) C (.Raise e f p)=some ir):ir=.bad\/∃c args es,Qfk C e f=some (c,args)/\compA m C args=some es/\ir=.rse c es:=by
 unfold QR at h;try dsimp only at h;split at h
 ·rename_i c args hr;simp only[Xb]at h;obtain⟨es,he,h⟩:=h;cases h;exact .inr ⟨c,args,es,hr,he,rfl⟩
 ·cases h;exact .inl rfl
def YR{t0:Expr}{a0 b0:List Stmt}(h:QR (m+1) C (.If t0 a0 b0 p)=some ir):∃t a b,compT m C t0=some t/\compSs m C a0=some a/\compSs m C b0=some b/\ir=.ite t a b:=by
 unfold QR at h;simp only[Xb]at h;obtain⟨t',ht,a',ha,b',hb,h⟩:=h;cases h;exact⟨t',a',b',ht,ha,hb,rfl⟩
def Qeo{c:Nat}{es:List Iv.E}(h:QR (m+1) C st=some (.rse c es)): ∃x px q args p,st=.Raise (some (.Call (.Name x px) args [] q)) none p/\compA m C args=some es/\ZI C x=true/\x≠"__debug__"/\C.gl.lookup x=some (.cls c)/\C.T.ers.contains c=true:=by
 rcases Qmu st with⟨e,f,p,rfl⟩|⟨t,a,b,p,rfl⟩|⟨tg,it,a,o,p,rfl⟩|⟨h1,h2,h3⟩
 ·rcases ZE h with z|⟨c',args,es',hr,he,z⟩
  ·cases z
  ·cases z;obtain⟨x,px,q,rfl,rfl,h1,h2,h3,h4⟩:=Qfj hr;exact⟨x,px,q,args,p,rfl,he,h1,h2,h3,h4⟩
 ·obtain⟨_,_,_,_,_,_,z⟩:=YR h;cases z
 ·exact(Yg h).2.elim
 ·exact nomatch Qae h1 h2 h3 _ h
def Qep{t:Iv.E}{a b:List S}(h:QR (m+1) C st=some (.ite t a b)):∃t0 a0 b0 p,st=.If t0 a0 b0 p/\compT m C t0=some t/\compSs m C a0=some a/\compSs m C b0=some b:=by
 rcases Qmu st with⟨e,f,p,rfl⟩|⟨t0,a0,b0,p,rfl⟩|⟨tg,it,a,o,p,rfl⟩|⟨h1,h2,h3⟩
 ·rcases ZE h with z|⟨_,_,_,_,_,z⟩<;>cases z
 ·obtain⟨t',a',b',ht,ha,hb,z⟩:=YR h;cases z;exact⟨t0,a0,b0,p,rfl,ht,ha,hb⟩
 ·exact(Yg h).2.elim
 ·exact nomatch Qae h1 h2 h3 _ h
def QcL{t:Tg}{s:Src}{b:List S}(h:QR (m+1) C st=some (.loop t s b)):∃tg it a p,st=.For tg it a [] p/\YA C tg=some t/\compSrc m C it=some s/\QaG s t=true/\compSs m C a=some b:=by
 rcases Qmu st with⟨e,f,p,rfl⟩|⟨t0,a0,b0,p,rfl⟩|⟨tg,it,a,o,p,rfl⟩|⟨h1,h2,h3⟩
 ·rcases ZE h with z|⟨_,_,_,_,_,z⟩<;>cases z
 ·obtain⟨_,_,_,_,_,_,z⟩:=YR h;cases z
 ·obtain⟨rfl,q⟩:=Yg h;exact⟨tg,it,a,p,rfl,q⟩
 ·exact nomatch Qae h1 h2 h3 _ h
def Qen{n:S}{x:EX}(h:QR (m+1) C st=some (.xal n x)):False:=by
 rcases Qmu st with⟨e,f,p,rfl⟩|⟨t0,a0,b0,p,rfl⟩|⟨tg,it,a,o,p,rfl⟩|⟨h1,h2,h3⟩
 ·rcases ZE h with z|⟨_,_,_,_,_,z⟩<;>cases z
 ·obtain⟨_,_,_,_,_,_,z⟩:=YR h;cases z
 ·exact(Yg h).2
 ·exact nomatch Qae h1 h2 h3 _ h
def Ql7{st:List Stmt}{t:TS}(h:PSs X.nox st t):PSs X st t:=λpins s Y H D I hw=>
 Xo (h pins s Y H D (I.wish _) hw) (λy y q=>q.unwish) λy y z=>False.elim z
def Ql8{b:List Stmt}{t1 t2:TS}(h1:PSs X b t1)(h2:PSs X b t2):PSs X b (λD Y H=>t1 D Y H\/t2 D Y H):=λpins s Y H D I z=>z.elim (h1 pins s Y H D I) (h2 pins s Y H D I)
def Qd9{d:Nat}{body:List S}{w:Wk}{t:Tg}{J:It}{D:Ends}{α0:List Addr}{H0:Hp}{σ0:St}{ρ0:Rho}{h0 hs':Hs}{n:Nat}(tx:Txt T A X.K X.mg)(rs0:RS A α0 ρ0 σ0)(R0:Rep T A X.K α0 h0 H0)(W0:WJ A X.K α0 J H0 w)
  (e0:Qea T w t (exs T cf d body) (exsX T cf d body) n 0 ρ0 h0=some (c,hs'))
  (q:∀α' H' dd,Ext α0 α' H0 H'->Rep T A X.K α' hs' H'->EF T H' c dd->E (.ref (A.c c.1)) dd H'):
  ∃W:Nat->Nat->St->Hp->Prop,(∃m,W 0 m σ0 H0)/\∀i m Y H,W i m Y H->(J.stop i H/\D.nx Y H)\/(J.go i H/\∃N:St->Hp->Prop,(∀Y' H',N Y' H'->∃m',m'<m/\W (i+1) m' Y' H') /\
   ∀x H',J.yld i H x H'->gT X.K t x Y H' λσ2 H2=>TIS T A X.K (exs T cf d body) {D with nx:=N,ct:=N,bk:=D.nx} σ2 H2\/TX T A X.K (exsX T cf d body) E {D with nx:=N,ct:=N,bk:=D.nx} σ2 H2):=by
 refine⟨λi m Y H=>∃α ρ hs,RS A α ρ Y/\Rep T A X.K α hs H/\Ext α0 α H0 H/\Qea T w t (exs T cf d body) (exsX T cf d body) m i ρ hs=some (c,hs'),⟨n,α0,ρ0,h0,rs0,R0,Ext.refl,e0⟩,?_⟩;rintro i m Y H ⟨α,ρ,hs,rs,R,E0,e⟩
 cases m with
 |zero=>cases e
 |succ m=>
  have W:=W0.mono E0.pre E0.fz;simp only[Qea]at e;split at e
  ·cases e
  ·cases e
  ·rename_i x ei;split at e
   ·cases e
   ·rename_i ρ1 et;obtain⟨go,yl⟩:=JG tx R W rs ei et;refine .inr ⟨go,λY' H'=>∃α ρ hs,RS A α ρ Y'/\Rep T A X.K α hs H'/\Ext α0 α H0 H'/\Qea T w t (exs T cf d body) (exsX T cf d body) m (i+1) ρ hs=some (c,hs'),λY' H' z=>⟨m,W4 _,z⟩,?_⟩;intro v H' hy;refine yl v H' _ hy λσ2 rs2 R2 E2=>?_;have E02:Ext α0 α H0 H':=E0.trans E2 R2.h;split at e
    ·rename_i ρ2 h2 eb;exact .inl (TIS.run rs2 R2 eb λα3 σ3 H3 E3 R3 rs3=>⟨α3,ρ2,h2,rs3,R3,E02.trans E3 R3.h,e⟩)
    ·rename_i ρ2 h2 eb;exact .inl (TIS.run rs2 R2 eb λα3 σ3 H3 E3 R3 rs3=>⟨α3,ρ2,h2,rs3,R3,E02.trans E3 R3.h,e⟩)
    ·cases e
    ·exact .inr (TX.run rs2 R2 e λα3 H3 dd E3 R3 f3=>q α3 H3 dd (E02.trans E3 R3.h) R3 f3)
theorem QoM(hxi:∀pins Y H s e oe vs a0 c,Inv X pins Y H s->H e=none->X.s₀.heap.get? e=none->e≠X.env.locals->s.heap.get? e=some oe->oe.cls=.ref (A.c c)->oe.data=.fields vs->vs[0]?=some a0->vs[1]?=some .none->E (.ref (A.c c)) oe.dict H->X.xe (.ref e) s)(hxf:QeP X E)(hpo:PassesOwn (model X.prog X.w) X.A X.env X.xe)(bX:Bd X)(g:GX T A C X.nox)(fl:∀x,X.fn x=true\/X.env.scope.names.lookup x=some .local)(F:Fc X.nox T A cf k)(hr:Room (k+1) X.A)(hr3:Room 3 X.A):∀m,SndX T A C X cf E m
 |0=>⟨λd st ir h=>by first|exact Znn h|simp[QR]at h,λd sts irs h=>by exact Znn h⟩
 |m+1=>by
  have IH:=QoM hxi hxf hpo bX g fl F hr hr3 m;have N:Snd2 T A C X.nox cf m:=Qcs m g F (λy=>hr) hr.units;have NS:SndS T A C X.nox cf m:=Qm6 (X:=X.nox) ⟨bX.stk,bX.frm,bX.ex,bX.cm⟩ g fl F hr m;refine⟨λd st ir h=>?_,λd sts irs h=>?_⟩
  ·cases d with
   |zero=>exact Zy λD Y H v=>by obtain⟨_,_,_,_,_,_,_,e,_⟩:=v;cases e
   |succ d=>
   cases ir with
   |rse c es=>
    obtain⟨x,px,q,args,p,rfl,ha,g1,g2,g3,g4⟩:=Qeo h;have cl:=g.gcl x c g3;rw[g.CT]at g4;obtain⟨f,x1,hf,uq,hx1,hh,hfi,fI,fd,ps,MI,bI,FI⟩:=(g.txt.er c g4).2;have ln:=QO ha
    cases args with
    |nil=>
     have ee:es=[]:=by simpa using ln
     subst ee;refine Zr (Qdv (W:=λdd H=>E (.ref (A.c c)) dd H) (E0:=λy y y=>True) MI (FI _ _ _) hr3 bI rfl Qcx (show Gl X x from Q5 (X:=X.nox) g g1) cl bX.cm bX.ex (λpins Y H s e oe vs a0=>hxi pins Y H s e oe vs a0 c) (QV g2)) ?_;rintro D Y H ⟨α,ρ,hs,c',hs',rs,R,e,q⟩;simp only[exX,evs,bd,rsv,List.isEmpty_nil,Wg,Up]at e;rw[Xy]at e;obtain⟨_,e⟩:=e;cases e;intro d od hd;obtain⟨R',E'⟩:=R.side (ho:=.frz od (.xd [(x1,.non)])) hd;refine q α _ (some d) E' R' λf' hf'=>?_;cases uq f' hf';exact⟨d,od,x1,.non,rfl,hx1,Qh,λy=>rfl⟩
    |cons a r=>
     refine Zy λD Y H u=>?_;obtain⟨α,ρ,hs,c',hs',rs,R,e,q⟩:=u;simp only[exX]at e;obtain⟨us,h1,e1,e⟩:=Qb e;rw[Xy]at e;obtain⟨_,e⟩:=e
     have en:us.isEmpty=false:=by
      have:=Yr e1
      cases us with
      |nil=>rw[<-this]at ln;cases ln
      |cons _ _=>rfl
     simp only[rsv,en,Wp,Vn,Option.map_none]at e;cases e
   |ite t a b=>
    obtain⟨t0,a0,b0,p,rfl,ht,ha,hb⟩:=Qep h;refine Zr (Qh4 (PT.nox (N.s.t d t0 t ht).1) (IH.ss d a0 a ha) (IH.ss d b0 b hb)) ?_;rintro D Y H ⟨α,ρ,hs,c',hs',rs,R,e,q⟩;simp only[exX]at e;split at e
    ·rename_i h1 e1;refine TIT.run rs R e1 λα1 H1 E1 R1 rs1=>?_;rw[if_pos rfl];exact TX.run rs1 R1 e λα2 H2 dd E2 R2 f2=>q α2 H2 dd (E1.trans E2 R2.h) R2 f2
    ·rename_i h1 e1;refine TIT.run rs R e1 λα1 H1 E1 R1 rs1=>?_;rw[if_neg Xn];exact TX.run rs1 R1 e λα2 H2 dd E2 R2 f2=>q α2 H2 dd (E1.trans E2 R2.h) R2 f2
    ·cases e
   |xal n x=>exact(Qen h).elim
   |loop t s b=>
    obtain⟨tg,it,a,p,rfl,ht,hi,ok,ha⟩:=QcL h;refine Zr (QgJ hpo bX.cm (Qma (N.w d it _ tg hi (Qgz ht ok))) (Qow (QoO (X:=X.nox) bX.cm g fl ht)) (Ql8 (Ql7 (NS.ss d a b ha)) (IH.ss d a b ha)) (QaI hi)) ?_;rintro D Y H ⟨α,ρ,hs,c',hs',rs,R,e,q⟩;simp only[exX]at e;obtain⟨w,h1,e1,e⟩:=Qb e;refine⟨α,ρ,hs,w,h1,rs,R,e1,λα1 J H1 E1 R1 W1=>?_⟩;exact Qd9 g.txt (rs.mono E1.pre) R1 W1 e λα2 H2 dd E2 R2 f2=>q α2 H2 dd (E1.trans E2 R2.h) R2 f2
   |_=>exact Zy λD Y H o=>by obtain⟨_,_,_,_,_,_,_,e,_⟩:=o;simp[exX]at e
  ·cases d with
   |zero=>exact ZU λD Y H l=>by obtain⟨_,_,_,_,_,_,_,e,_⟩:=l;cases e
   |succ d=>
   cases sts with
   |nil=>
    cases h
    exact ZU λD Y H j=>by obtain⟨_,_,_,_,_,_,_,e,_⟩:=j;simp[exsX]at e
   |cons st r=>
    simp only[compSs,Xb]at h;obtain⟨s',hs',r',hr',h⟩:=h;cases h
    have IS:PS X st (TX T A X.K (exX T cf d s') E):=by
     cases hs';unfold QmH;split
     ·rename_i x hx
      cases d with
      |zero=>exact Zy λD Y H i=>by obtain⟨_,_,_,_,_,_,_,e,_⟩:=i;cases e
      |succ d=>exact Qnb hxf bX g fl F hr hx
     ·exact IH.sB d st
    intro pins s Y H D I z;obtain⟨α,ρ,hs,c',hs2,rs,R,e,q⟩:=z;simp only[exsX]at e;split at e
    ·rename_i ρ1 h1 e1;refine ZP (Qov (Qhd hs' (λd=>NS.sB d st) d)) (IH.ss d r r' hr') pins s Y H D I ?_;exact TIS.run rs R e1 λα1 σ1 H1 E1 R1 rs1=>TX.run (D:=D) rs1 R1 e λα2 H2 dd E2 R2 f2=>q α2 H2 dd (E1.trans E2 R2.h) R2 f2
    ·cases e
    ·refine ZP IS (ZU (t:=λy y y=>False) λy y y z=>z) pins s Y H D I ?_;exact TX.run (D:=D) rs R e q
end
section
variable {P:Program}{w:World}{K:W.Frag}{mg:Str->Option Value}{base:Heap}{T:Tbl}{A:Adr}{gl:List (Str×G)}{bl:List Str}
def Qi1{rm:Nat}(tp:Top T A K mg gl bl)(tab:Jx P w T A K)(hb:Jp T gl bl)(hX:XOk P w K mg base T A rm)(m f:Nat)(F:Fn)(hF:T.fns[f]?=some F):∃fd,FnOk P w K mg base (CXw P w) (rm+2+2*m) (A.f f) fd F.ps (spX T A K (QI T m) f)/\Binds K fd F.ps []/\W.keepIn K (.ref (A.f f))=true:=by
 obtain⟨fd,fn,b,sc,lp,lN⟩:=tp.txt.fn f F hF;refine⟨fd,?_,b,fn.kp⟩
 cases m with
 |zero=>
  have no:∀vs H Q E,¬spX T A K (QI T 0) f vs H Q E:=λvs H Q E h=>by
   obtain⟨α,us,hs,u,hs',_,_,e,_⟩:=h;cases e
  exact⟨λvs H Q E h=>absurd h (no vs H Q E),λA outer s H args us vs Q E z z z z h=>absurd h (no vs H Q E)⟩
 |succ n=>
  obtain⟨oc,od,dV,kV,doc,pm,an,cdv,ct,osl,rfl,lk,hcd⟩:=fn.ex;obtain⟨m,hm⟩:=hb f F hF;have hm:=congrArg Prod.fst hm;dsimp only at hm;refine Qi0 (k:=rm+2+2*n+1) lk hcd sc (λvs H Q E h=>?_) (λA' outer s H vs Q E hr h=>?_)
  ·obtain⟨α,us,hs,u,hs',r,_,_,⟨F',h1,h2⟩,_⟩:=h;rw[hF]at h1;cases h1;rw[<-r.length,h2,lp]
  ·obtain⟨α,us,hs,c,hs',r,R,e,_,q⟩:=h;refine⟨TX T A K (exsX T (Qa T n) dd F.body) E,?_,?_⟩
   ·have gx:GX T A ⟨T,F.N,(Qg F.st).names,gl,bl,F.lc⟩ (Qao (CXw P w) P w K mg base F.N F.qual (Qg F.st) (A.f f) cdv A' outer s H E).nox :=
     ⟨rfl,rfl,sc.nd,rfl,λz=>rfl,sc.kind,rfl,tp.gfn,tp.gcl,tp.gco,tp.gtx,tp.blt,tp.txt,tab⟩
    have fc:=Qi4 (X:=(Qao (CXw P w) P w K mg base F.N F.qual (Qg F.st) (A.f f) cdv A' outer s H E).nox) (n:=n) tp hX (Qeb tp tab hb hX n)
    refine(QoM (X:=Qao (CXw P w) P w K mg base F.N F.qual (Qg F.st) (A.f f) cdv A' outer s H E) (λpins Y H1 s1 e oe vs a0 c I hn h0 hl he hc hd v0 v1 w=>?_) (λpins Y H1 s1 e C0 B a0 dd J fl cv hn h0 da w=>?_) ?_ ⟨rfl,rfl,rfl,rfl⟩ gx (λz=>.inl rfl) fc (hr.mono (by omega)) (hr.mono (by omega)) m).ss dd (Ze F.st) F.body hm
    ·exact Qbn (L:=_) rfl rfl rfl I hn h0 hl he hc hd v0 v1 w
    ·exact QcG (L:=_) rfl rfl rfl J fl cv hn h0 da w
    ·exact PassesOwn.leaving
   ·simp only[QI,hF]at e;split at e
    case isFalse=>cases e
    exact TX.run (JW r lN) R e q
def Qpb{dd:Option Addr}(h1:T'.fns'=T.fns')(h5:T'.efl=T.efl)(h:EF T H c dd):EF T' H c dd:=λf q=>by
 rw[h5]at q;rw[h1];exact h f q
def Qkq{α:List Addr}{hs:Hs}(h1:T'.fns'=T.fns')(h2:T'.cls=T.cls)(h3:T'.scr=T.scr)(h4:T'.ers=T.ers)(h5:T'.efl=T.efl)(R:Rep T A K α hs H):Rep T' A K α hs H:=by
 refine⟨⟨R.h.len,R.h.nd,λn a o e1 e2=>?_⟩,?_⟩
 ·have z:=R.h.ob n a o e1 e2
  cases o with
  |ins c fs=>
   obtain⟨dx,fv,q1,q2,q3⟩:=z
   refine⟨dx,fv,q1,?_,by rw[h2];exact q3⟩
   unfold RF at *;rw[h1];exact q2
  |err c w=>
   obtain⟨dd,q1,q2,q3⟩:=z
   exact⟨dd,q1,by rw[h4];exact q2,Qpb h1 h5 q3⟩
  |_=>exact z
 ·obtain⟨vs,q1,q2⟩:=R.s
  exact⟨vs,by rw[h3];exact q1,q2⟩
def Qmc{rm m:Nat}(hf:T'.fns=T.fns)(h1:T'.fns'=T.fns')(h2:T'.cls=T.cls)(h3:T'.scr=T.scr)(h4:T'.ers=T.ers)(h5:T'.efl=T.efl)(hx:T'.xf=QI T m)(tp:Top T A K mg gl bl)(tab:Jx P w T A K)(hb:Jp T gl bl)(hX:XOk P w K mg base T A rm):
  XOk P w K mg base T' A (rm+2+2*m):=λf F hF=>by
 rw[hf]at hF;obtain⟨fd,G,b,kp⟩:=Qi1 tp tab hb hX m f F hF;refine⟨fd,G.imp λvs H Q E h=>?_,b,kp⟩;obtain⟨α,us,hs,c,hs',r,R,e,⟨F',e1,e2⟩,q⟩:=h
 refine⟨α,us,hs,c,hs',r,Qkq h1.symm h2.symm h3.symm h4.symm h5.symm R,by rw[<-hx];exact e,⟨F',by rw[<-hf];exact e1,e2⟩,λα' H' dd E' R' f'=>q α' H' dd E' (Qkq h1 h2 h3 h4 h5 R') (Qpb h1 h5 f')⟩
def Qe2{x:Nat->List U->Hs->Option (Er×Hs)}(tp:Top T A K mg gl bl):Top {T with xf:=x} A K mg gl bl :=
 ⟨⟨tp.txt.fn,tp.txt.df,λi C e=>let c:=tp.txt.cl i C e;⟨c.cls,c.nf,c.me,c.mks,c.kp,c.ini,c.ty⟩,tp.txt.fm,tp.txt.fd,tp.txt.isi,tp.txt.co,tp.txt.er,tp.txt.es⟩,tp.gfn,tp.gcl,tp.gco,tp.gtx,tp.blt⟩
end
end
section
variable {n:Nat}
inductive AllI{α:Type}(P:Nat->α->Prop):Nat->List α->Prop where
 |nil {n:Nat}:AllI P n []
 |cons {n:Nat} {a:α} {r:List α}:P n a->AllI P (n+1) r->AllI P n (a::r)
def AllI.get{α:Type}{P:Nat->α->Prop}{l:List α}(h:AllI P n l)(i:Nat)(a:α)(e:l[i]?=some a):P (n+i) a:=by
 induction h generalizing i with
 |nil=>cases e
 |cons h _ ih=>
  cases i with
  |zero=>cases(show some _=some _ from e);exact h
  |succ i=>have:=ih i e;rw[Nat.add_assoc,Nat.add_comm 1 i]at this;exact this
def AllI.mem{α:Type}{P:α->Prop}{l:List α}(h:AllI (λz a=>P a) n l){a:α}(m:a∈l):P a:=by
 obtain⟨i,e⟩:=V3 m;exact AllI.get h i a e
def AllI.look{κ β:Type}[BEq κ][LawfulBEq κ]{P:κ->β->Prop}{l:List (κ×β)}(h:AllI (λz p=>P p.1 p.2) n l){k:κ}{b:β}(e:l.lookup k=some b):P k b:=AllI.mem (P:=λp=>P p.1 p.2) h (ZS e)
def gvP(A:Adr)(mg:Str->Option Value)(x:Str):G->Prop
 |.fn i=>mg x=some (.ref (A.f i))
 |.cls i=>mg x=some (.ref (A.c i))
 |.con k=>mg x=some (.ref (A.k k))
 |.txt t=>∃v w,mg x=some w/\RelV v w/\∀α,RU A α t v
section
variable {P:Program}{w:World}{K:W.Frag}{mg:Str->Option Value}{base:Heap}{T:Tbl}{A:Adr}{gl:List (Str×G)}{bl:List Str}
def Qpr(A:Adr)(K:W.Frag)(k:Nat)(c:Co):Prop:=match c with
 |Co.tup xs=>∃vs,RUs A [] xs vs/\∀H,SqT K H (A.k k) vs
 |Co.lst xs=>∃vs,RUs A [] xs vs/\∀H,SqL K H (A.k k) vs
 |Co.tab _=>True
def QjR(fns:AllI (λi (F:Fn)=>∃fd,FunD K F.name F.qual F.st (A.f i) fd/\Binds K fd F.ps []/\FnScope F.N F.ps (Qg F.st)/\F.ps.length=F.np/\F.N.length=F.nN) 0 T.fns)
  (cls:AllI (λi C=>ClOk T A K i C) 0 T.cls)
  (fm:(T.fns'.all λx=>!(T.mns.contains x))=true) (fd:T.fns'.Nodup)
  (isi:AllI (λz p=>W.kitOne K (tyW A p.1.1) (tyW A p.1.2)=some p.2) 0 T.isi)
  (co:AllI (Qpr A K) 0 T.cons)
  (dfs:AllI (λz (p:Nat×Df)=>∃fd x q st,FunD K x q st (A.f p.1) fd/\Qjv A K fd p.2/\∀F,T.fns[p.1]?=some F->F.ps=p.2.ps/\F.np=p.2.np) 0 T.dfl)
  (g:AllI (λz (p:Str×G)=>gvP A mg p.1 p.2) 0 gl)
  (b:AllI (λz x=>mg x=none) 0 bl)
  (er:AllI (λz c=>ErrCls K (A.c c)/\∃f x,T.efl.contains (c,f)=true/\(∀f',T.efl.contains (c,f')=true->f'=f)/\T.fns'[f]?=some x/\Qcm K mg (A.c c) x) 0 T.ers)
  (es:AllI (λz (p:Nat×Nat)=>W.exmOne K (.ref (A.c p.1)) (.ref (A.c p.2))=some true) 0 T.esb):Top T A K mg gl bl where
 txt:={
  fn:=λi F e=>by simpa using fns.get i F e
  df:=λi D e=>AllI.look (P:=λi (D:Df)=>∃fd x q st,FunD K x q st (A.f i) fd/\Qjv A K fd D/\∀F,T.fns[i]?=some F->F.ps=D.ps/\F.np=D.np) dfs e
  cl:=λi C e=>by simpa using cls.get i C e
  fm:=λx m n=>by
   have:=Xz.mp fm x m;simp at this;exact this n
  fd:=fd
  isi:=λk t b e=>AllI.look (P:=λ(q:Ty×Ty) b=>W.kitOne K (tyW A q.1) (tyW A q.2)=some b) isi e
  co:=λk c e=>by
   have:=co.get k c e;simp only[Vo]at this;exact this
  er:=λc h=>AllI.mem er (by simpa using h)
  es:=λc c' h=>AllI.mem (P:=λ(p:Nat×Nat)=>W.exmOne K (.ref (A.c p.1)) (.ref (A.c p.2))=some true) es (a:=(c,c')) (by simpa using h)}
 gfn:=λx i e=>AllI.look (P:=λx (q:G)=>gvP A mg x q) g e
 gcl:=λx i e=>AllI.look (P:=λx (q:G)=>gvP A mg x q) g e
 gco:=λx i e=>AllI.look (P:=λx (q:G)=>gvP A mg x q) g e
 gtx:=λx i e=>AllI.look (P:=λx (q:G)=>gvP A mg x q) g e
 blt:=λx h=>by
  have:bl.contains x=true:=by cases q:bl.contains x with|true=>rfl|false=>exact absurd q h
  exact AllI.mem (P:=λx=>mg x=none) b (by simpa using this)
def QeA(h:AllI (λi (F:Fn)=>(compSs 100 ⟨T,F.N,(Qg F.st).names,gl,bl,F.lc⟩ (Ze F.st),if T.hfs.contains i=true then Qeq 100 ⟨T,F.N,(Qg F.st).names,gl,bl,F.lc⟩ (Ze F.st)else some F.body)=(some F.body,some F.body)) 0 T.fns):Jp T gl bl:=λi F e=>⟨100,by have z:=h.get i F e;rw[Vo]at z;exact z⟩
def tv{x:Str}{y:List Nat}{t:Tok}(h:x.cps.toList=y):∃v,RU A [] (.str y) v/\RelV v (.str x t):=by
 subst h;exact⟨.str x,rfl,⟨t,rfl⟩⟩
def tvi{i:Int}{t:Tok}:∃v,RU A [] (.int i 0) v/\RelV v (.int i t):=⟨.int i,⟨i,rfl,Cg.refl i 0⟩,⟨t,rfl⟩⟩
def Qfc(K:W.Frag):Sp:=λvs H Q z=>∃(a:Addr) (ns:List Int),vs=[.ref a]/\SqL K H a (ns.map V.int)/\QmD H/\ns.length<=63/\∀H',Q (.bl true) H'
def Abs:U->Int->Prop:=λu i=>∃r m,u=.int r m/\Cg i r m
def Abs.rus{s:List U}{ns:List Int}(h:Paired Abs s ns):RUs A [] s (ns.map V.int):=by
 induction h with
 |nil=>exact .nil
 | @cons _ i _ _ h _ ih=>obtain⟨r,m,e,c⟩:=h;subst e;exact .cons ⟨i,rfl,c⟩ ih
def Qli{tb:List U->Tbl}{adr:Addr->Adr}{L r:Nat}{F:Fn}{x:Str}{fd:FuncData}(hF:∀s,(tb s).fns[L]?=some F)(hs:∀s,(tb s).scr=s)(hps:F.ps=[x])(hnp:F.np=1)
  (hA:∀a,(adr a).s=a) (hf:∀a,(adr a).f=(adr 0).f)
  (tp:∀s a,Top (tb s) (adr a) K mg gl bl) (tab:∀s a,Jx P w (tb s) (adr a) K) (hb:∀s,Jp (tb s) gl bl) (hX:∀s a,XOk P w K mg base (tb s) (adr a) r)
  (hfun:FunD K F.name F.qual F.st ((adr 0).f L) fd)
  (comp:∀ns:List Int,ns.length<=63->∃s hs',Paired Abs s ns/\Qa (tb s) n L [.scr] []=some (.bl true,hs')):
  FnOk P w K mg base CX0 (r+2*n) ((adr 0).f L) fd [x] (Qfc K):=by
 refine⟨λvs H Q E y=>by obtain⟨a,ns,h,_⟩:=y;rw[h];rfl,λA0 outer s H args us vs Q E hr e0 hbd rel ⟨a,ns,h,hS,hO,hl,q⟩=>?_⟩
 obtain⟨sc,hs',pr,hc⟩:=comp ns hl;obtain⟨fd',G,_,_,_,hfun'⟩:=Qeb (base:=base) (tp sc a) (tab sc a) (hb sc) (hX sc a) n L F (hF sc);rw[hf a]at G hfun';have ef:=FunD.same hfun hfun';subst ef;rw[hps]at G;refine G.run A0 outer s H args us vs Q E hr e0 hbd rel ?_;subst h
 refine⟨[],[.scr],[],.bl true,hs',.cons (show V.ref a=V.ref (adr a).s by rw[hA]) .nil,⟨⟨rfl,(λi j a e u=>by simp at e),λn b o e u=>by simp at e⟩,ns.map V.int,by rw[hs];exact Abs.rus pr,?_⟩,hc,⟨F,hF sc,hnp.symm⟩,λα' v H' u u rv=>?_⟩
 ·rw[hA]
  rcases hS with(h|⟨o,h⟩)|h
  ·rcases hO a with z|⟨o,xs,z⟩
   ·rw[h]at z;cases z
   ·rw[h]at z;cases z
  ·exact .inl ⟨o,h⟩
  ·exact .inr h
 ·have:v=.bl true:=rv;subst this;exact q H'
end
end
section
noncomputable def Qa6(K:W.Frag)(a:Addr):FuncData:=match K.lookup a with
 |some o=>(match o.data with
  |.func fd=>fd
  |_=>default)
 |none=>default
noncomputable def fnT(F:Fn)(fd:FuncData):FuncData:=W.fnOf F.name F.qual (QbC F.st) (Ze F.st) (Qg F.st) fd.defaults fd.kwdefaults fd.doc fd.pyModule fd.annotations fd.code fd.closureTuple
noncomputable def vsN(n:Nat)(v:Nat->Value):List Value:=(List.range n).map v
def Qc4(us:List Value):us=vsN us.length λi=>us.getD i .none:=by
 apply List.ext_getElem?;intro i;simp only[vsN,Ui,List.getElem?_range',List.getD_eq_getElem?_getD];by_cases h:i<us.length
 ·rw[List.getElem?_range h];simp[Xp h]
 ·rw[Ue (To h),Ue (by simpa using To h)];rfl
noncomputable def scB(F:Fn)(sc:Scope):Bool:=decide (sc.kind=.function)&&(!sc.isCoroutine&&(!sc.isGenerator&&(decide F.N.Nodup&&(decide (F.N.take F.ps.length=F.ps)&&(F.ps.all (λx=>decide (sc.names.lookup x=some .local)||decide (sc.names.lookup x=some .cell))&&(sc.names.all (λy=>decide (y.2≠.free))&&(decide (F.ps.length=F.np)&&decide (F.N.length=F.nN))))))))
noncomputable def fnB(K:W.Frag)(F:Fn)(a:Addr):Bool:=W.fnIn K a&&(W.codeIn K (Qa6 K a).code F.qual&&scB F (Qg F.st))
section
variable {P:Program}{w:World}{K:W.Frag}{mg:Str->Option Value}{h:Heap}{T:Tbl}{A:Adr}{gl:List (Str×G)}{bl:List Str}{F:Fn}{a:Addr}
def Qbv(h1:Qa6 K a=fnT F (Qa6 K a))(h2:fnB K F a=true):FunD K F.name F.qual F.st a (Qa6 K a)/\FnScope F.N F.ps (Qg F.st)/\F.ps.length=F.np/\F.N.length=F.nN:=by
 obtain⟨i,c,s⟩:_/\_/\_:=by simpa only[fnB,Xe]using h2
 obtain⟨s1,s2,s3,s4,s5,s6,s7,s8,s9⟩:_/\_/\_/\_/\_/\_/\_/\_/\_:=by simpa only[scB,Xe,Xs,Vt]using s
 have z:∃oc od sl,K.lookup a=some ⟨oc,od,.func (Qa6 K a),sl⟩:=by
  unfold W.fnIn at i;split at i
  ·rename_i oc od fd sl e
   exact⟨oc,od,sl,by rw[e];simp[Qa6,e]⟩
  ·cases i
 obtain⟨oc,od,sl,e⟩:=z
 refine⟨⟨⟨oc,od,_,_,_,_,_,_,_,sl,h1,e,c⟩,by simp only[W.keepIn,e]⟩,⟨s1,s2,s3,s4,s5,λx m=>?_,λy m=>?_⟩,s8,s9⟩
 ·simpa using Xz.mp s6 x m
 ·simpa using Xz.mp s7 y m
def Qgg(n:F.ps.length=F.np)(h3:∀v,bindArgs (Qa6 K a) ⟨vsN F.np v,[]⟩=pure (F.ps.zip (vsN F.np v))):Binds K (Qa6 K a) F.ps []:=.all λus l=>by
 have:=h3 λi=>us.getD i .none;rwa [<-n,<-l,<-Qc4]at this
def Qgf{fd:FuncData}{ps:List Str}{ds:List Value}{m:Nat}(n:ps.length=m+ds.length)(h:∀(s:Shared) (v:Nat->Value),K.In s.heap->BindsTo s fd ⟨vsN m v,[]⟩ (ps.zip (vsN m v++ds))):Binds K fd ps ds:=λs us X l=>by
 have e:us.length=m:=by rw[Wn]at l;omega
 have:=h s (λi=>us.getD i .none) X;rwa [<-e,<-Qc4]at this
noncomputable def Qjt{α:Type}(f:Nat->α->Bool):Nat->List α->Bool
 |_,[]=>true
 |n,a::r=>f n a&&Qjt f (n+1) r
theorem YT{α:Type}{f:Nat->α->Bool}{Q:Nat->α->Prop}(q:∀n a,f n a=true->Q n a):∀{n:Nat} {l:List α},Qjt f n l=true->AllI Q n l
 |_,[],_=>.nil
 |_,_::_,e=>.cons (q _ _ (Vr.mp e).1) (YT q (Vr.mp e).2)
def AllI.imp{α:Type}{Q R:Nat->α->Prop}(q:∀n a,Q n a->R n a){n:Nat}{l:List α}(h:AllI Q n l):AllI R n l:=by
 induction h with
 |nil=>exact .nil
 |cons e _ ih=>exact .cons (q _ _ e) ih
noncomputable def bi(x:String):Option (Option Value):=some (some (.builtin x))
noncomputable def clB(K:W.Frag)(T:Tbl)(A:Adr)(i:Nat)(C:Cl):Bool:=W.plainGet K (A.c i) Str.empty&&(W.hasDictIn K (A.c i)&&(W.plainOver K (A.c i)&&(W.findIn K (.ref (A.c i)) "__setattr__"==bi "object.__setattr__"&&(T.fns'.all (λx=>W.findIn K (.ref (A.c i)) x==some none) &&
 (C.meths.all (λp=>(T.mns[p.1]?).any λx=>W.findIn K (.ref (A.c i)) x==some (some (.ref (A.f p.2)))&&(W.isFn K (.ref (A.f p.2))&&W.keepIn K (.ref (A.f p.2)))) &&
 (W.makesIn K (A.c i)&&(W.keepIn K (.ref (A.c i))&&((match C.init with
  |some f=>W.findIn K (.ref (A.c i)) "__init__"==some (some (.ref (A.f f)))&&W.isFn K (.ref (A.f f))
  |none=>W.findIn K (.ref (A.c i)) "__init__"==bi "object.__init__")&&(W.findIn K (.ref (A.c i)) "__class__"==bi "object.__class__"&&W.mroIn K (A.c i) (.type "object")==some true)))))))))
noncomputable def obB(K:W.Frag):Bool:=W.specialIn K (.builtin "object.__class__") "__get__"==bi "getset_descriptor.__get__"&&W.takesIn K (.builtin "object.__class__")==some true
def Qob{i:Nat}{C:Cl}(o:obB K=true)(e:clB K T A i C=true):ClOk T A K i C:=by
 obtain⟨o1,o2⟩:_/\_:=by simpa only[obB,bi,Xe,Wj]using o
 obtain⟨e1,e2,e3,e4,e5,e6,e7,e8,e9,e10,e11⟩:_/\_/\_/\_/\_/\_/\_/\_/\_/\_/\_:=by simpa only[clB,bi,Xe,Wj]using e
 have c:Cls K (A.c i):=⟨e1,e2,e3,e4⟩;refine⟨c,λx m=>Wj.mp (Xz.mp e5 x m),λm f q=>?_,e7,e8,?_,λH a dx fs e=>.ins e c e10 o1 o2 e11⟩
 ·obtain⟨x,h1,h2⟩:=Option.any_eq_true _ _ |>.mp (Xz.mp e6 _ (ZS q))
  obtain⟨h2,h3,h4⟩:_/\_/\_:=by simpa only[Xe,Wj]using h2
  exact⟨x,h1,h2,h3,h4⟩
 ·revert e9
  cases C.init with
  |none=>exact λe=>by simpa using e
  |some f=>exact λe=>by simpa using e
def QfW{C CB fI:Addr}{B sf x txt:Str}{els:Expr}{p1 p2 p3 p4 p5 p6 p7 p8 p9 p10 p11 p12 p13 p14:Pos}{k5 k7:Nat}(q1:Qa6 K fI=fnT F (Qa6 K fI))(q2:fnB K F fI=true)(hb:Binds K (fnT F (Qa6 K fI)) F.ps [.none])(hps:F.ps=[sf,x])(hN:F.N=[sf,x])
  (hbd:Ze F.st=QlY B sf x txt els p1 p2 p3 p4 p5 p6 p7 p8 p9 p10 p11 p12 p13 p14 k5 k7) (M:Exi K C fI) (Yyy:ErrCls K C) (h1:W.specialIn K (.ref CB) "__getattribute__"=some (some (.builtin "type.__getattribute__"))) (h2:W.readsIn K CB (.type "type")=true)
  (h3:W.findCls K (.ref CB) (.type "type") "__init__"=some (.val (.builtin "ValueError.__init__"))) (hm:mg B=some (.ref CB)) (h4:W.findIn K (.ref C) "__setattr__"=some (some (.builtin "object.__setattr__"))) (h5:Qb5 K C=true) (h6:W.findIn K (.ref C) x=some none) (hh:W.hasDictIn K C=true)
  (hg:∀L a cd,(envOfC F.qual (Qg F.st) L a cd).kindOf B=some .globalImplicit) (hdb:([B,sf,x].all λz=>!(z==("__debug__":Str))&&!(z==("__classdict__":Str)))=true)
  (hst:∀L a cd,starEach [.Name sf p3,.IfExp (.Compare (.Name x p4) [.Is] [.Constant .none k5 p5] p6) (.Constant (.str txt) k7 p7) els p8] (envOfC F.qual (Qg F.st) L a cd)=[(false,eval (.Name sf p3) (envOfC F.qual (Qg F.st) L a cd)),(false,eval (.IfExp (.Compare (.Name x p4) [.Is] [.Constant .none k5 p5] p6) (.Constant (.str txt) k7 p7) els p8) (envOfC F.qual (Qg F.st) L a cd))])
  (hev:∀L a cd,∃pl:Sem Bool,eval (.Call (.Attribute (.Name B p1) "__init__" p2) [.Name sf p3,.IfExp (.Compare (.Name x p4) [.Is] [.Constant .none k5 p5] p6) (.Constant (.str txt) k7 p7) els p8] [] p9) (envOfC F.qual (Qg F.st) L a cd)=(do
   let ov <-eval (.Name B p1) (envOfC F.qual (Qg F.st) L a cd)
   standAt p2.atName
   let (f,first) <-holding [ov] (getMethod ov "__init__" pl)
   callWith p9 f first (backTo p9 (starEach [.Name sf p3,.IfExp (.Compare (.Name x p4) [.Is] [.Constant .none k5 p5] p6) (.Constant (.str txt) k7 p7) els p8] (envOfC F.qual (Qg F.st) L a cd))) (backToKw p9 (keywordEach [] (envOfC F.qual (Qg F.st) L a cd))))):Qcm K mg C x:=by
 obtain⟨fd,S,n,_⟩:=Qbv q1 q2;obtain⟨oc,od,dV,kV,doc,pm,an,cdv,ct,osl,e,lk,hcd⟩:=fd.ex;rw[hps,hN]at S;rw[<-q1,hps,e]at hb;rw[e]at lk;simp only[V5,List.all_nil,U3,Xe,Vt]at hdb;exact⟨hh,h6,fI,_,[sf,x],M,hb,λP w base=>QiM lk hcd S hbd M.q Yyy h1 h2 h3 hm hg hdb.1.1 h4 h5 h6 hdb.2.1.1 hdb.2.1.2 hdb.2.2.1 hdb.2.2.2 hst hev⟩
noncomputable def vB(A:Adr):U->Value->Bool
 |.str x,.str s _=>s.cps.toList==x
 |.int i 0,.int j _=>decide (i=j)
 |_,_=>false
def QjL{u:U}{v:Value}(e:vB A u v=true):∃z,RU A [] u z/\RelV z v:=by
 unfold vB at e;split at e
 ·exact tv (Wj.mp e)
 ·have:=Wt e;subst this;exact tvi
 ·cases e
noncomputable def vsB(A:Adr):List U->List Value->Bool
 |[],[]=>true
 |u::us,v::vs=>vB A u v&&vsB A us vs
 |_,_=>false
theorem JS:∀{us:List U} {vs:List Value},vsB A us vs=true->∃zs,RUs A [] us zs/\Vals zs vs
 |[],[],_=>⟨[],.nil,.nil⟩
 |_::_,_::_,e=>by
  obtain⟨z,r1,r2⟩:=QjL (Vr.mp e).1;obtain⟨zs,h1,h2⟩:=JS (Vr.mp e).2;exact⟨z::zs,.cons r1 h1,.cons r2 h2⟩
 |[],_::_,e=>nomatch e
 |_::_,[],e=>nomatch e
noncomputable def Qmi(K:W.Frag)(t:String)(a:Addr):Option (List Value):=match K.lookup a with
 |some o=>if o.cls=.type t/\o.dict=none then(match o.data with
  |.seq its _=>if its.size<=sizeLine then some its.toList else none
  |_=>none)else none
 |none=>none
noncomputable def Qjq(K:W.Frag)(a:Addr):List DictEntry:=match K.lookup a with
 |some o=>(match o.data with
  |.dict es _=>es.toList
  |_=>[])
 |none=>[]
noncomputable def Qjo:Value->Key
 |.str s _=>.inr s
 |.int i _=>.inl i
 |_=>.inl 0
noncomputable def QnR:Value->Bool
 |.str _ _=>true
 |.int _ _=>true
 |_=>false
def Qd0:∀{v:Value},QnR v=true->Qbr (Qjo v) v=true
 |.str s t,_=>QaL s t
 |.int i t,_=>QaM i t
noncomputable def keB:U->Key->Bool
 |.int i 0,.inl j=>decide (i=j)
 |.str x,.inr s=>s.cps.toList==x
 |_,_=>false
def Qln{u:U}{k:Key}(e:keB u k=true):QfT u k:=by
 unfold keB at e;split at e
 ·exact congrArg Sum.inl (Wt e).symm
 ·rename_i s;have:=Wj.mp e;subst this;rfl
 ·cases e
noncomputable def kvB(A:Adr):List (U×U)->List DictEntry->Bool
 |[],[]=>true
 |p::ps,e::es=>QnR e.key&&(keB p.1 (Qjo e.key)&&(vB A p.2 e.val&&kvB A ps es))
 |_,_=>false
noncomputable def exB(K:W.Frag)(a:Addr):Bool:=match K.lookup a with
 |some o=>decide (o.cls=.type "dict")&&(decide (o.dict=none)&&decide (o.slots=#[]))&&(match o.data with
  |.dict _ _=>true
  |_=>false)
 |none=>false
noncomputable def coB(K:W.Frag)(A:Adr)(a:Addr)(c:Co):Bool:=match c with
 |.tup xs=>(Qmi K "tuple" a).any (vsB A xs)
 |.lst xs=>(Qmi K "list" a).any (vsB A xs)
 |.tab kvs=>exB K a&&(kvB A kvs (Qjq K a)&&(decide (((Qjq K a).map λe=>Qjo e.key).Nodup)&&!(a==sysModules)))
abbrev Qoz(K:W.Frag)(w:World)(a:Addr):Prop:=(Qjq K a).map (·.hash)=(Qjq K a).map λe=>Qo3 w (Qjo e.key)
def Qaz{t:String}{xs:List U}(e:(Qmi K t a).any (vsB A xs)=true):∃(o:Obj) (its:Array Value) (n:Nat),K.lookup a=some o/\o.cls=.type t/\o.dict=none/\o.data=.seq its n/\its.size<=sizeLine/\vsB A xs its.toList=true:=by
 unfold Qmi at e
 cases ho:K.lookup a with
 |none=>rw[ho]at e;cases e
 |some o=>
  simp only[ho]at e;split at e
  ·rename_i hc;split at e
   ·rename_i its n hd;split at e
    ·rename_i hz;exact⟨o,its,n,rfl,hc.1,hc.2,hd,hz,e⟩
    ·cases e
   ·cases e
  ·cases e
theorem QgX:∀{kvs:List (U×U)} {es:List DictEntry},kvB A kvs es=true->(∀e∈es,QnR e.key=true)/\Paired (λ(p:U×U) (q:Key×Value)=>QfT p.1 q.1/\∃v,RU A [] p.2 v/\RelV v q.2) kvs (es.map λe=>(Qjo e.key,e.val))/\Pairs (ZD P w) es (es.map λe=>(Qjo e.key,e.val))
 |[],[],_=>⟨(λe m=>nomatch m),.nil,.nil⟩
 |_::_,_::_,z=>by
  obtain⟨h1,h2,h3,h4⟩:_/\_/\_/\_:=by simpa only[kvB,Xe]using z
  obtain⟨i1,i2,i3⟩:=QgX h4;refine⟨λe m=>?_,.cons ⟨Qln h2,QjL h3⟩ i2,.cons (Qd0 h1) rfl i3⟩
  rcases Xg.mp m with rfl|m
  ·exact h1
  ·exact i1 e m
 |[],_::_,e=>nomatch e
 |_::_,[],e=>nomatch e
def Qn9{k:Nat}{c:Co}(e:coB K A (A.k k) c=true):Qpr A K k c:=by
 cases c with
 |tup xs=>
  obtain⟨o,its,n,h1,h2,_,h3,h4,h5⟩:=Qaz e;obtain⟨vs,g1,g2⟩:=JS h5;exact⟨vs,g1,λH=>.inr ⟨o,its,n,h1,h2,h3,h4,g2⟩⟩
 |lst xs=>
  obtain⟨o,its,n,h1,h2,h0,h3,h4,h5⟩:=Qaz e;obtain⟨vs,g1,g2⟩:=JS h5;exact⟨vs,g1,λH=>.inr ⟨o,its,n,h1,h2,h0,h3,h4,g2⟩⟩
 |tab=>trivial
theorem JF{α β:Type}{f g:α->β}:∀{l:List α},l.map f=l.map g->∀a∈l,f a=g a
 |[],_,a,m=>by cases m
 |x::r,e,a,m=>by
  obtain⟨e1,e2⟩:=List.cons.inj e
  rcases Xg.mp m with rfl|m
  ·exact e1
  ·exact JF e2 a m
def QjY(co:Qjt (λk c=>coB K A (A.k k) c) 0 T.cons=true)(hs:AllI (λk z=>Qoz K w (A.k k)) 0 T.cons):Jx P w T A K:=λk kvs e=>by
 have c:=(YT (Q:=λk c=>coB K A (A.k k) c=true) (λz z q=>q) co).get k _ e;have hh:=hs.get k _ e;simp only[Vo]at c hh
 obtain⟨c1,c2,c3,c4⟩:_/\_/\_/\_:=by simpa only[coB,Xe]using c
 obtain⟨k1,k2,k3⟩:=QgX (P:=P) (w:=w) c2
 refine⟨_,by simpa using c4,?_,k2⟩
 unfold exB at c1
 cases ho:K.lookup (A.k k)with
 |none=>rw[ho]at c1;cases c1
 |some o=>
  simp only[ho]at c1;obtain⟨d1,d2⟩:=Vr.mp c1;split at d2
  ·rename_i es n hd
   obtain⟨x1,x2,x3⟩:_/\_/\_:=by simpa only[Xe,Xs]using d1
   have de:Qjq K (A.k k)=es.toList:=by simp[Qjq,ho,hd]
   unfold Qoz at hh;rw[de]at hh k1 k2 k3 c3 ⊢
   exact λh X=>⟨o,es,n,X _ _ ho,⟨x1,x2,x3⟩,hd,λe m=>⟨_,Qd0 (k1 e (by simpa using m)),JF hh e (by simpa using m)⟩,k3,by rw[Ux];exact Wt c3⟩
  ·cases d2
noncomputable def glB(K:W.Frag)(A:Adr)(p:Str×G):Bool:=match p.2 with
 |.fn i=>W.nsIn K mainGlobals p.1==some (some (.ref (A.f i)))
 |.cls i=>W.nsIn K mainGlobals p.1==some (some (.ref (A.c i)))
 |.con i=>W.nsIn K mainGlobals p.1==some (some (.ref (A.k i)))
 |.txt t=>(match W.nsIn K mainGlobals p.1 with
  |some (some (.str s _))=>t==.str s.cps.toList
  |some (some (.int i _))=>t==.int i 0
  |_=>false)
def Qn1(X:K.In h)(G:h.Ns mainGlobals mg){p:Str×Iv.G}(e:glB K A p=true):gvP A mg p.1 p.2:=by
 obtain⟨x,g⟩:=p
 cases g with
 |fn i=>exact W.mg_of X G (by simpa[glB]using e)
 |cls i=>exact W.mg_of X G (by simpa[glB]using e)
 |con i=>exact W.mg_of X G (by simpa[glB]using e)
 |txt t=>
  simp only[glB]at e;split at e
  ·rename_i s k q;cases Wj.mp e;exact⟨.str s,_,W.mg_of X G q,⟨k,rfl⟩,λz=>rfl⟩
  ·rename_i i k q;cases Wj.mp e;exact⟨.int i,_,W.mg_of X G q,⟨k,rfl⟩,λz=>⟨i,rfl,Cg.refl _ _⟩⟩
  ·cases e
noncomputable def QmS(K:W.Frag)(T:Tbl)(A:Adr)(gl:List (Str×G))(bl:List Str):Bool:=obB K&&(Qjt (clB K T A) 0 T.cls&&(T.fns'.all (λx=>!(T.mns.contains x))&&(decide T.fns'.Nodup&&(T.isi.all (λp=>W.kitOne K (tyW A p.1.1) (tyW A p.1.2)==some p.2)&&(gl.all (glB K A)&&(bl.all (λx=>W.nsIn K mainGlobals x==some none)&&T.esb.all (λp=>W.exmOne K (.ref (A.c p.1)) (.ref (A.c p.2))==some true)))))))
abbrev FnA(K:W.Frag)(A:Adr)(i:Nat)(F:Fn):Prop:=Qa6 K (A.f i)=fnT F (Qa6 K (A.f i))/\fnB K F (A.f i)=true/\((∀v,bindArgs (Qa6 K (A.f i)) ⟨vsN F.np v,[]⟩=pure (F.ps.zip (vsN F.np v)))\/Binds K (Qa6 K (A.f i)) F.ps [])
theorem Jo{α:Type}{Q:α->Prop}:∀{l:List α} {n:Nat},(∀a∈l,Q a)->AllI (λz a=>Q a) n l
 |[],_,_=>.nil
 |_::_,_,q=>.cons (q _ Xm) (Jo λa m=>q a (Xj _ m))
def FnA.at{i:Nat}(q:FnA K A i F):∃fd,FunD K F.name F.qual F.st (A.f i) fd/\Binds K fd F.ps []/\FnScope F.N F.ps (Qg F.st)/\F.ps.length=F.np/\F.N.length=F.nN:=by
 obtain⟨d,s,l,n⟩:=Qbv q.1 q.2.1;exact⟨_,d,q.2.2.elim (Qgg l) id,s,l,n⟩
def QjS(X:K.In h)(G:h.Ns mainGlobals mg)(fns:AllI (FnA K A) 0 T.fns)(co:Qjt (λk c=>coB K A (A.k k) c) 0 T.cons=true)(b:QmS K T A gl bl=true)
  (dfs:AllI (λz (p:Nat×Df)=>∃fd x q st,FunD K x q st (A.f p.1) fd/\Qjv A K fd p.2/\∀F,T.fns[p.1]?=some F->F.ps=p.2.ps/\F.np=p.2.np) 0 T.dfl)
  (er:AllI (λz c=>ErrCls K (A.c c)/\∃f x,T.efl.contains (c,f)=true/\(∀f',T.efl.contains (c,f')=true->f'=f)/\T.fns'[f]?=some x/\Qcm K mg (A.c c) x) 0 T.ers):Top T A K mg gl bl:=by
 obtain⟨b1,b2,b3,b4,b5,b6,b7,b8⟩:_/\_/\_/\_/\_/\_/\_/\_:=by simpa only[QmS,Xe]using b
 exact QjR (fns.imp λz z q=>q.at) (YT (λz z e=>Qob b1 e) b2) b3 (Wt b4) (Jo λp m=>by simpa using Xz.mp b5 p m) (YT (λz z e=>Qn9 e) co) dfs
  (Jo λp m=>Qn1 X G (Xz.mp b6 p m)) (Jo λx m=>W.mg_none_of X G (by simpa using Xz.mp b7 x m)) er (Jo λp m=>by simpa using Xz.mp b8 p m)
end
end
end Iv
namespace Iv
open PySem
variable {a e:E}{es:List E}{i:Nat}
section
variable {T:Tbl}{cf:Cf}{d:Nat}{ρ:Rho}{hs h1:Hs}{α β:Type}
def Qm{a:α}{f:α->Hs->Option β}:bd (some (a,h1)) f=f a h1:=rfl
def QK:exs T cf (d+1) [] ρ hs=some (.next,ρ,hs):=rfl
def Qj{s:S}{r:List S}:exs T cf (d+1) (s::r) ρ hs=(match ex T cf d s ρ hs with
   |some (.next,ρ1,h1)=>exs T cf d r ρ1 h1
   |x=>x):=rfl
def Qt:ex T cf (d+1) (.expr e) ρ hs=bd (ev T cf d e ρ hs) λz h1=>some (.next,ρ,h1):=rfl
def QC:ex T cf (d+1) (.set i e) ρ hs=bd (ev T cf d e ρ hs) λu h1=>some (.next,ρ.set i (some u),h1):=rfl
def Qz:ex T cf (d+1) (.ret e) ρ hs=bd (ev T cf d e ρ hs) λu h1=>some (.ret u,ρ,h1):=rfl
def QD{t:E}{a b:List S}:ex T cf (d+1) (.ite t a b) ρ hs=bd (evT T cf d t ρ hs) λc h1=>if c=true then exs T cf d a ρ h1 else exs T cf d b ρ h1:=by
 rw[ex]
 cases h:evT T cf d t ρ hs with
 |none=>rfl
 |some p=>obtain⟨c,h1⟩:=p;cases c<;>rfl
def Qjx{t:Tg}{s:Src}{body:List S}:ex T cf (d+1) (.loop t s body) ρ hs=bd (Zs T (ev T cf d) ρ s hs) λw h1=>Je T w t (exs T cf d body) (Q7 T w h1) 0 ρ h1:=rfl
def Qjw{o i:E}:ex T cf (d+1) (.put o i e) ρ hs=bd (ev T cf d e ρ hs) λu h1=>bd (ev T cf d o ρ h1) λx h2=>bd (ev T cf d i ρ h2) λk h3=>(Qh1 x k u h3).map λh4=>(.next,ρ,h4):=rfl
def y_c{u:U}:ev T cf (d+1) (.c u) ρ hs=some (u,hs):=rfl
def Q6{k:Nat}:ev T cf (d+1) (.con k) ρ hs=some (.con k,hs):=rfl
def QG:ev T cf (d+1) (.var i) ρ hs=(match ρ[i]? with|some (some u)=>some (u,hs)|_=>none):=rfl
def ZG{o:Operator}{b:E}:ev T cf (d+1) (.op o a b) ρ hs=bd (ev T cf d a ρ hs) λu h1=>bd (ev T cf d b ρ h1) λw h2=>opU o u w h2:=rfl
def QU:ev T cf (d+1) (.neg a) ρ hs=bd (ev T cf d a ρ hs) λu h1=>(match u with|.int i m=>some (.int (-i) m,h1)|_=>none):=rfl
def QL{o:CmpOp}{b:E}:ev T cf (d+1) (.cmp o a b) ρ hs=bd (ev T cf d a ρ hs) λu h1=>bd (ev T cf d b ρ h1) λw h2=>(Zi T o u w h2).map λc=>(.bl c,h2):=rfl
def Zt:ev T cf (d+1) (.not a) ρ hs=bd (ev T cf d a ρ hs) λu h1=>(ZO T u h1).map λc=>(.bl (!c),h1):=rfl
def Zg{t b:E}:ev T cf (d+1) (.ife t a b) ρ hs=bd (evT T cf d t ρ hs) λc h1=>if c=true then ev T cf d a ρ h1 else ev T cf d b ρ h1:=rfl
def QB:ev T cf (d+1) (.tup es) ρ hs=bd (evs (ev T cf d) ρ es hs) λus h1=>some (.ref h1.length,h1++[.tup us]):=rfl
def y_lst:ev T cf (d+1) (.lst es) ρ hs=bd (evs (ev T cf d) ρ es hs) λus h1=>some (.ref h1.length,h1++[.lst us]):=rfl
def YU{b:E}:ev T cf (d+1) (.ix a b) ρ hs=bd (ev T cf d a ρ hs) λu h1=>bd (ev T cf d b ρ h1) λw h2=>(Zj T u w h2).map λx=>(x,h2):=rfl
def Qji{lo hi:Option E}:ev T cf (d+1) (.sl a lo hi) ρ hs=bd (ev T cf d a ρ hs) λu h1=>bd (evO (ev T cf d) ρ lo h1) λl h2=>bd (evO (ev T cf d) ρ hi h2) λr h3=>slU T u l r h3:=rfl
def QA{f:Nat}:ev T cf (d+1) (.call f es) ρ hs=bd (evs (ev T cf d) ρ es hs) λus h1=>cf f us h1:=rfl
def YB{b:Bi}:ev T cf (d+1) (.bi b es) ρ hs=bd (evs (ev T cf d) ρ es hs) λus h1=>biU T b us h1:=rfl
def Zn{t:Ty}:ev T cf (d+1) (.isi a t) ρ hs=bd (ev T cf d a ρ hs) λu h1=>(JH T t u h1).map λb=>(.bl b,h1):=rfl
def Yl{b:Bm}{o:E}:ev T cf (d+1) (.bm b o es) ρ hs=bd (ev T cf d o ρ hs) λu h1=>if QcS b u h1=true then bd (evs (ev T cf d) ρ es h1) λus h2=>bmU T b u us h2 else none:=rfl
def QcY{s:Src}{b:Bool}{t:Option E}{el:E}:ev T cf (d+1) (.comp s b t el) ρ hs=bd (Zs T (ev T cf d) ρ s hs) λw h1=>bd (Yt T (ev T cf d) (Qbz (evT T cf d) t) w b el ρ (Q7 T w h1) 0 [] h1) λus h2=>some (.ref h2.length,h2++[.lst us]):=rfl
def Zp{b:E}:ev T cf (d+1) (.and a b) ρ hs=bd (ev T cf d a ρ hs) λu h1=>(match u with|.bl true=>ev T cf d b ρ h1|.bl false=>some (.bl false,h1)|_=>none):=rfl
def Jq{b:E}:ev T cf (d+1) (.or a b) ρ hs=bd (ev T cf d a ρ hs) λu h1=>(match u with|.bl true=>some (.bl true,h1)|.bl false=>ev T cf d b ρ h1|_=>none):=rfl
def QmG{j:Nat}:ex T cf (d+1) (.unp i j e) ρ hs=bd (ev T cf d e ρ hs) λu h1=>(tgt (.pair i j) (.one u) ρ h1).map λρ'=>(.next,ρ',h1):=rfl
def QM:evT T cf (d+1) (.not a) ρ hs=bd (evT T cf d a ρ hs) λc h1=>some (!c,h1):=rfl
def QJ{b:E}:evT T cf (d+1) (.and a b) ρ hs=bd (evT T cf d a ρ hs) λc h1=>if c=true then evT T cf d b ρ h1 else some (false,h1):=rfl
def Zq{b:E}:evT T cf (d+1) (.or a b) ρ hs=bd (evT T cf d a ρ hs) λc h1=>if c=true then some (true,h1)else evT T cf d b ρ h1:=rfl
def Qu{o:CmpOp}{b:E}:evT T cf (d+1) (.cmp o a b) ρ hs=bd (ev T cf d (.cmp o a b) ρ hs) λu h1=>(ZO T u h1).map λc=>(c,h1):=rfl
def QS:evT T cf (d+1) (.var i) ρ hs=bd (ev T cf d (.var i) ρ hs) λu h1=>(ZO T u h1).map λc=>(c,h1):=rfl
def QT{t:Ty}:evT T cf (d+1) (.isi a t) ρ hs=bd (ev T cf d (.isi a t) ρ hs) λu h1=>(ZO T u h1).map λc=>(c,h1):=rfl
def Qf{n f:Nat}{us:List U}(F:Fn)(hF:T.fns[f]?=some F)(hl:us.length=F.np):Qa T (n+1) f us hs=fin (exs T (Qa T n) dd F.body (QgG us F.nN) hs):=by simp[Qa,hF,hl]
end
end Iv
namespace K12
open PySem Iv L2
variable {cf:Cf}{C:Cl}{e ei el t:E}{Q:Fl->Rho->Hs->Prop}{g g' h h' h0 h1 h2 h3 hs hs1:Hs}{x y:Int}{st:Iv.S}{es:List E}{r:List Iv.S}{mk:List Nat}{body:List S}{L us ws xs ys:List U}{D a c d d' f i j k k3 k4 l m m' m0 m1 n p q:Nat}{o:O}{x0' x10 x2' x3' x4 x5 x6 x7 x8 x9:Option U}{ρ ρ' ρ1:Rho}{src:Src}{T:Tbl}{α β:Type}{u v w:U}
noncomputable abbrev Va:E:=.var 0
noncomputable abbrev Vb:E:=.var 1
noncomputable abbrev Vc:E:=.var 2
noncomputable abbrev Vd:E:=.var 3
noncomputable abbrev Ve:E:=.var 4
noncomputable abbrev Vf:E:=.var 5
noncomputable abbrev Vg:E:=.var 6
noncomputable abbrev Vh:E:=.var 7
noncomputable abbrev Vi:E:=.var 8
noncomputable abbrev Vj:E:=.var 9
noncomputable abbrev Vk:E:=.var 10
noncomputable abbrev Wa:E:=.c (.int 0 0)
noncomputable abbrev Wb:E:=.c (.int 1 0)
noncomputable abbrev Wc:E:=.c (.int 2 0)
noncomputable abbrev Wd:E:=.c (.int 3 0)
noncomputable abbrev We:E:=.c (.int 4 0)
noncomputable abbrev Wf:E:=.c (.int 5 0)
noncomputable def Qqn:List Str:=["side","many","way","first","second","keeper","row"]
noncomputable def Qp7:List Str:=["ties","ends","takes","gives","mark","mirrored","turned"]
noncomputable def glo:List (Str×G):=([("KEEPERS",.con 0),("SIDE_SIGNS",.con 1),("CROSS_SIGNS",.con 2),("Stitch",.cls 0),("Plain",.cls 1),("Slip",.cls 2),("Over",.cls 3),("Lean",.cls 4),("Grow",.cls 5),("Cross",.cls 6),("Off",.cls 7),("Keep",.cls 8),("Fetch",.cls 9),("NOUGHT",.con 3),("plain_sum",.fn 35),("total",.fn 36),("product",.fn 37),("repeated",.fn 38),("is_sized",.fn 39),("counts",.fn 40)]:List (Str×G))++([("part_counts",.fn 41),("stitch_counts",.fn 42),("counts_added",.fn 43),("totals",.fn 44),("counts_times",.fn 45),("SIDES",.con 4),("CROSS_SIDES",.con 5),("LEAN_WAYS",.con 6),("CROSS_WAYS",.con 7),("MANY",.con 8),("CROSSED",.con 9),("stitch",.fn 46),("stitch_of_text",.fn 47),("bare_stitch",.fn 48),("keeper_stitch",.fn 49),("sided_stitch",.fn 50),("crossing",.fn 51),("_law_mark",.fn 52),("_law_counted",.fn 53),("_law_sum",.fn 54)]:List (Str×G))++([("_law_times",.fn 55),("_law_added",.fn 56),("_law_together",.fn 57),("_law_parts",.fn 58),("_law_sum_told",.fn 59),("_law_told",.fn 60),("_law_class_told",.fn 61),("_law_refused",.fn 62),("law",.fn 63),("StitchError",.cls 10),("NoStitch",.cls 11),("NoSum",.cls 12),("NoPattern",.cls 13),("TooMany",.cls 14),("Miscount",.cls 15),("NoChart",.cls 16)]:List (Str×G))
noncomputable def Qmy:List Str:=["len","int","str","tuple","list","bool","isinstance","range","zip","any","max","ValueError"]
noncomputable def Qqx:List Co:=[.tup [.str [119],.str [120],.str [121],.str [122]],.tab [(.int 1 0,.str [107]),(.int (-1) 0,.str [112])],.tab [(.int 1 0,.str [99]),(.int (-1) 0,.str [113])],.tup [.int 0 0,.int 0 0,.int 0 0,.int 0 0,.int 0 0],.tab [(.str [107],.int 1 0),(.str [112],.int (-1) 0)],.tab [(.str [99],.int 1 0),(.str [113],.int (-1) 0)],.tup [.str [114],.str [108]],.tup [.str [102],.str [98]],.tab [(.str [50],.int 2 0),(.str [51],.int 3 0),(.str [52],.int 4 0)],.tab [(.str [49],.int 1 0),(.str [50],.int 2 0),(.str [51],.int 3 0),(.str [52],.int 4 0)]]
noncomputable def Qqz:List Cl:=[⟨"Stitch",none,[(0,0),(1,1)],[0]⟩,⟨"Plain",some 2,[(0,5),(1,1),(2,3),(3,4)],[1,0]⟩,⟨"Slip",none,[(0,8),(1,1),(2,6),(3,7)],[2,0]⟩,⟨"Over",none,[(0,11),(1,1),(2,9),(3,10)],[3,0]⟩,⟨"Lean",some 12,[(0,15),(1,1),(2,13),(3,14)],[4,0]⟩,⟨"Grow",some 16,[(0,19),(1,1),(2,17),(3,18)],[5,0]⟩,⟨"Cross",some 20,[(0,23),(1,1),(2,21),(3,22)],[6,0]⟩,⟨"Off",none,[(0,0),(1,26),(2,24),(3,25)],[7,0]⟩,⟨"Keep",some 27,[(0,0),(1,30),(2,28),(3,29)],[8,0]⟩,⟨"Fetch",some 31,[(0,34),(1,1),(2,32),(3,33)],[9,0]⟩]
noncomputable def Qqb:List ((Ty×Ty)×Bool):=[((.cls 12,.cls 11),false),((.cls 12,.cls 12),true),((.cls 12,.cls 13),false),((.cls 12,.cls 14),false),((.cls 12,.cls 15),false),((.cls 12,.cls 16),false),((.cls 12,.vale),true)]
noncomputable def Qqv:List (Nat×Df):=[]
noncomputable def Qqs:List Str:=[]
noncomputable def Qpt:List Str:=[]
noncomputable def Qqp:List Nat:=[12]
noncomputable def Qqo:List (Nat×Nat):=[(12,12),(12,10)]
noncomputable def Qp1:List Nat:=[37,40,41,45]
noncomputable def Qpa:List (Nat×Nat):=[(12,6)]
noncomputable def Qqr:List Nat:=[]
noncomputable def Qqt:List Str:=[]
noncomputable def Qqf:List Nat:=[61]
noncomputable def b0:List S:=[.ret (.lst [])]
noncomputable def b1:List S:=[.ret (.lst [])]
noncomputable def b2:List S:=[.fld Va 0 Vb]
noncomputable def b3:List S:=[.ret Wb]
noncomputable def b4:List S:=[.ret Wb]
noncomputable def b5:List S:=[.ret (.lst [.tup [.c (.str [110,101,119]),.tup [Wa],.fld Va 0,Wa]])]
noncomputable def b6:List S:=[.ret Wb]
noncomputable def b7:List S:=[.ret Wb]
noncomputable def b8:List S:=[.ret (.lst [.tup [.c (.str [115,97,109,101]),Wa]])]
noncomputable def b9:List S:=[.ret Wa]
noncomputable def b10:List S:=[.ret Wb]
noncomputable def b11:List S:=[.ret (.lst [.tup [.c (.str [110,101,119]),.tup [],Wa,Wa]])]
noncomputable def b12:List S:=[.fld Va 1 Vb,.fld Va 2 Vc,.fld Va 0 Vd]
noncomputable def b13:List S:=[.ret (.fld Va 1)]
noncomputable def b14:List S:=[.ret Wb]
noncomputable def b15:List S:=[.ite (.cmp .Eq (.fld Va 2) (.c (.str [114]))) [.set 1 (.tupR [.op .Sub (.fld Va 1) Wb,.neg Wb,.neg Wb])] [.set 1 (.tupR [.fld Va 1])],.ret (.lst [.tup [.c (.str [110,101,119]),Vb,.fld Va 0,Wa]])]
noncomputable def b16:List S:=[.fld Va 1 Vb,.fld Va 0 Vc]
noncomputable def b17:List S:=[.ret Wb]
noncomputable def b18:List S:=[.ret (.fld Va 1)]
noncomputable def b19:List S:=[.ret (.comp (.rng (.fld Va 1)) false none (.tup [.c (.str [110,101,119]),.tup [Wa],.ife (.cmp .Eq (.op .Mod Vb Wc) Wa) (.fld Va 0) (.neg (.fld Va 0)),Wa]))]
noncomputable def b20:List S:=[.fld Va 3 Vb,.fld Va 4 Vc,.fld Va 2 Vd,.fld Va 0 Ve]
noncomputable def b21:List S:=[.ret (.op .Add (.fld Va 3) (.fld Va 4))]
noncomputable def b22:List S:=[.ret (.op .Add (.fld Va 3) (.fld Va 4))]
noncomputable def b23:List S:=[.set 1 (.ife (.cmp .Eq (.fld Va 2) (.c (.str [102]))) Wb (.neg Wb)),.set 2 (.comp (.rng2 (.fld Va 3) (.op .Add (.fld Va 3) (.fld Va 4))) false none (.tup [.c (.str [110,101,119]),.tup [Ve],.fld Va 0,.neg Vb])),.set 3 (.comp (.rng (.fld Va 3)) false none (.tup [.c (.str [110,101,119]),.tup [Ve],.fld Va 0,Vb])),.ret (.op .Add Vc Vd)]
noncomputable def b24:List S:=[.ret Wb]
noncomputable def b25:List S:=[.ret Wa]
noncomputable def b26:List S:=[.ret (.lst [.tup [Wa,.c (.str [111,102,102])]])]
noncomputable def b27:List S:=[.fld Va 5 Vb]
noncomputable def b28:List S:=[.ret Wb]
noncomputable def b29:List S:=[.ret Wa]
noncomputable def b30:List S:=[.ret (.lst [.tup [Wa,.fld Va 5]])]
noncomputable def b31:List S:=[.fld Va 5 Vb]
noncomputable def b32:List S:=[.ret Wa]
noncomputable def b33:List S:=[.ret Wb]
noncomputable def b34:List S:=[.ret (.lst [.tup [.c (.str [102,114,111,109]),.fld Va 5]])]
noncomputable def b35:List S:=[.ret (.tup [Va,Wa,Wa,Wa,Wa])]
noncomputable def b36:List S:=[.ret (.bi .tuple [.comp (.zip Va Vb) true none (.op .Add Vc Vd)])]
noncomputable def b37:List S:=[.ite (.not (.call 39 [Va])) [.ret (.call 38 [Vb,.ix Va Wa])] [],.ite (.not (.call 39 [Vb])) [.ret (.call 38 [Va,.ix Vb Wa])] [],.rse 12 []]
noncomputable def b38:List S:=[.ret (.bi .tuple [.comp (.seq Va) false none (.op .Mult Vc Vb)])]
noncomputable def b39:List S:=[.ret (.bi .any [.comp (.seq (.sl Va (some Wb) none)) false none (.cmp .NotEq Vb Wa)])]
noncomputable def b40:List S:=[.set 1 (.tup [.con 3,.con 3,.comp (.seq (.con 0)) false none (.con 3),.comp (.seq (.con 0)) false none (.con 3)]),.loop (.name 2) (.seq Va) [.xal (.set 1 (.call 43 [Vb,.call 41 [Vc]])) (.arg Vb (.call 41 [Vc]))],.ret Vb]
noncomputable def b41:List S:=[.ite (.cmp .Eq (.ix Va Wa) (.c (.str [111,110,101]))) [.ret (.call 42 [.ix Va Wb])] [],.xal (.ret (.call 45 [.call 40 [.ix Va Wc],.ix Va Wb])) (.alt (.call 45 [.call 40 [.ix Va Wc],.ix Va Wb]) (.call 40 [.ix Va Wc]))]
noncomputable def b42:List S:=[.set 1 (.comp (.seq (.meth 1 Va [])) false none (.ix Vf Wb)),.set 2 (.meth 0 Va []),.set 3 (.comp (.seq (.con 0)) false none (.call 35 [.bm .count Vb [Vf]])),.set 4 (.comp (.seq (.con 0)) false none (.call 35 [.bm .count Vc [.tup [.c (.str [102,114,111,109]),Vf]]])),.ret (.tup [.call 35 [.meth 2 Va []],.call 35 [.meth 3 Va []],Vd,Ve])]
noncomputable def b43:List S:=[.ret (.tup [.call 36 [.ix Va Wa,.ix Vb Wa],.call 36 [.ix Va Wb,.ix Vb Wb],.call 44 [.ix Va Wc,.ix Vb Wc],.call 44 [.ix Va Wd,.ix Vb Wd]])]
noncomputable def b44:List S:=[.ret (.comp (.zip Va Vb) true none (.call 36 [Vc,Vd]))]
noncomputable def b45:List S:=[.xal (.set 2 (.comp (.seq (.ix Va Wc)) false none (.call 37 [Ve,Vb]))) (.comp (.seq (.ix Va Wc)) false (.call 37 [Ve,Vb]) (.call 37 [Ve,Vb])),.xal (.set 3 (.comp (.seq (.ix Va Wd)) false none (.call 37 [Ve,Vb]))) (.comp (.seq (.ix Va Wd)) false (.call 37 [Ve,Vb]) (.call 37 [Ve,Vb])),.xal (.ret (.tup [.call 37 [.ix Va Wa,Vb],.call 37 [.ix Va Wb,Vb],Vc,Vd])) (.alt (.call 37 [.ix Va Wa,Vb]) (.arg (.call 37 [.ix Va Wa,Vb]) (.call 37 [.ix Va Wb,Vb])))]
noncomputable def b46:List S:=[.set 1 (.ife (.isi Va .str) (.call 47 [Va]) (.c .non)),.ite (.cmp .Is Vb (.c .non)) [.bad] [],.ret Vb]
noncomputable def b47:List S:=[.set 1 (.bi .len [Va]),.ite (.cmp .Eq Vb Wb) [.ret (.call 48 [Va])] [],.ite (.cmp .Eq Vb Wc) [.ret (.call 49 [.ix Va Wa,.ix Va Wb])] [],.ite (.cmp .Eq Vb Wd) [.ret (.call 50 [.ix Va Wa,.ix Va Wb,.ix Va Wc])] [],.ite (.cmp .Eq Vb We) [.ret (.call 51 [.ix Va Wa,.ix Va Wb,.ix Va Wc,.ix Va Wd])] [],.ret (.c .non)]
noncomputable def b48:List S:=[.ite (.cmp .In Va (.con 4)) [.ret (.make 1 [.tab 4 Va])] [],.ite (.cmp .Eq Va (.c (.str [115]))) [.ret (.make 2 [])] [],.ite (.cmp .Eq Va (.c (.str [111]))) [.ret (.make 3 [])] [],.ite (.cmp .Eq Va (.c (.str [98]))) [.ret (.make 7 [])] [],.ret (.c .non)]
noncomputable def b49:List S:=[.ite (.cmp .NotIn Vb (.con 0)) [.ret (.c .non)] [],.ite (.cmp .Eq Va (.c (.str [104]))) [.ret (.make 8 [Vb])] [],.ite (.cmp .Eq Va (.c (.str [102]))) [.ret (.make 9 [Vb])] [],.ret (.c .non)]
noncomputable def b50:List S:=[.ite (.cmp .NotIn Va (.con 4)) [.ret (.c .non)] [],.ite (.and (.cmp .Eq Vb (.c (.str [120]))) (.cmp .In Vc (.con 8))) [.ret (.make 5 [.tab 8 Vc,.tab 4 Va])] [],.ite (.and (.cmp .In Vb (.con 8)) (.cmp .In Vc (.con 6))) [.ret (.make 4 [.tab 8 Vb,Vc,.tab 4 Va])] [],.ret (.c .non)]
noncomputable def b51:List S:=[.ite (.and (.cmp .In Va (.con 5)) (.and (.cmp .In Vb (.con 9)) (.and (.cmp .In Vc (.con 7)) (.cmp .In Vd (.con 9))))) [.ret (.make 6 [.tab 9 Vb,.tab 9 Vd,Vc,.tab 5 Va])] [],.ret (.c .non)]
noncomputable def b52:List S:=[.set 1 (.op .Mod Va (.c (.int 8 0))),.set 2 (.op .FloorDiv Va (.c (.int 8 0))),.ite (.cmp .Lt Vb Wd) [.ret (.ix (.c (.str [107,112,115,111,98])) (.op .Mod Vc Wf))] [],.ite (.cmp .Eq Vb Wd) [.ret (.op .Add (.ix (.c (.str [104,102])) (.op .Mod Vc Wc)) (.ix (.c (.str [119,120,121,122])) (.op .Mod (.op .FloorDiv Vc Wc) We)))] [],.ite (.cmp .Eq Vb We) [.ret (.op .Add (.op .Add (.ix (.c (.str [107,112])) (.op .Mod Vc Wc)) (.ix (.c (.str [50,51,52])) (.op .Mod (.op .FloorDiv Vc Wc) Wd))) (.ix (.c (.str [114,108])) (.op .Mod (.op .FloorDiv Vc (.c (.int 6 0))) Wc)))] [],.ite (.cmp .Eq Vb Wf) [.ret (.op .Add (.op .Add (.ix (.c (.str [107,112])) (.op .Mod Vc Wc)) (.c (.str [120]))) (.ix (.c (.str [50,51,52])) (.op .Mod (.op .FloorDiv Vc Wc) Wd)))] [],.ret (.op .Add (.op .Add (.op .Add (.ix (.c (.str [99,113])) (.op .Mod Vc Wc)) (.ix (.c (.str [49,50,51,52])) (.op .Mod (.op .FloorDiv Vc Wc) We))) (.ix (.c (.str [102,98])) (.op .Mod (.op .FloorDiv Vc (.c (.int 8 0))) Wc))) (.ix (.c (.str [49,50,51,52])) (.op .Mod (.op .FloorDiv Vc (.c (.int 16 0))) We)))]
noncomputable def b53:List S:=[.set 1 (.op .Mult (.lst [Wa]) (.c (.int 10 0))),.ite (.cmp .In Va (.tup [.c (.str [107]),.c (.str [112]),.c (.str [115]),.c (.str [98])])) [.put Vb Wa Wb] [],.ite (.cmp .In Va (.tup [.c (.str [107]),.c (.str [112]),.c (.str [115]),.c (.str [111])])) [.put Vb Wb Wb] [],.ite (.cmp .Eq (.ix Va Wa) (.c (.str [104]))) [.put Vb Wa Wb,.put Vb (.op .Add Wc (.bm .index (.c (.str [119,120,121,122])) [.ix Va Wb])) Wb] [],.ite (.cmp .Eq (.ix Va Wa) (.c (.str [102]))) [.put Vb Wb Wb,.put Vb (.op .Add (.c (.int 6 0)) (.bm .index (.c (.str [119,120,121,122])) [.ix Va Wb])) Wb] [],.ite (.and (.cmp .Eq (.bi .len [Va]) Wd) (.cmp .Eq (.ix Va Wb) (.c (.str [120])))) [.put Vb Wa Wb,.put Vb Wb (.bi .int [.ix Va Wc])] [],.ite (.and (.cmp .Eq (.bi .len [Va]) Wd) (.cmp .NotEq (.ix Va Wb) (.c (.str [120])))) [.put Vb Wa (.bi .int [.ix Va Wb]),.put Vb Wb Wb] [],.ite (.cmp .Eq (.bi .len [Va]) We) [.put Vb Wa (.op .Add (.bi .int [.ix Va Wb]) (.bi .int [.ix Va Wd])),.put Vb Wb (.ix Vb Wa)] [],.ret Vb]
noncomputable def b54:List S:=[.set 1 (.op .Mod (.op .Mult (.op .Add Va Wd) (.c (.int 982451653 0))) (.op .Pow (.c (.int 10 0)) (.c (.int 18 0)))),.set 2 (.op .Mod Va Wf),.ite (.cmp .Eq Vc Wa) [.ret (.tup [.op .Add Wb (.op .Mod Vb (.c (.int 7 0))),Wa,Wa,Wa,Wa])] [],.ite (.cmp .Eq Vc Wb) [.ret (.tup [Vb,Wa,Wa,Wa,Wa])] [],.ite (.cmp .Eq Vc Wc) [.set 3 (.lst [Wa,Wa,Wa,Wa,Wa]),.put Vd (.op .Add Wb (.op .Mod Vb We)) (.op .Add Wb (.op .Mod (.op .FloorDiv Vb We) Wf)),.ret (.bi .tuple [Vd])] [],.ite (.cmp .Eq Vc Wd) [.ret (.tup [.op .Mod Vb (.c (.int 90 0)),.op .Mod (.op .FloorDiv Vb (.c (.int 90 0))) (.c (.int 7 0)),.op .Mod (.op .FloorDiv Vb (.c (.int 630 0))) (.op .Pow (.c (.int 10 0)) (.c (.int 9 0))),.op .Mod (.op .FloorDiv Vb (.c (.int 1000 0))) Wd,.op .Mod (.op .FloorDiv Vb (.c (.int 7 0))) (.op .Pow (.c (.int 10 0)) (.c (.int 12 0)))])] [],.ret (.tup [Wa,Wa,Wa,Wa,Wa])]
noncomputable def b55:List S:=[.set 2 (.lst []),.loop (.name 3) (.seq Va) [.ite (.and (.cmp .NotEq (.sl Vd (some Wb) none) (.lst [Wa,Wa,Wa,Wa])) (.cmp .NotEq (.sl Vb (some Wb) none) (.tup [Wa,Wa,Wa,Wa]))) [.ret (.c .non)] [],.ite (.cmp .NotEq (.sl Vb (some Wb) none) (.tup [Wa,Wa,Wa,Wa])) [.expr (.bm .append Vc [.comp (.seq Vb) false none (.op .Mult (.ix Vd Wa) Ve)])] [.expr (.bm .append Vc [.comp (.seq Vd) false none (.op .Mult Ve (.ix Vb Wa))])]],.ret Vc]
noncomputable def b56:List S:=[.ret (.comp (.zip Va Vb) true none (.comp (.zip Vc Vd) true none (.op .Add Ve Vf)))]
noncomputable def b57:List S:=[.set 1 (.comp (.rng (.c (.int 10 0))) false none (.lst [Wa,Wa,Wa,Wa,Wa])),.loop (.name 2) (.seq Va) [.set 1 (.call 56 [Vb,.ix Vc Wb])],.ret Vb]
noncomputable def b58:List S:=[.set 1 (.lst []),.set 2 (.c .non),.loop (.name 3) (.seq (.sl Va none (some (.c (.int 84 0))))) [.set 4 (.op .Mod Vd (.op .Pow (.c (.int 10 0)) (.c (.int 15 0)))),.set 5 (.bi .max [Wa,.op .Sub (.op .Sub (.bi .len [Vb]) Wb) (.op .Mod (.op .FloorDiv Ve Wd) We)]),.set 6 (.op .Add Wb (.maxd (.comp (.seq (.sl Vb (some Vf) none)) false none (.ix (.var 11) Wc)) Wa)),.ite (.and (.cmp .Eq (.op .Mod Ve Wd) Wc) (.and (.cmp .NotEq Vb (.lst [])) (.cmp .Lt Vg (.c (.int 9 0))))) [.set 7 (.call 54 [.op .FloorDiv Ve (.c (.int 12 0))]),.set 8 (.comp (.seq (.sl Vb (some Vf) none)) false none (.ix (.var 11) Wa)),.set 9 (.call 55 [.call 57 [.sl Vb (some Vf) none],Vh]),.ite (.cmp .Is Vj (.c .non)) [.set 2 (.tup [.c (.str [116,105,109,101,115]),Vh,Vi]),.set 7 (.tup [.op .Add Wc (.op .Mod (.op .FloorDiv Ve (.c (.int 60 0))) Wf),Wa,Wa,Wa,Wa]),.set 9 (.call 55 [.call 57 [.sl Vb (some Vf) none],Vh])] [],.set 1 (.op .Add (.sl Vb none (some Vf)) (.lst [.tup [.tup [.c (.str [116,105,109,101,115]),Vh,Vi],Vj,Vg]]))] [.set 10 (.call 52 [.op .Mod (.op .Mult (.op .Add (.op .FloorDiv Ve Wd) Wf) (.c (.int 48271 0))) (.c (.int 2147483647 0))]),.set 1 (.op .Add Vb (.lst [.tup [.tup [.c (.str [111,110,101]),.call 46 [Vk]],.comp (.seq (.call 53 [Vk])) false none (.lst [.var 11,Wa,Wa,Wa,Wa]),Wa]]))]],.ret (.tup [Vb,Vc])]
noncomputable def b59:List S:=[.ite (.or (.not (.isi Va .tuple)) (.cmp .NotEq (.bi .len [Va]) Wf)) [.ret (.c (.bl false))] [],.loop (.pair 2 3) (.zip Va Vb) [.ite (.or (.not (.isi Vc .int)) (.or (.isi Vc .bool) (.cmp .NotEq Vc Vd))) [.ret (.c (.bl false))] []],.ret (.c (.bl true))]
noncomputable def b60:List S:=[.ite (.or (.not (.isi Va .tuple)) (.cmp .NotEq (.bi .len [Va]) We)) [.ret (.c (.bl false))] [],.loop (.name 2) (.seq (.tup [Wc,Wd])) [.ite (.or (.not (.isi (.ix Va Vc) .list)) (.cmp .NotEq (.bi .len [.ix Va Vc]) We)) [.ret (.c (.bl false))] []],.loop (.pair 3 4) (.zip (.op .Add (.op .Add (.lst [.ix Va Wa,.ix Va Wb]) (.ix Va Wc)) (.ix Va Wd)) Vb) [.ite (.not (.call 59 [Vd,Ve])) [.ret (.c (.bl false))] []],.ret (.c (.bl true))]
noncomputable def b61:List S:=[.set 1 (.lst [.isi Va (.cls 15),.isi Va (.cls 16),.isi Va (.cls 13),.isi Va (.cls 11)]),.ite (.or (.cmp .In (.c (.bl true)) Vb) (.or (.isi Va (.cls 14)) (.or (.not (.isi Va (.cls 12))) (.not (.isi Va .vale))))) [.ret (.c (.bl false))] [],.ret (.cmp .Is (.fld Va 6) (.c .non))]
noncomputable def b62:List S:=[.set 1 (.c (.bl false)),.tryS (some 2) 40 [Va] 10 [.set 1 (.call 61 [Vc])],.ret Vb]
noncomputable def b63:List S:=[.unp 1 2 (.call 58 [Va]),.set 3 (.call 57 [Vb]),.set 4 (.comp (.seq Vb) false none (.ix Vg Wa)),.xal (.set 5 (.call 40 [Ve])) (.call 40 [Ve]),.ite (.not (.call 60 [Vf,Vd])) [.ret (.c (.bl false))] [],.ite (.and (.cmp .IsNot Vc (.c .non)) (.or (.not (.call 62 [.lst [Vc]])) (.not (.call 62 [.op .Add Ve (.lst [Vc])])))) [.ret (.c (.bl false))] [],.expr (.bm .append (.ix Vf Wc) [.ix Vf Wa]),.expr (.bm .clear (.ix Vf Wd) []),.ret (.and (.call 60 [.call 40 [Ve],Vd]) (.cmp .Eq Ve (.comp (.seq Vb) false none (.ix Vg Wa))))]
noncomputable def F0(x:Str)(k:Nat)(N:List Str)(n:Nat)(b:List S):Fn:=⟨x,x,top k,N.take n,N,n,N.length,false,b⟩
noncomputable def F1(x q:Str)(k j:Nat)(N:List Str)(n:Nat)(b:List S):Fn:=⟨x,q,Ql (top k) j,N.take n,N,n,N.length,false,b⟩
noncomputable def fnL:List Fn:=[F1 "ties" "Stitch.ties" 5 0 ["self"] 1 b0,
 F1 "ends" "Stitch.ends" 5 1 ["self"] 1 b1,
 F1 "__init__" "Plain.__init__" 6 0 ["self","side"] 2 b2,
 F1 "takes" "Plain.takes" 6 1 ["self"] 1 b3,
 F1 "gives" "Plain.gives" 6 2 ["self"] 1 b4,
 F1 "ties" "Plain.ties" 6 3 ["self"] 1 b5,
 F1 "takes" "Slip.takes" 7 0 ["self"] 1 b6,
 F1 "gives" "Slip.gives" 7 1 ["self"] 1 b7,
 F1 "ties" "Slip.ties" 7 2 ["self"] 1 b8,
 F1 "takes" "Over.takes" 8 0 ["self"] 1 b9,
 F1 "gives" "Over.gives" 8 1 ["self"] 1 b10,
 F1 "ties" "Over.ties" 8 2 ["self"] 1 b11,
 F1 "__init__" "Lean.__init__" 9 0 ["self","many","way","side"] 4 b12,
 F1 "takes" "Lean.takes" 9 1 ["self"] 1 b13,
 F1 "gives" "Lean.gives" 9 2 ["self"] 1 b14,
 F1 "ties" "Lean.ties" 9 3 ["self","parents"] 1 b15,
 F1 "__init__" "Grow.__init__" 10 0 ["self","many","side"] 3 b16,
 F1 "takes" "Grow.takes" 10 1 ["self"] 1 b17,
 F1 "gives" "Grow.gives" 10 2 ["self"] 1 b18,
 F1 "ties" "Grow.ties" 10 3 ["self"] 1 b19,
 F1 "__init__" "Cross.__init__" 11 0 ["self","first","second","way","side"] 5 b20,
 F1 "takes" "Cross.takes" 11 1 ["self"] 1 b21,
 F1 "gives" "Cross.gives" 11 2 ["self"] 1 b22,
 F1 "ties" "Cross.ties" 11 3 ["self","lift","later","former"] 1 b23,
 F1 "takes" "Off.takes" 12 0 ["self"] 1 b24,
 F1 "gives" "Off.gives" 12 1 ["self"] 1 b25,
 F1 "ends" "Off.ends" 12 2 ["self"] 1 b26,
 F1 "__init__" "Keep.__init__" 13 0 ["self","keeper"] 2 b27,
 F1 "takes" "Keep.takes" 13 1 ["self"] 1 b28,
 F1 "gives" "Keep.gives" 13 2 ["self"] 1 b29,
 F1 "ends" "Keep.ends" 13 3 ["self"] 1 b30,
 F1 "__init__" "Fetch.__init__" 14 0 ["self","keeper"] 2 b31,
 F1 "takes" "Fetch.takes" 14 1 ["self"] 1 b32,
 F1 "gives" "Fetch.gives" 14 2 ["self"] 1 b33,
 F1 "ties" "Fetch.ties" 14 3 ["self"] 1 b34,
 F0 "plain_sum" 25 ["number"] 1 b35,
 F0 "total" 26 ["one","other"] 2 b36,
 F0 "product" 27 ["one","other"] 2 b37,
 F0 "repeated" 28 ["one","often"] 2 b38,
 F0 "is_sized" 29 ["one"] 1 b39,
 F0 "counts" 31 ["parts","found","part"] 1 b40,
 F0 "part_counts" 32 ["part"] 1 b41,
 F0 "stitch_counts" 33 ["stitch","words","ties","keeps","fetches"] 1 b42,
 F0 "counts_added" 34 ["one","other"] 2 b43,
 F0 "totals" 35 ["some","others"] 2 b44,
 F0 "counts_times" 36 ["one","often","keeps","fetches"] 2 b45,
 F0 "stitch" 44 ["mark","found"] 1 b46,
 F0 "stitch_of_text" 45 ["text","size"] 1 b47,
 F0 "bare_stitch" 46 ["sign"] 1 b48,
 F0 "keeper_stitch" 47 ["sign","keeper"] 2 b49,
 F0 "sided_stitch" 48 ["sign","middle","last"] 3 b50,
 F0 "crossing" 49 ["sign","first","way","second"] 4 b51,
 F0 "_law_mark" 51 ["_law_number","_law_kind","_law_more"] 1 b52,
 F0 "_law_counted" 52 ["_law_mark_here","_law_found"] 1 b53,
 F0 "_law_sum" 53 ["_law_number","_law_large","_law_kind","_law_found"] 1 b54,
 F0 "_law_times" 54 ["_law_sums","_law_often","_law_found","_law_one"] 2 b55,
 F0 "_law_added" 55 ["_law_one","_law_other"] 2 b56,
 F0 "_law_together" 56 ["_law_parts_here","_law_sums","_law_one"] 1 b57,
 F0 "_law_parts" 57 ["_law_script","_law_parts_here","_law_bad","_law_cell","_law_number","_law_at","_law_deep","_law_often","_law_inner","_law_sums","_law_mark_here"] 1 b58,
 F0 "_law_sum_told" 58 ["_law_one","_law_due","_law_mine","_law_theirs"] 2 b59,
 F0 "_law_told" 59 ["_law_found","_law_sums","_law_k","_law_one","_law_due"] 2 b60,
 F0 "_law_class_told" 60 ["_law_e","_law_some"] 1 b61,
 F0 "_law_refused" 61 ["_law_parts_here","_law_told_here","_law_e"] 1 b62,
 ⟨"law","law",top 62,["_law_script"],["_law_script","_law_parts_here","_law_bad","_law_sums","_law_handed","_law_found"],1,6,true,b63⟩]
noncomputable def tbX(s:List U):Tbl:=⟨fnL,Qqz,Qqx,Qqn,Qp7,s,Qqb,Qqv,Qqs,Qpt,false,Qqp,Qqo,Qp1,Qpa,Qqt,Qqr,true,Qqf,λz z z=>none⟩
noncomputable def QjX(s:List U):Tbl:={tbX s with xf:=QI (tbX s) 2}
noncomputable def QjW(s:List U):Tbl:={tbX s with xf:=QI (QjX s) 3}
noncomputable def QjV(s:List U):Tbl:={tbX s with xf:=QI (QjW s) 21}
noncomputable def tb(s:List U):Tbl:={tbX s with xf:=QI (QjV s) 22}
noncomputable abbrev sR(n:Nat):Option U:=some (.ref n)
noncomputable abbrev sN(n:Nat):Option U:=some (.int (n:Int) 0)
noncomputable abbrev sF:Option U:=some (.bl false)
noncomputable abbrev sS(x:List Nat):Option U:=some (.str x)
noncomputable abbrev sI(n:Int):Option U:=some (.int n 0)
noncomputable def tbG(x:Nat->List U->Hs->Option (Er×Hs))(s:List U):Tbl:={tbX s with xf:=x}
variable {xx x2 x1 x0:Nat->List U->Hs->Option (Er×Hs)}{s:List U}
def eq_int{i j:Int}:eqA T (.int i 0) (.int j 0) hs=some (decide (i=j)):=rfl
def eq_str{x y:List Nat}:eqA T (.str x) (.str y) hs=some (decide (x=y)):=rfl
def at0{a:O}{r:Hs}:(hs++a::r)[hs.length]?=some a:=by rw[Wi (Xi _),Uw];rfl
def YH{r:Hs}(h:hs[p]?=some o):(hs++r)[p]?=some o:=by
 rw[X4 (Xh.mp h).1];exact h
def Kp(hs hs':Hs):Prop:=∀(p:Nat) o,hs[p]?=some o->hs'[p]?=some o
def Kp.refl(hs:Hs):Kp hs hs:=λz z h=>h
def Kp.app(hs r:Hs):Kp hs (hs++r):=λz z h=>YH h
def Kp.trans{a b c:Hs}(h:Kp a b)(h':Kp b c):Kp a c:=λp o e=>h' p o (h p o e)
def Kp.len{a b:Hs}(h:Kp a b):a.length<=b.length:=by
 cases ha:a.length with
 |zero=>lia
 |succ k=>
  have lt:k<a.length:=by lia
  have:=(Xh.mp (h k a[k] (by simp[lt]))).1
  lia
def Kp.put{a b:Hs}(h:Kp a b)(hj:a.length<=j):Kp a (b.set j o):=λp x e=>by
 have lt:=(Xh.mp e).1
 rw[X3 (by lia)]
 exact h p x e
section

def Qgo{r:List S}{st:S}(e:ex T cf d st ρ hs=some (.next,ρ',h1)):exs T cf (d+1) (st::r) ρ hs=exs T cf d r ρ' h1:=by
 rw[Qj,e]
def JQ{a:List S}(e:evT T cf (d+1) t ρ hs=some (false,h1)):ex T cf (d+2) (.ite t a []) ρ hs=some (.next,ρ,h1):=by
 rw[QD,e,Qm,if_neg (by decide),QK]
def Qhn{a b:E}{o:CmpOp}{c:Bool}(ea:ev T cf d a ρ hs=some (u,h1))(eb:ev T cf d b ρ h1=some (w,h2))(ec:Zi T o u w h2=some c):ev T cf (d+1) (.cmp o a b) ρ hs=some (.bl c,h2):=by
 rw[QL,ea,Qm,eb,Qm,ec];rfl
def Zu{a b:E}{o:CmpOp}{c:Bool}(ea:ev T cf d a ρ hs=some (u,h1))(eb:ev T cf d b ρ h1=some (w,h2))(ec:Zi T o u w h2=some c):evT T cf (d+2) (.cmp o a b) ρ hs=some (c,h2):=by
 rw[Qu,Qhn ea eb ec,Qm];rfl
def QbQ(hi:ρ[i]?=some (some u))(e:cf f [u] hs=some (v,h1)):ev T cf (d+2) (.call f [.var i]) ρ hs=some (v,h1):=by
 simp only[QA,evs,QG,hi,Qm,e]
end
def Qlf(h:hs[p]?=some (.lst xs)):biU T .len [.ref p] hs=some (.int xs.length 0,hs):=by unfold biU;simp only[Yo,h]
def QjP(h:hs[p]?=some (.lst xs)):biU T .tuple [.ref p] hs=some (.ref hs.length,hs++[.tup xs]):=by unfold biU;simp only[h]
def Ql3(h:hs[p]?=some (.lst xs))(hl:xs.length<1000000):bmU T .append (.ref p) [u] hs=some (.non,hs.set p (.lst (xs++[u]))):=by
 simp only[bmU,h,bmL,hl];rfl
def Qkr(h:hs[p]?=some (.lst xs)):QcS .append (.ref p) hs=true:=by simp only[QcS,h];rfl
def md{j:Int}(h:0<j):QiB (.int x 0) (.int j 0)=sI (x % j):=by simp only[QiB];rw[if_pos h]
def TK(hs hs':Hs):Prop:=∀(i:Nat) us,hs[i]?=some (.tup us)->hs'[i]?=some (.tup us)
def TK.refl:TK hs hs:=λz z h=>h
def TK.trans{a b c:Hs}(h:TK a b)(h':TK b c):TK a c:=λi us e=>h' i us (h i us e)
def TK.app{r:Hs}:TK hs (hs++r):=λi us h=>YH h
theorem TK.set{x y:O}(h:hs[i]?=some x)(n:∀us,x≠.tup us):TK hs (hs.set i y):=λj us e=>by
 have ne:i≠j:=λz=>by rw[z,e]at h;cases h;exact n us rfl
 rw[X3 ne];exact e
abbrev Nm:=Int×Int
structure Lp where
 ps:List Nm
 sd:Int
 lf:Int
def DN(hs:Hs)(u:U)(a:Nm):Prop:=∃i,u=.ref i/\hs[i]?=some (.tup [.int a.1 0,.int a.2 0])
def DL(hs:Hs)(u:U)(a:Lp):Prop:=∃i j us,u=.ref i/\hs[i]?=some (.tup [.ref j,.int a.sd 0,.int a.lf 0])/\hs[j]?=some (.tup us)/\Paired (DN hs) us a.ps
def DN.mono{hs':Hs}(t:TK hs hs'){a:Nm}(h:DN hs u a):DN hs' u a:=by obtain⟨i,e,h⟩:=h;exact⟨i,e,t _ _ h⟩
def Qi{P Q:α->β->Prop}(f:∀a b,P a b->Q a b){l:List α}{r:List β}(h:Paired P l r):Paired Q l r:=Paired.mono f h
def Qfr{P:α->β->Prop}{a:α}{b:β}(h:P a b){l:List α}{r:List β}(t:Paired P l r):Paired P (l++[a]) (r++[b]):=t.snoc h
def Qx{P:α->β->Prop}{l:List α}{r:List β}(h:Paired P l r):l.length=r.length:=h.length
theorem DL.mono{hs':Hs}(t:TK hs hs'){a:Lp}(h:DL hs u a):DL hs' u a:=by obtain⟨i,j,us,e,h1,h2,h3⟩:=h;exact⟨i,j,us,e,t _ _ h1,t _ _ h2,Qi (λz z=>DN.mono t) h3⟩
def Qm7{lo hi:Option Int}(h:hs[p]?=some (.lst xs)):slU T (.ref p) lo hi hs=some (.ref hs.length,hs++[.lst (QaT xs lo hi)]):=by simp only[slU,h]
def Y2{P:α->β->Prop}{l l':List α}{r r':List β}(h:Paired P l r)(h':Paired P l' r'):Paired P (l++l') (r++r'):=Qdw h h'
def Qoq{xs:List α}{x:α}(h:xs[i]?=some x):atU xs (i:Int)=some x:=by
 have l:=(Xh.mp h).1
 have e:ixU xs.length (i:Int)=some i:=by
  unfold ixU
  rw[if_pos (by lia),if_pos (by lia)]
  simp
 simp only[atU,e,h]
def JP{TT:Tbl}{a:E}(e:ev TT cf d a ρ h=some (u,h1)):ex TT cf (d+1) (.set i a) ρ h=some (.next,ρ.set i (some u),h1):=by
 rw[QC,e,Qm]
def Qgs{TT:Tbl}{t:Option E}{w:Wk}(es:Zs TT (ev TT cf d) ρ src h=some (w,h1))(ec:Yt TT (ev TT cf d) (Qbz (evT TT cf d) t) w false el ρ (Q7 TT w h1) 0 [] h1=some (us,h2)):ev TT cf (d+1) (.comp src false t el) ρ h=some (.ref h2.length,h2++[.lst us]):=by
 rw[QcY,es,Qm,ec,Qm]
def ZA{TT:Tbl}{o:Operator}{a b:E}{r:Option (U×Hs)}(ea:ev TT cf d a ρ h=some (u,h1))(eb:ev TT cf d b ρ h1=some (w,h2))(eo:opU o u w h2=r):ev TT cf (d+1) (.op o a b) ρ h=r:=by
 rw[ZG,ea,Qm,eb,Qm,eo]
def Qc{TT:Tbl}(e:ρ[i]?=some (some u)):ev TT cf (d+1) (.var i) ρ h=some (u,h):=by
 rw[QG,e]
def ZF{TT:Tbl}{st:S}(e:ex TT cf (d+1) st ρ h=some (.next,ρ',h1)):exs TT cf (d+2) [st] ρ h=some (.next,ρ',h1):=by
 rw[Qj,e];exact QK
def Qc1{t:Tg}{w:Wk}{r:Option (Fl×Rho×Hs)}(es:Zs T (ev T cf d) ρ src hs=some (w,h1))(ef:Je T w t (exs T cf d body) (Q7 T w h1) 0 ρ h1=r):ex T cf (d+1) (.loop t src body) ρ hs=r:=by
 rw[Qjx,es,Qm,ef]
def dvj{j:Int}(h:(decide ((0:Int) < j)&&decide (j<1606938044258990275541962092341162602522202993782792835301376))=true):QlM (.int x 0) (.int j 0)=sI (x / j):=by
 simp only[QlM];rw[if_pos h]
def Qel{xs:List α}{n:Int}(h:0<=n):QaT xs none (some n)=xs.take n.toNat:=by
 have e1:Z1 xs.length xs.length (some n)=min n.toNat xs.length:=by simp only[Z1];rw[if_neg (by lia)]
 have e2:Z1 xs.length 0 none=0:=rfl;unfold QaT;rw[e1,e2,List.drop_zero,Nat.sub_zero]
 rcases Nat.le_total n.toNat xs.length with l|l
 ·rw[Nat.min_eq_left l]
 ·rw[Nat.min_eq_right l,V9 (Xi _),V9 l]
section

def Qdf{j:Int}(h:ρ[i]?=some (sI y)):evT T cf (d+3) (.cmp .Eq (.var i) (.c (.int j 0))) ρ hs=some (decide (y=j),hs):=by
 rw[Qu,QL,QG,h];simp only[Qm,y_c,Zi,eq_int,Option.map,ZO]
end
def Qeh:eqS (.ref i) (.ref j)=none:=rfl
def Qi6{e:Nat}(hp:hs[p]?=some (.lst xs))(he:hs[e]?=some (.lst [])):eqA T (.ref p) (.ref e) hs=some (decide (xs=[])):=by
 cases xs with
 |nil=>simp[eqA,Qeh,YG,Y0,Q4,hp,he]
 |cons a r=>simp[eqA,Qeh,YG,Q4,hp,he]
section

end
instance:DecidableEq Nm:=inferInstanceAs (DecidableEq (Int×Int))
def QcQ{b:Nat}(ha:hs[a]?=some (.lst xs))(hb:hs[b]?=some (.lst ys))(l:xs.length+ys.length<=1000000):Yk (.ref a) (.ref b) hs=some (.ref hs.length,hs++[.lst (xs++ys)]):=by
 simp only[Yk,ha,hb,Qoc,l,Wg]
def Qas{a b c:E}{h4:Hs}{x:U}(ea:ev T cf d a ρ h0=some (u,h1))(eb:ev T cf d b ρ h1=some (v,h2))(ec:ev T cf d c ρ h2=some (w,h3))(ee:ev T cf d e ρ h3=some (x,h4)):ev T cf (d+1) (.tup [a,b,c,e]) ρ h0=some (.ref h4.length,h4++[.tup [u,v,w,x]]):=by
 simp only[QB,evs,ea,eb,ec,ee,Qm]
def Qhm{TT:Tbl}{t:Option E}{w:Wk}{b:Bool}(es:Zs TT (ev TT cf d) ρ src h=some (w,h1))(ec:Yt TT (ev TT cf d) (Qbz (evT TT cf d) t) w b el ρ (Q7 TT w h1) 0 [] h1=some (us,h2)):ev TT cf (d+1) (.comp src b t el) ρ h=some (.ref h2.length,h2++[.lst us]):=by
 rw[QcY,es,Qm,ec,Qm]
section

def Rr(T:Tbl)(cf:Cf)(d:Nat)(e:E)(ρ:Rho)(h:Hs)(Q:U->Hs->Prop):Prop:=∃u h1,ev T cf d e ρ h=some (u,h1)/\Q u h1
def Xx(T:Tbl)(cf:Cf)(d:Nat)(ss:List S)(ρ:Rho)(h:Hs)(Q:Fl->Rho->Hs->Prop):Prop:=∃f ρ1 h1,exs T cf d ss ρ h=some (f,ρ1,h1)/\Q f ρ1 h1
def Cc(T:Tbl)(m f:Nat)(us:List U)(h:Hs)(Q:U->Hs->Prop):Prop:=∃u h1,Qa T m f us h=some (u,h1)/\Q u h1
def Fq(Q:U->Hs->Prop):Fl->Rho->Hs->Prop:=λf z h=>match f with
 |.next=>Q .non h
 |.ret u=>Q u h
 |_=>False
def Nq(T:Tbl)(cf:Cf)(d:Nat)(r:List S)(Q:Fl->Rho->Hs->Prop):Fl->Rho->Hs->Prop:=λf ρ h=>match f with
 |.next=>Xx T cf d r ρ h Q
 |f=>Q f ρ h
def Jr{b:List S}{Q:U->Hs->Prop}(e:Qa T (m+1) f us h=fin (exs T (Qa T m) dd b ρ h))(x:Xx T (Qa T m) 100 b ρ h (Fq Q)):Cc T (m+1) f us h Q:=by
 obtain⟨f,ρ1,h1,a,q⟩:=x
 cases f with
 |next=>exact⟨_,_,by rw[e,show dd=100 from rfl,a];rfl,q⟩
 |ret u=>exact⟨_,_,by rw[e,show dd=100 from rfl,a];rfl,q⟩
 |brk=>exact q.elim
 |cont=>exact q.elim
def Cc.mono{Q Q':U->Hs->Prop}(c:Cc T m f us h Q)(k:∀u h1,Q u h1->Q' u h1):Cc T m f us h Q':=by obtain⟨u,h1,a,b⟩:=c;exact⟨u,h1,a,k u h1 b⟩
variable {r:List S}{G:U->Hs->Prop}
def Ju(q:Q .next ρ h):Xx T cf (d+1) [] ρ h Q:=⟨_,_,_,QK,q⟩
def J1{st:S}(e:ex T cf d st ρ h=some (.next,ρ1,h1))(q:Xx T cf d r ρ1 h1 Q):Xx T cf (d+1) (st::r) ρ h Q:=by obtain⟨f,a,b,c,x⟩:=q;exact⟨f,a,b,by rw[Qj,e];exact c,x⟩
def Za(q:Rr T cf d e ρ h λu h1=>Xx T cf (d+1) r (ρ.set i (some u)) h1 Q):Xx T cf (d+2) (.set i e::r) ρ h Q:=by obtain⟨u,h1,a,b⟩:=q;exact J1 (by rw[QC,a,Qm]) b
def Zb(q:Rr T cf d e ρ h λu h1=>Q (.ret u) ρ h1):Xx T cf (d+2) (.ret e::r) ρ h Q:=by obtain⟨u,h1,a,b⟩:=q;exact⟨_,_,_,by rw[Qj,Qz,a,Qm],b⟩
def Qno{o i:E}{x k:U}{h4:Hs}(ee:ev T cf d e ρ h=some (u,h1))(eo:ev T cf d o ρ h1=some (x,h2))(ei:ev T cf d i ρ h2=some (k,h3))(ep:Qh1 x k u h3=some h4)(q:Xx T cf (d+1) r ρ h4 Q):Xx T cf (d+2) (.put o i e::r) ρ h Q:=J1 (by rw[Qjw,ee,Qm,eo,Qm,ei,Qm,ep];rfl) q
def QeO{a b:List S}{c:Bool}(e:evT T cf d t ρ h=some (c,h1))(q:Xx T cf d (if c=true then a else b) ρ h1 (Nq T cf (d+1) r Q)):Xx T cf (d+2) (.ite t a b::r) ρ h Q:=by
 obtain⟨f,ρ1,h2,x,q⟩:=q
 have e1:ex T cf (d+1) (.ite t a b) ρ h=some (f,ρ1,h2):=by rw[QD,e,Qm];cases c<;>exact x
 cases f with
 |next=>exact J1 e1 q
 |ret u=>exact⟨_,_,_,by rw[Qj,e1],q⟩
 |brk=>exact⟨_,_,_,by rw[Qj,e1],q⟩
 |cont=>exact⟨_,_,_,by rw[Qj,e1],q⟩
def QgI{t:Tg}{w:Wk}(es:Zs T (ev T cf d) ρ src h=some (w,h1))(q:∃ρ2 h2,Je T w t (exs T cf d body) (Q7 T w h1) 0 ρ h1=some (.next,ρ2,h2)/\Xx T cf (d+1) r ρ2 h2 Q):Xx T cf (d+2) (.loop t src body::r) ρ h Q:=by obtain⟨_,_,a,b⟩:=q;exact J1 (Qc1 es a) b
def Q9(a:ev T cf d e ρ h=some (u,h1))(q:G u h1):Rr T cf d e ρ h G:=⟨_,_,a,q⟩
def Qdq(a:evs (ev T (Qa T m) d) ρ es h=some (us,h1))(q:Cc T m f us h1 G):Rr T (Qa T m) (d+1) (.call f es) ρ h G:=by obtain⟨_,_,b,c⟩:=q;exact⟨_,_,by rw[QA,a,Qm,b],c⟩
def QH(a:evs (ev T cf d) ρ es h=some (us,h1))(b:cf f us h1=some (u,h2)):ev T cf (d+1) (.call f es) ρ h=some (u,h2):=by rw[QA,a,Qm,b]
def Qp0{ss:List S}(e:exs T cf d ss ρ h=exs T cf d' r ρ' h')(x:Xx T cf d' r ρ' h' Q):Xx T cf d ss ρ h Q:=by obtain⟨a,b,c,x,q⟩:=x;exact⟨a,b,c,e.trans x,q⟩
def Qk5(a:ev T cf d e ρ h=some (u,h1)):exs T cf (d+2) (.set i e::r) ρ h=exs T cf (d+1) r (ρ.set i (some u)) h1:=by rw[Qj,QC,a,Qm]
def e_1(a:ev T cf d e ρ h=some (u,h1)):evs (ev T cf d) ρ [e] h=some ([u],h1):=by simp only[evs,a,Qm]
def JR{a:List S}{c:Bool}(e:evT T cf (d+1) t ρ h=some (c,h1))(hc:c=false):ex T cf (d+2) (.ite t a []) ρ h=some (.next,ρ,h1):=JQ (by rw[e,hc])
def QmO(a:ev T cf d e ρ h=some (.ref p,h1))(hp:h1[p]?=some (.lst xs)):ev T cf (d+1) (.bi .len [e]) ρ h=some (.int xs.length 0,h1):=by rw[YB];simp only[evs,a,Qm,Qlf hp]
def QbM{a b:E}(ea:ev T cf d a ρ h=some (u,h1))(eb:ev T cf d b ρ h1=some (v,h2)):ev T cf (d+1) (.tup [a,b]) ρ h=some (.ref h2.length,h2++[.tup [u,v]]):=by rw[QB];simp only[evs,ea,eb,Qm]
def QbL{a b c:E}(ea:ev T cf d a ρ h=some (u,h1))(eb:ev T cf d b ρ h1=some (v,h2))(ec:ev T cf d c ρ h2=some (w,h3)):ev T cf (d+1) (.tup [a,b,c]) ρ h=some (.ref h3.length,h3++[.tup [u,v,w]]):=by rw[QB];simp only[evs,ea,eb,ec,Qm]
def Qgt{b:Bi}{x:Option (U×Hs)}(a:ev T cf d e ρ h=some (u,h1))(eb:biU T b [u] h1=x):ev T cf (d+1) (.bi b [e]) ρ h=x:=by rw[YB];simp only[evs,a,Qm,eb]
def QnI{j:Int}(hj:(decide ((0:Int) < j)&&decide (j<1606938044258990275541962092341162602522202993782792835301376))=true):opU .FloorDiv (.int x 0) (.int j 0) h=some (.int (x / j) 0,h):=by show(QlM _ _).map _=_;rw[dvj hj];rfl
def QdL{j:Int}(hj:0<j):opU .Mod (.int x 0) (.int j 0) h=some (.int (x % j) 0,h):=by show(QiB _ _).map _=_;rw[md hj];rfl
def Y5{j:Int}:opU .Add (.int x 0) (.int j 0) h=some (.int (x+j) 0,h):=rfl
def Qk2{j:Int}:opU .Sub (.int x 0) (.int j 0) h=some (.int (x-j) 0,h):=rfl
def Qau{a:E}{j:Int}(ea:ev T cf (d+1) a ρ h=some (.int x 0,h1))(hj:(decide ((0:Int) < j)&&decide (j<1606938044258990275541962092341162602522202993782792835301376))=true):ev T cf (d+2) (.op .FloorDiv a (.c (.int j 0))) ρ h=some (.int (x / j) 0,h1):=ZA ea y_c (QnI hj)
def Jt{a:E}{j:Int}(ea:ev T cf (d+1) a ρ h=some (.int x 0,h1))(hj:0<j):ev T cf (d+2) (.op .Mod a (.c (.int j 0))) ρ h=some (.int (x % j) 0,h1):=ZA ea y_c (QdL hj)
def QoK{a b:E}(ea:ev T cf d a ρ h=some (.int x 0,h1))(eb:ev T cf d b ρ h1=some (.int y 0,h2)):evT T cf (d+2) (.cmp .Eq a b) ρ h=some (decide (x=y),h2):=Zu ea eb rfl
end
abbrev Vp:=Nat->O->Prop
def Le(P P':Vp):Prop:=∀i o,P i o->P' i o
def Le.refl{P:Vp}:Le P P:=λz z h=>h
def Le.trans{P P1 P2:Vp}(a:Le P P1)(b:Le P1 P2):Le P P2:=λi o h=>b i o (a i o h)
structure Own(h:Hs)(C:List (Nat×O))(P:Vp):Prop where
 c:∀(k i:Nat) x,C[k]?=some (i,x)->h[i]?=some x
 nd:∀(k k' i:Nat) x x',C[k]?=some (i,x)->C[k']?=some (i,x')->k=k'
 p:∀i o,P i o->h[i]?=some o
 q:∀i o,P i o->∀(k:Nat) x,C[k]?≠some (i,x)
section
variable {C:List (Nat×O)}{P:Vp}{x y:O}
def QbV{C:List α}{k':Nat}{a b:α}(e:(C.set k a)[k']?=some b):(k'=k/\b=a)\/(k'≠k/\C[k']?=some b):=by
 by_cases z:k=k'
 ·subst z;rw[List.getElem?_set]at e;split at e
  ·split at e<;>cases e;exact .inl ⟨rfl,rfl⟩
  ·contradiction
 ·rw[X3 z]at e;exact .inr ⟨Wr z,e⟩
def Own.lt(o:Own h C P)(e:C[k]?=some (i,x)):i<h.length:=(Xh.mp (o.c _ _ _ e)).1
theorem Own.set(o:Own h C P)(k:Nat)(e:C[k]?=some (i,x)):Own (h.set i y) (C.set k (i,y)) P:=by
 have ne:∀(k' j:Nat) z,k'≠k->C[k']?=some (j,z)->i≠j:=λk' j z n a b=>n (o.nd _ _ _ _ _ a (b▸e));refine⟨λk' j z a=>?_,λk1 k2 j z1 z2 a b=>?_,λj z a=>?_,λj z a k' z' b=>?_⟩
 ·rcases QbV a with⟨_,rfl,rfl⟩|⟨n,a⟩
  ·rw[X9 (o.lt e)]
  ·rw[X3 (ne _ _ _ n a)];exact o.c _ _ _ a
 ·rcases QbV a with⟨e1,a⟩|⟨n1,a⟩<;>rcases QbV b with⟨e2,b⟩|⟨n2,b⟩
  ·rw[e1,e2]
  ·cases a;exact absurd rfl (ne _ _ _ n2 b)
  ·cases b;exact absurd rfl (ne _ _ _ n1 a)
  ·exact o.nd _ _ _ _ _ a b
 ·rw[X3 (λz=>o.q _ _ a k x (by rw[<-z];exact e))];exact o.p _ _ a
 ·rcases QbV b with⟨_,b⟩|⟨_,b⟩
  ·cases b;exact o.q _ _ a _ _ e
  ·exact o.q _ _ a _ _ b
def Own.new(o:Own h C P):Own (h++[y]) (C++[(h.length,y)]) P:=by
 have cs:∀(k j:Nat) z,(C++[(h.length,y)])[k]?=some (j,z)->C[k]?=some (j,z)\/(k=C.length/\j=h.length/\z=y):=λk j z a=>by
  rw[List.getElem?_append]at a;split at a
  ·exact .inl a
  ·rename_i n;have l:=(Xh.mp a).1
   have e:k=C.length:=by simp at l;lia
   subst e;simp at a;exact .inr ⟨rfl,a.1.symm,a.2.symm⟩
 refine⟨λk j z a=>?_,λk1 k2 j z1 z2 a b=>?_,λj z a=>YH (o.p _ _ a),λj z a k z' b=>?_⟩
 ·rcases cs _ _ _ a with a|⟨_,rfl,rfl⟩
  ·exact YH (o.c _ _ _ a)
  ·exact at0
 ·rcases cs _ _ _ a with a|⟨e1,f1,_⟩<;>rcases cs _ _ _ b with b|⟨e2,f2,_⟩
  ·exact o.nd _ _ _ _ _ a b
  ·subst f2;exact absurd (o.lt a) (Wu _)
  ·subst f1;exact absurd (o.lt b) (Wu _)
  ·rw[e1,e2]
 ·rcases cs _ _ _ b with b|⟨_,rfl,_⟩
  ·exact o.q _ _ a _ _ b
  ·exact absurd (Xh.mp (o.p _ _ a)).1 (Wu _)
end
theorem Qle{T:Tbl}{w:Wk}{t:Tg}{body:Ex}(I:Nat->Rho->Hs->Prop){n:Nat}
  (st:∀i,i<n->∀ρ hs,I i ρ hs->∃x ρ' ρ2 h2,itm T w i hs=some (some x)/\tgt t x ρ hs=some ρ'/\body ρ' hs=some (.next,ρ2,h2)/\I (i+1) ρ2 h2)
  (en:∀ρ hs,I n ρ hs->itm T w n hs=some none):
  ∀(m i k:Nat) (ρ:Rho) (hs:Hs),n=i+m->m<k->I i ρ hs->∃ρ2 h2,Je T w t body k i ρ hs=some (.next,ρ2,h2)/\I n ρ2 h2
 |m,i,0,ρ,hs,e,l,h=>by lia
 |0,i,k+1,ρ,hs,e,l,h=>by
  have e':n=i:=by lia
  subst e'
  exact⟨ρ,hs,by simp only[Je,en ρ hs h],h⟩
 |m+1,i,k+1,ρ,hs,e,l,h=>by
  obtain⟨x,ρ',ρ1,h1,a,b,c,d⟩:=st i (by lia) ρ hs h
  obtain⟨ρ2,h2,g1,g2⟩:=Qle I st en m (i+1) k ρ1 h1 (by lia) (by lia) d
  exact⟨ρ2,h2,by simp only[Je,a,b,c,g1],g2⟩
def Qnt{P:α->β->Prop}{l:List α}{r:List β}(h:Paired P l r){b:β}(e:r[i]?=some b):∃a,l[i]?=some a/\P a b:=by
 induction h generalizing i with
 |nil=>cases e
 |cons x _ ih=>
  cases i with
  |zero=>cases(show some _=some _ from e);exact⟨_,rfl,x⟩
  |succ i=>exact ih e
noncomputable abbrev iU(i:Int):U:=.int i 0
section
variable {a b:E}
def Qpu{m:Nat}{o:E}{es:List E}:ev T cf (d+1) (.meth m o es) ρ h=bd (ev T cf d o ρ h) λu h1=>match Qbl T m u h1 with
   |some f=>bd (evs (ev T cf d) ρ es h1) λus h2=>cf f (u::(us++Qfx T f (us.length+1))) h2
   |none=>none:=rfl
def QoF{fs:List (Nat×U)}(hi:ρ[i]?=some (sR q))(hq:h[q]?=some (.ins c fs))(hC:T.cls[c]?=some C)(hf:C.meths.lookup m=some f)(hz:Qfx T f 1=[]):ev T cf (d+2) (.meth m (.var i) []) ρ h=cf f [.ref q] h:=by
 have e:Qbl T m (.ref q) h=some f:=by
  unfold Qbl;simp only[hq,hC,hf]
 rw[Qpu,Qc hi,Qm];simp only[e,evs,Qm,W2,Vo,hz,Vu]
def e_2{a b:E}{u:U}{f:Ev}(x:f a ρ h=some (u,h1))(y:f b ρ h1=some (w,h2)):evs f ρ [a,b] h=some ([u,w],h2):=by simp only[evs,x,y,Qm]
def QbO{a b:E}{u r:U}(x:ev T cf d a ρ h=some (u,h1))(y:ev T cf d b ρ h1=some (w,h2))(s:Zj T u w h2=some r):ev T cf (d+1) (.ix a b) ρ h=some (r,h2):=by rw[YU,x,Qm,y,Qm,s];rfl
def Qat{a:E}{u r:U}{k:Int}(x:ev T cf (d+1) a ρ h=some (u,h1))(s:Zj T u (iU k) h1=some r):ev T cf (d+2) (.ix a (.c (.int k 0))) ρ h=some (r,h1):=QbO x y_c s
def Qcr{t:Nat}(ht:h[t]?=some (.tup us))(hj:us[j]?=some u):Zj T (.ref t) (iU (j:Int)) h=some u:=by
 simp only[Zj,ht];exact Qoq hj
def Qj4{t:Nat}(ht:h[t]?=some (.lst us))(hj:us[j]?=some u):Zj T (.ref t) (iU (j:Int)) h=some u:=by
 simp only[Zj,ht];exact Qoq hj
def Qf7{e:E}{b:Bool}(n:Qdz e=true)(x:ev T cf d e ρ h=some (.bl b,h1)):evT T cf (d+1) e ρ h=some (b,h1):=by
 have z:evT T cf (d+1) e ρ h=bd (ev T cf d e ρ h) λu h1=>(ZO T u h1).map λc=>(c,h1):=by
  cases e<;>first|rfl|cases n
 rw[z,x,Qm];rfl
def YC{a:E}{c:Bool}(x:evT T cf d a ρ h=some (c,h1)):evT T cf (d+1) (.not a) ρ h=some (!c,h1):=by rw[QM,x,Qm]
def QpB{a b:E}{c:Bool}{r:Option (Bool×Hs)}(x:evT T cf d a ρ h=some (c,h1))(y:(if c=true then some (true,h1)else evT T cf d b ρ h1)=r):evT T cf (d+1) (.or a b) ρ h=r:=by rw[Zq,x,Qm];exact y
def Qda(k:Kp h h1)(e:ZH T u h=some xs):ZH T u h1=some xs:=by
 cases u with
 |ref n=>
  simp only[ZH]at e ⊢
  cases q:h[n]? with
  |none=>rw[q]at e;cases e
  |some o=>rw[q]at e;rw[k _ _ q];exact e
 |_=>exact e
def QdX(k:Kp h h1)(e:Q4 T u h=some xs):Q4 T u h1=some xs:=by
 cases u with
 |ref n=>
  simp only[Q4]at e ⊢
  cases q:h[n]? with
  |none=>rw[q]at e;cases e
  |some o=>rw[q]at e;rw[k _ _ q];exact e
 |_=>exact e
def YV(e:ZH T u h=some xs):Q4 T u h=none:=by
 cases u with
 |ref n=>
  simp only[ZH,Q4]at e ⊢
  cases q:h[n]? with
  |none=>rfl
  |some o=>rw[q]at e;cases o<;>first|rfl|cases e
 |con n=>
  simp only[ZH,Q4]at e ⊢
  cases q:T.cons[n]? with
  |none=>rfl
  |some o=>rw[q]at e;cases o<;>first|rfl|cases e
 |_=>cases e
def Qq(e:h[n]?=some (.lst xs)):Q4 T (.ref n) h=some xs:=by simp only[Q4,e]
def QW(e:h[n]?=some (.tup xs)):ZH T (.ref n) h=some xs:=by simp only[ZH,e]
def Sq(T:Tbl)(u:U)(h:Hs)(xs:List U):Prop:=Q4 T u h=some xs\/ZH T u h=some xs
def Qlb(e:Q4 T u h=some xs):sqU T (Q4 T u h).isSome u h=some xs/\∀h1,Kp h h1->sqU T (Q4 T u h).isSome u h1=some xs:=by rw[e];exact⟨e,λh1 k=>QdX k e⟩
theorem Qga{f:Ev}{ft:E->Rho->Hs->Option (Bool×Hs)}{w:Wk}{bb:Bool}{el:E}{α:Type}{L:List α}{im:α->Im}{r:α->Rho}(F:α->U->Hs->Prop)(mono:∀a u h h',Kp h h'->F a u h->F a u h')(hit:∀(i:Nat) hs,Kp h1 hs->itm T w i hs=some ((L[i]?).map im))
  (ht:∀a hs,tgt (tgN bb ρ.length) (im a) (ρ++QcU bb) hs=some (r a)) (st:∀a∈L,∀hs,Kp h1 hs->∃u h2,f el (r a) hs=some (u,h2)/\Kp hs h2/\F a u h2):
  ∀(m i k:Nat) (acc:List U) (hs:Hs),L.length=i+m->m<k->L.length<=900000->Kp h1 hs->Paired (λu a=>F a u hs) acc (L.take i)->∃us h2,Yt T f (Qbz ft none) w bb el ρ k i acc hs=some (us,h2)/\Kp h1 h2/\Paired (λu a=>F a u h2) us L
 |m,i,0,acc,hs,e,l,_,_,_=>by lia
 |0,i,k+1,acc,hs,e,l,_,kp,pr=>by
  have e':L.length<=i:=by lia
  refine⟨acc,hs,?_,kp,by rw[V9 e']at pr;exact pr⟩
  have:itm T w i hs=some none:=by rw[hit i hs kp,Ue e'];rfl
  simp only[Yt,this]
 |m+1,i,k+1,acc,hs,e,l,l9,kp,pr=>by
  have lt:i<L.length:=by lia
  have ei:itm T w i hs=some (some (im L[i])):=by rw[hit i hs kp,Xp lt];rfl
  obtain⟨u,h3,a,kp3,fu⟩:=st L[i] (U0 lt) hs kp
  have la:acc.length<1000000:=by rw[Qx pr,Vz];lia
  obtain⟨us,h4,b,kp4,p4⟩:=Qga F mono hit ht st m (i+1) k (acc++[u]) h3 (by lia) (by lia) l9 (kp.trans kp3) (by
   rw[List.take_add_one,Xp lt]
   exact Qfr (P:=λu a=>F a u h3) fu (Qi (λz z=>mono _ _ _ _ kp3) pr))
  refine⟨us,h4,?_,kp4,p4⟩;rw[Yt];simp only[ei,ht,la,Wg,Qbz,Qm,a];exact b
def Qm8{x:U}:(ρ++[none]).set ρ.length (some x)=ρ++[some x]:=by
 rw[Vm _ _ (Xi _),Uw];rfl
def QpR{x y:U}:((ρ++[none,none]).set ρ.length (some x)).set (ρ.length+1) (some y)=ρ++[some x,some y]:=by
 rw[Vm _ _ (Xi _),Uw,Vm _ _ (by lia),Nat.add_sub_cancel_left];rfl
def QlS{w:Wk}(F:U->U->Hs->Prop)(mono:∀a u h h',Kp h h'->F a u h->F a u h')(es:Zs T (ev T cf d) ρ src h=some (w,h1))(tn:L.length<Q7 T w h1)(ll:L.length<=900000)(hit:∀(i:Nat) hs,Kp h1 hs->itm T w i hs=some ((L[i]?).map .one))
  (st:∀x∈L,∀hs,Kp h1 hs->∃u h2,ev T cf d el (ρ++[some x]) hs=some (u,h2)/\Kp hs h2/\F x u h2):∃us h2,ev T cf (d+1) (.comp src false none el) ρ h=some (.ref h2.length,h2++[.lst us])/\Kp h1 h2/\Paired (λu a=>F a u h2) us L:=by
 obtain⟨us,h2,a,k,p⟩:=Qga (T:=T) (ρ:=ρ) (f:=ev T cf d) (ft:=evT T cf d) (w:=w) (bb:=false) (el:=el) (im:=Im.one) (r:=λx=>ρ++[some x]) F mono hit (λx hs=>by simp only[tgN,QcU,tgt,Wp,Vn,Qm8]) st L.length 0 _ [] h1 (Vo _).symm tn ll (Kp.refl _) .nil
 exact⟨us,h2,Qgs es a,k,p⟩
def Qoe{w:Wk}{L:List (U×U)}(F:U×U->U->Hs->Prop)(mono:∀a u h h',Kp h h'->F a u h->F a u h')(es:Zs T (ev T cf d) ρ src h=some (w,h1))(tn:L.length<Q7 T w h1)(ll:L.length<=900000)(hit:∀(i:Nat) hs,Kp h1 hs->itm T w i hs=some ((L[i]?).map λp=>.two p.1 p.2))
  (st:∀x∈L,∀hs,Kp h1 hs->∃u h2,ev T cf d el (ρ++[some x.1,some x.2]) hs=some (u,h2)/\Kp hs h2/\F x u h2):∃us h2,ev T cf (d+1) (.comp src true none el) ρ h=some (.ref h2.length,h2++[.lst us])/\Kp h1 h2/\Paired (λu a=>F a u h2) us L:=by
 obtain⟨us,h2,a,k,p⟩:=Qga (T:=T) (ρ:=ρ) (f:=ev T cf d) (ft:=evT T cf d) (w:=w) (bb:=true) (el:=el) (im:=λp:U×U=>Im.two p.1 p.2) (r:=λx=>ρ++[some x.1,some x.2]) F mono hit (λx hs=>by simp only[tgN,QcU,tgt,Wg,QpR]) st L.length 0 _ [] h1 (Vo _).symm tn ll (Kp.refl _) .nil
 exact⟨us,h2,Qhm es a,k,p⟩
def YJ(F:U->U->Hs->Prop)(mono:∀a u h h',Kp h h'->F a u h->F a u h')(v:ev T cf d e ρ h=some (u,h1))(s:Sq T u h1 L)(ll:L.length<=900000)
  (st:∀x∈L,∀hs,Kp h1 hs->∃u h2,ev T cf d el (ρ++[some x]) hs=some (u,h2)/\Kp hs h2/\F x u h2):∃us h2,ev T cf (d+1) (.comp (.seq e) false none el) ρ h=some (.ref h2.length,h2++[.lst us])/\Kp h1 h2/\Paired (λu a=>F a u h2) us L:=by
 rcases s with s|s
 ·exact QlS (w:=.seqL u) F mono (by simp only[Zs,v,Qm,wkS,s];rfl) (by simp only[Q7,s,W5];lia) ll (λi hs k=>by simp only[itm,QdX k s,Option.map]) st
 ·exact QlS (w:=.seqT u) F mono (by simp only[Zs,v,Qm,wkS,s,YV s];rfl) (by simp only[Q7,s,W5];lia) ll (λi hs k=>by simp only[itm,Qda k s,Option.map]) st
def Qgv:two xs ys i=((xs.zip ys)[i]?).map λp=>.two p.1 p.2:=by
 unfold two;show _=((List.zipWith Prod.mk xs ys)[i]?).map _;rw[List.getElem?_zipWith];cases xs[i]?<;>cases ys[i]?<;>rfl
def Z4{g:α->U}{L:List α}(h:Paired (λu a=>u=g a) us L):us=L.map g:=by
 induction h with
 |nil=>rfl
 |cons a _ ih=>rw[Vw,<-ih,a]
def Qgq(v:ev T cf d e ρ h=some (.ref h1.length,h1++[.lst us])):ev T cf (d+1) (.bi .tuple [e]) ρ h=some (.ref (h1++[O.lst us]).length,h1++[O.lst us]++[.tup us]):=Qgt v (QjP at0)
variable {r:List S}{t:Tg}
def Qdr{w:Wk}{L:List α}{im:α->Im}(I:Nat->Rho->Hs->Prop)(es:Zs T (ev T cf d) ρ src h=some (w,h1))(tn:L.length<Q7 T w h1)(hit:∀i ρ hs,I i ρ hs->itm T w i hs=some ((L[i]?).map im))(h0:I 0 ρ h1)
  (st:∀i a,L[i]?=some a->∀ρ hs,I i ρ hs->∃ρ' ρ2 h2,tgt t (im a) ρ hs=some ρ'/\exs T cf d body ρ' hs=some (.next,ρ2,h2)/\I (i+1) ρ2 h2) (k:∀ρ2 h2,I L.length ρ2 h2->Xx T cf (d+1) r ρ2 h2 Q):Xx T cf (d+2) (.loop t src body::r) ρ h Q:=by
 obtain⟨ρ2,h2,a,b⟩:=Qle (T:=T) (w:=w) (t:=t) (body:=exs T cf d body) I (n:=L.length) (λi hi ρ hs z=>by
  obtain⟨ρ',ρ2,h2,a,b,c⟩:=st i _ (Xp hi) ρ hs z
  exact⟨_,ρ',ρ2,h2,by rw[hit i ρ hs z,Xp hi];rfl,a,b,c⟩) (λρ hs z=>by rw[hit _ ρ hs z,Ue (Xi _)];rfl) L.length 0 _ ρ h1 (Vo _).symm tn h0
 exact QgI es ⟨ρ2,h2,a,k ρ2 h2 b⟩
def QhY(I:Nat->Rho->Hs->Prop)(v:ev T cf d e ρ h=some (u,h1))(hl:∀i ρ hs,I i ρ hs->Q4 T u hs=some L)(h0:I 0 ρ h1)
  (st:∀i x,L[i]?=some x->∀ρ hs,I i ρ hs->∃ρ' ρ2 h2,tgt t (.one x) ρ hs=some ρ'/\exs T cf d body ρ' hs=some (.next,ρ2,h2)/\I (i+1) ρ2 h2) (k:∀ρ2 h2,I L.length ρ2 h2->Xx T cf (d+1) r ρ2 h2 Q):Xx T cf (d+2) (.loop t (.seq e) body::r) ρ h Q:=by
 have s:=hl _ _ _ h0
 exact Qdr (w:=.seqL u) (im:=Im.one) I (by simp only[Zs,v,Qm,wkS,s];rfl) (by simp only[Q7,s,W5];lia) (λi ρ hs z=>by simp only[itm,hl _ _ _ z,Option.map]) h0 st k
end
def Pc(T:Tbl)(m f:Nat)(us:List U)(h:Hs)(Q:U->Hs->Prop):Prop:=∃u h1,Qa T m f us h=some (u,h1)/\Kp h h1/\Q u h1
def Pc.of{Q:U->Hs->Prop}(c:Cc T m f us h λu h1=>Kp h h1/\Q u h1):Pc T m f us h Q:=c
def kp1:Kp h (h++[o]):=Kp.app h [o]
def Qo:(h++[o])[h.length]?=some o:=at0
noncomputable def sg(l:List Nat)(z:Int):Nat:=(l[(z % (l.length:Int)).toNat]?).getD 0
def QbT{l:List Nat}{k:Int}(hk:(l.length:Int)=k)(h0:0<k)(hl:l.length<=1000000)(z:Int):Zj T (.str l) (.int (z % k) 0) hs=some (.str [sg l z]):=by
 subst hk;have h1:=Int.emod_nonneg z (Int.ne_of_gt h0);have h2:=Int.emod_lt_of_pos z h0
 have h3:(z % (l.length:Int)).toNat<l.length:=by lia
 have e:atU l (z % (l.length:Int))=some (sg l z):=by
  unfold atU ixU sg;rw[if_pos h1,if_pos h2];simp[h3]
 simp[Zj,hl,e]
def QbU{l:List Nat}(h:0<l.length)(z:Int):sg l z∈l:=by
 have h0:(0:Int) < (l.length:Int):=by lia
 have h1:=Int.emod_nonneg z (Int.ne_of_gt h0);have h2:=Int.emod_lt_of_pos z h0
 have h3:(z % (l.length:Int)).toNat<l.length:=by lia
 unfold sg;rw[Xp h3];exact U0 h3
inductive Mk:List Nat->Prop
 |bare {a:Nat} (h:a∈[107,112,115,111,98]):Mk [a]
 |lean {a b c:Nat} (h:a∈[107,112]) (hb:b∈[50,51,52]) (hc:c∈[114,108]):Mk [a,b,c]
 |grow {a b:Nat} (h:a∈[107,112]) (hb:b∈[50,51,52]):Mk [a,120,b]
 |cross {a b c e:Nat} (h:a∈[99,113]) (hb:b∈[49,50,51,52]) (hc:c∈[102,98]) (he:e∈[49,50,51,52]):Mk [a,b,c,e]
 |keep {a b:Nat} (h:a∈[104,102]) (hb:b∈[119,120,121,122]):Mk [a,b]
def Mk.len{m:List Nat}(h:Mk m):1<=m.length/\m.length<=4:=by cases h<;>exact⟨by simp,by simp⟩
def Yw{x y:List Nat}(l:x.length+y.length<=1000000):opU .Add (.str x) (.str y) h=some (.str (x++y),h):=if_pos l
def QmU{j:Int}(h:ρ[i]?=some (sI y)):evT T cf (d+3) (.cmp .Lt (.var i) (.c (.int j 0))) ρ hs=some (decide (y<j),hs):=Zu (Qc h) y_c rfl
def QhZ{r:List S}{k j:Int}(hi:ρ[1]?=some (sI k))(yes:Rr T cf (d+1) e ρ h λu h1=>Q (.ret u) ρ h1)(no:Xx T cf (d+4) r ρ h Q):Xx T cf (d+5) (.ite (.cmp .Eq Vb (.c (.int j 0))) [.ret e] []::r) ρ h Q:=by
 refine QeO (d:=d+3) (Qdf hi) ?_;by_cases c:k=j
 ·rw[if_pos (Wv c)];exact Zb yes
 ·rw[if_neg (by simpa using c)]
  exact Ju no
def QqH:∃m,Mk m/\Qa (tbG xx s) (n+1) 52 [.int x 0] hs=some (.str m,hs):=by
 suffices z:Cc (tbG xx s) (n+1) 52 [.int x 0] hs λu h1=>h1=hs/\∃m,Mk m/\u=.str m by
  obtain⟨_,_,e,rfl,m,hm,rfl⟩:=z;exact⟨m,hm,e⟩
 have q2:∀(a b:Nat) (z:Int),Zj (tbG xx s) (.str [a,b]) (.int (z % 2) 0) hs=some (.str [sg [a,b] z]):=λa b z=>QbT (k:=2) rfl (by decide) (by simp) z
 have q3:∀(a b c:Nat) (z:Int),Zj (tbG xx s) (.str [a,b,c]) (.int (z % 3) 0) hs=some (.str [sg [a,b,c] z]):=λa b c z=>QbT (k:=3) rfl (by decide) (by simp) z
 have q4:∀(a b c e:Nat) (z:Int),Zj (tbG xx s) (.str [a,b,c,e]) (.int (z % 4) 0) hs=some (.str [sg [a,b,c,e] z]):=λa b c e z=>QbT (k:=4) rfl (by decide) (by simp) z
 have q5:∀(z:Int),Zj (tbG xx s) (.str [107,112,115,111,98]) (.int (z % 5) 0) hs=some (.str [sg [107,112,115,111,98] z]):=λz=>QbT (k:=5) rfl (by decide) (by simp) z
 have M2:∀(a b:Nat) (z:Int),sg [a,b] z∈[a,b]:=λa b z=>QbU (by simp) z
 have M3:∀(a b c:Nat) (z:Int),sg [a,b,c] z∈[a,b,c]:=λa b c z=>QbU (by simp) z
 have M4:∀(a b c e:Nat) (z:Int),sg [a,b,c,e] z∈[a,b,c,e]:=λa b c e z=>QbU (by simp) z
 have md:∀{d i:Nat} {y j:Int} {ρ:Rho},ρ[i]?=some (sI y)->0<j->ev (tbG xx s) (Qa (tbG xx s) n) (d+2) (.op .Mod (.var i) (.c (.int j 0))) ρ hs=some (.int (y % j) 0,hs):=λh hj=>Jt (Qc h) hj;have mv:∀{d i:Nat} {y k j:Int} {ρ:Rho},ρ[i]?=some (sI y)->(decide ((0:Int) < k)&&decide (k<1606938044258990275541962092341162602522202993782792835301376))=true->0<j->ev (tbG xx s) (Qa (tbG xx s) n) (d+3) (.op .Mod (.op .FloorDiv (.var i) (.c (.int k 0))) (.c (.int j 0))) ρ hs=some (.int (y / k % j) 0,hs):=λh hk hj=>Jt (Qau (Qc h) hk) hj
 refine Jr (Qf fnL[52] rfl rfl) (Qp0 ((Qk5 (d:=98) (md (d:=96) rfl (by decide))).trans (Qk5 (d:=97) (Qau (d:=95) (Qc rfl) (by decide)))) (QeO (d:=96) (QmU rfl) ?_))
 by_cases c:x % 8<3
 ·rw[if_pos (Wv c)]
  exact Zb (Q9 (QbO y_c (md rfl (by decide)) (q5 (x / 8))) ⟨rfl,_,.bare (QbU (by simp) _),rfl⟩)
 rw[if_neg (by simpa using c)]
 refine Ju (QhZ (d:=92) rfl ?_ (QhZ (d:=91) rfl ?_ (QhZ (d:=90) rfl ?_ (Zb ?_))))
 ·exact Q9 (ZA (QbO y_c (md rfl (by decide)) (q2 104 102 (x / 8))) (QbO y_c (mv rfl (by decide) (by decide)) (q4 119 120 121 122 (x / 8 / 2))) (Yw (by simp))) ⟨rfl,_,.keep (M2 104 102 _) (M4 119 120 121 122 _),rfl⟩
 ·exact Q9 (ZA (ZA (QbO y_c (md rfl (by decide)) (q2 107 112 (x / 8))) (QbO y_c (mv rfl (by decide) (by decide)) (q3 50 51 52 (x / 8 / 2))) (Yw (by simp))) (QbO y_c (mv rfl (by decide) (by decide)) (q2 114 108 (x / 8 / 6))) (Yw (by simp))) ⟨rfl,_,.lean (M2 107 112 _) (M3 50 51 52 _) (M2 114 108 _),rfl⟩
 ·exact Q9 (ZA (ZA (QbO y_c (md rfl (by decide)) (q2 107 112 (x / 8))) y_c (Yw (by simp))) (QbO y_c (mv rfl (by decide) (by decide)) (q3 50 51 52 (x / 8 / 2))) (Yw (by simp))) ⟨rfl,_,.grow (M2 107 112 _) (M3 50 51 52 _),rfl⟩
 ·exact Q9 (ZA (ZA (ZA (QbO y_c (md rfl (by decide)) (q2 99 113 (x / 8))) (QbO y_c (mv rfl (by decide) (by decide)) (q4 49 50 51 52 (x / 8 / 2))) (Yw (by simp))) (QbO y_c (mv rfl (by decide) (by decide)) (q2 102 98 (x / 8 / 8))) (Yw (by simp))) (QbO y_c (mv rfl (by decide) (by decide)) (q4 49 50 51 52 (x / 8 / 16))) (Yw (by simp))) ⟨rfl,_,.cross (M2 99 113 _) (M4 49 50 51 52 _) (M2 102 98 _) (M4 49 50 51 52 _),rfl⟩
def Qjl{a c:O}{r:Hs}:(hs++a::r).set hs.length c=hs++c::r:=by rw[Vm _ _ (Xi _),Uw];rfl
def Qjj{T:Tbl}{cf:Cf}{d f:Nat}{o e:E}{ρ:Rho}{hs:Hs}:ex T cf (d+1) (.fld o f e) ρ hs=bd (ev T cf d e ρ hs) λu h1=>bd (ev T cf d o ρ h1) λx h2=>match x with
   |.ref n=>match h2[n]? with
    |some (.ins c fs)=>if fs.length<500 then some (.next,ρ,h2.set n (.ins c (QcT f u fs)))else none
    |_=>none
   |_=>none:=rfl
def Qjy{T:Tbl}{cf:Cf}{d f:Nat}{a:E}{ρ:Rho}{hs:Hs}:ev T cf (d+1) (.fld a f) ρ hs=bd (ev T cf d a ρ hs) λu h1=>match u with
   |.ref n=>match h1[n]? with
    |some (.ins _ fs)=>(fs.lookup f).map λx=>(x,h1)
    |some (.err c w)=>if T.efl.contains (c,f)=true then some (w,h1)else none
    |_=>none
   |_=>none:=rfl
def Qhe{b:E}:ev T cf (d+1) (.tab k b) ρ hs=bd (ev T cf d b ρ hs) λw h1=>(Qhx T k w).map λx=>(x,h1):=rfl
def QeR:ev T cf (d+1) (.make c es) ρ hs=bd (evs (ev T cf d) ρ es hs) λus h1=>ZZ T cf c us h1:=rfl
noncomputable def sd(a:Nat):Int:=if a=107\/a=99 then 1 else -1
section

def tS(h:a∈[107,112]):Qhx (tbG xx s) 4 (.str [a])=sI (sd a)/\Zi (tbG xx s) .In (.str [a]) (.con 4) hs=some true/\Zi (tbG xx s) .NotIn (.str [a]) (.con 4) hs=some false:=by
 simp only[Xg,Xl,X5]at h
 rcases h with rfl|rfl<;>exact⟨rfl,rfl,rfl⟩
def tC(h:a∈[99,113]):Qhx (tbG xx s) 5 (.str [a])=sI (sd a)/\Zi (tbG xx s) .In (.str [a]) (.con 5) hs=some true:=by
 simp only[Xg,Xl,X5]at h
 rcases h with rfl|rfl<;>exact⟨rfl,rfl⟩
def tM{b:Nat}(h:b∈[50,51,52]):Qhx (tbG xx s) 8 (.str [b])=some (.int ((b:Int) - 48) 0)/\Zi (tbG xx s) .In (.str [b]) (.con 8) hs=some true/\b≠120:=by
 simp only[Xg,Xl,X5]at h
 rcases h with rfl|rfl|rfl<;>exact⟨rfl,rfl,by decide⟩
def tX{b:Nat}(h:b∈[49,50,51,52]):Qhx (tbG xx s) 9 (.str [b])=some (.int ((b:Int) - 48) 0)/\Zi (tbG xx s) .In (.str [b]) (.con 9) hs=some true:=by
 simp only[Xg,Xl,X5]at h
 rcases h with rfl|rfl|rfl|rfl<;>exact⟨rfl,rfl⟩
def tK{b:Nat}(h:b∈[119,120,121,122]):Zi (tbG xx s) .NotIn (.str [b]) (.con 0) hs=some false:=by
 simp only[Xg,Xl,X5]at h
 rcases h with rfl|rfl|rfl|rfl<;>rfl
def tL{b:Nat}(h:b∈[114,108]):Zi (tbG xx s) .In (.str [b]) (.con 6) hs=some true:=by
 simp only[Xg,Xl,X5]at h
 rcases h with rfl|rfl<;>rfl
def tF{b:Nat}(h:b∈[102,98]):Zi (tbG xx s) .In (.str [b]) (.con 7) hs=some true:=by
 simp only[Xg,Xl,X5]at h
 rcases h with rfl|rfl<;>rfl
def QiN:Qa (tbG xx s) (n+1) 2 [.ref hs.length,u] (hs++[.ins 1 []])=some (.non,hs++[.ins 1 [(0,u)]]):=by
 rw[Qf fnL[2] rfl rfl];show fin (exs (tbG xx s) (Qa (tbG xx s) n) 100 b2 [sR hs.length,some u] (hs++[.ins 1 []]))=_;generalize Qa (tbG xx s) n=cf;generalize (tbG xx s)=T;simp[b2,Qm,QK,Qj,Qt,QC,Qz,QD,y_c,Q6,QG,ZG,QU,QL,Zt,Zg,QB,y_lst,YU,QA,YB,Zn,Yl,Zp,Jq,QM,QJ,Zq,Qu,QS,QT,evs,Zi,eq_int,ZO,Zj,opU,Yk,biU,biL,fin,Qjj,at0,Qjl,QcT]
def Qls:Qa (tbG xx s) (n+1) 27 [.ref hs.length,u] (hs++[.ins 8 []])=some (.non,hs++[.ins 8 [(5,u)]]):=by
 rw[Qf fnL[27] rfl rfl];show fin (exs (tbG xx s) (Qa (tbG xx s) n) 100 b27 [sR hs.length,some u] (hs++[.ins 8 []]))=_;generalize Qa (tbG xx s) n=cf;generalize (tbG xx s)=T;simp[b27,Qm,QK,Qj,Qt,QC,Qz,QD,y_c,Q6,QG,ZG,QU,QL,Zt,Zg,QB,y_lst,YU,QA,YB,Zn,Yl,Zp,Jq,QM,QJ,Zq,Qu,QS,QT,evs,Zi,eq_int,ZO,Zj,opU,Yk,biU,biL,fin,Qjj,at0,Qjl,QcT]
def QiO:Qa (tbG xx s) (n+1) 31 [.ref hs.length,u] (hs++[.ins 9 []])=some (.non,hs++[.ins 9 [(5,u)]]):=by
 rw[Qf fnL[31] rfl rfl];show fin (exs (tbG xx s) (Qa (tbG xx s) n) 100 b31 [sR hs.length,some u] (hs++[.ins 9 []]))=_;generalize Qa (tbG xx s) n=cf;generalize (tbG xx s)=T;simp[b31,Qm,QK,Qj,Qt,QC,Qz,QD,y_c,Q6,QG,ZG,QU,QL,Zt,Zg,QB,y_lst,YU,QA,YB,Zn,Yl,Zp,Jq,QM,QJ,Zq,Qu,QS,QT,evs,Zi,eq_int,ZO,Zj,opU,Yk,biU,biL,fin,Qjj,at0,Qjl,QcT]
def Qlt:Qa (tbG xx s) (n+1) 16 [.ref hs.length,u,w] (hs++[.ins 5 []])=some (.non,hs++[.ins 5 [(1,u),(0,w)]]):=by
 rw[Qf fnL[16] rfl rfl];show fin (exs (tbG xx s) (Qa (tbG xx s) n) 100 b16 [sR hs.length,some u,some w] (hs++[.ins 5 []]))=_;generalize Qa (tbG xx s) n=cf;generalize (tbG xx s)=T;simp[b16,Qm,QK,Qj,Qt,QC,Qz,QD,y_c,Q6,QG,ZG,QU,QL,Zt,Zg,QB,y_lst,YU,QA,YB,Zn,Yl,Zp,Jq,QM,QJ,Zq,Qu,QS,QT,evs,Zi,eq_int,ZO,Zj,opU,Yk,biU,biL,fin,Qjj,at0,Qjl,QcT]
def Qlr{x:U}:Qa (tbG xx s) (n+1) 12 [.ref hs.length,u,w,x] (hs++[.ins 4 []])=some (.non,hs++[.ins 4 [(1,u),(2,w),(0,x)]]):=by
 rw[Qf fnL[12] rfl rfl];show fin (exs (tbG xx s) (Qa (tbG xx s) n) 100 b12 [sR hs.length,some u,some w,some x] (hs++[.ins 4 []]))=_;generalize Qa (tbG xx s) n=cf;generalize (tbG xx s)=T;simp[b12,Qm,QK,Qj,Qt,QC,Qz,QD,y_c,Q6,QG,ZG,QU,QL,Zt,Zg,QB,y_lst,YU,QA,YB,Zn,Yl,Zp,Jq,QM,QJ,Zq,Qu,QS,QT,evs,Zi,eq_int,ZO,Zj,opU,Yk,biU,biL,fin,Qjj,at0,Qjl,QcT]
def QiP{x y:U}:Qa (tbG xx s) (n+1) 20 [.ref hs.length,u,w,x,y] (hs++[.ins 6 []])=some (.non,hs++[.ins 6 [(3,u),(4,w),(2,x),(0,y)]]):=by
 rw[Qf fnL[20] rfl rfl];show fin (exs (tbG xx s) (Qa (tbG xx s) n) 100 b20 [sR hs.length,some u,some w,some x,some y] (hs++[.ins 6 []]))=_;generalize Qa (tbG xx s) n=cf;generalize (tbG xx s)=T;simp[b20,Qm,QK,Qj,Qt,QC,Qz,QD,y_c,Q6,QG,ZG,QU,QL,Zt,Zg,QB,y_lst,YU,QA,YB,Zn,Yl,Zp,Jq,QM,QJ,Zq,Qu,QS,QT,evs,Zi,eq_int,ZO,Zj,opU,Yk,biU,biL,fin,Qjj,at0,Qjl,QcT]
end
section

def QfL:ZZ (tbG xx s) (Qa (tbG xx s) (n+1)) 1 [u] hs=some (.ref hs.length,hs++[.ins 1 [(0,u)]]):=by
 show(match Qa (tbG xx s) (n+1) 2 (.ref hs.length::[u]) (hs++[.ins 1 []])with|some (.non,h2)=>some (U.ref hs.length,h2)|_=>none)=_
 rw[QiN]
def QiD:ZZ (tbG xx s) (Qa (tbG xx s) (n+1)) 8 [u] hs=some (.ref hs.length,hs++[.ins 8 [(5,u)]]):=by
 show(match Qa (tbG xx s) (n+1) 27 (.ref hs.length::[u]) (hs++[.ins 8 []])with|some (.non,h2)=>some (U.ref hs.length,h2)|_=>none)=_
 rw[Qls]
def QfM:ZZ (tbG xx s) (Qa (tbG xx s) (n+1)) 9 [u] hs=some (.ref hs.length,hs++[.ins 9 [(5,u)]]):=by
 show(match Qa (tbG xx s) (n+1) 31 (.ref hs.length::[u]) (hs++[.ins 9 []])with|some (.non,h2)=>some (U.ref hs.length,h2)|_=>none)=_
 rw[QiO]
def QiE:ZZ (tbG xx s) (Qa (tbG xx s) (n+1)) 5 [u,w] hs=some (.ref hs.length,hs++[.ins 5 [(1,u),(0,w)]]):=by
 show(match Qa (tbG xx s) (n+1) 16 (.ref hs.length::[u,w]) (hs++[.ins 5 []])with|some (.non,h2)=>some (U.ref hs.length,h2)|_=>none)=_
 rw[Qlt]
def QiC{x:U}:ZZ (tbG xx s) (Qa (tbG xx s) (n+1)) 4 [u,w,x] hs=some (.ref hs.length,hs++[.ins 4 [(1,u),(2,w),(0,x)]]):=by
 show(match Qa (tbG xx s) (n+1) 12 (.ref hs.length::[u,w,x]) (hs++[.ins 4 []])with|some (.non,h2)=>some (U.ref hs.length,h2)|_=>none)=_
 rw[Qlr]
def QfN{x y:U}:ZZ (tbG xx s) (Qa (tbG xx s) (n+1)) 6 [u,w,x,y] hs=some (.ref hs.length,hs++[.ins 6 [(3,u),(4,w),(2,x),(0,y)]]):=by
 show(match Qa (tbG xx s) (n+1) 20 (.ref hs.length::[u,w,x,y]) (hs++[.ins 6 []])with|some (.non,h2)=>some (U.ref hs.length,h2)|_=>none)=_
 rw[QiP]
def Qbi(h:(tbG xx s).cls[c]?=some C)(h':C.init=none):ZZ (tbG xx s) cf c [] hs=some (.ref hs.length,hs++[.ins c []]):=by
 unfold ZZ;simp only[h,h',Wg]
def eqs{x y:List Nat}:Zi T .Eq (.str x) (.str y) hs=some (decide (x=y)):=rfl
end
def YX{b:Bool}:ZO T (.bl b) hs=some b:=rfl
noncomputable def Qa7:List Nat:=[110,101,119]
noncomputable def QjD:List Nat:=[115,97,109,101]
noncomputable def QmL:List Nat:=[111,102,102]
noncomputable def Qa8:List Nat:=[102,114,111,109]
inductive Ti where
 |nw (ps:List Int) (s l:Int)|sm|fr (w:List Nat)
def DTi(h:Hs)(u:U):Ti->Prop
 |.nw ps s l=>∃p q,u=.ref p/\h[p]?=some (.tup [.str Qa7,.ref q,.int s 0,.int l 0])/\h[q]?=some (.tup (ps.map iU))
 |.sm=>∃p,u=.ref p/\h[p]?=some (.tup [.str QjD,.int 0 0])
 |.fr w=>∃p,u=.ref p/\h[p]?=some (.tup [.str Qa8,.str w])
def DEn(h:Hs)(u:U)(w:List Nat):Prop:=∃p,u=.ref p/\h[p]?=some (.tup [.int 0 0,.str w])
structure Sp where
 tk:Nat
 ts:List Ti
 es:List (List Nat)
def DTi.mono(h:Kp g g'){t:Ti}(z:DTi g u t):DTi g' u t:=by
 cases t with
 |nw ps s l=>obtain⟨p,q,e,e1,e2⟩:=z;exact⟨p,q,e,h _ _ e1,h _ _ e2⟩
 |sm=>obtain⟨p,e,e1⟩:=z;exact⟨p,e,h _ _ e1⟩
 |fr w=>obtain⟨p,e,e1⟩:=z;exact⟨p,e,h _ _ e1⟩
def DEn.mono(h:Kp g g'){w:List Nat}(z:DEn g u w):DEn g' u w:=by obtain⟨p,e,e1⟩:=z;exact⟨p,e,h _ _ e1⟩
def Mt(T:Tbl)(o:O)(k f:Nat):Prop:=∃c fs C,o=.ins c fs/\T.cls[c]?=some C/\C.meths.lookup k=some f/\f<46
def Te(T:Tbl)(o:O)(k:Nat)(u:U):Prop:=∃f,Mt T o k f/\∀n p h,h[p]?=some o->Qa T (n+1) f [.ref p] h=some (u,h)
def Gi{α:Type}(T:Tbl)(o:O)(k:Nat)(D:Hs->U->α->Prop)(xs:List α):Prop:=∃f,Mt T o k f/\∀n p h,h[p]?=some o->∃h' us,Qa T (n+1) f [.ref p] h=some (.ref h'.length,h'++[.lst us])/\Kp h h'/\Paired (D h') us xs
structure Tl(T:Tbl)(o:O)(sp:Sp):Prop where
 tk:Te T o 2 (iU sp.tk)
 gv:Te T o 3 (iU sp.ts.length)
 ts:Gi T o 0 DTi sp.ts
 es:Gi T o 1 DEn sp.es
section
variable {fs:List (Nat×U)}{F:Fn}
def QbS(hC:T.cls[c]?=some C)(hk:C.meths.lookup k=some f)(l:f<46)(hF:T.fns[f]?=some F)(hp:F.np=1)(hb:F.body=[.ret (.c u)]):Te T (.ins c fs) k u:=⟨f,⟨c,fs,C,rfl,hC,hk,l⟩,λn p h e=>by
 rw[Qf F hF (show [U.ref p].length=F.np from hp.symm),hb]
 rfl⟩
def ZX{f c:Nat}{a:E}{fs:List (Nat×U)}(ha:ev T cf d a ρ h0=some (.ref n,hs))(hn:hs[n]?=some (.ins c fs))(hl:fs.lookup f=some u):ev T cf (d+1) (.fld a f) ρ h0=some (u,hs):=by
 rw[Qjy,ha,Qm];simp only[hn,hl,Up]
def QoB:ev T cf (d+1) (.tupR es) ρ hs=bd (evs (ev T cf d) ρ es hs) λus h1=>match QgF us with|some xs=>some (.ref h1.length,h1++[.tup xs])|none=>none:=rfl
def QoJ(hC:T.cls[c]?=some C)(hk:C.meths.lookup k=some f)(l:f<46)(hF:T.fns[f]?=some F)(hp:F.np=1)(hb:F.body=[.ret (.fld Va j)])(hj:fs.lookup j=some u):Te T (.ins c fs) k u:=⟨f,⟨c,fs,C,rfl,hC,hk,l⟩,λn p h e=>by
 rw[Qf F hF (show [U.ref p].length=F.np from hp.symm),hb];show fin (exs T (Qa T n) (97+3) _ _ h)=_;rw[Qj,Qz,ZX (Qc rfl) e hj,Qm]
 rfl⟩
def Ye{D:Hs->U->α->Prop}(hC:T.cls[c]?=some C)(hk:C.meths.lookup k=some f)(l:f<46)(hF:T.fns[f]?=some F)(hp:F.np=1)(hb:F.body=[.ret (.lst [])]):Gi T (.ins c fs) k D []:=⟨f,⟨c,fs,C,rfl,hC,hk,l⟩,λn p h e=>⟨h,[],by
 rw[Qf F hF (show [U.ref p].length=F.np from hp.symm),hb]
 rfl,Kp.refl h,.nil⟩⟩
def Jd{D:Hs->U->α->Prop}{x:α}(hC:T.cls[c]?=some C)(hk:C.meths.lookup k=some f)(l:f<46)(H:∀n p h,h[p]?=some (.ins c fs)->∃h' u,Qa T (n+1) f [.ref p] h=some (.ref h'.length,h'++[.lst [u]])/\Kp h h'/\D h' u x):Gi T (.ins c fs) k D [x]:=⟨f,⟨c,fs,C,rfl,hC,hk,l⟩,λn p h e=>by
 obtain⟨h',u,a,b,d⟩:=H n p h e
 exact⟨h',[u],a,b,.cons d .nil⟩⟩
end
section
def Qe8(_:a∈[107,112]):Tl (tbG xx s) (.ins 1 [(0,.int (sd a) 0)]) ⟨1,[.nw [0] (sd a) 0],[]⟩:=⟨QbS rfl rfl (by decide) rfl rfl rfl,QbS rfl rfl (by decide) rfl rfl rfl,Jd (f:=5) rfl rfl (by decide) λn p h e=>⟨h++[.tup [.int 0 0]]++[.tup [.str Qa7,.ref h.length,.int (sd a) 0,.int 0 0]],.ref (h.length+1),by
  rw[Qf fnL[5] rfl rfl];show fin (exs (tbG xx s) (Qa (tbG xx s) n) 100 b5 [sR p] h)=_;generalize Qa (tbG xx s) n=cf;generalize (tbG xx s)=T
  simp[b5,Qj,QK,Qz,QC,Qt,QD,Qu,QL,y_c,QG,Qm,Zi,eq_str,eq_int,YX,evs,ZG,QU,opU,y_lst,QB,fin,Qjy,YH e,Qa7],(Kp.app _ _).trans (Kp.app _ _),h.length+1,h.length,rfl,by simp,by simp⟩,Ye rfl rfl (by decide) rfl rfl rfl⟩
def QhI:Tl (tbG xx s) (.ins 2 []) ⟨1,[.sm],[]⟩:=⟨QbS rfl rfl (by decide) rfl rfl rfl,QbS rfl rfl (by decide) rfl rfl rfl,Jd (f:=8) rfl rfl (by decide) λn p h e=>⟨h++[.tup [.str QjD,.int 0 0]],.ref h.length,by
  rw[Qf fnL[8] rfl rfl]
  rfl,Kp.app _ _,h.length,rfl,by simp⟩,Ye rfl rfl (by decide) rfl rfl rfl⟩
def QhJ:Tl (tbG xx s) (.ins 3 []) ⟨0,[.nw [] 0 0],[]⟩:=⟨QbS rfl rfl (by decide) rfl rfl rfl,QbS rfl rfl (by decide) rfl rfl rfl,Jd (f:=11) rfl rfl (by decide) λn p h e=>⟨h++[.tup []]++[.tup [.str Qa7,.ref h.length,.int 0 0,.int 0 0]],.ref (h.length+1),by
  rw[Qf fnL[11] rfl rfl];show fin (exs (tbG xx s) (Qa (tbG xx s) n) 100 b11 [sR p] h)=_;generalize Qa (tbG xx s) n=cf;generalize (tbG xx s)=T
  simp[b11,Qj,QK,Qz,QC,Qt,QD,Qu,QL,y_c,QG,Qm,Zi,eq_str,eq_int,YX,evs,ZG,QU,opU,y_lst,QB,fin,Qa7],(Kp.app _ _).trans (Kp.app _ _),h.length+1,h.length,rfl,by simp,by simp⟩,Ye rfl rfl (by decide) rfl rfl rfl⟩
def Qj5:Tl (tbG xx s) (.ins 7 []) ⟨1,[],[QmL]⟩:=⟨QbS rfl rfl (by decide) rfl rfl rfl,QbS rfl rfl (by decide) rfl rfl rfl,Ye rfl rfl (by decide) rfl rfl rfl,Jd (f:=26) rfl rfl (by decide) λn p h e=>⟨h++[.tup [.int 0 0,.str QmL]],.ref h.length,by
  rw[Qf fnL[26] rfl rfl]
  rfl,Kp.app _ _,h.length,rfl,by simp⟩⟩
def QhL{b:Nat}:Tl (tbG xx s) (.ins 8 [(5,.str [b])]) ⟨1,[],[[b]]⟩:=⟨QbS rfl rfl (by decide) rfl rfl rfl,QbS rfl rfl (by decide) rfl rfl rfl,Ye rfl rfl (by decide) rfl rfl rfl,Jd (f:=30) rfl rfl (by decide) λn p h e=>⟨h++[.tup [.int 0 0,.str [b]]],.ref h.length,by
  rw[Qf fnL[30] rfl rfl];show fin (exs (tbG xx s) (Qa (tbG xx s) n) 100 b30 [sR p] h)=_;generalize Qa (tbG xx s) n=cf;generalize (tbG xx s)=T
  simp[b30,Qj,QK,Qz,QC,Qt,QD,Qu,QL,y_c,QG,Qm,Zi,eq_str,eq_int,YX,evs,ZG,QU,opU,y_lst,QB,fin,Qjy,e],Kp.app _ _,h.length,rfl,by simp⟩⟩
def Qe9{b:Nat}:Tl (tbG xx s) (.ins 9 [(5,.str [b])]) ⟨0,[.fr [b]],[]⟩:=⟨QbS rfl rfl (by decide) rfl rfl rfl,QbS rfl rfl (by decide) rfl rfl rfl,Jd (f:=34) rfl rfl (by decide) λn p h e=>⟨h++[.tup [.str Qa8,.str [b]]],.ref h.length,by
  rw[Qf fnL[34] rfl rfl];show fin (exs (tbG xx s) (Qa (tbG xx s) n) 100 b34 [sR p] h)=_;generalize Qa (tbG xx s) n=cf;generalize (tbG xx s)=T
  simp[b34,Qj,QK,Qz,QC,Qt,QD,Qu,QL,y_c,QG,Qm,Zi,eq_str,eq_int,YX,evs,ZG,QU,opU,y_lst,QB,fin,Qjy,e,Qa8],Kp.app _ _,h.length,rfl,by simp⟩,Ye rfl rfl (by decide) rfl rfl rfl⟩
end
noncomputable def QoH(m:Nat):List Int:=(List.range m).map λi:Nat=>(i:Int)
noncomputable def lnP(m w:Nat):List Int:=if w=114 then(QoH m).reverse else QoH m
def Qni(h:m∈[2,3,4]):QgF [.int ((m:Int) - 1) 0,.int (-1) 0,.int (-1) 0]=some ((lnP m 114).map iU)/\QgF [.int m 0]=some ((lnP m 108).map iU):=by
 simp only[Xg,Xl,X5]at h
 rcases h with rfl|rfl|rfl<;>exact⟨rfl,rfl⟩
section
variable {m:Int}{zs:List U}
def Qlg(e:h[p]?=some (.ins 4 [(1,.int m 0),(2,.str [114]),(0,.int x 0)]))(r1:QgF [.int (m-1) 0,.int (-1) 0,.int (-1) 0]=some zs):
  exs T cf (d+12) b15 [sR p,none] h=some (.ret (.ref (h.length+2)),[sR p,sR h.length],h++[.tup zs]++[.tup [.str Qa7,.ref h.length,.int x 0,.int 0 0]]++[.lst [.ref (h.length+1)]]):=by
 have f2:∀d,ev T cf (d+2) (.fld Va 2) [sR p,none] h=some (.str [114],h):=λd=>ZX rfl e rfl;have f1:∀d,ev T cf (d+2) (.fld Va 1) [sR p,none] h=some (.int m 0,h):=λd=>ZX rfl e rfl;have f0:∀d u,ev T cf (d+2) (.fld Va 0) [sR p,some u] (h++[.tup zs])=some (.int x 0,h++[.tup zs]):=λd u=>ZX rfl (YH e) rfl;simp[b15,Qj,QK,Qz,QC,Qt,QD,Qu,QL,y_c,QG,Qm,Zi,eq_str,eq_int,YX,evs,ZG,QU,opU,y_lst,QB,f2,f1,f0,QoB,Qm3,gz,r1,Qa7]
def Qlh(e:h[p]?=some (.ins 4 [(1,.int m 0),(2,.str [108]),(0,.int x 0)]))(r1:QgF [.int m 0]=some zs):
  exs T cf (d+12) b15 [sR p,none] h=some (.ret (.ref (h.length+2)),[sR p,sR h.length],h++[.tup zs]++[.tup [.str Qa7,.ref h.length,.int x 0,.int 0 0]]++[.lst [.ref (h.length+1)]]):=by
 have f2:∀d,ev T cf (d+2) (.fld Va 2) [sR p,none] h=some (.str [108],h):=λd=>ZX rfl e rfl;have f1:∀d,ev T cf (d+2) (.fld Va 1) [sR p,none] h=some (.int m 0,h):=λd=>ZX rfl e rfl;have f0:∀d u,ev T cf (d+2) (.fld Va 0) [sR p,some u] (h++[.tup zs])=some (.int x 0,h++[.tup zs]):=λd u=>ZX rfl (YH e) rfl;simp[b15,Qj,QK,Qz,QC,Qt,QD,Qu,QL,y_c,QG,Qm,Zi,eq_str,eq_int,YX,evs,ZG,QU,opU,y_lst,QB,f2,f1,f0,QoB,r1,Qa7]
def Qge{cf:Cf}{lo:Int}{D:Hs->U->α->Prop}{xs:List α}(mo:∀g g' u x,Kp g g'->D g u x->D g' u x)(sr:Zs T (ev T cf d) ρ src h0=some (.rng lo n,hs))(hn:xs.length=n)(hl:n<=900000)
  (st:∀(i:Nat) x,xs[i]?=some x->∀h,Kp hs h->∃v h2,ev T cf d el (ρ++[sI (lo+i)]) h=some (v,h2)/\Kp h h2/\D h2 v x):
  ∃vs h2,ev T cf (d+1) (.comp src false none el) ρ h0=some (.ref h2.length,h2++[.lst vs])/\Kp hs h2/\Paired (D h2) vs xs:=by
 obtain⟨vs,h2,a,b,c⟩:=Qga (T:=T) (ρ:=ρ) (f:=ev T cf d) (ft:=evT T cf d) (w:=.rng lo n) (bb:=false) (el:=el) (L:=xs.zipIdx) (im:=λp:α×Nat=>Im.one (.int (lo+p.2) 0)) (r:=λp:α×Nat=>ρ++[sI (lo+p.2)]) (λp u h=>D h u p.1) (λp u h h' k z=>mo _ _ _ _ k z)
  (λi hs k=>by
   simp only[itm,List.getElem?_zipIdx,Vo];by_cases l:i<n
   ·have:xs[i]?=some xs[i]:=Xp (by lia)
    simp[l,this]
   ·have:xs[i]?=none:=by rw[Tb];lia
    simp[l,this]) (λx hs=>by simp only[tgN,QcU,tgt,Wp,Vn,Qm8])
  (λp mp hs k=>by
   obtain⟨i,hi⟩:=V3 mp;rw[List.getElem?_zipIdx,Vo]at hi
   cases q:xs[i]? with
   |none=>rw[q]at hi;cases hi
   |some x=>rw[q]at hi;cases hi;exact st i x q hs k) (n) 0 (n+1) [] hs (by rw[List.length_zipIdx];lia) (by lia) (by rw[List.length_zipIdx];lia) (Kp.refl _) .nil
 refine⟨vs,h2,Qgs sr a,b,?_⟩
 have:∀{l:List U} {r:List (α×Nat)},Paired (λu p=>D h2 u p.1) l r->Paired (D h2) l (r.map (·.1)):=λh=>by
  induction h with
  |nil=>exact .nil
  |cons a _ ih=>exact .cons a ih
 have:=this c
 rwa [show xs.zipIdx.map (·.1)=xs from by simp]at this
def QpN{h:Hs}{i:Int}(hs:Qs (i*4)=true)(he:ev T cf d e ρ h=some (.int i 0,h')):Zs T (ev T cf d) ρ (.rng e) h=some (.rng 0 i.toNat,h'):=by
 simp only[Zs,he,Qm,hs,Wg]
def sm4{i:Int}(h0:0<=i)(h1:i<100000):Qs (i*4)=true:=by
 simp only[Qs,Xe,Xs];constructor
 ·have:(0:Int)<=i*4:=by lia
  exact Int.lt_of_lt_of_le (by decide) this
 ·have:i*4<400000:=by lia
  exact Int.lt_trans this (by decide)
def Qm4{h:Hs}{m:Nat}(hm:m<1000)(he:ev T cf d e ρ h=some (.int m 0,h')):Zs T (ev T cf d) ρ (.rng e) h=some (.rng 0 m,h'):=QpN (sm4 (Int.natCast_nonneg m) (by lia)) he
def Qm5{e':E}{h:Hs}{i j:Int}(hi:Qs (i*4)=true)(hj:Qs (j*4)=true)(he:ev T cf d e ρ h=some (.int i 0,h'))(he':ev T cf d e' ρ h'=some (.int j 0,h2)):Zs T (ev T cf d) ρ (.rng2 e e') h=some (.rng i (j-i).toNat,h2):=by
 simp only[Zs,he,he',Qm,hi,hj,U6,Wg]
noncomputable def elG:E:=.tup [.c (.str Qa7),.tup [Wa],.ife (.cmp .Eq (.op .Mod Vb Wc) Wa) (.fld Va 0) (.neg (.fld Va 0)),Wa]
noncomputable def elC(L:E):E:=.tup [.c (.str Qa7),.tup [Ve],.fld Va 0,L]
def QlI{x i:Int}{fs:List (Nat×U)}(e:h[p]?=some (.ins 5 fs))(l:fs.lookup 0=sI x):
  ev T cf (d+8) elG [sR p,sI i] h=some (.ref (h.length+1),h++[.tup [.int 0 0]]++[.tup [.str Qa7,.ref h.length,.int (if i % 2=0 then x else -x) 0,.int 0 0]]):=by
 have f0:∀d,ev T cf (d+2) (.fld Va 0) [sR p,sI i] (h++[.tup [.int 0 0]])=some (.int x 0,h++[.tup [.int 0 0]]):=λd=>ZX rfl (YH e) l;by_cases c:i % 2=0
 ·simp[elG,Qj,QK,Qz,QC,Qt,QD,Qu,QL,y_c,QG,Qm,Zi,eq_str,eq_int,YX,evs,ZG,QU,opU,y_lst,QB,f0,Zg,QiB,c]
 ·simp[elG,Qj,QK,Qz,QC,Qt,QD,Qu,QL,y_c,QG,Qm,Zi,eq_str,eq_int,YX,evs,ZG,QU,opU,y_lst,QB,f0,Zg,QiB,c]
def Qg4{x l li i:Int}{L:E}{u2 u3:Option U}{fs:List (Nat×U)}(e:h[p]?=some (.ins 6 fs))(l0:fs.lookup 0=sI x)
  (hL:∀h,ev T cf (d+7) L [sR p,sI li,u2,u3,sI i] h=some (.int l 0,h)):
  ev T cf (d+8) (elC L) [sR p,sI li,u2,u3,sI i] h=some (.ref (h.length+1),h++[.tup [.int i 0]]++[.tup [.str Qa7,.ref h.length,.int x 0,.int l 0]]):=by
 have f0:∀d,ev T cf (d+2) (.fld Va 0) [sR p,sI li,u2,u3,sI i] (h++[.tup [.int i 0]])=some (.int x 0,h++[.tup [.int i 0]]):=λd=>ZX rfl (YH e) l0;simp[elC,Qj,QK,Qz,QC,Qt,QD,Qu,QL,y_c,QG,Qm,Zi,eq_str,eq_int,YX,evs,ZG,QU,opU,y_lst,QB,f0,hL]
def QiX{f:Nat->Ti}{b:Nat}{t:Ti}(h:((List.range b).map f)[i]?=some t):t=f i:=by
 simp only[Ui,Xc]at h;obtain⟨j,hj,rfl⟩:=h;obtain⟨l,rfl⟩:=Xh.mp hj;simp
end
noncomputable def grT(m:Nat)(x:Int):List Ti:=(List.range m).map λi:Nat=>.nw [0] (if(i:Int) % 2=0 then x else -x) 0
noncomputable def crA(a b:Nat)(x l:Int):List Ti:=(List.range b).map λi:Nat=>.nw [(a:Int)+i] x (-l)
noncomputable def crB(a:Nat)(x l:Int):List Ti:=(List.range a).map λi:Nat=>.nw [0+(i:Int)] x l
noncomputable def lf(w:Nat):Int:=if w=102 then 1 else -1
section
def n48{b:Nat}(h:b∈[50,51,52]):((b:Int) - 48)=((b-48:Nat):Int)/\b-48∈[2,3,4]:=by
 simp only[Xg,Xl,X5]at h
 rcases h with rfl|rfl|rfl<;>exact⟨rfl,by decide⟩
def n49{b:Nat}(h:b∈[49,50,51,52]):((b:Int) - 48)=((b-48:Nat):Int)/\b-48<=4/\1<=b-48:=by
 simp only[Xg,Xl,X5]at h
 rcases h with rfl|rfl|rfl|rfl<;>exact⟨rfl,by decide,by decide⟩
def QhK{b:Nat}(hb:b∈[50,51,52])(hc:c∈[114,108]):Tl (tbG xx s) (.ins 4 [(1,.int ((b:Int) - 48) 0),(2,.str [c]),(0,.int (sd a) 0)]) ⟨b-48,[.nw (lnP (b-48) c) (sd a) 0],[]⟩:=by
 obtain⟨e1,hm⟩:=n48 hb;rw[e1];generalize b-48=m at hm;simp only[Xg,Xl,X5]at hc
 refine⟨QoJ rfl rfl (by decide) rfl rfl rfl rfl,QbS rfl rfl (by decide) rfl rfl rfl,Jd (f:=15) rfl rfl (by decide) λn p h e=>⟨h++[.tup ((lnP m c).map iU)]++[.tup [.str Qa7,.ref h.length,.int (sd a) 0,.int 0 0]],.ref (h.length+1),?_,(Kp.app _ _).trans (Kp.app _ _),h.length+1,h.length,rfl,by simp,by simp⟩,Ye rfl rfl (by decide) rfl rfl rfl⟩
 rw[Qf fnL[15] rfl rfl];show fin (exs (tbG xx s) (Qa (tbG xx s) n) (88+12) b15 [sR p,none] h)=_;obtain⟨r1,r2⟩:=Qni hm
 rcases hc with rfl|rfl
 ·rw[Qlg e r1];simp[fin]
 ·rw[Qlh e r2];simp[fin]
def QhM{b:Nat}(hb:b∈[50,51,52]):Tl (tbG xx s) (.ins 5 [(1,.int ((b:Int) - 48) 0),(0,.int (sd a) 0)]) ⟨1,grT (b-48) (sd a),[]⟩:=by
 obtain⟨e1,hm⟩:=n48 hb;rw[e1];generalize b-48=m at hm
 have hb:m<=4:=by
  simp only[Xg,Xl,X5]at hm;lia
 have lg:(grT m (sd a)).length=m:=by simp[grT]
 refine⟨QbS rfl rfl (by decide) rfl rfl rfl,by show Te _ _ _ (iU ((grT m (sd a)).length:Nat));rw[lg];exact QoJ rfl rfl (by decide) rfl rfl rfl rfl,⟨19,⟨_,_,_,rfl,rfl,rfl,by decide⟩,λn p h e=>?_⟩,Ye rfl rfl (by decide) rfl rfl rfl⟩
 rw[Qf fnL[19] rfl rfl];show ∃h' us,fin (exs (tbG xx s) (Qa (tbG xx s) n) (88+12) b19 [sR p] h)=_/\_;generalize Qa (tbG xx s) n=cf;generalize (tbG xx s)=T
 obtain⟨vs,h2,e2,k,pr⟩:=Qge (T:=T) (cf:=cf) (d:=97) (lo:=0) (n:=m) (src:=.rng (.fld Va 1)) (ρ:=[sR p]) (h0:=h) (hs:=h) (D:=DTi) (xs:=grT m (sd a)) (el:=elG)
  (λy y y y g z=>z.mono g) (Qm4 (by lia) (ZX rfl e rfl)) lg (by lia) λi t hi h1 k1=>by
   cases QiX hi;have e1:=k1 _ _ e
   refine⟨_,_,QlI (d:=89) e1 rfl,(Kp.app _ _).trans (Kp.app _ _),h1.length+1,h1.length,rfl,by simp,by simp⟩
 exact⟨h2,vs,by rw[show b19=[.ret (.comp (.rng (.fld Va 1)) false none elG)]from rfl,Qj,Qz,e2,Qm];rfl,k,pr⟩
def Qfa{p0 b e':Nat}(hb:b∈[49,50,51,52])(hc:c∈[102,98])(he:e'∈[49,50,51,52]):Tl (tbG xx s) (.ins 6 [(3,.int ((b:Int) - 48) 0),(4,.int ((e':Int) - 48) 0),(2,.str [c]),(0,.int (sd p0) 0)]) ⟨(b-48)+(e'-48),crA (b-48) (e'-48) (sd p0) (lf c)++crB (b-48) (sd p0) (lf c),[]⟩:=by
 obtain⟨e1,ha,_⟩:=n49 hb;obtain⟨e2,hb,_⟩:=n49 he;rw[e1,e2];generalize b-48=a at ha;generalize e'-48=b at hb;generalize sd p0=x;simp only[Xg,Xl,X5]at hc
 have lg:(crA a b x (lf c)++crB a x (lf c)).length=a+b:=by simp[crA,crB,Nat.add_comm]
 have sm:∀{k f} (_:k=2\/k=3) (_:f=21\/f=22),(k=2->f=21)->(k=3->f=22)->Te (tbG xx s) (.ins 6 [(3,.int a 0),(4,.int b 0),(2,.str [c]),(0,.int x 0)]) k (iU ((a+b:Nat):Int)):=λ{k f} hk hf h2 h3=>by
  have key:∀n p h,h[p]?=some (O.ins 6 [(3,.int a 0),(4,.int b 0),(2,.str [c]),(0,.int x 0)])->fin (exs (tbG xx s) (Qa (tbG xx s) n) (88+12) [.ret (.op .Add (.fld Va 3) (.fld Va 4))] [sR p] h)=some (iU ((a+b:Nat):Int),h):=λn p h e=>by
   rw[Qj,Qz,ZG,ZX rfl e rfl,Qm,ZX rfl e rfl,Qm];simp[opU,Yk,gz,Qm,fin]
  rcases hk with rfl|rfl
  ·exact⟨21,⟨_,_,_,rfl,rfl,rfl,by decide⟩,λn p h e=>by rw[Qf fnL[21] rfl rfl];exact key n p h e⟩
  ·exact⟨22,⟨_,_,_,rfl,rfl,rfl,by decide⟩,λn p h e=>by rw[Qf fnL[22] rfl rfl];exact key n p h e⟩
 refine⟨sm (f:=21) (.inl rfl) (.inl rfl) (λy=>rfl) (by decide),by show Te _ _ _ (iU ((crA a b x (lf c)++crB a x (lf c)).length:Nat));rw[lg];exact sm (f:=22) (.inr rfl) (.inr rfl) (by decide) (λy=>rfl),⟨23,⟨_,_,_,rfl,rfl,rfl,by decide⟩,λn p h e=>?_⟩,Ye rfl rfl (by decide) rfl rfl rfl⟩
 rw[Qf fnL[23] rfl rfl];show ∃h' us,fin (exs (tbG xx s) (Qa (tbG xx s) n) (88+12) b23 [sR p,none,none,none] h)=_/\_;generalize Qa (tbG xx s) n=cf;generalize (tbG xx s)=T;generalize hl:lf c=li
 have e1:∀d,ev T cf (d+5) (.ife (.cmp .Eq (.fld Va 2) (.c (.str [102]))) Wb (.neg Wb)) [sR p,none,none,none] h=some (.int li 0,h):=λd=>by
  have f2:∀d,ev T cf (d+2) (.fld Va 2) [sR p,none,none,none] h=some (.str [c],h):=λd=>ZX rfl e rfl;subst hl
  rcases hc with rfl|rfl
  ·simp[Qj,QK,Qz,QC,Qt,QD,Qu,QL,y_c,QG,Qm,Zi,eq_str,eq_int,YX,evs,ZG,QU,opU,y_lst,QB,f2,Zg,lf]
  ·simp[Qj,QK,Qz,QC,Qt,QD,Qu,QL,y_c,QG,Qm,Zi,eq_str,eq_int,YX,evs,ZG,QU,opU,y_lst,QB,f2,Zg,lf]
 have f3:∀d u u' u'' (g:Hs),Kp h g->ev T cf (d+2) (.fld Va 3) [sR p,u,u',u''] g=some (.int a 0,g):=λd u u' u'' g k=>ZX rfl (k _ _ e) rfl;have f4:∀d u u' u'' (g:Hs),Kp h g->ev T cf (d+2) (.fld Va 4) [sR p,u,u',u''] g=some (.int b 0,g):=λd u u' u'' g k=>ZX rfl (k _ _ e) rfl
 obtain⟨v1,h1,e2,k1,p1⟩:=Qge (T:=T) (cf:=cf) (d:=96) (lo:=a) (n:=b) (src:=.rng2 (.fld Va 3) (.op .Add (.fld Va 3) (.fld Va 4))) (ρ:=[sR p,sI li,none,none]) (h0:=h) (hs:=h) (D:=DTi) (xs:=crA a b x li) (el:=elC (.neg Vb))
  (λy y y y g z=>z.mono g) (by
   have:=Qm5 (T:=T) (cf:=cf) (d:=96) (ρ:=[sR p,sI li,none,none]) (e:=.fld Va 3) (e':=.op .Add (.fld Va 3) (.fld Va 4)) (i:=a) (j:=(a:Int)+b) (sm4 (by lia) (by lia)) (sm4 (by lia) (by lia)) (f3 94 _ _ _ h (Kp.refl h)) (h2:=h) (by rw[ZG,f3 93 _ _ _ h (Kp.refl h),Qm,f4 93 _ _ _ h (Kp.refl h),Qm];rfl)
   rw[show((a:Int)+b-a).toNat=b by lia]at this
   exact this) (by simp[crA]) (by lia) λi t hi h1 k1=>by
   cases QiX hi
   exact⟨_,_,Qg4 (d:=88) (l:=-li) (k1 _ _ e) rfl (λh=>rfl),(Kp.app _ _).trans (Kp.app _ _),h1.length+1,h1.length,rfl,by simp,by simp⟩
 have k1':Kp h (h1++[.lst v1]):=k1.trans (Kp.app _ _)
 obtain⟨v2,h2,e3,k2,p2⟩:=Qge (T:=T) (cf:=cf) (d:=95) (lo:=0) (n:=a) (src:=.rng (.fld Va 3)) (ρ:=[sR p,sI li,sR h1.length,none]) (h0:=h1++[.lst v1]) (hs:=h1++[.lst v1]) (D:=DTi) (xs:=crB a x li) (el:=elC Vb)
  (λy y y y g z=>z.mono g) (Qm4 (by lia) (f3 93 _ _ _ _ k1')) (by simp[crB]) (by lia) λi t hi h1 k1=>by
   cases QiX hi
   exact⟨_,_,Qg4 (d:=87) (l:=li) (k1 _ _ (k1' _ _ e)) rfl (λh=>rfl),(Kp.app _ _).trans (Kp.app _ _),h1.length+1,h1.length,rfl,by simp,by simp⟩
 have l1:=Qx p1;have l2:=Qx p2;simp only[crA,crB,Xq,List.length_range]at l1 l2;have q1:(h2++[.lst v2])[h1.length]?=some (.lst v1):=YH (k2 _ _ (show(h1++[.lst v1])[h1.length]?=_ from at0));have q2:(h2++[O.lst v2])[h2.length]?=some (.lst v2):=at0;have K:Kp h (h2++[.lst v2]):=(k1'.trans k2).trans (Kp.app _ _);refine⟨h2++[.lst v2],v1++v2,?_,K,Y2 (Qi (λy y z=>z.mono (((Kp.app _ _).trans k2).trans (Kp.app _ _))) p1) (Qi (λy y z=>z.mono (Kp.app _ _)) p2)⟩;rw[show b23=[.set 1 (.ife (.cmp .Eq (.fld Va 2) (.c (.str [102]))) Wb (.neg Wb)),.set 2 (.comp (.rng2 (.fld Va 3) (.op .Add (.fld Va 3) (.fld Va 4))) false none (elC (.neg Vb))),.set 3 (.comp (.rng (.fld Va 3)) false none (elC Vb)),.ret (.op .Add Vc Vd)]from rfl];rw[Qj,QC,e1,Qm];show fin (exs T cf (87+12) _ [sR p,sI li,none,none] h)=_;rw[Qj,QC,e2,Qm];show fin (exs T cf (86+12) _ [sR p,sI li,sR h1.length,none] (h1++[.lst v1]))=_;rw[Qj,QC,e3,Qm];show fin (exs T cf (85+12) _ [sR p,sI li,sR h1.length,sR h2.length] (h2++[.lst v2]))=_
 have ca:=QcQ q1 q2 (by lia)
 simp only[Qj,Qz,ZG,QG,List.getElem?_cons_succ,List.getElem?_cons_zero,Qm,opU,ca,fin]
end
noncomputable def spm:List Nat->Sp
 |[a]=>if a=115 then⟨1,[.sm],[]⟩else if a=111 then⟨0,[.nw [] 0 0],[]⟩else if a=98 then⟨1,[],[QmL]⟩else⟨1,[.nw [0] (sd a) 0],[]⟩
 |[a,b]=>if a=104 then⟨1,[],[[b]]⟩else⟨0,[.fr [b]],[]⟩
 |[a,b,c]=>if b=120 then⟨1,grT (c-48) (sd a),[]⟩else⟨b-48,[.nw (lnP (b-48) c) (sd a) 0],[]⟩
 |[a,b,c,e]=>⟨(b-48)+(e-48),crA (b-48) (e-48) (sd a) (lf c)++crB (b-48) (sd a) (lf c),[]⟩
 |_=>⟨0,[],[]⟩
section
def Qe3(h:a∈[107,112]):Tl (tbG xx s) (.ins 1 [(0,.int (sd a) 0)]) (spm [a]):=by
 have e:spm [a]=⟨1,[.nw [0] (sd a) 0],[]⟩:=by
  simp only[Xg,Xl,X5]at h
  rcases h with rfl|rfl<;>rfl
 rw[e];exact Qe8 h
def Qhq:Tl (tbG xx s) (.ins 2 []) (spm [115]):=QhI
def Qhr:Tl (tbG xx s) (.ins 3 []) (spm [111]):=QhJ
def QjT:Tl (tbG xx s) (.ins 7 []) (spm [98]):=Qj5
def Qht{b:Nat}:Tl (tbG xx s) (.ins 8 [(5,.str [b])]) (spm [104,b]):=QhL
def Qe4{b:Nat}:Tl (tbG xx s) (.ins 9 [(5,.str [b])]) (spm [102,b]):=Qe9
def Qhu{b:Nat}(hb:b∈[50,51,52]):Tl (tbG xx s) (.ins 5 [(1,.int ((b:Int) - 48) 0),(0,.int (sd a) 0)]) (spm [a,120,b]):=QhM hb
def Qhs{b:Nat}(hb:b∈[50,51,52])(hc:c∈[114,108]):Tl (tbG xx s) (.ins 4 [(1,.int ((b:Int) - 48) 0),(2,.str [c]),(0,.int (sd a) 0)]) (spm [a,b,c]):=by
 have e:spm [a,b,c]=⟨b-48,[.nw (lnP (b-48) c) (sd a) 0],[]⟩:=if_neg (by simp only[Xg,Xl,X5]at hb;lia)
 rw[e];exact QhK hb hc
def Qe5{p0 b e':Nat}(hb:b∈[49,50,51,52])(hc:c∈[102,98])(he:e'∈[49,50,51,52]):Tl (tbG xx s) (.ins 6 [(3,.int ((b:Int) - 48) 0),(4,.int ((e':Int) - 48) 0),(2,.str [c]),(0,.int (sd p0) 0)]) (spm [p0,b,c,e']):=Qfa hb hc he
end
section

def QqK(h:a∈[107,112,115,111,98]):∃o,(∀yy,Tl (tbG yy s) o (spm [a]))/\Qa (tbG xx s) (n+2) 48 [.str [a]] hs=some (.ref hs.length,hs++[o]):=by
 rw[Qf fnL[48] rfl rfl];show ∃o,_/\fin (exs (tbG xx s) (Qa (tbG xx s) (n+1)) 100 b48 [some (.str [a])] hs)=_
 have h':a∈[107,112]\/a=115\/a=111\/a=98:=by simp only[Xg,Xl,X5]at h ⊢;lia
 rcases h' with h|rfl|rfl|rfl
 ·obtain⟨t1,t3,_⟩:=tS (xx:=xx) (s:=s) (hs:=hs) h;have mk:=QfL (xx:=xx) (s:=s) (hs:=hs) (n:=n) (u:=.int (sd a) 0);refine⟨_,λz=>Qe3 h,?_⟩;generalize Qa (tbG xx s) (n+1)=cf at mk ⊢;generalize (tbG xx s)=T at t1 t3 mk ⊢;simp[b48,Qm,QK,Qj,Qt,QC,Qz,QD,y_c,Q6,QG,ZG,QU,QL,Zt,Zg,QB,y_lst,YU,QA,YB,Zn,Yl,Zp,Jq,QM,QJ,Zq,Qu,QS,QT,evs,eq_int,ZO,Zj,opU,Yk,biU,biL,fin,Qhe,QeR,t1,t3,mk]
 ·have i1:Zi (tbG xx s) .In (.str [115]) (.con 4) hs=some false:=rfl;have mk:=Qbi (xx:=xx) (s:=s) (hs:=hs) (c:=2) (cf:=Qa (tbG xx s) (n+1)) rfl rfl;refine⟨_,λz=>Qhq,?_⟩;generalize Qa (tbG xx s) (n+1)=cf at mk ⊢;generalize (tbG xx s)=T at i1 mk ⊢;simp[b48,Qm,QK,Qj,Qt,QC,Qz,QD,y_c,Q6,QG,ZG,QU,QL,Zt,Zg,QB,y_lst,YU,QA,YB,Zn,Yl,Zp,Jq,QM,QJ,Zq,Qu,QS,QT,evs,eq_int,ZO,Zj,opU,Yk,biU,biL,fin,eqs,Qhe,QeR,i1,mk]
 ·have i1:Zi (tbG xx s) .In (.str [111]) (.con 4) hs=some false:=rfl;have mk:=Qbi (xx:=xx) (s:=s) (hs:=hs) (c:=3) (cf:=Qa (tbG xx s) (n+1)) rfl rfl;refine⟨_,λz=>Qhr,?_⟩;generalize Qa (tbG xx s) (n+1)=cf at mk ⊢;generalize (tbG xx s)=T at i1 mk ⊢;simp[b48,Qm,QK,Qj,Qt,QC,Qz,QD,y_c,Q6,QG,ZG,QU,QL,Zt,Zg,QB,y_lst,YU,QA,YB,Zn,Yl,Zp,Jq,QM,QJ,Zq,Qu,QS,QT,evs,eq_int,ZO,Zj,opU,Yk,biU,biL,fin,eqs,Qhe,QeR,i1,mk]
 ·have i1:Zi (tbG xx s) .In (.str [98]) (.con 4) hs=some false:=rfl;have mk:=Qbi (xx:=xx) (s:=s) (hs:=hs) (c:=7) (cf:=Qa (tbG xx s) (n+1)) rfl rfl;refine⟨_,λz=>QjT,?_⟩;generalize Qa (tbG xx s) (n+1)=cf at mk ⊢;generalize (tbG xx s)=T at i1 mk ⊢;simp[b48,Qm,QK,Qj,Qt,QC,Qz,QD,y_c,Q6,QG,ZG,QU,QL,Zt,Zg,QB,y_lst,YU,QA,YB,Zn,Yl,Zp,Jq,QM,QJ,Zq,Qu,QS,QT,evs,eq_int,ZO,Zj,opU,Yk,biU,biL,fin,eqs,Qhe,QeR,i1,mk]
def QqJ{b:Nat}(h:a∈[104,102])(hb:b∈[119,120,121,122]):∃o,(∀yy,Tl (tbG yy s) o (spm [a,b]))/\Qa (tbG xx s) (n+2) 49 [.str [a],.str [b]] hs=some (.ref hs.length,hs++[o]):=by
 rw[Qf fnL[49] rfl rfl];show ∃o,_/\fin (exs (tbG xx s) (Qa (tbG xx s) (n+1)) 100 b49 [some (.str [a]),some (.str [b])] hs)=_;have t:=tK (xx:=xx) (s:=s) (hs:=hs) hb;simp only[Xg,Xl,X5]at h
 rcases h with rfl|rfl
 ·have mk:=QiD (xx:=xx) (s:=s) (hs:=hs) (n:=n) (u:=.str [b]);refine⟨_,λz=>Qht,?_⟩;generalize Qa (tbG xx s) (n+1)=cf at mk ⊢;generalize (tbG xx s)=T at t mk ⊢;simp[b49,Qm,QK,Qj,Qt,QC,Qz,QD,y_c,Q6,QG,ZG,QU,QL,Zt,Zg,QB,y_lst,YU,QA,YB,Zn,Yl,Zp,Jq,QM,QJ,Zq,Qu,QS,QT,evs,eq_int,ZO,Zj,opU,Yk,biU,biL,fin,eqs,QeR,t,mk]
 ·have mk:=QfM (xx:=xx) (s:=s) (hs:=hs) (n:=n) (u:=.str [b]);refine⟨_,λz=>Qe4,?_⟩;generalize Qa (tbG xx s) (n+1)=cf at mk ⊢;generalize (tbG xx s)=T at t mk ⊢;simp[b49,Qm,QK,Qj,Qt,QC,Qz,QD,y_c,Q6,QG,ZG,QU,QL,Zt,Zg,QB,y_lst,YU,QA,YB,Zn,Yl,Zp,Jq,QM,QJ,Zq,Qu,QS,QT,evs,eq_int,ZO,Zj,opU,Yk,biU,biL,fin,eqs,QeR,t,mk]
def Qol{b:Nat}(h:a∈[107,112])(hb:b∈[50,51,52]):∃o,(∀yy,Tl (tbG yy s) o (spm [a,120,b]))/\Qa (tbG xx s) (n+2) 50 [.str [a],.str [120],.str [b]] hs=some (.ref hs.length,hs++[o]):=by
 rw[Qf fnL[50] rfl rfl];show ∃o,_/\fin (exs (tbG xx s) (Qa (tbG xx s) (n+1)) 100 b50 [some (.str [a]),some (.str [120]),some (.str [b])] hs)=_;obtain⟨t1,_,t2⟩:=tS (xx:=xx) (s:=s) (hs:=hs) h;obtain⟨t3,t4,_⟩:=tM (xx:=xx) (s:=s) (hs:=hs) hb;have mk:=QiE (xx:=xx) (s:=s) (hs:=hs) (n:=n) (u:=.int ((b:Int) - 48) 0) (w:=.int (sd a) 0);refine⟨_,λz=>Qhu hb,?_⟩;generalize Qa (tbG xx s) (n+1)=cf at mk ⊢;generalize (tbG xx s)=T at t1 t2 t3 t4 mk ⊢;simp[b50,Qm,QK,Qj,Qt,QC,Qz,QD,y_c,Q6,QG,ZG,QU,QL,Zt,Zg,QB,y_lst,YU,QA,YB,Zn,Yl,Zp,Jq,QM,QJ,Zq,Qu,QS,QT,evs,eq_int,ZO,Zj,opU,Yk,biU,biL,fin,eqs,QeR,Qhe,t1,t2,t3,t4,mk]
def Qok{b:Nat}(h:a∈[107,112])(hb:b∈[50,51,52])(hc:c∈[114,108]):∃o,(∀yy,Tl (tbG yy s) o (spm [a,b,c]))/\Qa (tbG xx s) (n+2) 50 [.str [a],.str [b],.str [c]] hs=some (.ref hs.length,hs++[o]):=by
 rw[Qf fnL[50] rfl rfl];show ∃o,_/\fin (exs (tbG xx s) (Qa (tbG xx s) (n+1)) 100 b50 [some (.str [a]),some (.str [b]),some (.str [c])] hs)=_;obtain⟨t1,_,t2⟩:=tS (xx:=xx) (s:=s) (hs:=hs) h;obtain⟨t3,t4,t5⟩:=tM (xx:=xx) (s:=s) (hs:=hs) hb;have t6:=tL (xx:=xx) (s:=s) (hs:=hs) hc;have mk:=QiC (xx:=xx) (s:=s) (hs:=hs) (n:=n) (u:=.int ((b:Int) - 48) 0) (w:=.str [c]) (x:=.int (sd a) 0);refine⟨_,λz=>Qhs hb hc,?_⟩;generalize Qa (tbG xx s) (n+1)=cf at mk ⊢;generalize (tbG xx s)=T at t1 t2 t3 t4 t6 mk ⊢;simp[b50,Qm,QK,Qj,Qt,QC,Qz,QD,y_c,Q6,QG,ZG,QU,QL,Zt,Zg,QB,y_lst,YU,QA,YB,Zn,Yl,Zp,Jq,QM,QJ,Zq,Qu,QS,QT,evs,eq_int,ZO,Zj,opU,Yk,biU,biL,fin,eqs,QeR,Qhe,t1,t2,t3,t4,t5,t6,mk]
def QqI{b e:Nat}(h:a∈[99,113])(hb:b∈[49,50,51,52])(hc:c∈[102,98])(he:e∈[49,50,51,52]):∃o,(∀yy,Tl (tbG yy s) o (spm [a,b,c,e]))/\Qa (tbG xx s) (n+2) 51 [.str [a],.str [b],.str [c],.str [e]] hs=some (.ref hs.length,hs++[o]):=by
 rw[Qf fnL[51] rfl rfl];show ∃o,_/\fin (exs (tbG xx s) (Qa (tbG xx s) (n+1)) 100 b51 [some (.str [a]),some (.str [b]),some (.str [c]),some (.str [e])] hs)=_;obtain⟨t1,t2⟩:=tC (xx:=xx) (s:=s) (hs:=hs) h;obtain⟨t3,t4⟩:=tX (xx:=xx) (s:=s) (hs:=hs) hb;obtain⟨t5,t6⟩:=tX (xx:=xx) (s:=s) (hs:=hs) he;have t7:=tF (xx:=xx) (s:=s) (hs:=hs) hc;have mk:=QfN (xx:=xx) (s:=s) (hs:=hs) (n:=n) (u:=.int ((b:Int) - 48) 0) (w:=.int ((e:Int) - 48) 0) (x:=.str [c]) (y:=.int (sd a) 0);refine⟨_,λz=>Qe5 hb hc he,?_⟩;generalize Qa (tbG xx s) (n+1)=cf at mk ⊢;generalize (tbG xx s)=T at t1 t2 t3 t4 t5 t6 t7 mk ⊢;simp[b51,Qm,QK,Qj,Qt,QC,Qz,QD,y_c,Q6,QG,ZG,QU,QL,Zt,Zg,QB,y_lst,YU,QA,YB,Zn,Yl,Zp,Jq,QM,QJ,Zq,Qu,QS,QT,evs,eq_int,ZO,Zj,opU,Yk,biU,biL,fin,eqs,QeR,Qhe,t1,t2,t3,t4,t5,t6,t7,mk]
def QqL{m:List Nat}(h:Mk m):∃o,(∀yy,Tl (tbG yy s) o (spm m))/\Qa (tbG xx s) (n+3) 47 [.str m] hs=some (.ref hs.length,hs++[o]):=by
 rw[Qf fnL[47] rfl rfl];show ∃o,_/\fin (exs (tbG xx s) (Qa (tbG xx s) (n+2)) 100 b47 [sS m,none] hs)=_
 cases h with
 |bare h=>
  obtain⟨o,h1,e⟩:=QqK (xx:=xx) (s:=s) (n:=n) (hs:=hs) h;refine⟨o,h1,?_⟩;generalize Qa (tbG xx s) (n+2)=cf at e ⊢;generalize (tbG xx s)=T;simp[b47,Qm,QK,Qj,Qt,QC,Qz,QD,y_c,Q6,QG,ZG,QU,QL,Zt,Zg,QB,y_lst,YU,QA,YB,Zn,Yl,Zp,Jq,QM,QJ,Zq,Qu,QS,QT,evs,Zi,eq_int,ZO,Zj,opU,Yk,biU,biL,fin,Yo,e]
 |keep h hb=>
  obtain⟨o,h1,e⟩:=QqJ (xx:=xx) (s:=s) (n:=n) (hs:=hs) h hb;refine⟨o,h1,?_⟩;generalize Qa (tbG xx s) (n+2)=cf at e ⊢;generalize (tbG xx s)=T;simp[b47,Qm,QK,Qj,Qt,QC,Qz,QD,y_c,Q6,QG,ZG,QU,QL,Zt,Zg,QB,y_lst,YU,QA,YB,Zn,Yl,Zp,Jq,QM,QJ,Zq,Qu,QS,QT,evs,Zi,eq_int,ZO,Zj,opU,Yk,biU,biL,fin,Yo,atU,ixU,e]
 |grow h hb=>
  obtain⟨o,h1,e⟩:=Qol (xx:=xx) (s:=s) (n:=n) (hs:=hs) h hb;refine⟨o,h1,?_⟩;generalize Qa (tbG xx s) (n+2)=cf at e ⊢;generalize (tbG xx s)=T;simp[b47,Qm,QK,Qj,Qt,QC,Qz,QD,y_c,Q6,QG,ZG,QU,QL,Zt,Zg,QB,y_lst,YU,QA,YB,Zn,Yl,Zp,Jq,QM,QJ,Zq,Qu,QS,QT,evs,Zi,eq_int,ZO,Zj,opU,Yk,biU,biL,fin,Yo,atU,ixU,e]
 |lean h hb hc=>
  obtain⟨o,h1,e⟩:=Qok (xx:=xx) (s:=s) (n:=n) (hs:=hs) h hb hc;refine⟨o,h1,?_⟩;generalize Qa (tbG xx s) (n+2)=cf at e ⊢;generalize (tbG xx s)=T;simp[b47,Qm,QK,Qj,Qt,QC,Qz,QD,y_c,Q6,QG,ZG,QU,QL,Zt,Zg,QB,y_lst,YU,QA,YB,Zn,Yl,Zp,Jq,QM,QJ,Zq,Qu,QS,QT,evs,Zi,eq_int,ZO,Zj,opU,Yk,biU,biL,fin,Yo,atU,ixU,e]
 |cross h hb hc he=>
  obtain⟨o,h1,e⟩:=QqI (xx:=xx) (s:=s) (n:=n) (hs:=hs) h hb hc he;refine⟨o,h1,?_⟩;generalize Qa (tbG xx s) (n+2)=cf at e ⊢;generalize (tbG xx s)=T;simp[b47,Qm,QK,Qj,Qt,QC,Qz,QD,y_c,Q6,QG,ZG,QU,QL,Zt,Zg,QB,y_lst,YU,QA,YB,Zn,Yl,Zp,Jq,QM,QJ,Zq,Qu,QS,QT,evs,Zi,eq_int,ZO,Zj,opU,Yk,biU,biL,fin,Yo,atU,ixU,e]
def Qgd{m:List Nat}(h:Mk m):∃o,(∀yy,Tl (tbG yy s) o (spm m))/\Qa (tbG xx s) (n+4) 46 [.str m] hs=some (.ref hs.length,hs++[o]):=by
 rw[Qf fnL[46] rfl rfl];show ∃o,_/\fin (exs (tbG xx s) (Qa (tbG xx s) (n+3)) 100 b46 [sS m,none] hs)=_;obtain⟨o,h1,e⟩:=QqL (xx:=xx) (s:=s) (n:=n) (hs:=hs) h;refine⟨o,h1,?_⟩;have is:JH (tbG xx s) .str (.str m) hs=some true:=rfl;have nn:Zi (tbG xx s) .Is (.ref hs.length) .non (hs++[o])=some false:=rfl;generalize Qa (tbG xx s) (n+3)=cf at e ⊢;generalize (tbG xx s)=T at is nn ⊢;simp[b46,Qm,QK,Qj,Qt,QC,Qz,QD,y_c,Q6,QG,ZG,QU,QL,Zt,Zg,QB,y_lst,YU,QA,YB,Zn,Yl,Zp,Jq,QM,QJ,Zq,Qu,QS,QT,evs,eq_int,ZO,Zj,opU,Yk,biU,biL,fin,is,e,nn]
end
abbrev Sv:=List Int
noncomputable def un(x:Int):Sv:=[x,0,0,0,0]
def Su(T:Tbl)(u:U)(v:Sv)(h:Hs):Prop:=ZH T u h=some (v.map iU)/\v.length=5
def Sr(u:U)(v:Sv)(h:Hs):Prop:=∃p,u=.ref p/\h[p]?=some (.tup (v.map iU))/\v.length=5
def Sr.mono{v:Sv}(k:Kp h h1)(a:Sr u v h):Sr u v h1:=by obtain⟨p,e,a,l⟩:=a;exact⟨p,e,k _ _ a,l⟩
def Su.mono{v:Sv}(k:Kp h h1)(a:Su T u v h):Su T u v h1:=⟨Qda k a.1,a.2⟩
def Sr.su{v:Sv}(a:Sr u v h):Su T u v h:=by obtain⟨p,rfl,a,l⟩:=a;exact⟨QW a,l⟩
section

def QjQ(e:ZH T u h=some xs):sqU T (Q4 T u h).isSome u h=some xs/\∀h1,Kp h h1->sqU T (Q4 T u h).isSome u h1=some xs:=by rw[YV e];exact⟨e,λh1 k=>Qda k e⟩
def Qfb(s:Sq T u h xs):sqU T (Q4 T u h).isSome u h=some xs/\∀h1,Kp h h1->sqU T (Q4 T u h).isSome u h1=some xs:=s.elim Qlb QjQ
def Qgc{ea eb:E}(F:U×U->U->Hs->Prop)(mono:∀a u h h',Kp h h'->F a u h->F a u h')(va:ev T cf d ea ρ h=some (u,h1))(vb:ev T cf d eb ρ h1=some (w,h2))(sa:Sq T u h2 xs)(sb:Sq T w h2 ys)(ll:(xs.zip ys).length<=900000)
  (st:∀x∈xs.zip ys,∀hs,Kp h2 hs->∃u h3,ev T cf d el (ρ++[some x.1,some x.2]) hs=some (u,h3)/\Kp hs h3/\F x u h3):∃us h3,ev T cf (d+1) (.comp (.zip ea eb) true none el) ρ h=some (.ref h3.length,h3++[.lst us])/\Kp h2 h3/\Paired (λu a=>F a u h3) us (xs.zip ys):=by
 have z:=Qfb sa;have z':=Qfb sb
 exact Qoe (w:=.zipB (Q4 T u h2).isSome (Q4 T w h2).isSome u w) F mono (by simp only[Zs,va,vb,Qm,wkZ,z.1,z'.1,Option.isSome_some,U6,Wg];rfl) (by simp only[Q7,z.1,W5,Uu];lia) ll (λi hs k=>by simp only[itm,z.2 hs k,z'.2 hs k,Qgv]) st
def QdK(s:Qs x=true\/Qs y=true):opU .Mult (iU x) (iU y) h=some (iU (x*y),h):=by
 have e:Qjm (iU x) (iU y)=some (iU (x*y)):=by
  simp only[Qjm]
  rcases s with s|s<;>simp[s]
 show(Qjm _ _).map _=_;rw[e];rfl
end
noncomputable def Qmt:U×U->U
 | (.int i 0,.int j 0)=>iU (i+j)
 |_=>.non
noncomputable def Qjp(k:Int):U->U
 |.int i 0=>iU (i*k)
 |_=>.non
noncomputable def gne:U->U
 |.int i 0=>.bl (!decide (i=0))
 |_=>.non
noncomputable def Qcl(a b:Sv):Sv:=List.zipWith (· + ·) a b
noncomputable def sz(v:Sv):Bool:=(v.drop 1).any λi=>!decide (i=0)
noncomputable def hd(v:Sv):Int:=v.headD 0
noncomputable def prS(a b:Sv):Sv:=if sz b=true then b.map (·*hd a)else a.map (·*hd b)
theorem QmF:∀(a b:Sv),((a.map iU).zip (b.map iU)).map Qmt=(Qcl a b).map iU
 |[],_=>rfl
 |_::_,[]=>rfl
 |x::a,y::b=>by
  have:=QmF a b;simp only[Qcl]at this;simp[Qcl,Qmt,this]
def Y7{v:Sv}{x:U}(m:x∈v.map iU):∃i∈v,x=iU i:=by
 obtain⟨i,m,e⟩:=T0.mp m;exact⟨i,m,e.symm⟩
section
variable {a b:Sv}
def Qpl:Qa (tbG xx s) (n+1) 35 [iU x] h=some (.ref h.length,h++[.tup ((un x).map iU)]):=by
 rw[Qf fnL[35] rfl rfl];rfl
def QeJ(ha:a.length=5)(hb:b.length=5):(Qcl a b).length=5:=by simp[Qcl,ha,hb]
def Qon(ha:Su (tbG xx s) u a h)(hb:Su (tbG xx s) w b h):Pc (tbG xx s) (n+1) 36 [u,w] h λu h1=>Sr u (Qcl a b) h1:=by
 obtain⟨us,h3,e,k,p⟩:=Qgc (T:=(tbG xx s)) (cf:=Qa (tbG xx s) n) (d:=96) (ρ:=[some u,some w]) (h:=h) (ea:=Va) (eb:=Vb) (el:=.op .Add Vc Vd) (λx u v=>u=Qmt x) (λv v v v v z=>z) (Qc rfl) (Qc rfl) (.inr ha.1) (.inr hb.1) (by rw[Uu,Xq,Xq,ha.2,hb.2];decide) λx m g k=>by
  obtain⟨x,y⟩:=x;obtain⟨i,_,rfl⟩:=Y7 (Ww m).1;obtain⟨j,_,rfl⟩:=Y7 (Ww m).2;exact⟨_,_,ZA (d:=95) (Qc rfl) (Qc rfl) Y5,Kp.refl _,rfl⟩
 cases Z4 p;rw[QmF]at e;exact Pc.of (Jr (Qf fnL[36] rfl rfl) (Zb (Q9 (Qgq (d:=97) e) ⟨(k.trans kp1).trans kp1,_,rfl,Qo,QeJ ha.2 hb.2⟩)))
def Qpk{k:Int}(ha:Su (tbG xx s) u a h)(hs:(∀i∈a,Qs i=true)\/Qs k=true):Pc (tbG xx s) (n+1) 38 [u,iU k] h λu h1=>Sr u (a.map (·*k)) h1:=by
 obtain⟨us,h3,e,kp,p⟩:=YJ (T:=(tbG xx s)) (cf:=Qa (tbG xx s) n) (d:=96) (ρ:=[some u,some (iU k)]) (h:=h) (e:=Va) (el:=.op .Mult Vc Vb) (λx u y=>u=Qjp k x) (λy y y y y z=>z) (Qc rfl) (.inr ha.1) (by rw[Xq,ha.2];decide) λx m g kp=>by
  obtain⟨i,mi,rfl⟩:=Y7 m;exact⟨_,_,ZA (d:=95) (Qc rfl) (Qc rfl) (QdK (hs.imp_left λq=>q i mi)),Kp.refl _,rfl⟩
 cases Z4 p;rw[Ux,show(Qjp k∘iU)=(λi=>iU (i*k))from rfl]at e
 exact Pc.of (Jr (Qf fnL[38] rfl rfl) (Zb (Q9 (Qgq (d:=97) e) ⟨(kp.trans kp1).trans kp1,_,rfl,by rw[Ux];exact Qo,by rw[Xq];exact ha.2⟩)))
def Qi3(h:a.length=5):∃x0 x1 x2 x3 x4,a=[x0,x1,x2,x3,x4]:=by
 match a,h with
 |[x0,x1,x2,x3,x4],_=>exact⟨x0,x1,x2,x3,x4,rfl⟩
def QoN{h:Hs}(hp:h[p]?=some (.tup xs))(l:1<xs.length):slU T (.ref p) (some 1) none h=some (.ref h.length,h++[.tup (xs.drop 1)]):=by
 have c1:Z1 xs.length 0 (some 1)=1:=by simp only[Z1];rw[if_neg (by lia)];lia
 have c2:Z1 xs.length xs.length none=xs.length:=rfl;simp only[slU,hp,c1,c2]
 rw[if_neg (by simp)]
 simp only[QaT,c1,c2]
 rw[V9 (by simp)]
def Qmw(ha:Sr u a h):Pc (tbG xx s) (n+1) 39 [u] h λu h1=>u=.bl (sz a):=by
 obtain⟨p,rfl,hp,l⟩:=ha;obtain⟨x0,x1,x2,x3,x4,rfl⟩:=Qi3 l
 obtain⟨us,h3,e,kp,pr⟩:=YJ (T:=(tbG xx s)) (cf:=Qa (tbG xx s) n) (d:=96) (ρ:=[sR p]) (h:=h) (e:=.sl Va (some Wb) none) (el:=.cmp .NotEq Vb Wa) (λx u y=>u=gne x) (λy y y y y z=>z) (by rw[Qji,Qc rfl,Qm];simp only[evO,y_c,Qm];exact QoN hp (by simp)) (.inr (QW Qo)) (by simp) λx m g kp=>by
  obtain⟨i,mi,rfl⟩:=Y7 (v:=[x1,x2,x3,x4]) m;exact⟨_,_,Qhn (d:=95) (Qc rfl) y_c rfl,Kp.refl _,rfl⟩
 cases Z4 pr
 have q:biU (tbG xx s) .any [.ref h3.length] (h3++[O.lst (((List.map iU [x0,x1,x2,x3,x4]).drop 1).map gne)])=some (.bl (sz [x0,x1,x2,x3,x4]),h3++[O.lst (((List.map iU [x0,x1,x2,x3,x4]).drop 1).map gne)]):=by
  unfold biU;simp only[biL,Qq Qo];rfl
 exact Pc.of (Jr (Qf fnL[39] rfl rfl) (Zb (Q9 (Qgt (d:=97) e q) ⟨(kp1.trans kp).trans kp1,rfl⟩)))
end
section
variable {a b:Sv}
def QjM{v:Sv}(l:v.length=5)(z:sz v=false):v=un (hd v):=by
 obtain⟨x0,x1,x2,x3,x4,rfl⟩:=Qi3 l;simp[sz]at z;simp[un,hd,z]
def Qnr(la:a.length=5)(lb:b.length=5)(za:sz a=false):b.map (·*hd a)=prS a b:=by
 unfold prS;split
 ·rfl
 ·rename_i z;have e1:=QjM la za
  have e2:=QjM lb (by simpa using z)
  generalize hd a=x at e1 ⊢;generalize hd b=y at e2 ⊢;subst e1 e2;simp[un,Int.mul_comm]
def QkE(la:a.length=5)(lb:b.length=5):(prS a b).length=5:=by unfold prS;split<;>simp[la,lb]
def Qf1(l:a.length=5):(a.map iU)[0]?=some (iU (hd a)):=by obtain⟨x0,x1,x2,x3,x4,rfl⟩:=Qi3 l;rfl
def Qg1(l:a.length=5):hd a∈a:=by obtain⟨x0,x1,x2,x3,x4,rfl⟩:=Qi3 l;exact Xm
def s64(v:Sv):Prop:=∀i∈v,Qs i=true
def Qjs(ha:Sr u a h)(hb:Sr w b h)(z:sz a=false\/sz b=false)(hs:s64 b):Pc (tbG xx s) (n+2) 37 [u,w] h λu h1=>Sr u (prS a b) h1:=by
 have la:a.length=5:=by obtain⟨_,_,_,l⟩:=ha;exact l
 have lb:b.length=5:=by obtain⟨_,_,_,l⟩:=hb;exact l
 obtain⟨v,h1,e1,k1,rfl⟩:=Qmw (xx:=xx) (s:=s) (n:=n) ha;have t1:∀d,evT (tbG xx s) (Qa (tbG xx s) (n+1)) (d+5) (.not (.call 39 [Va])) [some u,some w] h=some (!sz a,h1):=λd=>YC (d:=d+4) (Qf7 (d:=d+3) rfl (QbQ (d:=d+1) rfl e1));refine Pc.of (Jr (Qf fnL[37] rfl rfl) (QeO (d:=98) (t1 93) ?_))
 cases za:sz a with
 |false=>
  obtain⟨p,rfl,hp,_⟩:=ha;obtain⟨v,h2,e2,k2,r2⟩:=Qpk (xx:=xx) (s:=s) (n:=n) (k:=hd a) (hb.su.mono k1) (.inl hs);rw[Qnr la lb za]at r2;exact Zb (d:=96) (Qdq (d:=95) (e_2 (Qc rfl) (Qat (d:=93) (Qc rfl) (Qcr (j:=0) (k1 _ _ hp) (Qf1 la)))) ⟨v,h2,e2,k1.trans k2,r2⟩)
 |true=>
  have zb:sz b=false:=z.resolve_left (by rw[za];decide)
  obtain⟨v,h2,e2,k2,rfl⟩:=Qmw (xx:=xx) (s:=s) (n:=n) (hb.mono k1);have t2:∀d,evT (tbG xx s) (Qa (tbG xx s) (n+1)) (d+5) (.not (.call 39 [Vb])) [some u,some w] h1=some (!sz b,h2):=λd=>YC (d:=d+4) (Qf7 (d:=d+3) rfl (QbQ (d:=d+1) rfl e2));refine Ju (QeO (d:=97) (t2 92) ?_);rw[zb];obtain⟨q,rfl,hq,_⟩:=hb;obtain⟨v,h3,e3,k3,r3⟩:=Qpk (xx:=xx) (s:=s) (n:=n) (k:=hd b) (ha.su.mono (k1.trans k2)) (.inr (hs _ (Qg1 lb)))
  rw[show a.map (·*hd b)=prS a b from by unfold prS;rw[zb];rfl]at r3
  exact Zb (d:=95) (Qdq (d:=94) (e_2 (Qc rfl) (Qat (d:=92) (Qc rfl) (Qcr (j:=0) ((k1.trans k2) _ _ hq) (Qf1 lb)))) ⟨v,h3,e3,(k1.trans k2).trans k3,r3⟩)
end
abbrev Sx:=List Sv
noncomputable def Qck(a b:Sx):Sx:=List.zipWith Qcl a b
noncomputable def tmX(a:Sx)(v:Sv):Sx:=a.map λx=>prS x v
noncomputable def zX:Sx:=List.replicate 10 (un 0)
noncomputable def fX(l:List Sx):Sx:=l.foldl Qck zX
def Ls(R:U->Sv->Hs->Prop)(m:Nat)(h:Hs)(k:Nat)(A:Sx):Prop:=∃us,h[k]?=some (.lst us)/\m<=k/\Paired (λu v=>R u v h) us A
def Ct(R:U->Sv->Hs->Prop)(m:Nat)(h:Hs)(u:U)(S:Sx):Prop:=∃p a b k f s0 s1 A B,u=.ref p/\h[p]?=some (.tup [a,b,.ref k,.ref f])/\R a s0 h/\R b s1 h/\Ls R m h k A/\Ls R m h f B/\A.length=4/\B.length=4/\S=s0::s1::(A++B)
def Ls.mp{R R':U->Sv->Hs->Prop}{A:Sx}(z:Ls R m h k A)(e:Kp h h1)(f:∀u v,R u v h->R' u v h1)(l:m'<=m):Ls R' m' h1 k A:=by obtain⟨us,a,b,c⟩:=z;exact⟨us,e _ _ a,X7 l b,Qi f c⟩
theorem Ct.mp{R R':U->Sv->Hs->Prop}{S:Sx}(z:Ct R m h u S)(e:Kp h h1)(f:∀u v,R u v h->R' u v h1)(l:m'<=m):Ct R' m' h1 u S:=by
 obtain⟨p,a,b,k,g,s0,s1,A,B,rfl,hp,ra,rb,la,lb,l1,l2,rfl⟩:=z;exact⟨p,a,b,k,g,s0,s1,A,B,rfl,e _ _ hp,f _ _ ra,f _ _ rb,la.mp e f l,lb.mp e f l,l1,l2,rfl⟩
section
variable {A B S S':Sx}{v v':Sv}
theorem Ct.su(z:Ct Sr m h u S):Ct (Su T) m h u S:=z.mp (Kp.refl _) (λy y r=>r.su) (Xi _)
def Ct.kp(z:Ct (Su T) m h u S)(e:Kp h h1):Ct (Su T) m h1 u S:=z.mp e (λy y r=>r.mono e) (Xi _)
def Su.det(a:Su T u v h)(b:Su T u v' h):v=v':=by
 have e:=a.1.symm.trans b.1
 exact(List.map_inj_right (λx y z=>by cases z;rfl)).mp (Xw e)
theorem pz{P Q R:U->Sv->Prop}{f:Sv->Sv->Sv}:∀{us xs ys:List U} {A B:Sx},Paired (λu (x:U×U)=>∀v w,P x.1 v->Q x.2 w->R u (f v w)) us (xs.zip ys)->Paired P xs A->Paired Q ys B->Paired R us (List.zipWith f A B)
 |_,_,_,_,_,z,.nil,_=>by cases z;exact .nil
 |_,_,_,_,_,z,.cons _ _,.nil=>by cases z;exact .nil
 |_,_,_,_,_,z,.cons a a',.cons b b'=>by cases z with
  |cons z t=>exact .cons (z _ _ a b) (pz t a' b')
def pm{P:U->α->Prop}{R:U->β->Prop}{f:α->β}(z:Paired (λu x=>∀v,P x v->R u (f v)) us xs):∀{A:List α},Paired P xs A->Paired R us (A.map f):=by
 induction z with
 |nil=>intro A a;cases a;exact .nil
 |cons z _ ih=>intro A a;cases a with
  |cons a a'=>exact .cons (z _ a) (ih a')
def Z3{P:α->β->Prop}{xs:List α}{ys:List β}(h:Paired P xs ys){x:α}(m:x∈xs):∃y∈ys,P x y:=by
 induction h with
 |nil=>cases m
 |cons a _ ih=>
  rcases Xg.mp m with rfl|m
  ·exact⟨_,Xm,a⟩
  ·obtain⟨y,my,p⟩:=ih m;exact⟨y,Xj _ my,p⟩
def Qpj(za:Ls (Su (tbG xx s)) m h k A)(zb:Ls (Su (tbG xx s)) m' h l B)(la:A.length=4)(lb:B.length=4):Pc (tbG xx s) (n+2) 44 [.ref k,.ref l] h λr h1=>∃p,r=.ref p/\Ls Sr h.length h1 p (Qck A B):=by
 obtain⟨us,hk,_,pa⟩:=za;obtain⟨ws,hl,_,pb⟩:=zb
 obtain⟨vs,h3,e,kp,p⟩:=Qgc (T:=(tbG xx s)) (cf:=Qa (tbG xx s) (n+1)) (d:=97) (ρ:=[sR k,sR l]) (h:=h) (ea:=Va) (eb:=Vb) (el:=.call 36 [Vc,Vd]) (λx u g=>∀v w,Su (tbG xx s) x.1 v h->Su (tbG xx s) x.2 w h->Sr u (Qcl v w) g) (λt t t t k z v w a b=>(z v w a b).mono k) (Qc rfl) (Qc rfl) (.inl (Qq hk)) (.inl (Qq hl)) (by rw[Uu,Qx pa,Qx pb,la,lb];decide) λx m g k=>by
  obtain⟨x,y⟩:=x;obtain⟨v,_,hv⟩:=Z3 pa (Ww m).1;obtain⟨w,_,hw⟩:=Z3 pb (Ww m).2;obtain⟨r,g1,e1,k1,z⟩:=Qon (n:=n) (hv.mono k) (hw.mono k)
  exact⟨r,g1,QH (d:=96) (e_2 (Qc rfl) (Qc rfl)) e1,k1,λv' w' a b=>by rw[a.det hv,b.det hw];exact z⟩
 exact Pc.of (Jr (Qf fnL[44] rfl rfl) (Zb (Q9 e ⟨kp.trans kp1,_,rfl,vs,Qo,kp.len,Qi (λt t z=>z.mono kp1) (pz (R:=λu v=>Sr u v h3) p pa pb)⟩)))
def Qot{a b c e:Sv}{A B C E:Sx}(l:A.length=C.length):Qck (a::b::(A++B)) (c::e::(C++E))=Qcl a c::Qcl b e::(Qck A C++Qck B E):=by
 simp only[Qck,List.zipWith_cons_cons,List.zipWith_append l]
def Ct.ix(z:Ct Sr m h u S):∃p a b k f,u=.ref p/\h[p]?=some (.tup [a,b,.ref k,.ref f]):=by
 obtain⟨p,a,b,k,g,s0,s1,A,B,rfl,hp,_⟩:=z;exact⟨p,a,b,k,g,rfl,hp⟩
def QqN(za:Ct (Su (tbG xx s)) m h u S)(zb:Ct (Su (tbG xx s)) m' h w S'):Pc (tbG xx s) (n+3) 43 [u,w] h λr h1=>Ct Sr h.length h1 r (Qck S S'):=by
 obtain⟨p,a,b,k,g,s0,s1,A,B,rfl,hp,ra,rb,la,lb,l1,l2,rfl⟩:=za;obtain⟨p',a',b',k',g',t0,t1,A',B',rfl,hp',ra',rb',la',lb',l1',l2',rfl⟩:=zb;obtain⟨r1,h1,e1,k1,z1⟩:=Qon (n:=n+1) ra ra';obtain⟨r2,h2,e2,k2,z2⟩:=Qon (n:=n+1) (rb.mono k1) (rb'.mono k1);have K2:=k1.trans k2;have mo:∀{h1:Hs} (_:Kp h h1),∀u v,Su (tbG xx s) u v h->Su (tbG xx s) u v h1:=λk y y z=>z.mono k;obtain⟨_,h3,e3,k3,p3,rfl,z3⟩:=Qpj (n:=n) (la.mp K2 (mo K2) (Xi _)) (la'.mp K2 (mo K2) (Xi _)) l1 l1';have K3:=K2.trans k3;obtain⟨_,h4,e4,k4,p4,rfl,z4⟩:=Qpj (n:=n) (lb.mp K3 (mo K3) (Xi _)) (lb'.mp K3 (mo K3) (Xi _)) l2 l2';have K4:=K3.trans k4;have ix:∀{d i j q:Nat} {g:Hs} {us:List U} {x:U},Kp h g->h[q]?=some (.tup us)->([sR p,sR p']:Rho)[i]?=some (sR q)->us[j]?=some x->ev (tbG xx s) (Qa (tbG xx s) (n+2)) (d+2) (.ix (.var i) (.c (.int (j:Int) 0))) [sR p,sR p'] g=some (x,g):=λk hq hi hj=>Qat (Qc hi) (Qcr (k _ _ hq) hj);have sr:∀{g:Hs},Kp h4 g->∀u v,Sr u v h4->Sr u v g:=λk y y z=>z.mono k;have c1:=Qas (d:=97) (QH (e_2 (ix (d:=94) (i:=0) (j:=0) (Kp.refl _) hp rfl rfl) (ix (d:=94) (i:=1) (j:=0) (Kp.refl _) hp' rfl rfl)) e1) (QH (e_2 (ix (d:=94) (i:=0) (j:=1) k1 hp rfl rfl) (ix (d:=94) (i:=1) (j:=1) k1 hp' rfl rfl)) e2) (QH (e_2 (ix (d:=94) (i:=0) (j:=2) K2 hp rfl rfl) (ix (d:=94) (i:=1) (j:=2) K2 hp' rfl rfl)) e3) (QH (e_2 (ix (d:=94) (i:=0) (j:=3) K3 hp rfl rfl) (ix (d:=94) (i:=1) (j:=3) K3 hp' rfl rfl)) e4);refine Pc.of (Jr (Qf fnL[43] rfl rfl) (Zb (Q9 c1 ⟨K4.trans kp1,h4.length,r1,r2,p3,p4,Qcl s0 t0,Qcl s1 t1,Qck A A',Qck B B',rfl,Qo,(z1.mono ((k2.trans k3).trans k4)).mono kp1,(z2.mono (k3.trans k4)).mono kp1,z3.mp (k4.trans kp1) (λy y z=>z.mono (k4.trans kp1)) K2.len,z4.mp kp1 (λy y z=>z.mono kp1) K3.len,?_,?_,Qot (l1.trans l1'.symm)⟩)))
 ·simp only[Qck,T3];lia
 ·simp only[Qck,T3];lia
end
section
variable {A B S:Sx}{v v':Sv}
def Ym{X:EX}{r:Option (Fl×Rho×Hs)}(e:ex T cf d st ρ h=r):ex T cf (d+1) (.xal st X) ρ h=r:=by rw[ex];exact e
def QgH{X:EX}(q:Rr T cf d e ρ h λu h1=>Q (.ret u) ρ h1):Xx T cf (d+3) (.xal (.ret e) X::r) ρ h Q:=by obtain⟨u,h1,a,b⟩:=q;exact⟨_,_,_,by rw[Qj,Ym (by rw[Qz,a,Qm])],b⟩
noncomputable def elP:E:=.call 37 [Ve,Vb]
def QeU(c:Ls Sr m h k A)(zb:Sr w v h)(ok:∀x∈A,sz x=false\/sz v=false)(hs:s64 v)(la:A.length=4)(ve:ev (tbG xx s) (Qa (tbG xx s) (n+2)) (d+3) e [some u,some w,x2',x3'] h=some (.ref k,h)):
  ∃h3 r,ev (tbG xx s) (Qa (tbG xx s) (n+2)) (d+4) (.comp (.seq e) false none elP) [some u,some w,x2',x3'] h=some (.ref r,h3)/\Kp h h3/\Ls Sr h.length h3 r (tmX A v):=by
 obtain⟨us,hk,_,pa⟩:=c
 obtain⟨vs,h3,e,kp,p⟩:=YJ (T:=(tbG xx s)) (cf:=Qa (tbG xx s) (n+2)) (d:=d+3) (h:=h) (el:=elP) (λx u g=>∀v',Sr x v' h->Sr u (prS v' v) g) (λy y y y k z v a=>(z v a).mono k) ve (.inl (Qq hk)) (by rw[Qx pa,la];decide) λx mx g k=>by
  obtain⟨v',mv,hv⟩:=Z3 pa mx;obtain⟨r,g1,e1,k1,z⟩:=Qjs (xx:=xx) (s:=s) (n:=n) (hv.mono k) (zb.mono k) (ok _ mv) hs
  exact⟨r,g1,QH (d:=d+2) (e_2 (Qc rfl) (Qc rfl)) e1,k1,λv2 a=>by rw[Su.det (T:=(tbG xx s)) a.su hv.su];exact z⟩
 exact⟨_,_,e,kp.trans kp1,vs,Qo,kp.len,Qi (λy y z=>z.mono kp1) (pm (R:=λu v=>Sr u v h3) p pa)⟩
noncomputable def eT:E:=.tup [.call 37 [.ix Va Wa,Vb],.call 37 [.ix Va Wb,Vb],Vc,Vd]
def bx(S:Sx)(v:Sv):Prop:=∃x∈S,sz x=true/\sz v=true
def QfF(z:¬bx S v):∀x∈S,sz x=false\/sz v=false:=λx m=>by
 cases a:sz x with
 |false=>exact .inl rfl
 |true=>cases b:sz v with
  |false=>exact .inr rfl
  |true=>exact absurd ⟨x,m,a,b⟩ z
def Yj{x:U}(hp:h[p]?=some (.tup us))(hi:ρ[i]?=some (sR p))(hj:us[j]?=some x):ev T cf (d+2) (.ix (.var i) (.c (.int (j:Int) 0))) ρ h=some (x,h):=Qat (Qc hi) (Qcr hp hj)
def QqM(za:Ct Sr m h u S)(zb:Sr w v h)(ok:∀x∈S,sz x=false\/sz v=false)(hs:s64 v):Pc (tbG xx s) (n+3) 45 [u,w] h λr h1=>Ct Sr h.length h1 r (tmX S v):=by
 obtain⟨p,a,b,k,g,s0,s1,A,B,rfl,hp,ra,rb,la,lb,l1,l2,rfl⟩:=za
 obtain⟨h1,q1,e1,k1,y1⟩:=QeU (xx:=xx) (s:=s) (n:=n) (d:=93) (e:=.ix Va Wc) (u:=.ref p) (x2':=none) (x3':=none) la zb (λx mx=>ok x (by simp[mx])) hs l1 (Yj (j:=2) hp rfl rfl)
 obtain⟨h2,q2,e2,k2,y2⟩:=QeU (xx:=xx) (s:=s) (n:=n) (d:=92) (e:=.ix Va Wd) (u:=.ref p) (x2':=sR q1) (x3':=none) (lb.mp k1 (λy y z=>z.mono k1) (Xi _)) (zb.mono k1) (λx mx=>ok x (by simp[mx])) hs l2 (Yj (j:=3) (k1 _ _ hp) rfl rfl)
 have K2:=k1.trans k2
 obtain⟨r3,h3,e3,k3,y3⟩:=Qjs (xx:=xx) (s:=s) (n:=n) (ra.mono K2) (zb.mono K2) (ok s0 (by simp)) hs
 have K3:=K2.trans k3
 obtain⟨r4,h4,e4,k4,y4⟩:=Qjs (xx:=xx) (s:=s) (n:=n) (rb.mono K3) (zb.mono K3) (ok s1 (by simp)) hs
 have K4:=K3.trans k4;have k34:=k3.trans k4;refine Pc.of (Jr (Qf fnL[45] rfl rfl) ?_);refine J1 (d:=99) (Ym (JP e1)) (J1 (d:=98) (Ym (JP e2)) (QgH (d:=95) (Q9 (Qas (d:=94) (QH (e_2 (Yj (d:=91) (j:=0) (K2 _ _ hp) rfl rfl) (Qc rfl)) e3) (QH (e_2 (Yj (d:=91) (j:=1) (K3 _ _ hp) rfl rfl) (Qc rfl)) e4) (Qc rfl) (Qc rfl)) ⟨K4.trans kp1,h4.length,r3,r4,q1,q2,prS s0 v,prS s1 v,tmX A v,tmX B v,rfl,Qo,(y3.mono k4).mono kp1,y4.mono kp1,(y1.mp (k2.trans k34) (λy y z=>z.mono (k2.trans k34)) (Xi _)).mp kp1 (λy y z=>z.mono kp1) (Xi _),(y2.mp k34 (λy y z=>z.mono k34) k1.len).mp kp1 (λy y z=>z.mono kp1) (Xi _),?_,?_,?_⟩)))
 ·simp only[tmX,Xq];exact l1
 ·simp only[tmX,Xq];exact l2
 ·simp only[tmX,Vw,List.map_append]
end
noncomputable abbrev er:Er:=(12,.non)
def Zz(T:Tbl)(cf:Cf)(d:Nat)(ss:List Iv.S)(ρ:Rho)(h g:Hs):Prop:=exs T cf d ss ρ h=none/\∃h1,exsX T cf d ss ρ h=some (er,h1)/\Kp g h1
def Zc(T:Tbl)(m f:Nat)(us:List U)(h:Hs):Prop:=Qa T m f us h=none/\∃h1,QI T m f us h=some (er,h1)/\Kp h h1
section
variable {S:Sx}
def Jy(e:ex T cf d st ρ h=some (.next,ρ1,h1))(z:Zz T cf d r ρ1 h1 g):Zz T cf (d+1) (st::r) ρ h g:=⟨by rw[Qj,e];exact z.1,by rw[exsX,e];exact z.2⟩
def Yv(e:ex T cf d st ρ h=none)(z:∃h1,exX T cf d st ρ h=some (er,h1)/\Kp g h1):Zz T cf (d+1) (st::r) ρ h g:=⟨by rw[Qj,e],by rw[exsX,e];exact z⟩
def QbJ(F:Fn)(hF:T.fns[f]?=some F)(hl:us.length=F.np)(z:Zz T (Qa T n) 100 F.body (QgG us F.nN) h h):Zc T (n+1) f us h:=by
 refine⟨?_,?_⟩
 ·rw[Qf F hF hl,show dd=100 from rfl,z.1];rfl
 ·have e:QI T (n+1) f us h=exsX T (Qa T n) dd F.body (QgG us F.nN) h:=by simp[QI,hF,hl]
  rw[e];exact z.2
def Qav(a:evs (ev T cf d) ρ es h=some (us,h1))(b:cf f us h1=none):ev T cf (d+1) (.call f es) ρ h=none:=by rw[QA,a,Qm,b]
def Yn(F:Fn)(hF:T.fns[f]?=some F)(hl:us.length=F.np)(a:evs (ev T cf d) ρ es h=some (us,h1)):evX T cf (.call f es) d ρ h=T.xf f us h1:=by
 unfold evX;rw[a,Qm,hF];simp only[hl,decide_true,Wg]
def Qgp{x:EX}(a:ev T cf d e ρ h=some (u,h1)):evX T cf (.arg e x) d ρ h=evX T cf x d ρ h1:=by
 show bd (ev T cf d e ρ h) (λz h1=>evX T cf x d ρ h1)=_;rw[a,Qm]
def Qc3{x y:EX}{q:Er×Hs}(a:evX T cf x d ρ h=some q):evX T cf (.alt x y) d ρ h=some q:=by
 show(match evX T cf x d ρ h with|some r=>some r|none=>evX T cf y d ρ h)=_
 rw[a]
def Qhj{x y:EX}(a:evX T cf x d ρ h=none):evX T cf (.alt x y) d ρ h=evX T cf y d ρ h:=by
 show(match evX T cf x d ρ h with|some r=>some r|none=>evX T cf y d ρ h)=_
 rw[a]
def Qcn{x:EX}:exX T cf (d+1) (.xal st x) ρ h=evX T cf x d ρ h:=by rw[exX]
theorem Qo1:∀(d:Nat) (ss:List Iv.S) (ρ:Rho) (h:Hs) (q:Fl×Rho×Hs),exs T cf d ss ρ h=some q->exsX T cf d ss ρ h=none
 |0,_,_,_,_,e=>by cases e
 |d+1,[],_,_,_,_=>by rw[exsX]
 |d+1,st::r,ρ,h,q,e=>by
  rw[Qj]at e;rw[exsX]
  cases a:ex T cf d st ρ h with
  |none=>rw[a]at e;cases e
  |some z=>
   obtain⟨fl,ρ1,h1⟩:=z;rw[a]at e
   cases fl with
   |next=>exact Qo1 d r ρ1 h1 q e
   |_=>rfl
def QfE{q:U×Hs}(e:Qa T n f us h=some q):QI T n f us h=none:=by
 cases n with
 |zero=>cases e
 |succ n=>
  cases a:T.fns[f]? with
  |none=>simp only[Qa,a]at e;cases e
  |some F=>
   by_cases z:us.length=F.np
   ·simp only[Qa,a,z,Wg]at e;simp only[QI,a,z,Wg]
    cases b:exs T (Qa T n) dd F.body (QgG us F.nN) h with
    |none=>rw[b]at e;cases e
    |some q=>exact Qo1 _ _ _ _ _ b
   ·simp only[Qa,a,z,Vn]at e;cases e
def QoC{a b:Sv}(ha:Sr u a h)(hb:Sr w b h)(za:sz a=true)(zb:sz b=true):Zc (tbG xx s) (n+2) 37 [u,w] h:=by
 obtain⟨_,h1,e1,k1,rfl⟩:=Qmw (xx:=xx) (s:=s) (n:=n) ha;obtain⟨_,h2,e2,k2,rfl⟩:=Qmw (xx:=xx) (s:=s) (n:=n) (hb.mono k1);have t1:∀d,evT (tbG xx s) (Qa (tbG xx s) (n+1)) (d+5) (.not (.call 39 [Va])) [some u,some w] h=some (!sz a,h1):=λd=>YC (d:=d+4) (Qf7 (d:=d+3) rfl (QbQ (d:=d+1) rfl e1));have t2:∀d,evT (tbG xx s) (Qa (tbG xx s) (n+1)) (d+5) (.not (.call 39 [Vb])) [some u,some w] h1=some (!sz b,h2):=λd=>YC (d:=d+4) (Qf7 (d:=d+3) rfl (QbQ (d:=d+1) rfl e2));rw[za]at t1;rw[zb]at t2;exact QbJ fnL[37] rfl rfl (Jy (d:=99) (JQ (t1 93)) (Jy (d:=98) (JQ (t2 92)) (Yv (d:=97) rfl ⟨h2,rfl,k1.trans k2⟩)))
theorem QjA{ff f2:Rho->Hs->Option (U×Hs)}{F2:Ev}{el:E}{fx:Rho->Hs->Option (Er×Hs)}{wk:Wk}{L:List U}(hF:ff=F2 el)(hit:∀(i:Nat) hs,Kp h1 hs->itm T wk i hs=some ((L[i]?).map .one))(lL:L.length<=900000)
  (st:∀x∈L,∀hs,Kp h1 hs->(∃u h2,ff (ρ++[some x]) hs=some (u,h2)/\f2 (ρ++[some x]) hs=some (u,h2)/\Kp hs h2)\/(ff (ρ++[some x]) hs=none/\f2 (ρ++[some x]) hs=none/\∃h2,fx (ρ++[some x]) hs=some (er,h2)/\Kp hs h2)):
  ∀(m i k:Nat) (acc:List U) (hs:Hs),L.length=i+m->acc.length=i->m<k->Kp h1 hs->(∃x∈L.drop i,∀hs,Kp h1 hs->ff (ρ++[some x]) hs=none)->Yt T F2 (Qbz ft none) wk false el ρ k i acc hs=none/\∃h2,Qjr T f2 fx wk false ρ k i hs=some (er,h2)/\Kp h1 h2
 |m,i,0,_,_,_,_,l,_,_=>by lia
 |0,i,k+1,_,_,e,_,_,_,b=>by
  obtain⟨x,mx,_⟩:=b
  rw[T1.mpr (by lia)]at mx
  cases mx
 |m+1,i,k+1,acc,hs,e,la,l,kp,b=>by
  have lt:i<L.length:=by lia
  have ei:itm T wk i hs=some (some (.one L[i])):=by rw[hit i hs kp,Xp lt];rfl
  have li:i<1000000:=by lia
  have la':acc.length<1000000:=by lia
  rw[Yt,Qjr];simp only[ei,tgt,tgN,QcU,Wp,Vn,Qm8,li,la',Wg,Qbz,Qm,<-hF]
  rcases st _ (U0 lt) hs kp with⟨u,h3,a,a2,kp3⟩|⟨a,a2,h2,a3,k2⟩
  ·rw[a,a2,Qm]
   refine QjA hF hit lL st m (i+1) k (acc++[u]) h3 (by lia) (by rw[Wn,la];rfl) (by lia) (kp.trans kp3) ?_
   obtain⟨x,mx,hx⟩:=b;rw[List.drop_eq_getElem_cons lt]at mx
   rcases Xg.mp mx with rfl|mx
   ·rw[hx hs kp]at a;cases a
   ·exact⟨x,mx,hx⟩
  ·rw[a,a2];exact⟨rfl,h2,a3,kp.trans k2⟩
end
noncomputable def isF(k:Nat):Ti->Bool
 |.fr w=>w==[k]
 |_=>false
noncomputable def kk:List Nat:=[119,120,121,122]
noncomputable def spS(sp:Sp):Sx:=un sp.tk::un sp.ts.length::((kk.map λk=>un (sp.es.countP (·==[k]):Nat))++(kk.map λk=>un (sp.ts.countP (isF k):Nat)))
noncomputable def asc(w:List Nat):Bool:=w.all λc=>decide (c<128)
def Asc(sp:Sp):Prop:=sp.es.length<=1/\(∀w∈sp.es,asc w=true)/\∀w,Ti.fr w∈sp.ts->asc w=true
section
variable {sp:Sp}
def Qbh{xs:List U}(e:ZH T u h=some xs):okW T (n+1) u h=xs.all λx=>okW T n x h:=by simp only[okW,YV e,e]
def Qf9{xs:List U}(e:ZH T u h=some xs)(e':ZH T w h=some ys):eqW T (n+1) u w h=((xs.length==ys.length)&&(xs.zip ys).all λp=>eqW T n p.1 p.2 h):=by simp only[eqW,YV e,e,YV e',e']
def QoE(z:Te (tbG xx s) o k u)(hi:ρ[i]?=some (sR q))(hq:h[q]?=some o):ev (tbG xx s) (Qa (tbG xx s) (n+1)) (d+2) (.meth k (.var i) []) ρ h=some (u,h):=by
 obtain⟨f,⟨c,fs,C,rfl,hC,hk,_⟩,z⟩:=z;rw[QoF hi hq hC hk rfl];exact z n q h hq
def QoG{D:Hs->U->α->Prop}{xs:List α}(z:Gi (tbG xx s) o k D xs)(hi:ρ[i]?=some (sR q))(hq:h[q]?=some o):∃h' us,ev (tbG xx s) (Qa (tbG xx s) (n+1)) (d+2) (.meth k (.var i) []) ρ h=some (.ref h'.length,h'++[.lst us])/\Kp h h'/\Paired (D h') us xs:=by
 obtain⟨f,⟨c,fs,C,rfl,hC,hk,_⟩,z⟩:=z;obtain⟨h',us,a,b,c⟩:=z n q h hq;exact⟨h',us,(QoF hi hq hC hk rfl).trans a,b,c⟩
def QpW(hp:h[p]?=some (.lst xs)):QcS .count (.ref p) h=true:=by simp only[QcS,hp];rfl
def QmQ{L:List α}{P:α->Bool}(hi:ρ[i]?=some (sR p))(hp:h[p]?=some (.lst xs))(v:ev T cf (d+1) e ρ h=some (w,h1))(hp1:h1[p]?=some (.lst xs))(ow:okW T 20 w h1=true)(pr:Paired (λx a=>okW T 20 x h1=true/\eqW T 20 x w h1=P a) xs L):ev T cf (d+2) (.bm .count (.var i) [e]) ρ h=some (iU (L.countP P:Nat),h1):=by
 have z:(xs.all λx=>okW T 20 x h1)=true/\(xs.countP λx=>eqW T 20 x w h1)=L.countP P:=by
  clear hp hp1
  induction pr with
  |nil=>exact⟨rfl,rfl⟩
  |cons a _ ih=>exact⟨by rw[V5,a.1,ih.1];rfl,by rw[Tp,Tp,ih.2,a.2]⟩
 rw[Yl,Qc hi,Qm,if_pos (QpW hp)];simp only[evs,v,Qm,bmU,hp1,bmL,z.1,ow,U6,Wg,z.2]
noncomputable def KL:List U:=kk.map λk=>.str [k]
def QlT{L:List α}{P:Nat->α->Bool}(hl:ρ.length=5)(hi:ρ[i]?=some (sR p))(li:i<5)(hp:h[p]?=some (.lst xs))(st:∀k∈kk,∀hs,Kp h hs->∃w h1,ev (tbG xx s) (Qa (tbG xx s) (n+1)) (d+1) e (ρ++[some (.str [k])]) hs=some (w,h1)/\Kp hs h1/\okW (tbG xx s) 20 w h1=true/\Paired (λx a=>okW (tbG xx s) 20 x h1=true/\eqW (tbG xx s) 20 x w h1=P k a) xs L):
  ∃r h1,ev (tbG xx s) (Qa (tbG xx s) (n+1)) (d+4) (.comp (.seq (.con 0)) false none (.call 35 [(.bm .count (.var i) [e])])) ρ h=some (.ref r,h1)/\Kp h h1/\Ls Sr h.length h1 r (kk.map λk=>un (L.countP (P k):Nat)):=by
 obtain⟨vs,h3,e3,kp,pp⟩:=YJ (T:=(tbG xx s)) (cf:=Qa (tbG xx s) (n+1)) (d:=d+3) (ρ:=ρ) (u:=.con 0) (e:=.con 0) (L:=KL) (el:=.call 35 [(.bm .count (.var i) [e])]) (λx r h=>∀k,x=.str [k]->Sr r (un (L.countP (P k):Nat)) h) (λy y y y k z j e=>(z j e).mono k) Q6 (.inr rfl) (by decide) (λx hx hs kp=>by
  obtain⟨k,mk,rfl⟩:=T0.mp hx;obtain⟨w,h1,e1,k1,o1,o2⟩:=st k mk hs kp
  exact⟨_,_,QH (e_1 (QmQ (by rw[X4 (by lia)];exact hi) (kp _ _ hp) e1 (k1 _ _ (kp _ _ hp)) o1 o2)) Qpl,k1.trans kp1,λj ej=>by cases ej;exact⟨_,rfl,Qo,rfl⟩⟩)
 have:Paired (λu v=>Sr u v h3) vs (kk.map λk=>un (L.countP (P k):Nat)):=by
  rw[show KL=kk.map λk=>U.str [k]from rfl]at pp
  revert pp
  generalize kk=K;clear e3 st;intro pp
  induction K generalizing vs with
  |nil=>cases pp;exact .nil
  |cons k K ih=>cases pp with
   |cons a b=>exact .cons (a k rfl) (ih _ b)
 exact⟨_,_,e3,kp.trans kp1,vs,Qo,kp.len,Qi (λy y z=>z.mono kp1) this⟩
def QjU{k:Nat}{r:Nat}{t:Ti}(hk:h[r]?=some (.tup [.str Qa8,.str [k]]))(z:DTi h u t)(a:∀w,t=.fr w->asc w=true):okW T 20 u h=true/\eqW T 20 u (.ref r) h=isF k t:=by
 cases t with
 |nw ps x y=>
  obtain⟨p,q,rfl,hp,hq⟩:=z;refine⟨?_,(Qf9 (QW hp) (QW hk)).trans rfl⟩
  have e:okW T 19 (.ref q) h=true:=by
   rw[Qbh (n:=18) (QW hq),List.all_map];exact Xz.mpr λx v=>rfl
  exact(Qbh (QW hp)).trans (show(okW T 19 (.str Qa7) h&&(okW T 19 (.ref q) h&&(true&&(true&&true))))=true by rw[e];rfl)
 |sm=>
  obtain⟨p,rfl,hp⟩:=z;exact⟨(Qbh (QW hp)).trans rfl,(Qf9 (QW hp) (QW hk)).trans rfl⟩
 |fr w=>
  obtain⟨p,rfl,hp⟩:=z
  refine⟨(Qbh (QW hp)).trans (show(true&&(asc w&&true))=true by rw[a w rfl];rfl),(Qf9 (QW hp) (QW hk)).trans ?_⟩
  show(true&&((Qa8==Qa8)&&((w==[k])&&true)))=(w==[k]);rw[U3];rfl
def Qdx{P:α->β->Prop}{xs:List α}{ys:List β}(h:Paired P xs ys):Paired (λa b=>P a b/\b∈ys) xs ys:=by
 have:∀zs:List β,(∀y∈ys,y∈zs)->Paired (λa b=>P a b/\b∈zs) xs ys:=by
  induction h with
  |nil=>exact λz z=>.nil
  |cons a _ ih=>exact λzs m=>.cons ⟨a,m _ Xm⟩ (ih zs λy hy=>m y (Xj _ hy))
 exact this ys λz m=>m
def Qo0{k:Nat}(m:k∈kk):okW T (n+1) (.str [k]) h=true:=by
 simp only[kk,Xg,Xl,X5]at m
 rcases m with rfl|rfl|rfl|rfl<;>rfl
def QqO(z:Tl (tbG xx s) o sp)(za:Asc sp)(hq:h[q]?=some o):Pc (tbG xx s) (n+2) 42 [.ref q] h λr h1=>Ct Sr h.length h1 r (spS sp):=by
 obtain⟨h0,us,e0,k0,p0⟩:=QoG (n:=n) (d:=95) (ρ:=[sR q,none,none,none,none]) (i:=0) z.es rfl hq;obtain⟨a1,a2,a3⟩:=za
 obtain⟨ws,h1,e1,k1,p1⟩:=YJ (T:=(tbG xx s)) (cf:=Qa (tbG xx s) (n+1)) (d:=97) (ρ:=[sR q,none,none,none,none]) (el:=.ix Vf Wb) (λx u y=>∀w,DEn h0 x w->u=.str w) (λy y y y y z=>z) e0 (.inl (Qq Qo)) (by
  rw[Qx p0];lia) λx mx hs kp=>by
  obtain⟨w,mw,p,rfl,hp⟩:=Z3 p0 mx
  exact⟨_,_,Qat (d:=95) (Qc rfl) (Qcr (j:=1) (kp _ _ (YH hp)) rfl),Kp.refl _,λw' z=>by
   obtain⟨p',e,hp'⟩:=z;cases e;rw[hp]at hp';cases hp'
   rfl⟩
 have pw:=pm (R:=λu w=>u=U.str w) (f:=id) p1 p0;rw[List.map_id]at pw;have K1:Kp h (h1++[.lst ws]):=(k0.trans kp1).trans (k1.trans kp1);obtain⟨h2,ts,e2,k2,p2⟩:=QoG (n:=n) (d:=95) (ρ:=[sR q,sR h1.length,none,none,none]) (i:=0) z.ts rfl (K1 _ _ hq);have K2:Kp h (h2++[.lst ts]):=K1.trans (k2.trans kp1);have hw:(h2++[O.lst ts])[h1.length]?=some (.lst ws):=(k2.trans kp1) _ _ Qo
 obtain⟨r3,h3,e3,k3,z3⟩:=QlT (xx:=xx) (s:=s) (n:=n) (d:=92) (ρ:=[sR q,sR h1.length,sR h2.length,none,none]) (i:=1) (L:=sp.es) (P:=λk a=>a==[k]) (e:=Vf) rfl rfl (by decide) hw λk mk hs kp=>⟨.str [k],hs,Qc rfl,Kp.refl _,Qo0 mk,Qi (λx a z=>by obtain⟨rfl,m⟩:=z;exact⟨a2 a m,rfl⟩) (Qdx pw)⟩
 obtain⟨r4,h4,e4,k4,z4⟩:=QlT (xx:=xx) (s:=s) (n:=n) (d:=91) (ρ:=[sR q,sR h1.length,sR h2.length,sR r3,none]) (i:=2) (L:=sp.ts) (P:=isF) (e:=.tup [.c (.str Qa8),Vf]) rfl rfl (by decide) (k3 _ _ Qo) λk mk hs kp=>⟨_,_,QbM y_c (Qc rfl),kp1,(Qbh (QW Qo)).trans (by
  show(true&&(okW (tbG xx s) 19 (.str [k]) _&&true))=true
  rw[Qo0 mk];rfl),Qi (λx a z=>QjU Qo (z.1.mono (((kp1.trans k3).trans kp).trans kp1)) λw e=>a3 w (e▸z.2)) (Qdx p2)⟩
 have K4:=(K2.trans k3).trans k4;have hq4:=K4 q o hq;have ps:∀{x:Int} {g:Hs},Qa (tbG xx s) (n+1) 35 [iU x] g=some (.ref g.length,g++[.tup ((un x).map iU)]):=Qpl;have c1:=Qas (d:=93) (QH (e_1 (QoE (d:=90) (ρ:=[sR q,sR h1.length,sR h2.length,sR r3,sR r4]) (i:=0) z.tk rfl hq4)) ps) (QH (e_1 (QoE (d:=90) (i:=0) z.gv rfl (YH hq4))) ps) (Qc (i:=3) rfl) (Qc (i:=4) rfl);refine Pc.of (Jr (Qf fnL[42] rfl rfl) (Za (d:=98) (Q9 e1 (Za (d:=97) (Q9 e2 (Za (d:=96) (Q9 e3 (Za (d:=95) (Q9 e4 (Zb (d:=94) (Q9 c1 ⟨((K4.trans kp1).trans kp1).trans kp1,_,.ref h4.length,.ref (h4++[O.tup ((un sp.tk).map iU)]).length,r3,r4,un sp.tk,un sp.ts.length,kk.map λk=>un (sp.es.countP (·==[k]):Nat),kk.map λk=>un (sp.ts.countP (isF k):Nat),rfl,Qo,⟨_,rfl,kp1 _ _ (kp1 _ _ Qo),rfl⟩,⟨_,rfl,kp1 _ _ Qo,rfl⟩,?_,?_,rfl,rfl,rfl⟩)))))))))))
 ·exact z3.mp (((k4.trans kp1).trans kp1).trans kp1) (λy y z=>z.mono (((k4.trans kp1).trans kp1).trans kp1)) K2.len
 ·exact z4.mp ((kp1.trans kp1).trans kp1) (λy y z=>z.mono ((kp1.trans kp1).trans kp1)) (K2.trans k3).len
end
noncomputable def QjE:List Nat:=[111,110,101]
noncomputable def ZJ:List Nat:=[116,105,109,101,115]
def One(s:List U)(u:U)(S:Sx)(h:Hs):Prop:=∃p q o sp,u=.ref p/\h[p]?=some (.tup [.str QjE,.ref q])/\h[q]?=some o/\(∀yy,Tl (tbG yy s) o sp)/\Asc sp/\S=spS sp
def Tm(P:U->Sx->Hs->Prop)(u:U)(Ss:List Sx)(v:Sv)(h:Hs):Prop:=∃p w q us,u=.ref p/\h[p]?=some (.tup [.str ZJ,w,.ref q])/\Sr w v h/\s64 v/\h[q]?=some (.lst us)/\us≠[]/\us.length<=900000/\Paired (λu S=>P u S h) us Ss
def PT(s:List U):Nat->U->Sx->Hs->Prop
 |0=>One s
 |d+1=>λu S h=>One s u S h\/∃Ss v,Tm (PT s d) u Ss v h/\¬bx (fX Ss) v/\S=tmX (fX Ss) v
section
variable {S:Sx}{Ss:List Sx}{v:Sv}{P:U->Sx->Hs->Prop}
def One.kp(e:Kp g g')(z:One s u S g):One s u S g':=by obtain⟨p,q,o,sp,a,b,c,d⟩:=z;exact⟨p,q,o,sp,a,e _ _ b,e _ _ c,d⟩
def Tm.kp(mono:∀u S,P u S g->P u S g')(e:Kp g g')(z:Tm P u Ss v g):Tm P u Ss v g':=by obtain⟨p,w,q,us,a,b,c,d,f,x,y,z⟩:=z;exact⟨p,w,q,us,a,e _ _ b,c.mono e,d,e _ _ f,x,y,Qi mono z⟩
theorem PT.kp(e:Kp g g'):∀{d:Nat} {u:U} {S:Sx},PT s d u S g->PT s d u S g'
 |0,_,_,z=>One.kp e z
 |d+1,_,_,z=>z.imp (λz=>One.kp e z) λy=>by obtain⟨Ss,v,a,b⟩:=y;exact⟨Ss,v,a.kp (λx x z=>PT.kp e z) e,b⟩
def PT.one(z:One s u S g):∀d,PT s d u S g
 |0=>z
 |_+1=>.inl z
theorem PT.le1:∀{d:Nat} {u:U} {S:Sx},PT s d u S g->PT s (d+1) u S g
 |0,_,_,z=>.inl z
 |d+1,_,_,z=>z.imp id λr=>by obtain⟨Ss,v,⟨p,w,q,us,a,b,c,d,f,x,y,z⟩,t⟩:=r;exact⟨Ss,v,⟨p,w,q,us,a,b,c,d,f,x,y,Qi (λo o z=>PT.le1 z) z⟩,t⟩
def PT.le{d:Nat}(l:d<=d')(z:PT s d u S g):PT s d' u S g:=by
 induction l with
 |refl=>exact z
 |step _ ih=>exact PT.le1 ih
def su3:Su (tbG xx s) (.con 3) (un 0) h:=⟨rfl,rfl⟩
def Qpf{ρ:Rho}(lr:ρ.length=3):∃h3,ev (tbG xx s) cf (d+3) (.comp (.seq (.con 0)) false none (.con 3)) ρ h=some (.ref h3.length,h3++[.lst [.con 3,.con 3,.con 3,.con 3]])/\Kp h h3:=by
 obtain⟨vs,h3,e3,kp,pp⟩:=YJ (T:=(tbG xx s)) (cf:=cf) (d:=d+2) (ρ:=ρ) (h:=h) (u:=.con 0) (e:=.con 0) (L:=KL) (el:=.con 3) (λx r h=>r=.con 3) (λy y y y k z=>z) Q6 (.inr rfl) (by decide) (λx hx hs kp=>⟨_,_,Q6,Kp.refl _,rfl⟩)
 cases Z4 (g:=λy=>U.con 3) pp;exact⟨h3,e3,kp⟩
def QgA(i:Nat)(S:Sx)(e:Ss[i]?=some S):fX (Ss.take (i+1))=Qck (fX (Ss.take i)) S:=by
 rw[List.take_add_one,e];simp only[fX,Option.toList,List.foldl_append,List.foldl_cons,List.foldl_nil]
noncomputable def Qp8:Iv.S:=.loop (.name 2) (.seq Va) [(.xal (.set 1 (.call 43 [Vb,(.call 41 [Vc])])) (.arg Vb (.call 41 [Vc])))]
noncomputable def Qqj:Iv.S:=.set 1 (.tup [(.con 3),(.con 3),(.comp (.seq (.con 0)) false none (.con 3)),(.comp (.seq (.con 0)) false none (.con 3))])
def I40(xx:Nat->List U->Hs->Option (Er×Hs))(s:List U)(p:Nat)(h:Hs)(Ss:List Sx)(i:Nat)(ρ:Rho)(hs:Hs):Prop:=Kp h hs/\∃u x,ρ=[sR p,some u,x]/\Ct (Su (tbG xx s)) h.length hs u (fX (Ss.take i))/\(0<i->Ct Sr h.length hs u (fX (Ss.take i)))
def i40:∃ρ h1,ex (tbG xx s) cf 99 Qqj [sR p,none,none] h=some (.next,ρ,h1)/\I40 xx s p h Ss 0 ρ h1:=by
 obtain⟨h3,e3,k3⟩:=Qpf (xx:=xx) (s:=s) (cf:=cf) (d:=94) (h:=h) (ρ:=[sR p,none,none]) rfl;obtain⟨h4,e4,k4⟩:=Qpf (xx:=xx) (s:=s) (cf:=cf) (d:=94) (h:=h3++[.lst [.con 3,.con 3,.con 3,.con 3]]) (ρ:=[sR p,none,none]) rfl;have K:Kp h (h4++[.lst [.con 3,.con 3,.con 3,.con 3]]):=(k3.trans kp1).trans (k4.trans kp1);have r4:∀{g:Hs},Paired (λu v=>Su (tbG xx s) u v g) [.con 3,.con 3,.con 3,.con 3] (List.replicate 4 (un 0)):=.cons su3 (.cons su3 (.cons su3 (.cons su3 .nil)))
 refine⟨_,_,JP (Qas Q6 Q6 e3 e4),K.trans kp1,_,_,rfl,⟨_,.con 3,.con 3,_,_,un 0,un 0,List.replicate 4 (un 0),List.replicate 4 (un 0),rfl,Qo,su3,su3,⟨_,kp1 _ _ ((k4.trans kp1) _ _ Qo),k3.len,r4⟩,⟨_,kp1 _ _ Qo,((k3.trans kp1).trans k4).len,r4⟩,rfl,rfl,rfl⟩,λz=>absurd z (by decide)⟩
def Qgw(mono:∀u S g g',Kp g g'->P u S g->P u S g')(H:∀u S g,Kp h g->P u S g->Pc (tbG xx s) (n+3) 41 [u] g λr h1=>Ct Sr g.length h1 r S)(pu:Paired (λu S=>P u S h) us Ss)(hi:us[i]?=some w)(z:I40 xx s p h Ss i ρ hs)(d:Nat):
  ∃ρ2 h2,ex (tbG xx s) (Qa (tbG xx s) (n+3)) (d+5) (.xal (.set 1 (.call 43 [Vb,(.call 41 [Vc])])) (.arg Vb (.call 41 [Vc]))) (ρ.set 2 (some w)) hs=some (.next,ρ2,h2)/\I40 xx s p h Ss (i+1) ρ2 h2:=by
 obtain⟨kp,u,x,rfl,c,_⟩:=z;obtain⟨S,hS,pS⟩:=Y3 pu hi;obtain⟨r1,h1,e1,k1,z1⟩:=H w S hs kp (mono _ _ _ _ kp pS);obtain⟨r2,h2,e2,k2,z2⟩:=QqN (n:=n) (c.kp k1) z1.su;have K:=kp.trans (k1.trans k2);refine⟨_,h2,Ym (JP (QH (e_2 (Qc rfl) (QH (e_1 (Qc rfl)) e1)) e2)),K,_,_,rfl,?_⟩;rw[QgA i S hS];have:=z2.mp (Kp.refl _) (λy y z=>z) (kp.trans k1).len;exact⟨this.su,λy=>this⟩
def Qom(mono:∀u S g g',Kp g g'->P u S g->P u S g')(H:∀u S g,Kp h g->P u S g->Pc (tbG xx s) (n+3) 41 [u] g λr h1=>Ct Sr g.length h1 r S)(hp:h[p]?=some (.lst us))(pu:Paired (λu S=>P u S h) us Ss):
  Pc (tbG xx s) (n+4) 40 [.ref p] h λr h1=>Ct (Su (tbG xx s)) h.length h1 r (fX Ss)/\(us≠[]->Ct Sr h.length h1 r (fX Ss)):=by
 obtain⟨ρ0,h0,e0,z0⟩:=i40 (xx:=xx) (s:=s) (cf:=Qa (tbG xx s) (n+3)) (p:=p) (h:=h) (Ss:=Ss)
 refine Pc.of (Jr (Qf fnL[40] rfl rfl) (J1 (d:=99) (r:=[Qp8,.ret Vb]) e0 (QhY (d:=97) (L:=us) (I40 xx s p h Ss) (by obtain⟨_,_,_,rfl,_⟩:=z0;exact Qc rfl) (λi ρ hs z=>Qq (z.1 _ _ hp)) z0 (λi w hi ρ hs z=>?_) λρ2 h2 z=>?_)))
 ·obtain⟨ρ2,h2,a,b⟩:=Qgw mono H pu hi z 91;exact⟨_,ρ2,h2,rfl,ZF (d:=95) a,b⟩
 ·obtain⟨kp,u,x,rfl,c,c'⟩:=z;rw[Qx pu,List.take_length]at c c'
  exact Zb (Q9 (Qc rfl) ⟨kp,c,λne=>c' (by rw[<-Qx pu];exact List.length_pos_iff.mpr ne)⟩)
def Qn3{p:Nat}{a b:List Nat}{r:List U}(hp:h[p]?=some (.tup (.str a::r)))(d:Nat):evT T cf (d+4) (.cmp .Eq (.ix Va Wa) (.c (.str b))) [sR p] h=some (decide (a=b),h):=Zu (d:=d+2) (Yj (j:=0) hp rfl rfl) y_c eqs
def QlW(z:One s u S g):Pc (tbG xx s) (n+3) 41 [u] g λr h1=>Ct Sr g.length h1 r S:=by
 obtain⟨p,q,o,sp,rfl,hp,hq,tl,as,rfl⟩:=z;refine Pc.of (Jr (Qf fnL[41] rfl rfl) (QeO (d:=98) (Qn3 hp 94) ?_));exact Zb (d:=96) (Qdq (e_1 (Yj (d:=93) (j:=1) hp rfl rfl)) (QqO (tl xx) as hq))
theorem Qmv:∀(d:Nat) {n:Nat} {u:U} {S:Sx} {g:Hs},PT s d u S g->Pc (tbG xx s) (n+2*d+3) 41 [u] g λr h1=>Ct Sr g.length h1 r S
 |0,_,_,_,_,z=>QlW z
 |d+1,n,u,S,g,z=>by
  rcases z with z|⟨Ss,v,⟨p,w,q,us,rfl,hp,sr,sm,hq,ne,ll,pu⟩,nb,rfl⟩
  ·exact QlW (n:=n+2*(d+1)) z
  ·obtain⟨r1,h1,e1,k1,_,z1⟩:=Qom (xx:=xx) (s:=s) (P:=PT s d) (n:=n+2*d) (λy y y y e z=>PT.kp e z) (λu S g y z=>Qmv d z) hq pu;obtain⟨r2,h2,e2,k2,z2⟩:=QqM (n:=n+2*d+1) (z1 ne) (sr.mono k1) (QfF nb) sm;refine Pc.of (Jr (m:=n+2*d+4) (Qf fnL[41] rfl rfl) (QeO (d:=98) (Qn3 hp 94) ?_));exact Ju (QgH (d:=96) (Q9 (QH (e_2 (QH (e_1 (Yj (d:=92) (j:=2) hp rfl rfl)) e1) (Yj (d:=93) (j:=1) (k1 _ _ hp) rfl rfl)) e2) ⟨k1.trans k2,z2.mp (Kp.refl _) (λy y z=>z) k1.len⟩))
end
noncomputable def xP:EX:=.call 37 [Ve,Vb]
section
variable {S A B:Sx}{Ss:List Sx}{v:Sv}{P:U->Sx->Hs->Prop}
def Qhi(hx:xx=QI (tbG x0 s) (m0+2)){a b:Sv}(ha:Sr u a h)(hb:Sr w b h)(za:sz a=true)(zb:sz b=true):Qa (tbG xx s) (n+2) 37 [u,w] h=none/\∃h1,xx 37 [u,w] h=some (er,h1)/\Kp h h1 :=
 ⟨(QoC ha hb za zb).1,by rw[hx];exact(QoC (n:=m0) ha hb za zb).2⟩
def Qjz(hx:xx=QI (tbG x0 s) (m0+2))(c:Ls Sr m h k A)(zb:Sr w v h)(hs:s64 v)(la:A.length=4)(b:bx A v)(ve:∀d,ev (tbG xx s) (Qa (tbG xx s) (n+2)) (d+2) e [some u,some w,x2',x3'] h=some (.ref k,h)):
  ev (tbG xx s) (Qa (tbG xx s) (n+2)) (d+4) (.comp (.seq e) false none elP) [some u,some w,x2',x3'] h=none/\∃h2,evX (tbG xx s) (Qa (tbG xx s) (n+2)) (.comp (.seq e) false elP xP) (D+4) [some u,some w,x2',x3'] h=some (er,h2)/\Kp h h2:=by
 obtain⟨us,hk,_,pa⟩:=c
 have src:∀d,Zs (tbG xx s) (ev (tbG xx s) (Qa (tbG xx s) (n+2)) (d+2)) [some u,some w,x2',x3'] (.seq e) h=some (.seqL (.ref k),h):=λd=>by simp only[Zs,ve d,Qm,wkS,Qq hk];rfl
 obtain⟨b1,mb,zx,zv⟩:=b
 have st:∀x∈us,∀hs,Kp h hs->∀v',Sr x v' h->sz v'=true->(∀d,ev (tbG xx s) (Qa (tbG xx s) (n+2)) (d+2) elP ([some u,some w,x2',x3']++[some x]) hs=none)/\∃h2,evX (tbG xx s) (Qa (tbG xx s) (n+2)) xP (D+4) ([some u,some w,x2',x3']++[some x]) hs=some (er,h2)/\Kp hs h2:=λx mx hs kp v' hv z=>by
  obtain⟨a,h2,a2,k2⟩:=Qhi (n:=n) hx (hv.mono kp) (zb.mono kp) z zv;exact⟨λd=>Qav (e_2 (Qc rfl) (Qc rfl)) a,h2,(Yn fnL[37] rfl rfl (e_2 (Qc rfl) (Qc rfl))).trans a2,k2⟩
 obtain⟨c1,h2,c2,k2⟩:=QjA (T:=(tbG xx s)) (h1:=h) (ρ:=[some u,some w,x2',x3']) (F2:=ev (tbG xx s) (Qa (tbG xx s) (n+2)) (d+3)) (ff:=ev (tbG xx s) (Qa (tbG xx s) (n+2)) (d+3) elP) (f2:=ev (tbG xx s) (Qa (tbG xx s) (n+2)) (D+4) elP) (fx:=evX (tbG xx s) (Qa (tbG xx s) (n+2)) xP (D+4)) (wk:=.seqL (.ref k)) (L:=us) (ft:=evT (tbG xx s) (Qa (tbG xx s) (n+2)) (d+3)) rfl (λi hs kp=>by simp only[itm,QdX kp (Qq hk),Option.map]) (by rw[Qx pa,la];decide) (λx mx hs kp=>by
  obtain⟨v',mv,hv⟩:=Z3 pa mx;by_cases z:sz v'=true
  ·obtain⟨a,b⟩:=st x mx hs kp v' hv z;exact .inr ⟨a (d+1),a (D+2),b⟩
  ·obtain⟨r,g1,e1,k1,_⟩:=Qjs (xx:=xx) (s:=s) (n:=n) (hv.mono kp) (zb.mono kp) (.inl (by simpa using z)) ‹_›
   exact .inl ⟨r,g1,QH (e_2 (Qc rfl) (Qc rfl)) e1,QH (e_2 (Qc rfl) (Qc rfl)) e1,k1⟩) us.length 0 (us.length+1) [] h (Vo _).symm rfl (W4 _) (Kp.refl _) (by
  obtain⟨i,hi⟩:=V3 mb;obtain⟨x,hx',hv⟩:=Qnt pa hi
  exact⟨x,X2 hx',λhs kp=>(st x (X2 hx') hs kp b1 hv zx).1 (d+1)⟩)
 have tn:Q7 (tbG xx s) (.seqL (.ref k)) h=us.length+1:=by simp only[Q7,Qq hk,W5]
 refine⟨?_,h2,?_,k2⟩
 ·rw[QcY,src (d+1),Qm,tn,c1];rfl
 ·show bd (Zs (tbG xx s) (ev (tbG xx s) (Qa (tbG xx s) (n+2)) (D+4)) _ (.seq e) h) _=_;rw[src (D+2),Qm,tn];exact c2
def QcZ{i:Nat}(a:ev T cf d e ρ h=none):ex T cf (d+1) (.set i e) ρ h=none:=by rw[QC,a];rfl
def Qc0(a:ev T cf d e ρ h=none):ex T cf (d+1) (.ret e) ρ h=none:=by rw[Qz,a];rfl
def QlU(hx:xx=QI (tbG x0 s) (m0+2))(za:Ct Sr m h u S)(zb:Sr w v h)(hs:s64 v)(b:bx S v):Zc (tbG xx s) (n+3) 45 [u,w] h:=by
 obtain⟨p,a,a',k,g,s0,s1,A,B,rfl,hp,ra,rb,la,lb,l1,l2,rfl⟩:=za;refine QbJ fnL[45] rfl rfl ?_;by_cases bA:bx A v
 ·obtain⟨a1,a2⟩:=Qjz (xx:=xx) (s:=s) (n:=n) (d:=93) (D:=94) (e:=.ix Va Wc) (u:=.ref p) (x2':=none) (x3':=none) hx la zb hs l1 bA λd=>Yj (j:=2) hp rfl rfl
  exact Yv (d:=99) (Ym (QcZ a1)) (by rw[Qcn];exact a2)
 obtain⟨h1,q1,e1,k1,y1⟩:=QeU (xx:=xx) (s:=s) (n:=n) (d:=93) (e:=.ix Va Wc) (u:=.ref p) (x2':=none) (x3':=none) la zb (QfF bA) hs l1 (Yj (j:=2) hp rfl rfl);refine Jy (d:=99) (Ym (JP e1)) ?_;have lb':Ls Sr m h1 g B:=lb.mp k1 (λy y z=>z.mono k1) (Xi _);by_cases bB:bx B v
 ·obtain⟨a1,h2,a2,k2⟩:=Qjz (xx:=xx) (s:=s) (n:=n) (d:=92) (D:=93) (e:=.ix Va Wd) (u:=.ref p) (x2':=sR q1) (x3':=none) hx lb' (zb.mono k1) hs l2 bB λd=>Yj (j:=3) (k1 _ _ hp) rfl rfl
  exact Yv (d:=98) (Ym (QcZ a1)) ⟨h2,by rw[Qcn];exact a2,k1.trans k2⟩
 obtain⟨h2,q2,e2,k2,y2⟩:=QeU (xx:=xx) (s:=s) (n:=n) (d:=92) (e:=.ix Va Wd) (u:=.ref p) (x2':=sR q1) (x3':=none) lb' (zb.mono k1) (QfF bB) hs l2 (Yj (j:=3) (k1 _ _ hp) rfl rfl);refine Jy (d:=98) (Ym (JP e2)) ?_;have K2:=k1.trans k2;have a0:∀d,evs (ev (tbG xx s) (Qa (tbG xx s) (n+2)) (d+2)) [sR p,some w,sR q1,sR q2] [.ix Va Wa,Vb] h2=some ([a,w],h2):=λd=>e_2 (Yj (j:=0) (K2 _ _ hp) rfl rfl) (Qc rfl);by_cases b0:sz s0=true/\sz v=true
 ·obtain⟨c1,h3,c2,k3⟩:=Qhi (n:=n) hx (ra.mono K2) (zb.mono K2) b0.1 b0.2
  have e3:ev (tbG xx s) (Qa (tbG xx s) (n+2)) 95 eT [sR p,some w,sR q1,sR q2] h2=none:=by
   unfold eT;rw[QB];simp only[evs,Qav (a0 91) c1];rfl
  exact Yv (d:=97) (Ym (Qc0 e3)) ⟨h3,by rw[Qcn];exact Qc3 ((Yn fnL[37] rfl rfl (a0 94)).trans c2),K2.trans k3⟩
 have n0:sz s0=false\/sz v=false:=QfF (S:=[s0]) (λt=>by obtain⟨x,mx,z⟩:=t;cases Wx.mp mx;exact b0 z) s0 Xm
 have b1:sz s1=true/\sz v=true:=by
  obtain⟨x,mx,z⟩:=b
  rcases Xg.mp mx with rfl|mx
  ·exact absurd z b0
  rcases Xg.mp mx with rfl|mx
  ·exact z
  rcases Uq.mp mx with mx|mx
  ·exact absurd ⟨x,mx,z⟩ bA
  ·exact absurd ⟨x,mx,z⟩ bB
 obtain⟨r3,h3,e3,k3,y3⟩:=Qjs (xx:=xx) (s:=s) (n:=n) (ra.mono K2) (zb.mono K2) n0 hs;obtain⟨r3',h3',e3',_,_⟩:=Qjs (xx:=x0) (s:=s) (n:=m0) (ra.mono K2) (zb.mono K2) n0 hs
 have no:xx 37 [a,w] h2=none:=by rw[hx];exact QfE e3'
 have K3:=K2.trans k3;obtain⟨c1,h4,c2,k4⟩:=Qhi (n:=n) hx (rb.mono K3) (zb.mono K3) b1.1 b1.2;have a1:∀d,evs (ev (tbG xx s) (Qa (tbG xx s) (n+2)) (d+2)) [sR p,some w,sR q1,sR q2] [.ix Va Wb,Vb] h3=some ([a',w],h3):=λd=>e_2 (Yj (j:=1) (K3 _ _ hp) rfl rfl) (Qc rfl)
 have e4:ev (tbG xx s) (Qa (tbG xx s) (n+2)) 95 eT [sR p,some w,sR q1,sR q2] h2=none:=by
  unfold eT;rw[QB];simp only[evs,QH (a0 91) e3,Qm,Qav (a1 91) c1];rfl
 exact Yv (d:=97) (Ym (Qc0 e4)) ⟨h4,by rw[Qcn];exact(Qhj ((Yn fnL[37] rfl rfl (a0 94)).trans no)).trans ((Qgp (QH (a0 93) e3)).trans ((Yn fnL[37] rfl rfl (a1 94)).trans c2)),K3.trans k4⟩
def BT(s:List U)(u:U)(h:Hs):Prop:=∃Ss v,Tm (PT s 8) u Ss v h/\bx (fX Ss) v
theorem BT.kp(e:Kp g g')(z:BT s u g):BT s u g':=by obtain⟨Ss,v,a,b⟩:=z;exact⟨Ss,v,a.kp (λy y z=>PT.kp e z) e,b⟩
def QlV(hx:xx=QI (tbG x2 s) (m1+3))(hx2:x2=QI (tbG x1 s) (m0+2))(z:BT s u h):Zc (tbG xx s) (n+21) 41 [u] h:=by
 obtain⟨Ss,v,⟨p,w,q,us,rfl,hp,sr,sm,hq,ne,ll,pu⟩,b⟩:=z;obtain⟨r1,h1,e1,k1,_,z1⟩:=Qom (xx:=xx) (s:=s) (P:=PT s 8) (n:=n+16) (λy y y y e z=>PT.kp e z) (λu S g y z=>Qmv 8 z) hq pu;obtain⟨c1,_⟩:=QlU (n:=n+17) hx (z1 ne) (sr.mono k1) sm b;obtain⟨_,h2,c2,k2⟩:=QlU (xx:=x2) (n:=m1) hx2 (z1 ne) (sr.mono k1) sm b;have a0:∀d,evs (ev (tbG xx s) (Qa (tbG xx s) (n+20)) (d+3)) [sR p] [.call 40 [.ix Va Wc],.ix Va Wb] h=some ([r1,w],h1):=λd=>e_2 (QH (e_1 (Yj (j:=2) hp rfl rfl)) e1) (Yj (j:=1) (k1 _ _ hp) rfl rfl)
 refine QbJ fnL[41] rfl rfl (Jy (d:=99) (JQ (d:=97) ((Qn3 hp 94).trans (by rw[X6 (by decide)]))) (Yv (d:=98) (Ym (Qc0 (Qav (a0 92) c1))) ⟨h2,?_,k1.trans k2⟩))
 rw[Qcn]
 exact Qc3 ((Yn fnL[45] rfl rfl (a0 94)).trans (by rw[show(tbG xx s).xf=xx from rfl,hx];exact c2))
end
section
variable {m2:Nat}{ub:U}{S:Sx}{Ss:List Sx}{P:U->Sx->Hs->Prop}
theorem Qlc{wk:Wk}{t:Tg}{body:Ex}{bx:Rho->Hs->Option (Er×Hs)}(I:Nat->Rho->Hs->Prop){n:Nat}
  (st:∀i,i<n->∀ρ hs,I i ρ hs->∃x ρ' ρ2 h2,itm T wk i hs=some (some x)/\tgt t x ρ hs=some ρ'/\body ρ' hs=some (.next,ρ2,h2)/\I (i+1) ρ2 h2)
  (en:∀ρ hs,I n ρ hs->∃x ρ',itm T wk n hs=some (some x)/\tgt t x ρ hs=some ρ'/\body ρ' hs=none/\∃h2,bx ρ' hs=some (er,h2)/\Kp g h2):
  ∀(m i k:Nat) (ρ:Rho) (hs:Hs),n=i+m->m<k->I i ρ hs->Je T wk t body k i ρ hs=none/\∃h2,Qea T wk t body bx k i ρ hs=some (er,h2)/\Kp g h2
 |m,i,0,ρ,hs,e,l,h=>by lia
 |0,i,k+1,ρ,hs,e,l,h=>by
  have e':n=i:=by lia
  subst e';obtain⟨x,ρ',a,b,c,h2,d,e⟩:=en ρ hs h
  exact⟨by simp only[Je,a,b,c],h2,by simp only[Qea,a,b,c,d],e⟩
 |m+1,i,k+1,ρ,hs,e,l,h=>by
  obtain⟨x,ρ',ρ1,h1,a,b,c,d⟩:=st i (by lia) ρ hs h
  obtain⟨g1,g2⟩:=Qlc I st en m (i+1) k ρ1 h1 (by lia) (by lia) d
  exact⟨by simp only[Je,a,b,c,g1],by simp only[Qea,a,b,c];exact g2⟩
def QlX(hx:xx=QI (tbG x2 s) (m2+21))(hx2:x2=QI (tbG x1 s) (m1+3))(hx1:x1=QI (tbG x0 s) (m0+2))(hp:h[p]?=some (.lst (us++[ub])))(pu:Paired (λu S=>PT s 8 u S h) us Ss)(zb:BT s ub h):Zc (tbG xx s) (n+22) 40 [.ref p] h:=by
 obtain⟨ρ0,h0,e0,z0⟩:=i40 (xx:=xx) (s:=s) (cf:=Qa (tbG xx s) (n+21)) (p:=p) (h:=h) (Ss:=Ss);have lu:=Qx pu
 have it:∀(i:Nat) hs,Kp h hs->itm (tbG xx s) (.seqL (.ref p)) i hs=some (((us++[ub])[i]?).map .one):=λi hs k=>by simp only[itm,Qq (k _ _ hp),Option.map]
 have key:∀D,Je (tbG xx s) (.seqL (.ref p)) (.name 2) (exs (tbG xx s) (Qa (tbG xx s) (n+21)) (D+7) [(.xal (.set 1 (.call 43 [Vb,(.call 41 [Vc])])) (.arg Vb (.call 41 [Vc])))]) (us.length+2) 0 ρ0 h0=none/\∃h2,Qea (tbG xx s) (.seqL (.ref p)) (.name 2) (exs (tbG xx s) (Qa (tbG xx s) (n+21)) (D+7) [(.xal (.set 1 (.call 43 [Vb,(.call 41 [Vc])])) (.arg Vb (.call 41 [Vc])))]) (exsX (tbG xx s) (Qa (tbG xx s) (n+21)) (D+7) [(.xal (.set 1 (.call 43 [Vb,(.call 41 [Vc])])) (.arg Vb (.call 41 [Vc])))]) (us.length+2) 0 ρ0 h0=some (er,h2)/\Kp h h2:=λD=>by
  refine Qlc (I40 xx s p h Ss) (n:=us.length) (λi hi ρ hs z=>?_) (λρ hs z=>?_) us.length 0 _ ρ0 h0 (Vo _).symm (by lia) z0
  ·obtain⟨ρ2,h2,a,b⟩:=Qgw (n:=n+18) (P:=PT s 8) (λy y y y e z=>PT.kp e z) (λu S g y z=>Qmv (n:=n+2) 8 z) pu (Xp hi) z D
   exact⟨_,_,ρ2,h2,by rw[it i hs z.1,X4 hi,Xp hi];rfl,rfl,ZF (d:=D+4) (by exact a),b⟩
  ·obtain⟨kp,u,x,rfl,c,_⟩:=z;obtain⟨c1,_⟩:=QlV (n:=n) hx hx2 (zb.kp kp);obtain⟨_,h2,c2,k2⟩:=QlV (xx:=x2) (n:=m2) hx2 hx1 (zb.kp kp)
   refine⟨_,_,by rw[it _ hs kp,Wi (Xi _),Uw];rfl,rfl,Yv (g:=h) (d:=D+6) (Ym (QcZ ?_)) ⟨h2,?_,kp.trans k2⟩⟩
   ·have c3:ev (tbG xx s) (Qa (tbG xx s) (n+21)) (D+3) (.call 41 [Vc]) ([sR p,some u,x].set 2 (some ub)) hs=none:=Qav (d:=D+2) (e_1 (Qc rfl)) c1;have v1:ev (tbG xx s) (Qa (tbG xx s) (n+21)) (D+3) Vb ([sR p,some u,x].set 2 (some ub)) hs=some (u,hs):=Qc rfl;rw[QA];simp only[evs,v1,Qm,c3];rfl
   ·rw[Qcn]
    exact(Qgp (Qc rfl)).trans ((Yn fnL[41] rfl rfl (e_1 (Qc rfl))).trans (by rw[show(tbG xx s).xf=xx from rfl,hx];exact c2))
 have src:∀d,Zs (tbG xx s) (ev (tbG xx s) (Qa (tbG xx s) (n+21)) (d+1)) ρ0 (.seq Va) h0=some (.seqL (.ref p),h0):=λd=>by
  obtain⟨kp,_,_,rfl,_⟩:=z0;simp only[Zs,Qc (show([sR p,some _,_]:Rho)[0]?=some (sR p)from rfl),Qm,wkS,Qq (kp _ _ hp)];rfl
 have tn:Q7 (tbG xx s) (.seqL (.ref p)) h0=us.length+2:=by simp only[Q7,Qq (z0.1 _ _ hp),W5,Wn];rfl
 refine QbJ fnL[40] rfl rfl (Jy (d:=99) e0 (Yv (d:=98) (Qc1 (d:=97) (src 96) (by rw[tn];exact(key 90).1)) ?_))
 obtain⟨_,h2,c2,k2⟩:=key 90;refine⟨h2,?_,k2⟩;show bd (Zs (tbG xx s) (ev (tbG xx s) (Qa (tbG xx s) (n+21)) 97) ρ0 (.seq Va) h0) _=_;rw[src 96,Qm,tn];exact c2
end
section
variable {m2 m3:Nat}{ub:U}{Ss:List Sx}{z0:Nat->List U->Hs->Option (Er×Hs)}
def Qo4{g:Hs}(hg:g[p]?=some (.err 12 .non)):JH (tbG xx s) (.cls 15) (.ref p) g=some false/\JH (tbG xx s) (.cls 16) (.ref p) g=some false/\JH (tbG xx s) (.cls 13) (.ref p) g=some false/\JH (tbG xx s) (.cls 11) (.ref p) g=some false/\JH (tbG xx s) (.cls 14) (.ref p) g=some false/\JH (tbG xx s) (.cls 12) (.ref p) g=some true/\JH (tbG xx s) .vale (.ref p) g=some true:=by
 unfold JH Qbq Qbp;simp only[hg];exact⟨rfl,rfl,rfl,rfl,rfl,rfl,rfl⟩
def QqA(hp:h[p]?=some (.err 12 .non)):Qa (tbG xx s) (n+1) 61 [.ref p] h=some (.bl true,h++[.lst [.bl false,.bl false,.bl false,.bl false]]):=by
 obtain⟨i1,i2,i3,i4,_⟩:=Qo4 (xx:=xx) (s:=s) hp;have hq:(h++[O.lst [.bl false,.bl false,.bl false,.bl false]])[p]?=some (.err 12 .non):=kp1 _ _ hp;obtain⟨_,_,_,_,i5,i6,i7⟩:=Qo4 (xx:=xx) (s:=s) hq;have fl:((12,6):Nat×Nat)∈(tbG xx s).efl:=Xm;have inn:inU (.bl true) [.bl false,.bl false,.bl false,.bl false]=some false:=rfl;rw[Qf fnL[61] rfl rfl];show fin (exs (tbG xx s) (Qa (tbG xx s) n) 100 b61 [sR p,none] h)=_;generalize Qa (tbG xx s) n=cf;generalize (tbG xx s)=T at i1 i2 i3 i4 i5 i6 i7 fl ⊢;simp[b61,Qm,QK,Qj,Qt,QC,Qz,QD,y_c,Q6,QG,ZG,QU,QL,Zt,Zg,QB,y_lst,YU,QA,YB,Zn,Yl,Zp,Jq,QM,QJ,Zq,Qu,QS,QT,evs,eq_int,ZO,Zj,opU,Yk,biU,biL,fin,Zn,i1,i2,i3,i4,i5,i6,i7,Qjy,fl,hq,Zi,Yo,inn,isU]
def Qpg(hx:xx=QI (tbG x2 s) (m3+22))(hx2:x2=QI (tbG x1 s) (m2+21))(hx1:x1=QI (tbG x0 s) (m1+3))(hx0:x0=QI (tbG z0 s) (m0+2))(hp:h[p]?=some (.lst (us++[ub])))(pu:Paired (λu S=>PT s 8 u S h) us Ss)(zb:BT s ub h):Pc (tbG xx s) (n+23) 62 [.ref p] h λu z=>u=.bl true:=by
 obtain⟨c1,_⟩:=QlX (n:=n) hx hx2 hx1 hp pu zb;obtain⟨_,h2,c2,k2⟩:=QlX (xx:=x2) (n:=m3) hx2 hx1 hx0 hp pu zb
 have hx':(tbG xx s).xf 40 [.ref p] h=some (er,h2):=by rw[show(tbG xx s).xf=xx from rfl,hx];exact c2
 have e3:Qa (tbG xx s) (n+22) 61 [.ref h2.length] (h2++[.err 12 .non])=_:=QqA Qo
 have t1:ex (tbG xx s) (Qa (tbG xx s) (n+22)) 98 (.tryS (some 2) 40 [Va] 10 [(.set 1 (.call 61 [Vc]))]) [sR p,sF,none] h=some (.next,[sR p,some (.bl true),none],h2++[.err 12 .non]++[.lst [.bl false,.bl false,.bl false,.bl false]]):=by
  have b1:exs (tbG xx s) (Qa (tbG xx s) (n+22)) 97 [(.set 1 (.call 61 [Vc]))] [sR p,sF,sR h2.length] (h2++[.err 12 .non])=some (.next,[sR p,some (.bl true),sR h2.length],h2++[.err 12 .non]++[.lst [.bl false,.bl false,.bl false,.bl false]]):=ZF (d:=95) (JP (QH (d:=94) (e_1 (Qc rfl)) e3));have a1:evs (ev (tbG xx s) (Qa (tbG xx s) (n+22)) 97) [sR p,sF,none] [Va] h=some ([.ref p],h):=e_1 (Qc rfl);rw[ex,a1,Qm];simp only[c1,hx'];rw[if_pos ⟨rfl,rfl,rfl⟩]
  show(match exs (tbG xx s) (Qa (tbG xx s) (n+22)) 97 [(.set 1 (.call 61 [Vc]))] [sR p,sF,sR h2.length] (h2++[.err 12 .non])with|some (.next,ρ2,h3)=>some (Fl.next,QlE (some 2) ρ2,h3)|_=>none)=_
  rw[b1];rfl
 exact Pc.of (Jr (Qf fnL[62] rfl rfl) (Za (d:=98) (Q9 y_c (J1 (d:=98) t1 (Zb (d:=96) (Q9 (Qc rfl) ⟨(k2.trans kp1).trans kp1,rfl⟩))))))
end
def Ll(u:U)(v:Sv)(h:Hs):Prop:=∃p,u=.ref p/\h[p]?=some (.lst (v.map iU))/\v.length=5
def LS(h:Hs)(q:Nat)(S:Sx):Prop:=S.length=10/\∃ws,h[q]?=some (.lst ws)/\Paired (λu v=>Ll u v h) ws S
section
variable {S:Sx}{v:Sv}
def Ll.kp(e:Kp g g')(z:Ll u v g):Ll u v g':=by obtain⟨p,a,b⟩:=z;exact⟨p,a,e _ _ b.1,b.2⟩
theorem LS.kp(e:Kp g g')(z:LS g q S):LS g' q S:=by obtain⟨l,ws,a,b⟩:=z;exact⟨l,ws,e _ _ a,Qi (λy y z=>z.kp e) b⟩
def Qgx(e:ZH T u h=some xs):JH T .tuple u h=some true/\biU T .len [u] h=some (.int xs.length 0,h):=by
 cases u with
 |ref n=>
  simp only[ZH]at e
  cases q:h[n]? with
  |none=>rw[q]at e;cases e
  |some o=>
   rw[q]at e
   cases o<;>first|(cases e;unfold JH Qbq Qbp biU;simp only[q,Yo];exact⟨rfl,trivial⟩)|cases e
 |con n=>
  simp only[ZH]at e
  cases q:T.cons[n]? with
  |none=>rw[q]at e;cases e
  |some o=>
   rw[q]at e
   cases o<;>first|(cases e;unfold JH Qbq biU;simp only[q,Yo];exact⟨rfl,trivial⟩)|cases e
 |_=>cases e
def Qla(e:h[p]?=some (.lst xs)):JH T .list (.ref p) h=some true:=by
 unfold JH Qbq Qbp;simp only[e];rfl
def Qcq{a b:E}{c:Bool}(x:evT T cf d a ρ h=some (false,h1))(y:evT T cf d b ρ h1=some (c,h2)):evT T cf (d+1) (.or a b) ρ h=some (c,h2):=QpB x (by rw[if_neg Xn];exact y)
def QmP{t:Ty}{b:Bool}(a:ev T cf d e ρ h=some (u,h1))(z:JH T t u h1=some b):ev T cf (d+1) (.isi e t) ρ h=some (.bl b,h1):=by rw[Zn,a,Qm,z];rfl
def Qde{t:Ty}{b:Bool}(a:ev T cf d e ρ h=some (u,h1))(z:JH T t u h1=some b):evT T cf (d+2) (.isi e t) ρ h=some (b,h1):=Qf7 rfl (QmP a z)
def Qmf{a b:E}(ea:ev T cf d a ρ h=some (.int x 0,h1))(eb:ev T cf d b ρ h1=some (.int y 0,h2)):evT T cf (d+2) (.cmp .NotEq a b) ρ h=some (!decide (x=y),h2):=Zu ea eb rfl
def Qkv{a b:E}{i:Nat}{body:List Iv.S}(I:Nat->Rho->Hs->Prop)(va:ev T cf d a ρ h=some (u,h1))(vb:ev T cf d b ρ h1=some (w,h2))(sa:Sq T u h2 xs)(sb:Sq T w h2 ys)(hk:∀i ρ hs,I i ρ hs->Kp h2 hs)(h0:I 0 ρ h2)
  (st:∀k x y,xs[k]?=some x->ys[k]?=some y->∀ρ hs,I k ρ hs->∃ρ2 h2,exs T cf d body ((ρ.set i (some x)).set j (some y)) hs=some (.next,ρ2,h2)/\I (k+1) ρ2 h2) (k:∀ρ2 h2,I (xs.zip ys).length ρ2 h2->Xx T cf (d+1) r ρ2 h2 Q):Xx T cf (d+2) (.loop (.pair i j) (.zip a b) body::r) ρ h Q:=by
 have z:=Qfb sa;have z':=Qfb sb
 refine Qdr (w:=.zipB (Q4 T u h2).isSome (Q4 T w h2).isSome u w) (L:=xs.zip ys) (im:=λp:U×U=>Im.two p.1 p.2) I (by simp only[Zs,va,vb,Qm,wkZ,z.1,z'.1,Option.isSome_some,U6,Wg];rfl) (by simp only[Q7,z.1,W5,Uu];lia) (λi ρ hs zI=>by simp only[itm,z.2 hs (hk _ _ _ zI),z'.2 hs (hk _ _ _ zI),Qgv]) h0 (λk a ha ρ hs zI=>?_) k
 obtain⟨e1,e2⟩:=List.getElem?_zip_eq_some.mp ha;obtain⟨ρ2,h2,b,c⟩:=st k a.1 a.2 e1 e2 ρ hs zI;exact⟨_,ρ2,h2,rfl,b,c⟩
def QqB(hu:Su (tbG xx s) u v h)(hw:Ll w v h):Qa (tbG xx s) (n+1) 59 [u,w] h=some (.bl true,h):=by
 suffices z:Cc (tbG xx s) (n+1) 59 [u,w] h λr h1=>r=.bl true/\h1=h by
  obtain⟨_,_,e,rfl,rfl⟩:=z;exact e
 obtain⟨p,rfl,hp,_⟩:=hw;obtain⟨t1,t2⟩:=Qgx hu.1
 refine Jr (Qf fnL[59] rfl rfl) (J1 (d:=99) (JR (d:=97) (Qcq (d:=97) (YC (c:=true) (Qde (d:=94) (Qc rfl) t1)) (Qmf (d:=95) (Qgt (Qc rfl) t2) y_c)) (by rw[Xq,hu.2];rfl)) (Qkv (d:=97) (λt ρ hs=>hs=h/\∃a b,ρ=[some u,sR p,a,b]) (Qc rfl) (Qc rfl) (.inr hu.1) (.inl (Qq hp)) (λt t t z=>by rw[z.1];exact Kp.refl _) ⟨rfl,_,_,rfl⟩ (λk x y hx hy ρ hs z=>?_) λρ2 h2 z=>?_))
 ·obtain⟨rfl,_,_,rfl⟩:=z;rw[hx]at hy;cases hy;obtain⟨j,_,rfl⟩:=Y7 (X2 hx)
  exact⟨_,_,ZF (d:=95) (JR (d:=94) (Qcq (d:=94) (YC (c:=true) (Qde (d:=91) (Qc rfl) rfl)) (Qcq (d:=93) (Qde (d:=91) (Qc rfl) rfl) (Qmf (d:=91) (Qc rfl) (Qc rfl)))) (by rw[Wv rfl];rfl)),rfl,_,_,rfl⟩
 ·obtain⟨rfl,_,_,rfl⟩:=z;exact Zb (Q9 y_c ⟨rfl,rfl⟩)
def Qnn{t:Tg}{body:List Iv.S}(I:Nat->Rho->Hs->Prop)(v:ev T cf d e ρ h=some (u,h1))(hl:∀i ρ hs,I i ρ hs->ZH T u hs=some L)(h0:I 0 ρ h1)
  (st:∀i x,L[i]?=some x->∀ρ hs,I i ρ hs->∃ρ' ρ2 h2,tgt t (.one x) ρ hs=some ρ'/\exs T cf d body ρ' hs=some (.next,ρ2,h2)/\I (i+1) ρ2 h2) (k:∀ρ2 h2,I L.length ρ2 h2->Xx T cf (d+1) r ρ2 h2 Q):Xx T cf (d+2) (.loop t (.seq e) body::r) ρ h Q:=by
 have s:=hl _ _ _ h0
 exact Qdr (w:=.seqT u) (im:=Im.one) I (by simp only[Zs,v,Qm,wkS,s,YV s];rfl) (by simp only[Q7,s,W5];lia) (λi ρ hs z=>by simp only[itm,hl _ _ _ z,Option.map]) h0 st k
def QjG{a b:E}{u v:U}(ea:ev T cf d a ρ h=some (u,h1))(eb:ev T cf d b ρ h1=some (v,h2)):ev T cf (d+1) (.lst [a,b]) ρ h=some (.ref h2.length,h2++[.lst [u,v]]):=by rw[y_lst];simp only[evs,ea,eb,Qm]
def Qph(z:Ct (Su (tbG xx s)) m h u S)(zw:LS h q S):Pc (tbG xx s) (n+2) 60 [u,.ref q] h λr w=>r=.bl true:=by
 obtain⟨p,a,b,k,f,s0,s1,A,B,rfl,hp,ra,rb,⟨ks,hk,_,pk⟩,⟨fs,hf,_,pf⟩,l1,l2,rfl⟩:=z;obtain⟨_,ws,hq,pw⟩:=zw;obtain⟨t1,t2⟩:=Qgx (T:=(tbG xx s)) (QW hp)
 have lk:ks.length=4:=by rw[Qx pk,l1]
 have lf:fs.length=4:=by rw[Qx pf,l2]
 have k0:Kp h (h++[.tup [iU 2,iU 3]]):=kp1
 refine Pc.of (Jr (Qf fnL[60] rfl rfl) (J1 (d:=99) (JR (d:=97) (Qcq (d:=97) (YC (c:=true) (Qde (d:=94) (Qc rfl) t1)) (Qmf (d:=95) (Qgt (Qc rfl) t2) y_c)) rfl) (Qnn (d:=97) (λw ρ hs=>hs=h++[.tup [iU 2,iU 3]]/\∃a b c,ρ=[sR p,sR q,a,b,c]) (QbM y_c y_c) (λw w w z=>by rw[z.1];exact QW Qo) ⟨rfl,_,_,_,rfl⟩ (λi x hi ρ hs z=>?_) λρ2 h2 z=>?_)))
 ·obtain⟨rfl,x2,x3,x4,rfl⟩:=z
  obtain⟨j,kj,us,rfl,ej,ek,el⟩:∃(j kj:Nat) (us:List U),x=iU j/\[a,b,.ref k,.ref f][j]?=some (U.ref kj)/\h[kj]?=some (.lst us)/\us.length=4:=by
   match i,hi with
   |0,hi=>cases hi;exact⟨2,k,ks,rfl,rfl,hk,lk⟩
   |1,hi=>cases hi;exact⟨3,f,fs,rfl,rfl,hf,lf⟩
  have vi:∀d,ev (tbG xx s) (Qa (tbG xx s) (n+1)) (d+2) (.ix Va Vc) [sR p,sR q,some (iU j),x3,x4] (h++[.tup [iU 2,iU 3]])=some (.ref kj,h++[.tup [iU 2,iU 3]]):=λd=>QbO (Qc rfl) (Qc rfl) (Qcr (k0 _ _ hp) ej)
  exact⟨_,_,_,rfl,ZF (d:=95) (JR (d:=94) (Qcq (d:=94) (YC (c:=true) (Qde (d:=91) (vi 89) (Qla (k0 _ _ ek)))) (Qmf (d:=92) (Qgt (d:=91) (vi 89) (Qlf (k0 _ _ ek))) y_c)) (by rw[el];rfl)),rfl,_,_,_,rfl⟩
 ·obtain⟨rfl,x2,x3,x4,rfl⟩:=z;have k1:=k0.trans (kp1 (o:=.lst [a,b]));have k2:=k1.trans (kp1 (o:=.lst ([a,b]++ks)));have k3:=k2.trans (kp1 (o:=.lst ([a,b]++ks++fs)))
  have e1:=ZA (TT:=(tbG xx s)) (cf:=Qa (tbG xx s) (n+1)) (d:=95) (o:=.Add) (ZA (d:=94) (o:=.Add) (QjG (d:=93) (Yj (d:=91) (ρ:=[sR p,sR q,x2,x3,x4]) (i:=0) (j:=0) (k0 _ _ hp) rfl rfl) (Yj (i:=0) (j:=1) (k0 _ _ hp) rfl rfl)) (Yj (d:=92) (i:=0) (j:=2) (k1 _ _ hp) rfl rfl) (show opU _ _ _ _=_ from QcQ Qo (k1 _ _ hk) (by simp only[Wm,W2,lk];decide))) (Yj (d:=93) (i:=0) (j:=3) (k2 _ _ hp) rfl rfl) (show opU _ _ _ _=_ from QcQ Qo (k2 _ _ hf) (by simp only[Wn,Wm,W2,lk,lf];decide))
  have pA:Paired (λu v=>Su (tbG xx s) u v h) ([a,b]++ks++fs) (s0::s1::(A++B)):=.cons ra (.cons rb (Y2 pk pf))
  refine Qkv (d:=96) (λw ρ hs=>hs=_/\∃a b c,ρ=[sR p,sR q,a,b,c]) e1 (Qc rfl) (.inl (Qq Qo)) (.inl (Qq (k3 _ _ hq))) (λw w w z=>by rw[z.1];exact Kp.refl _) ⟨rfl,_,_,_,rfl⟩ (λi x y hx hy ρ hs z=>?_) λρ2 h2 z=>?_
  ·obtain⟨rfl,y2,y3,y4,rfl⟩:=z;obtain⟨v,hv,sx⟩:=Y3 pA hx;obtain⟨v',hv',sy⟩:=Y3 pw hy;rw[hv]at hv';cases hv';exact⟨_,_,ZF (d:=94) (JR (d:=93) (YC (d:=93) (c:=true) (Qf7 (d:=92) rfl (QH (d:=91) (e_2 (Qc rfl) (Qc rfl)) (QqB (n:=n) (sx.mono k3) (sy.kp k3))))) rfl),rfl,_,_,_,rfl⟩
  ·obtain⟨rfl,_,_,_,rfl⟩:=z;exact Zb (Q9 y_c ⟨k3,rfl⟩)
end
section
variable {S:Sx}{v:Sv}{c:List Int}
def D5(h:Hs)(p:Nat)(c:List Int)(hs:Hs):Prop:=Kp h hs/\h.length<=p/\hs[p]?=some (.lst (c.map iU))
def D5.kp(z:D5 h p c hs)(e:Kp hs hs1):D5 h p c hs1:=⟨z.1.trans e,z.2.1,e _ _ z.2.2⟩
theorem D5.set{c':List Int}(z:D5 h p c hs):D5 h p c' (hs.set p (.lst (c'.map iU))):=⟨z.1.put z.2.1,z.2.1,by rw[X9 (Xh.mp z.2.2).1]⟩
def Qnq(z:D5 h p c hs)(l:j<c.length):Qh1 (.ref p) (iU j) (iU x) hs=some (hs.set p (.lst ((c.set j x).map iU))):=by
 have e:ixU (c.map iU).length (j:Int)=some j:=by
  rw[Xq];unfold ixU;rw[if_pos (by lia),if_pos (by lia)];rfl
 simp only[Qh1,z.2.2,e,Option.map,List.map_set]
def Qhh(z:D5 h p c hs)(hp:ρ[1]?=some (sR p))(l:j<c.length)(vi:∀d g,ev T cf (d+4) ei ρ g=some (iU j,g))(ve:∀d,ev T cf (d+4) e ρ hs=some (iU x,hs)):ex T cf (d+5) (.put Vb ei e) ρ hs=some (.next,ρ,hs.set p (.lst ((c.set j x).map iU))):=by
 rw[Qjw,ve,Qm,Qc hp,Qm,vi,Qm,Qnq z l];rfl
def D5.no(z:D5 h p c hs){b:Bool}(e:evT T cf (d+1) t ρ hs=some (b,hs1))(k:Kp hs hs1)(hb:b=false)(q:∀hs1,D5 h p c hs1->Xx T cf (d+2) r ρ hs1 Q){a:List Iv.S}:Xx T cf (d+3) (.ite t a []::r) ρ hs Q:=J1 (JR e hb) (q _ (z.kp k))
def D5.one(z:D5 h p c hs){b:Bool}(e:evT T cf (d+6) t ρ hs=some (b,hs1))(k:Kp hs hs1)(hb:b=true)(hp:ρ[1]?=some (sR p))(l:j<c.length)(vi:∀d g,ev T cf (d+4) ei ρ g=some (iU j,g)){e1:E}(ve:∀d g,ev T cf (d+4) e1 ρ g=some (iU x,g))(q:∀hs1,D5 h p (c.set j x) hs1->Xx T cf (d+7) r ρ hs1 Q):Xx T cf (d+8) (.ite t [.put Vb ei e1] []::r) ρ hs Q:=by
 have z1:=z.kp k;refine J1 (d:=d+7) ?_ (q _ z1.set);rw[QD,e,Qm,if_pos hb];exact ZF (d:=d+4) (Qhh z1 hp l vi λd=>ve d _)
def D5.two(z:D5 h p c hs){b:Bool}(e:evT T cf (d+7) t ρ hs=some (b,hs1))(k:Kp hs hs1)(hb:b=true)(hp:ρ[1]?=some (sR p))(l:j<c.length)(vi:∀d g,ev T cf (d+4) ei ρ g=some (iU j,g)){e1:E}(ve:∀d g,ev T cf (d+4) e1 ρ g=some (iU x,g)){i:Nat}{ei' e1':E}(l':i<c.length)(vi':∀d g,ev T cf (d+4) ei' ρ g=some (iU i,g))(ve':∀d g,D5 h p (c.set j x) g->ev T cf (d+4) e1' ρ g=some (iU y,g))(q:∀hs1,D5 h p ((c.set j x).set i y) hs1->Xx T cf (d+8) r ρ hs1 Q):Xx T cf (d+9) (.ite t [.put Vb ei e1,.put Vb ei' e1'] []::r) ρ hs Q:=by
 have z1:=z.kp k;have z2:D5 h p (c.set j x) _:=z1.set;refine J1 (d:=d+8) ?_ (q _ z2.set);rw[QD,e,Qm,if_pos hb,Qgo (d:=d+6) (Qhh z1 hp l vi λd=>ve d _)]
 exact ZF (d:=d+4) (Qhh z2 hp (by rw[List.length_set];exact l') vi' λd=>ve' d _ z2)
def ch(l:mk.length<=4)(e:mk[j]?=some a):Zj T (.str mk) (iU j) h=some (.str [a]):=by
 have:atU mk (j:Int)=some a:=Qoq e
 simp only[Zj,this,if_pos (show mk.length<=1000000 from X7 l (by decide)),Option.map]
def Qho(l:mk.length<=4)(hi:ρ[0]?=some (sS mk))(e:mk[j]?=some a):ev T cf (d+2) (.ix Va (.c (.int (j:Int) 0))) ρ h=some (.str [a],h):=Qat (Qc hi) (ch l e)
def QeL{b:Nat}(l:mk.length<=4)(hi:ρ[0]?=some (sS mk))(e:mk[j]?=some a):evT T cf (d+4) (.cmp .Eq (.ix Va (.c (.int (j:Int) 0))) (.c (.str [b]))) ρ h=some (decide ([a]=[b]),h):=Zu (Qho (d:=d) l hi e) y_c eqs
def QcR{a b c e:List Nat}(hi:ρ[0]?=some (sS mk)):evT T cf (d+4) (.cmp .In Va (.tup [.c (.str a),.c (.str b),.c (.str c),.c (.str e)])) ρ h=some (decide (a=mk)||(decide (b=mk)||(decide (c=mk)||(decide (e=mk)||false))),h++[.tup [.str a,.str b,.str c,.str e]]):=by
 refine Zu (d:=d+2) (Qc hi) (Qas y_c y_c y_c y_c) ?_;simp only[Zi,Yo,Qo];rfl
def ZY(l:mk.length<=4)(hi:ρ[0]?=some (sS mk)){x:Int}:evT T cf (d+4) (.cmp .Eq (.bi .len [Va]) (.c (.int x 0))) ρ h=some (decide ((mk.length:Int)=x),h):=QoK (d:=d+2) (Qgt (Qc hi) (by unfold biU;simp only[if_pos (show mk.length<=1000000 from X7 l (by decide))])) y_c
def QjZ{b:Nat}(l:mk.length<=4)(hi:ρ[0]?=some (sS mk))(e:mk[j]?=some a):evT T cf (d+4) (.cmp .NotEq (.ix Va (.c (.int (j:Int) 0))) (.c (.str [b]))) ρ h=some (!decide ([a]=[b]),h):=Zu (Qho (d:=d) l hi e) y_c rfl
def Qe7{a b:E}{c:Bool}{r:Option (Bool×Hs)}(x:evT T cf d a ρ h=some (c,h1))(hc:c=true)(y:evT T cf d b ρ h1=r):evT T cf (d+1) (.and a b) ρ h=r:=by rw[QJ,x,Qm,if_pos hc];exact y
def QeM{a b:E}{c:Bool}(x:evT T cf d a ρ h=some (c,h1))(hc:c=false):evT T cf (d+1) (.and a b) ρ h=some (false,h1):=by rw[QJ,x,Qm,hc,if_neg Xn]
noncomputable def z10:List Int:=List.replicate 10 0
def R5(m:List Nat)(h:Hs)(u:U)(h1:Hs):Prop:=Kp h h1/\∃c:List Int,(∃p,u=.ref p/\h1[p]?=some (.lst (c.map iU)))/\c.map un=spS (spm m)
theorem D5.ret(z:D5 h p c hs)(hp:ρ[1]?=some (sR p)){m:List Nat}(e:c.map un=spS (spm m)):Xx T cf (d+3) [.ret Vb] ρ hs (Fq (R5 m h)):=Zb (Q9 (Qc hp) ⟨z.1,c,⟨p,rfl,z.2.2⟩,e⟩)
def QnA{m:List Nat}(k:∀p g,D5 h p z10 g->Xx (tbG xx s) (Qa (tbG xx s) n) 99 (b53.drop 1) [sS m,sR p] g (Fq (R5 m h))):Cc (tbG xx s) (n+1) 53 [.str m] h (R5 m h):=
 Jr (Qf fnL[53] rfl rfl) (Za (d:=98) (Q9 (ZA (d:=97) (y_lst.trans (by simp only[evs,y_c,Qm])) y_c (show opU .Mult (.ref h.length) (.int 10 0) (h++[.lst [.int 0 0]])=some (.ref (h++[O.lst [.int 0 0]]).length,h++[.lst [.int 0 0]]++[.lst (z10.map iU)])from by
  show Qmm _ _ _=_;unfold Qmm;simp only[Qo]
  rfl)) (k _ _ ⟨kp1.trans kp1,kp1.len,Qo⟩)))
def Qoj(ha:a∈[107,112,115,111,98]):Cc (tbG xx s) (n+1) 53 [.str [a]] h (R5 [a] h):=by
 refine QnA λp g z=>?_
 have l1:[a].length<=4:=by simp
 have rest:∀(c:List Int) (g:Hs),D5 h p c g->a≠104->a≠102->c.map un=spS (spm [a])->Xx (tbG xx s) (Qa (tbG xx s) n) 97 (b53.drop 3) [some (.str [a]),sR p] g (Fq (R5 [a] h)):=λc g z n1 n2 ec=>
  z.no (d:=94) (QeL (d:=91) (j:=0) l1 rfl rfl) (Kp.refl _) (by simpa using n1) λg z=>z.no (d:=93) (QeL (d:=90) (j:=0) l1 rfl rfl) (Kp.refl _) (by simpa using n2) λg z=>z.no (d:=92) (QeM (ZY (d:=88) l1 rfl) rfl) (Kp.refl _) rfl λg z=>z.no (d:=91) (QeM (ZY (d:=87) l1 rfl) rfl) (Kp.refl _) rfl λg z=>z.no (d:=90) (ZY (d:=87) l1 rfl) (Kp.refl _) rfl λg z=>z.ret (d:=89) rfl ec
 have v0:∀(i:Int) (d:Nat) (g:Hs),ev (tbG xx s) (Qa (tbG xx s) n) (d+4) (.c (.int i 0)) [some (.str [a]),sR p] g=some (iU i,g):=λi d g=>y_c;simp only[Xg,Xl,X5]at ha
 rcases ha with rfl|rfl|rfl|rfl|rfl
 ·exact z.one (d:=91) (QcR (d:=93) rfl) kp1 rfl rfl (j:=0) (by decide) (v0 0) (v0 1) λg z=>z.one (d:=90) (QcR (d:=92) rfl) kp1 rfl rfl (j:=1) (by decide) (v0 1) (v0 1) λg z=>rest _ g z (by decide) (by decide) rfl
 ·exact z.one (d:=91) (QcR (d:=93) rfl) kp1 rfl rfl (j:=0) (by decide) (v0 0) (v0 1) λg z=>z.one (d:=90) (QcR (d:=92) rfl) kp1 rfl rfl (j:=1) (by decide) (v0 1) (v0 1) λg z=>rest _ g z (by decide) (by decide) rfl
 ·exact z.one (d:=91) (QcR (d:=93) rfl) kp1 rfl rfl (j:=0) (by decide) (v0 0) (v0 1) λg z=>z.one (d:=90) (QcR (d:=92) rfl) kp1 rfl rfl (j:=1) (by decide) (v0 1) (v0 1) λg z=>rest _ g z (by decide) (by decide) rfl
 ·exact z.no (d:=96) (QcR (d:=93) rfl) kp1 rfl λg z=>z.one (d:=90) (QcR (d:=92) rfl) kp1 rfl rfl (j:=1) (by decide) (v0 1) (v0 1) λg z=>rest _ g z (by decide) (by decide) rfl
 ·exact z.one (d:=91) (QcR (d:=93) rfl) kp1 rfl rfl (j:=0) (by decide) (v0 0) (v0 1) λg z=>z.no (d:=95) (QcR (d:=92) rfl) kp1 rfl λg z=>rest _ g z (by decide) (by decide) rfl
def QbP{i:Int}(d:Nat)(g:Hs):ev T cf (d+4) (.c (.int i 0)) ρ g=some (iU i,g):=y_c
def QeV{e:E}{b:Nat}(hb:b∈[49,50,51,52])(v:ev T cf d e ρ h=some (.str [b],h1)):ev T cf (d+1) (.bi .int [e]) ρ h=some (iU ((b:Int) - 48),h1):=by
 refine Qgt v ?_;simp only[Xg,Xl,X5]at hb
 rcases hb with rfl|rfl|rfl|rfl<;>rfl
def m49{b:Nat}(hb:b∈[50,51,52]):b∈[49,50,51,52]:=Xj _ hb
def q_2{m ys:List Nat}{b:Nat}{r:List Iv.S}(em:m=a::b::ys)(z:D5 h p z10 g)(k:∀g,D5 h p z10 g->Xx T cf 97 r [sS m,sR p] g Q){a1 a2:List Iv.S}:Xx T cf 99 (.ite (.cmp .In Va (.tup [.c (.str [107]),.c (.str [112]),.c (.str [115]),.c (.str [98])])) a1 []::.ite (.cmp .In Va (.tup [.c (.str [107]),.c (.str [112]),.c (.str [115]),.c (.str [111])])) a2 []::r) [sS m,sR p] g Q :=
 z.no (d:=96) (QcR (d:=93) rfl) kp1 (by simp[em]) λg z=>z.no (d:=95) (QcR (d:=92) rfl) kp1 (by simp[em]) k
def QjH{b k:Nat}(i:Int)(e:∀h,bmS T .index [119,120,121,122] [.str [b]] h=some (iU (k:Int),h))(d:Nat)(g:Hs)(j:Nat)(hj:(j:Int)=i+k):ev T cf (d+4) (.op .Add (.c (.int i 0)) (.bm .index (.c (.str [119,120,121,122])) [(.ix Va Wb)])) [some (.str [a,b]),sR p] g=some (iU j,g):=by
 have v1:ev T cf (d+2) (.ix Va Wb) [some (.str [a,b]),sR p] g=some (.str [b],g):=Qho (j:=1) (by simp) rfl rfl
 rw[hj];refine ZA (d:=d+3) y_c ?_ Y5;rw[Yl,y_c,Qm,if_pos (show QcS .index (.str [119,120,121,122]) g=true from rfl)];simp only[evs,v1,Qm];exact e g
def Qp9{b:Nat}(hb:b∈[119,120,121,122]):∃k:Nat,k<4/\(∀h,bmS T .index [119,120,121,122] [.str [b]] h=some (iU (k:Int),h))/\((z10.set 0 1).set (2+k) 1).map un=spS (spm [104,b])/\((z10.set 1 1).set (6+k) 1).map un=spS (spm [102,b]):=by
 simp only[Xg,Xl,X5]at hb
 rcases hb with rfl|rfl|rfl|rfl
 ·exact⟨0,by decide,λz=>by with_unfolding_all rfl,rfl,rfl⟩
 ·exact⟨1,by decide,λz=>by with_unfolding_all rfl,rfl,rfl⟩
 ·exact⟨2,by decide,λz=>by with_unfolding_all rfl,rfl,rfl⟩
 ·exact⟨3,by decide,λz=>by with_unfolding_all rfl,rfl,rfl⟩
def Qog{b:Nat}(ha:a∈[104,102])(hb:b∈[119,120,121,122]):Cc (tbG xx s) (n+1) 53 [.str [a,b]] h (R5 [a,b] h):=by
 refine QnA λp g z=>q_2 rfl z λg z=>?_
 have l1:[a,b].length<=4:=by simp
 have rest:∀(c:List Int) (g:Hs),D5 h p c g->c.map un=spS (spm [a,b])->Xx (tbG xx s) (Qa (tbG xx s) n) 95 (b53.drop 5) [some (.str [a,b]),sR p] g (Fq (R5 [a,b] h)):=λc g z ec=>
  z.no (d:=92) (QeM (ZY (d:=88) l1 rfl) rfl) (Kp.refl _) rfl λg z=>z.no (d:=91) (QeM (ZY (d:=87) l1 rfl) rfl) (Kp.refl _) rfl λg z=>z.no (d:=90) (ZY (d:=87) l1 rfl) (Kp.refl _) rfl λg z=>z.ret (d:=89) rfl ec
 obtain⟨k,lk,ek,e1,e2⟩:=Qp9 (T:=(tbG xx s)) hb;simp only[Xg,Xl,X5]at ha
 rcases ha with rfl|rfl
 ·exact z.two (d:=88) (QeL (d:=91) (j:=0) l1 rfl rfl) (Kp.refl _) rfl rfl (j:=0) (by decide) QbP QbP (i:=2+k) (by show _<10;lia) (λd g=>QjH 2 ek d g _ (by lia)) (λd g y=>QbP d g) λg z=>z.no (d:=93) (QeL (d:=90) (j:=0) l1 rfl rfl) (Kp.refl _) rfl λg z=>rest _ g z e1
 ·exact z.no (d:=94) (QeL (d:=91) (j:=0) l1 rfl rfl) (Kp.refl _) rfl λg z=>z.two (d:=87) (QeL (d:=90) (j:=0) l1 rfl rfl) (Kp.refl _) rfl rfl (j:=1) (by decide) QbP QbP (i:=6+k) (by show _<10;lia) (λd g=>QjH 6 ek d g _ (by lia)) (λd g y=>QbP d g) λg z=>rest _ g z e2
def q_4{m:List Nat}{b e:Nat}{ys:List Nat}(em:m=a::b::e::ys)(n1:a≠104)(n2:a≠102)(lm:m.length<=4)(k:∀p g,D5 h p z10 g->Xx (tbG xx s) (Qa (tbG xx s) n) 95 (b53.drop 5) [sS m,sR p] g (Fq (R5 m h))):Cc (tbG xx s) (n+1) 53 [.str m] h (R5 m h):=
 QnA λp g z=>q_2 em z λg z=>z.no (d:=94) (QeL (d:=91) (j:=0) (a:=a) lm rfl (by rw[em];rfl)) (Kp.refl _) (by simpa using n1) λg z=>z.no (d:=93) (QeL (d:=90) (j:=0) (a:=a) lm rfl (by rw[em];rfl)) (Kp.refl _) (by simpa using n2) λg z=>k p g z
def Qoh{b:Nat}(ha:a∈[107,112])(hb:b∈[50,51,52]):Cc (tbG xx s) (n+1) 53 [.str [a,120,b]] h (R5 [a,120,b] h):=by
 have na:a≠104/\a≠102:=by simp only[Xg,Xl,X5]at ha;lia
 have l1:[a,120,b].length<=4:=by simp
 have e1:((z10.set 0 1).set 1 ((b:Int) - 48)).map un=spS (spm [a,120,b]):=by
  simp only[Xg,Xl,X5]at hb
  rcases hb with rfl|rfl|rfl<;>rfl
 exact q_4 rfl na.1 na.2 l1 λp g z=>z.two (d:=86) (Qe7 (ZY (d:=88) l1 rfl) rfl (QeL (d:=88) (j:=1) l1 rfl rfl)) (Kp.refl _) rfl rfl (j:=0) (by decide) QbP QbP (i:=1) (by decide) QbP (λd g y=>QeV (m49 hb) (Qho (j:=2) l1 rfl rfl)) λg z=>z.no (d:=91) (Qe7 (ZY (d:=87) l1 rfl) rfl (QjZ (d:=87) (j:=1) l1 rfl rfl)) (Kp.refl _) rfl λg z=>z.no (d:=90) (ZY (d:=87) l1 rfl) (Kp.refl _) rfl λg z=>z.ret (d:=89) rfl e1
def Qof{b c:Nat}(ha:a∈[107,112])(hb:b∈[50,51,52])(hc:c∈[114,108]):Cc (tbG xx s) (n+1) 53 [.str [a,b,c]] h (R5 [a,b,c] h):=by
 have na:a≠104/\a≠102:=by simp only[Xg,Xl,X5]at ha;lia
 have nb:b≠120:=by simp only[Xg,Xl,X5]at hb;lia
 have l1:[a,b,c].length<=4:=by simp
 have e1:((z10.set 0 ((b:Int) - 48)).set 1 1).map un=spS (spm [a,b,c]):=by
  simp only[Xg,Xl,X5]at hb
  rcases hb with rfl|rfl|rfl<;>rfl
 exact q_4 rfl na.1 na.2 l1 λp g z=>z.no (d:=92) (Qe7 (ZY (d:=88) l1 rfl) rfl (QeL (d:=88) (j:=1) l1 rfl rfl)) (Kp.refl _) (by simpa using nb) λg z=>z.two (d:=85) (Qe7 (ZY (d:=87) l1 rfl) rfl (QjZ (d:=87) (j:=1) l1 rfl rfl)) (Kp.refl _) (by simpa using nb) rfl (j:=0) (by decide) QbP (λd g=>QeV (m49 hb) (Qho (j:=1) l1 rfl rfl)) (i:=1) (by decide) QbP (λd g y=>QbP d g) λg z=>z.no (d:=90) (ZY (d:=87) l1 rfl) (Kp.refl _) rfl λg z=>z.ret (d:=89) rfl e1
def Qoi{b c e:Nat}(ha:a∈[99,113])(hb:b∈[49,50,51,52])(he:e∈[49,50,51,52]):Cc (tbG xx s) (n+1) 53 [.str [a,b,c,e]] h (R5 [a,b,c,e] h):=by
 have na:a≠104/\a≠102:=by simp only[Xg,Xl,X5]at ha;lia
 have l1:[a,b,c,e].length<=4:=by simp
 have e1:((z10.set 0 ((b:Int) - 48+((e:Int) - 48))).set 1 ((b:Int) - 48+((e:Int) - 48))).map un=spS (spm [a,b,c,e]):=by
  simp only[Xg,Xl,X5]at hb he
  rcases hb with rfl|rfl|rfl|rfl<;>rcases he with rfl|rfl|rfl|rfl<;>rfl
 exact q_4 rfl na.1 na.2 l1 λp g z=>z.no (d:=92) (QeM (ZY (d:=88) l1 rfl) rfl) (Kp.refl _) rfl λg z=>z.no (d:=91) (QeM (ZY (d:=87) l1 rfl) rfl) (Kp.refl _) rfl λg z=>z.two (d:=84) (ZY (d:=87) l1 rfl) (Kp.refl _) rfl rfl (j:=0) (by decide) QbP (λd g=>ZA (QeV hb (Qho (j:=1) l1 rfl rfl)) (QeV he (Qho (j:=3) l1 rfl rfl)) Y5) (i:=1) (by decide) QbP (λd g z=>Qat (Qc rfl) (Qj4 (j:=0) z.2.2 rfl)) λg z=>z.ret (d:=89) rfl e1
def QqG{m:List Nat}(z:Mk m):Pc (tbG xx s) (n+1) 53 [.str m] h λu h1=>∃c:List Int,(∃p,u=.ref p/\h1[p]?=some (.lst (c.map iU)))/\c.map un=spS (spm m):=by
 refine Pc.of ?_
 cases z with
 |bare a=>exact Qoj a
 |lean a b c=>exact Qof a b c
 |grow a b=>exact Qoh a b
 |cross a b c e=>exact Qoi a b e
 |keep a b=>exact Qog a b
end
section
variable {S:Sx}{v:Sv}
def Qmj(a:0<=x)(b:x<10000000000000000000):Qs x=true:=by
 simp only[Qs,Xe,Xs];lia
def Qfn{P:Prop}[Decidable P]{a:List Iv.S}(e:evT T cf (d+1) t ρ h=some (decide P,h1))(yes:P->Xx T cf (d+1) a ρ h1 (Nq T cf (d+2) r Q))(no:¬P->Xx T cf (d+2) r ρ h1 Q):Xx T cf (d+3) (.ite t a []::r) ρ h Q:=by
 refine QeO e ?_;by_cases c:P
 ·rw[if_pos (Wv c)];exact yes c
 ·rw[if_neg (by simpa using c)];exact Ju (no c)
def QfB{i:Int}{k:Nat}{z:Int}(hi:Qs i=true)(hk:k<=1000)(e:i ^ k=z):opU .Pow (iU i) (iU k) h=some (iU z,h):=by
 show(Qmn (iU i) (iU k)).map _=_
 have:(decide ((0:Int)<=(k:Int))&&decide ((k:Int)<=1000)&&Qs i)=true:=by
  rw[hi,U3,Xe,Xs,Xs];lia
 simp only[Qmn,this,Wg,Option.map,Int.toNat_natCast,e]
def Qar{a b c e f:E}{u0 u1 u2 u3 u4:U}(ea:ev T cf d a ρ h=some (u0,h))(eb:ev T cf d b ρ h=some (u1,h))(ec:ev T cf d c ρ h=some (u2,h))(ee:ev T cf d e ρ h=some (u3,h))(ef:ev T cf d f ρ h=some (u4,h)):ev T cf (d+1) (.tup [a,b,c,e,f]) ρ h=some (.ref h.length,h++[.tup [u0,u1,u2,u3,u4]]):=by
 simp only[QB,evs,ea,eb,ec,ee,ef,Qm]
def Sm4(u:U)(h1:Hs):Prop:=∃v,Sr u v h1/\s64 v
def sm5{a b c e f:Int}(z:∀i∈[a,b,c,e,f],0<=i/\i<10000000000000000000):Sm4 (.ref h.length) (h++[.tup [iU a,iU b,iU c,iU e,iU f]]):=⟨[a,b,c,e,f],⟨_,rfl,Qo,rfl⟩,λi m=>Qmj (z i m).1 (z i m).2⟩
def Qmd{a:E}{x k j:Int}(ea:∀d,ev T cf (d+1) a ρ h=some (iU x,h))(hk:(decide ((0:Int) < k)&&decide (k<1606938044258990275541962092341162602522202993782792835301376))=true)(hj:0<j)(d:Nat):ev T cf (d+3) (.op .Mod (.op .FloorDiv a (.c (.int k 0))) (.c (.int j 0))) ρ h=some (iU (x / k % j),h):=Jt (Qau (ea d) hk) hj
def QoD:ev T cf (d+2) (.lst [Wa,Wa,Wa,Wa,Wa]) ρ h=some (.ref h.length,h++[.lst [iU 0,iU 0,iU 0,iU 0,iU 0]]):=by
 rw[y_lst];simp only[evs,y_c,Qm]
def QqF(hx:0<=x):Pc (tbG xx s) (n+1) 54 [iU x] h λu h1=>Sm4 u h1:=by
 obtain⟨L,hL⟩:∃L,L=(x+3)*982451653 % 1000000000000000000:=⟨_,rfl⟩
 have l0:0<=L:=by lia
 have l1:L<1000000000000000000:=by lia
 have eL:ev (tbG xx s) (Qa (tbG xx s) n) 98 (.op .Mod (.op .Mult (.op .Add Va Wd) (.c (.int 982451653 0))) (.op .Pow (.c (.int 10 0)) (.c (.int 18 0)))) [some (iU x),none,none,none] h=some (iU L,h):=by
  rw[hL]
  exact ZA (ZA (d:=96) (ZA (d:=95) (Qc rfl) y_c Y5) y_c (QdK (.inr (by decide)))) (ZA (d:=96) y_c y_c (QfB (k:=18) (z:=1000000000000000000) (by decide) (by decide) (by decide))) (QdL (by decide))
 refine Pc.of (Jr (Qf fnL[54] rfl rfl) (Za (d:=98) (Q9 eL (Za (d:=97) (Q9 (Jt (d:=95) (Qc rfl) (by decide)) ?_)))))
 generalize x % 5=y;have vL:∀{y':Option U} (d:Nat),ev (tbG xx s) (Qa (tbG xx s) n) (d+1) Vb [some (iU x),some (iU L),some (iU y),y'] h=some (iU L,h):=λd=>Qc rfl;have fin:∀{u:U} {h1:Hs},Sm4 u h1->Kp h h1->Kp h h1/\Sm4 u h1:=λa b=>⟨b,a⟩
 refine Qfn (d:=95) (Qdf (d:=93) rfl) (λw=>Zb (d:=94) (Q9 (Qar (d:=93) (ZA (d:=92) y_c (Jt (d:=90) (vL 90) (by decide)) Y5) y_c y_c y_c y_c) (fin (sm5 λi m=>?_) kp1))) λw=>?_
 ·simp only[Xg,Xl,X5]at m;lia
 refine Qfn (d:=94) (Qdf (d:=92) rfl) (λw=>Zb (d:=93) (Q9 (Qar (d:=92) (vL 91) y_c y_c y_c y_c) (fin (sm5 λi m=>?_) kp1))) λw=>?_
 ·simp only[Xg,Xl,X5]at m;lia
 refine Qfn (d:=93) (Qdf (d:=91) rfl) (λw=>?_) λw=>Qfn (d:=92) (Qdf (d:=90) rfl) (λw=>?_) λw=>?_
 ·have zl:(h++[O.lst [iU 0,iU 0,iU 0,iU 0,iU 0]])[h.length]?=some (.lst ([0,0,0,0,0].map iU)):=Qo
  have ei:ixU 5 (1+L % 4)=some (1+L % 4).toNat:=by unfold ixU;rw[if_pos (by lia),if_pos (by lia)]
  have lt:h.length<(h++[O.lst [iU 0,iU 0,iU 0,iU 0,iU 0]]).length:=by simp
  refine Za (d:=92) (Q9 (QoD (d:=90)) (Qno (d:=91) (ZA (d:=90) y_c (Qmd (a:=Vb) (λd=>Qc rfl) (by decide) (by decide) 87) Y5) (Qc rfl) (ZA (d:=90) y_c (Jt (d:=88) (Qc rfl) (by decide)) Y5) (h4:=(h++[O.lst [iU 0,iU 0,iU 0,iU 0,iU 0]]).set h.length (.lst (([0,0,0,0,0]:Sv).set (1+L % 4).toNat (1+L / 4 % 5) |>.map iU))) ?_ (Zb (d:=90) (Q9 (Qgt (d:=89) (Qc rfl) (QjP (X9 lt))) ?_))))
  ·simp only[Qh1,zl];show(ixU 5 (1+L % 4)).map _=_;rw[ei,List.map_set];rfl
  ·refine⟨(kp1.put (Xi _)).trans kp1,_,⟨_,rfl,Qo,by simp⟩,λi m=>?_⟩
   rcases List.mem_or_eq_of_mem_set m with m|rfl
   ·simp only[Xg,Xl,X5]at m
    exact Qmj (by lia) (by lia)
   ·exact Qmj (by lia) (by lia)
 ·refine Zb (d:=91) (Q9 (Qar (d:=90) (Jt (vL 88) (by decide)) (Qmd vL (by decide) (by decide) 87) (ZA (d:=89) (Qau (vL 87) (by decide)) (ZA (d:=88) y_c y_c (QfB (k:=9) (z:=1000000000) (by decide) (by decide) (by decide))) (QdL (by decide))) (Qmd vL (by decide) (by decide) 87) (ZA (d:=89) (Qau (vL 87) (by decide)) (ZA (d:=88) y_c y_c (QfB (k:=12) (z:=1000000000000) (by decide) (by decide) (by decide))) (QdL (by decide)))) (fin (sm5 λi m=>?_) kp1))
  simp only[Xg,Xl,X5]at m;lia
 ·refine Zb (d:=92) (Q9 (Qar (d:=91) y_c y_c y_c y_c y_c) (fin (sm5 λi m=>?_) kp1));simp only[Xg,Xl,X5]at m;lia
end
section
variable {S A B:Sx}{Ss:List Sx}{v v':Sv}
def Ll.det(a:Ll u v h)(b:Ll u v' h):v=v':=by
 obtain⟨p,rfl,hp,_⟩:=a;obtain⟨q,e,hq,_⟩:=b;cases e;rw[hp]at hq
 exact(List.map_inj_right (λx y z=>by cases z;rfl)).mp (O.lst.inj (Xw hq))
def QjK(ha:Ll u v h)(hb:Ll w v' h){x1':Option U}:∃r h1,ev T cf (d+4) (.comp (.zip Vc Vd) true none (.op .Add Ve Vf)) [x0',x1',some u,some w] h=some (r,h1)/\Kp h h1/\Ll r (Qcl v v') h1:=by
 obtain⟨p,rfl,hp,l1⟩:=ha;obtain⟨q,rfl,hq,l2⟩:=hb
 obtain⟨us,h3,e,k,pr⟩:=Qgc (T:=T) (cf:=cf) (d:=d+3) (ρ:=[x0',x1',sR p,sR q]) (h:=h) (ea:=Vc) (eb:=Vd) (el:=.op .Add Ve Vf) (λx u t=>u=Qmt x) (λt t t t t z=>z) (Qc rfl) (Qc rfl) (.inl (Qq hp)) (.inl (Qq hq)) (by rw[Uu,Xq,Xq,l1,l2];decide) λx m g k=>by
  obtain⟨x,y⟩:=x;obtain⟨i,_,rfl⟩:=Y7 (Ww m).1;obtain⟨j,_,rfl⟩:=Y7 (Ww m).2;exact⟨_,_,ZA (d:=d+2) (Qc rfl) (Qc rfl) Y5,Kp.refl _,rfl⟩
 cases Z4 pr;rw[QmF]at e;exact⟨_,_,e,k.trans kp1,_,rfl,Qo,QeJ l1 l2⟩
def QqD(za:LS h p A)(zb:LS h q B):Pc (tbG xx s) (n+1) 56 [.ref p,.ref q] h λr h1=>∃k,r=.ref k/\LS h1 k (Qck A B):=by
 obtain⟨la,us,hp,pa⟩:=za;obtain⟨lb,ws,hq,pb⟩:=zb
 obtain⟨vs,h3,e,k,pr⟩:=Qgc (T:=(tbG xx s)) (cf:=Qa (tbG xx s) n) (d:=97) (ρ:=[sR p,sR q]) (h:=h) (ea:=Va) (eb:=Vb) (el:=.comp (.zip Vc Vd) true none (.op .Add Ve Vf)) (λx u g=>∀v w,Ll x.1 v h->Ll x.2 w h->Ll u (Qcl v w) g) (λt t t t k z v w a b=>(z v w a b).kp k) (Qc rfl) (Qc rfl) (.inl (Qq hp)) (.inl (Qq hq)) (by rw[Uu,Qx pa,Qx pb,la,lb];decide) λx m g k=>by
  obtain⟨x,y⟩:=x;obtain⟨v,_,hv⟩:=Z3 pa (Ww m).1;obtain⟨w,_,hw⟩:=Z3 pb (Ww m).2;obtain⟨r,g1,e1,k1,z⟩:=QjK (T:=(tbG xx s)) (cf:=Qa (tbG xx s) n) (d:=93) (x0':=sR p) (x1':=sR q) (hv.kp k) (hw.kp k)
  exact⟨r,g1,e1,k1,λv' w' a b=>by rw[a.det hv,b.det hw];exact z⟩
 exact Pc.of (Jr (Qf fnL[56] rfl rfl) (Zb (Q9 e ⟨k.trans kp1,_,rfl,by simp only[Qck,T3,la,lb];rfl,vs,Qo,Qi (λt t z=>z.kp kp1) (pz (R:=λu v=>Ll u v h3) pr pa pb)⟩)))
def LP(s:List U)(h:Hs)(u:U)(S:Sx):Prop:=∃p w q d,u=.ref p/\h[p]?=some (.tup [w,.ref q,iU (d:Nat)])/\d<=8/\PT s d w S h/\LS h q S
theorem LP.kp(e:Kp g g')(z:LP s g u S):LP s g' u S:=by obtain⟨p,w,q,d,a,b,c,t,l⟩:=z;exact⟨p,w,q,d,a,e _ _ b,c,t.kp e,l.kp e⟩
def Qod{ρ:Rho}:∃k h1,ev T cf (d+4) (.comp (.rng (.c (.int 10 0))) false none (.lst [Wa,Wa,Wa,Wa,Wa])) ρ h=some (.ref k,h1)/\Kp h h1/\LS h1 k zX:=by
 obtain⟨vs,h2,e,k,pr⟩:=Qge (T:=T) (cf:=cf) (d:=d+3) (lo:=0) (n:=10) (src:=.rng (.c (.int 10 0))) (ρ:=ρ) (h0:=h) (hs:=h) (D:=λh u v=>Ll u v h) (xs:=zX) (el:=.lst [Wa,Wa,Wa,Wa,Wa]) (λy y y y e z=>z.kp e) (Qm4 (m:=10) (by decide) y_c) rfl (by decide) λi v hi h1 k1=>by
  obtain rfl:v=un 0:=(List.mem_replicate.mp (X2 hi)).2;exact⟨_,_,QoD (d:=d+1),kp1,_,rfl,Qo,rfl⟩
 exact⟨_,_,e,k.trans kp1,rfl,vs,Qo,Qi (λy y z=>z.kp kp1) pr⟩
def Qpi(hp:h[p]?=some (.lst us))(pu:Paired (λu S=>LP s h u S) us Ss):Pc (tbG xx s) (n+2) 57 [.ref p] h λr h1=>∃k,r=.ref k/\LS h1 k (fX Ss):=by
 obtain⟨k,h0,e0,k0,z0⟩:=Qod (T:=(tbG xx s)) (cf:=Qa (tbG xx s) (n+1)) (d:=94) (h:=h) (ρ:=[sR p,none,none]);refine Pc.of (Jr (Qf fnL[57] rfl rfl) (Za (d:=98) (Q9 e0 (QhY (d:=97) (L:=us) (λi ρ hs=>Kp h hs/\∃k x,ρ=[sR p,sR k,x]/\LS hs k (fX (Ss.take i))) (Qc rfl) (λi ρ hs z=>Qq (z.1 _ _ hp)) ⟨k0,_,_,rfl,z0⟩ (λi w hi ρ hs z=>?_) λρ2 h2 z=>?_))))
 ·obtain⟨kp,k,x,rfl,zk⟩:=z;obtain⟨S,hS,zS⟩:=Y3 pu hi;obtain⟨p1,w,q,d,rfl,hp1,_,_,zl⟩:=zS.kp kp;obtain⟨_,h1,e1,k1,k2,rfl,z2⟩:=QqD (xx:=xx) (s:=s) (n:=n) zk zl;refine⟨_,_,h1,rfl,ZF (d:=95) (JP (QH (d:=94) (e_2 (Qc rfl) (Yj (d:=92) (i:=2) (j:=1) hp1 rfl rfl)) e1)),kp.trans k1,_,_,rfl,?_⟩;rw[QgA i S hS];exact z2
 ·obtain⟨kp,k,x,rfl,zk⟩:=z;rw[Qx pu,List.take_length]at zk;exact Zb (Q9 (Qc rfl) ⟨kp,k,rfl,zk⟩)
end
section
variable {S:Sx}{v v':Sv}
theorem Qld{wk:Wk}{t:Tg}{body:Ex}(I:Nat->Rho->Hs->Prop)(R:U->Hs->Prop){n:Nat}
  (st:∀i,i<n->∀ρ hs,I i ρ hs->∃x ρ',itm T wk i hs=some (some x)/\tgt t x ρ hs=some ρ'/\((∃ρ2 h2,body ρ' hs=some (.next,ρ2,h2)/\I (i+1) ρ2 h2)\/∃u ρ2 h2,body ρ' hs=some (.ret u,ρ2,h2)/\R u h2))
  (en:∀ρ hs,I n ρ hs->itm T wk n hs=some none):
  ∀(m i k:Nat) (ρ:Rho) (hs:Hs),n=i+m->m<k->I i ρ hs->(∃ρ2 h2,Je T wk t body k i ρ hs=some (.next,ρ2,h2)/\I n ρ2 h2)\/∃u ρ2 h2,Je T wk t body k i ρ hs=some (.ret u,ρ2,h2)/\R u h2
 |m,i,0,ρ,hs,e,l,h=>by lia
 |0,i,k+1,ρ,hs,e,l,h=>by
  have e':n=i:=by lia
  subst e'
  exact .inl ⟨ρ,hs,by simp only[Je,en ρ hs h],h⟩
 |m+1,i,k+1,ρ,hs,e,l,h=>by
  obtain⟨x,ρ',a,b,⟨ρ1,h1,c,z⟩|⟨u,ρ1,h1,c,z⟩⟩:=st i (by lia) ρ hs h
  ·rcases Qld I R st en m (i+1) k ρ1 h1 (by lia) (by lia) z with⟨ρ2,h2,g1,g2⟩|⟨u,ρ2,h2,g1,g2⟩
   ·exact .inl ⟨ρ2,h2,by simp only[Je,a,b,c,g1],g2⟩
   ·exact .inr ⟨u,ρ2,h2,by simp only[Je,a,b,c,g1],g2⟩
  ·exact .inr ⟨u,ρ1,h1,by simp only[Je,a,b,c],z⟩
def Qkw{body:List Iv.S}{G:U->Hs->Prop}(I:Nat->Rho->Hs->Prop)(v:ev T cf d e ρ h=some (u,h1))(hl:∀i ρ hs,I i ρ hs->Q4 T u hs=some L)(h0:I 0 ρ h1)
  (st:∀i x,L[i]?=some x->∀ρ hs,I i ρ hs->∃ρ',tgt t' (.one x) ρ hs=some ρ'/\((∃ρ2 h2,exs T cf d body ρ' hs=some (.next,ρ2,h2)/\I (i+1) ρ2 h2)\/∃u ρ2 h2,exs T cf d body ρ' hs=some (.ret u,ρ2,h2)/\G u h2)) (k:∀ρ2 h2,I L.length ρ2 h2->Xx T cf (d+1) r ρ2 h2 (Fq G)):Xx T cf (d+2) (.loop t' (.seq e) body::r) ρ h (Fq G):=by
 have s:=hl _ _ _ h0
 have es:Zs T (ev T cf d) ρ (.seq e) h=some (.seqL u,h1):=by simp only[Zs,v,Qm,wkS,s];rfl
 have tn:Q7 T (.seqL u) h1=L.length+1:=by simp only[Q7,s,W5]
 have it:∀i ρ hs,I i ρ hs->itm T (.seqL u) i hs=some ((L[i]?).map .one):=λi ρ hs z=>by simp only[itm,hl _ _ _ z,Option.map]
 rcases Qld (T:=T) (wk:=.seqL u) (t:=t') (body:=exs T cf d body) I G (n:=L.length) (λi hi ρ hs z=>by
  obtain⟨ρ',a,b⟩:=st i _ (Xp hi) ρ hs z
  exact⟨_,ρ',by rw[it i ρ hs z,Xp hi];rfl,a,b⟩) (λρ hs z=>by rw[it _ ρ hs z,Ue (Xi _)];rfl) L.length 0 (L.length+1) ρ h1 (Vo _).symm (W4 _) h0 with⟨ρ2,h2,a,b⟩|⟨u,ρ2,h2,a,b⟩
 ·exact QgI es ⟨ρ2,h2,by rw[tn];exact a,k ρ2 h2 b⟩
 ·exact⟨.ret u,ρ2,h2,by rw[Qj,Qc1 es rfl,tn,a],b⟩
def QgW(e:h[p]?=some (.tup xs)):Q4 T (.ref p) h=none:=YV (QW e)
def eq4{a b c f:Int}:(((([iU a,iU b,iU c,iU f]:List U).zip [iU 0,iU 0,iU 0,iU 0]).all λp=>eqW T 19 p.1 p.2 h)=!(sz [x,a,b,c,f])):=by
 show((a==0)&&((b==0)&&((c==0)&&((f==0)&&true))))=!((!decide (a=0))||((!decide (b=0))||((!decide (c=0))||((!decide (f=0))||false))))
 simp only[U3,Bool.or_false,Bool.not_or,Bool.not_not];rfl
def Qp6(l:v.length=5)(hp:h[p]?=some (.lst ((v.drop 1).map iU)))(hq:h[q]?=some (.lst [iU 0,iU 0,iU 0,iU 0])):Zi T .NotEq (.ref p) (.ref q) h=some (sz v):=by
 obtain⟨x0,x1,x2,x3,x4,rfl⟩:=Qi3 l
 have o1:okW T 20 (.ref p) h=true:=by simp only[okW,Qq hp];rfl
 have o2:okW T 20 (.ref q) h=true:=by simp only[okW,Qq hq];rfl
 have o3:eqW T 20 (.ref p) (.ref q) h=!(sz [x0,x1,x2,x3,x4]):=by
  rw[<-eq4 (T:=T) (h:=h) (x:=x0)];simp only[eqW,Qq hp,Qq hq];rfl
 have o4:YG T (.ref p) (.ref q) h=false:=by simp only[YG,Qq hp,Qq hq];rfl
 have o5:Y0 T (.ref p) (.ref q) h=false:=by
  simp only[Y0,Qq hp,Qq hq];show(decide _&&(false&&_))=false;rw[Bool.false_and,Bool.and_false]
 show(eqA T _ _ _).map (!·)=_;simp only[eqA,Qeh,o4,o5,o1,o2,o3,Wp,Vn,U6,Wg,Option.map,Bool.not_not]
def Qp5(l:v.length=5)(hp:h[p]?=some (.tup ((v.drop 1).map iU)))(hq:h[q]?=some (.tup [iU 0,iU 0,iU 0,iU 0])):Zi T .NotEq (.ref p) (.ref q) h=some (sz v):=by
 obtain⟨x0,x1,x2,x3,x4,rfl⟩:=Qi3 l;have o1:okW T 20 (.ref p) h=true:=(Qbh (n:=19) (QW hp)).trans rfl;have o2:okW T 20 (.ref q) h=true:=(Qbh (n:=19) (QW hq)).trans rfl
 have o3:eqW T 20 (.ref p) (.ref q) h=!(sz [x0,x1,x2,x3,x4]):=by
  rw[<-eq4 (T:=T) (h:=h) (x:=x0)];exact(Qf9 (n:=19) (QW hp) (QW hq)).trans rfl
 have o4:YG T (.ref p) (.ref q) h=false:=by simp only[YG,QgW hp]
 have o5:Y0 T (.ref p) (.ref q) h=false:=by simp only[Y0,QgW hp]
 show(eqA T _ _ _).map (!·)=_;simp only[eqA,Qeh,o4,o5,o1,o2,o3,Wp,Vn,U6,Wg,Option.map,Bool.not_not]
noncomputable def z4T:List E:=[Wa,Wa,Wa,Wa]
def t_l(z:Ll u v h)(hi:ρ[i]?=some (some u)):∃h1,evT T cf (d+5) (.cmp .NotEq (.sl (.var i) (some Wb) none) (.lst z4T)) ρ h=some (sz v,h1)/\Kp h h1:=by
 obtain⟨p,rfl,hp,l⟩:=z
 have e:QaT (v.map iU) (some 1) none=(v.drop 1).map iU:=by
  obtain⟨x0,x1,x2,x3,x4,rfl⟩:=Qi3 l;rfl
 have e1:ev T cf (d+3) (.sl (.var i) (some Wb) none) ρ h=some (.ref h.length,h++[.lst ((v.drop 1).map iU)]):=by
  rw[Qji,Qc hi,Qm];simp only[evO,y_c,Qm];rw[Qm7 hp,e]
 have e2:ev T cf (d+3) (.lst z4T) ρ (h++[.lst ((v.drop 1).map iU)])=some (.ref (h++[O.lst ((v.drop 1).map iU)]).length,h++[.lst ((v.drop 1).map iU)]++[.lst [iU 0,iU 0,iU 0,iU 0]]):=by
  unfold z4T;rw[y_lst];simp only[evs,y_c,Qm]
 exact⟨_,Zu e1 e2 (Qp6 l (kp1 _ _ Qo) Qo),kp1.trans kp1⟩
def t_t(z:Sr u v h)(hi:ρ[i]?=some (some u)):∃h1,evT T cf (d+5) (.cmp .NotEq (.sl (.var i) (some Wb) none) (.tup z4T)) ρ h=some (sz v,h1)/\Kp h h1:=by
 obtain⟨p,rfl,hp,l⟩:=z
 have e1:ev T cf (d+3) (.sl (.var i) (some Wb) none) ρ h=some (.ref h.length,h++[.tup ((v.drop 1).map iU)]):=by
  rw[Qji,Qc hi,Qm];simp only[evO,y_c,Qm];rw[QoN hp (by rw[Xq,l];decide),List.map_drop]
 have e2:ev T cf (d+3) (.tup z4T) ρ (h++[.tup ((v.drop 1).map iU)])=some (.ref (h++[O.tup ((v.drop 1).map iU)]).length,h++[.tup ((v.drop 1).map iU)]++[.tup [iU 0,iU 0,iU 0,iU 0]]):=by
  unfold z4T;rw[QB];simp only[evs,y_c,Qm]
 exact⟨_,Zu e1 e2 (Qp5 l (kp1 _ _ Qo) Qo),kp1.trans kp1⟩
def Lq(q:Nat)(u:U)(v:Sv)(h:Hs):Prop:=∃p,u=.ref p/\p≠q/\h[p]?=some (.lst (v.map iU))/\v.length=5
def Lq.kp(e:Kp g g')(z:Lq q u v g):Lq q u v g':=by obtain⟨p,a,b,c,d⟩:=z;exact⟨p,a,b,e _ _ c,d⟩
theorem Lq.set(z:Lq q u v g):Lq q u v (g.set q o):=by obtain⟨p,a,b,c,d⟩:=z;exact⟨p,a,b,by rw[X3 (Wr b)];exact c,d⟩
def Lq.ll(z:Lq q u v g):Ll u v g:=by obtain⟨p,a,b,c,d⟩:=z;exact⟨p,a,c,d⟩
def I55(h:Hs)(q2 q:Nat)(w:U)(S:Sx)(v:Sv)(i:Nat)(ρ:Rho)(hs:Hs):Prop:=Kp h hs/\h.length<=q2/\(∃x,ρ=[sR q,some w,sR q2,x])/\¬bx (S.take i) v/\i<=S.length/\∃ys,hs[q2]?=some (.lst ys)/\Paired (λu v=>Lq q2 u v hs) ys (tmX (S.take i) v)
def Qqh(z:sz v'=true):(v'.map iU).map (Qjp (hd v))=(prS v v').map iU:=by
 unfold prS;rw[if_pos z,Ux,Ux];rfl
def Qqg(z:sz v'=false):(v.map iU).map (Qjp (hd v'))=(prS v v').map iU:=by
 unfold prS
 rw[if_neg (by rw[z];decide),Ux,Ux]
 rfl
def Qpz(hu:Ll u v h)(hw:Sr w v' h)(s6:s64 v')(z:sz v'=true):∃h1,ev T cf (d+5) (.comp (.seq Vb) false none (.op .Mult (.ix Vd Wa) Ve)) [x0',some w,x2',some u] h=some (.ref h1.length,h1++[.lst ((prS v v').map iU)])/\Kp h h1:=by
 obtain⟨p,rfl,hp,l⟩:=hu;have sw:=(hw.su (T:=T))
 obtain⟨us,h3,e,kp,pr⟩:=YJ (T:=T) (cf:=cf) (d:=d+4) (ρ:=[x0',some w,x2',sR p]) (h:=h) (e:=Vb) (el:=.op .Mult (.ix Vd Wa) Ve) (λx u y=>u=Qjp (hd v) x) (λy y y y y z=>z) (Qc rfl) (.inr sw.1) (by rw[Xq,sw.2];decide) λx m g kp=>by
  obtain⟨i,mi,rfl⟩:=Y7 m
  exact⟨_,_,ZA (d:=d+3) (Qat (d:=d+1) (Qc rfl) (Qj4 (j:=0) (kp _ _ hp) (Qf1 l))) (Qc rfl) (QdK (.inr (s6 i mi))),Kp.refl _,by show iU _=iU _;rw[Int.mul_comm]⟩
 cases Z4 pr;rw[Qqh z]at e;exact⟨h3,e,kp⟩
def Qpy(hu:Ll u v h)(hw:Sr w v' h)(s6:s64 v')(z:sz v'=false):∃h1,ev T cf (d+5) (.comp (.seq Vd) false none (.op .Mult Ve (.ix Vb Wa))) [x0',some w,x2',some u] h=some (.ref h1.length,h1++[.lst ((prS v v').map iU)])/\Kp h h1:=by
 obtain⟨p,rfl,hp,l⟩:=hu;obtain⟨q,rfl,hq,l'⟩:=hw
 obtain⟨us,h3,e,kp,pr⟩:=YJ (T:=T) (cf:=cf) (d:=d+4) (ρ:=[x0',sR q,x2',sR p]) (h:=h) (e:=Vd) (el:=.op .Mult Ve (.ix Vb Wa)) (λx u y=>u=Qjp (hd v') x) (λy y y y y z=>z) (Qc rfl) (.inl (Qq hp)) (by rw[Xq,l];decide) λx m g kp=>by
  obtain⟨i,mi,rfl⟩:=Y7 m;exact⟨_,_,ZA (d:=d+3) (Qc rfl) (Yj (d:=d+1) (j:=0) (kp _ _ hq) rfl (Qf1 l')) (QdK (.inr (s6 _ (Qg1 l')))),Kp.refl _,rfl⟩
 cases Z4 pr;rw[Qqg z]at e;exact⟨h3,e,kp⟩
def QjJ{e:E}(hi:ρ[i]?=some (sR q))(hq:h[q]?=some (.lst xs))(v:ev T cf (d+1) e ρ h=some (u,h1))(hq1:h1[q]?=some (.lst xs))(l:xs.length<1000000):ex T cf (d+3) (.expr (.bm .append (.var i) [e])) ρ h=some (.next,ρ,h1.set q (.lst (xs++[u]))):=by
 rw[Qt,Yl,Qc hi,Qm,if_pos (Qkr hq)];simp only[evs,v,Qm,Ql3 hq1 l]
noncomputable def QqY:List Iv.S:=[(.ite (.and (.cmp .NotEq (.sl Vd (some Wb) none) (.lst z4T)) (.cmp .NotEq (.sl Vb (some Wb) none) (.tup z4T))) [(.ret (.c .non))] []),(.ite (.cmp .NotEq (.sl Vb (some Wb) none) (.tup z4T)) [(.expr (.bm .append Vc [(.comp (.seq Vb) false none (.op .Mult (.ix Vd Wa) Ve))]))] [(.expr (.bm .append Vc [(.comp (.seq Vd) false none (.op .Mult Ve (.ix Vb Wa)))]))])]
def t55(hu:Ll u v h)(hw:Sr w v' h):∃h1,evT T cf (d+6) (.and (.cmp .NotEq (.sl Vd (some Wb) none) (.lst z4T)) (.cmp .NotEq (.sl Vb (some Wb) none) (.tup z4T))) [x0',some w,x2',some u] h=some (sz v&&sz v',h1)/\Kp h h1:=by
 obtain⟨h1,e1,k1⟩:=t_l (T:=T) (cf:=cf) (d:=d) (ρ:=[x0',some w,x2',some u]) (i:=3) hu rfl
 cases z:sz v with
 |false=>rw[z]at e1;exact⟨h1,QeM e1 rfl,k1⟩
 |true=>
  rw[z]at e1;obtain⟨h2,e2,k2⟩:=t_t (T:=T) (cf:=cf) (d:=d) (ρ:=[x0',some w,x2',some u]) (i:=1) (hw.mono k1) rfl
  exact⟨h2,Qe7 e1 rfl (by rw[e2,T6]),k1.trans k2⟩
def a55{q2:Nat}{ys:List U}(hu:Ll u v h)(hw:Sr w v' h)(s6:s64 v')(hq:h[q2]?=some (.lst ys))(ly:ys.length<1000000):∃h1,ex T cf (d+11) (.ite (.cmp .NotEq (.sl Vb (some Wb) none) (.tup z4T)) [(.expr (.bm .append Vc [(.comp (.seq Vb) false none (.op .Mult (.ix Vd Wa) Ve))]))] [(.expr (.bm .append Vc [(.comp (.seq Vd) false none (.op .Mult Ve (.ix Vb Wa)))]))]) [x0',some w,sR q2,some u] h=some (.next,[x0',some w,sR q2,some u],(h1++[.lst ((prS v v').map iU)]).set q2 (.lst (ys++[.ref h1.length])))/\Kp h h1:=by
 obtain⟨h1,e1,k1⟩:=t_t (T:=T) (cf:=cf) (d:=d+5) (ρ:=[x0',some w,sR q2,some u]) (i:=1) hw rfl
 cases z:sz v' with
 |true=>
  obtain⟨h2,e2,k2⟩:=Qpz (T:=T) (cf:=cf) (d:=d+2) (x0':=x0') (x2':=sR q2) (hu.kp k1) (hw.mono k1) s6 z;refine⟨h2,?_,k1.trans k2⟩;rw[QD,e1,Qm,z,if_pos rfl];exact ZF (d:=d+8) (QjJ (d:=d+6) rfl (k1 _ _ hq) e2 (kp1 _ _ (k2 _ _ (k1 _ _ hq))) ly)
 |false=>
  obtain⟨h2,e2,k2⟩:=Qpy (T:=T) (cf:=cf) (d:=d+2) (x0':=x0') (x2':=sR q2) (hu.kp k1) (hw.mono k1) s6 z;refine⟨h2,?_,k1.trans k2⟩;rw[QD,e1,Qm,z,if_neg Xn];exact ZF (d:=d+8) (QjJ (d:=d+6) rfl (k1 _ _ hq) e2 (kp1 _ _ (k2 _ _ (k1 _ _ hq))) ly)
def QmJ(e:evT T cf (d+3) t ρ h=some (true,h1)):exs T cf (d+5) (.ite t [.ret (.c u)] []::r) ρ h=some (.ret u,ρ,h1):=by rw[Qj,QD,e,Qm,if_pos rfl,Qj,Qz,y_c,Qm]
def QqE(zs:LS h q S)(hw:Sr w v h)(s6:s64 v):Pc (tbG xx s) (n+1) 55 [.ref q,w] h λr h1=>(bx S v/\r=.non)\/(¬bx S v/\∃k,r=.ref k/\LS h1 k (tmX S v)):=by
 obtain⟨lS,us,hq,pu⟩:=zs
 refine Pc.of (Jr (Qf fnL[55] rfl rfl) (Za (d:=98) (Q9 (u:=.ref h.length) (h1:=h++[.lst []]) rfl (Qkw (d:=97) (L:=us) (body:=QqY) (I55 h h.length q w S v) (Qc rfl) (λi ρ hs z=>Qq (z.1 _ _ hq)) ⟨kp1,Xi _,⟨_,rfl⟩,(λy=>by obtain⟨x,mx,_⟩:=y;cases mx),W8 _,[],Qo,.nil⟩ (λi u hi ρ hs z=>?_) λρ2 h2 z=>?_))))
 ·obtain⟨kp,lq,⟨x,rfl⟩,nb,li,ys,hy,py⟩:=z;obtain⟨a,ha,la⟩:=Y3 pu hi;have li':i<S.length:=(Xh.mp ha).1
  have tk:S.take (i+1)=S.take i++[a]:=by rw[List.take_add_one,ha];rfl
  refine⟨_,rfl,?_⟩;obtain⟨h1,e1,k1⟩:=t55 (T:=(tbG xx s)) (cf:=Qa (tbG xx s) n) (d:=89) (x0':=sR q) (x2':=sR h.length) (la.kp kp) (hw.mono kp);by_cases z:sz a=true/\sz v=true
  ·rw[z.1,z.2]at e1;exact .inr ⟨.non,_,h1,QmJ (d:=92) e1,kp.trans k1,.inl ⟨⟨a,X2 ha,z⟩,rfl⟩⟩
  ·have e0:(sz a&&sz v)=false:=by
    cases b:sz a with
    |false=>rfl
    |true=>cases c:sz v with
     |false=>rfl
     |true=>exact absurd ⟨b,c⟩ z
   have K:=kp.trans k1
   obtain⟨h2,e2,k2⟩:=a55 (T:=(tbG xx s)) (cf:=Qa (tbG xx s) n) (d:=84) (x0':=sR q) (la.kp K) (hw.mono K) s6 (k1 _ _ hy) (by rw[Qx py,tmX,Xq,Vz];lia)
   refine .inl ⟨_,_,(Qgo (d:=96) (JR (d:=94) e1 e0)).trans (ZF (d:=94) e2),((K.trans k2).trans kp1).put lq,lq,⟨_,rfl⟩,?_,li',_,by rw[X9 (by have:=(K.trans k2).len;have:=(Xh.mp (k2 _ _ (k1 _ _ hy))).1;rw[Wn];lia)],?_⟩
   ·rw[tk];rintro⟨x,mx,zx⟩
    rcases Uq.mp mx with mx|mx
    ·exact nb ⟨x,mx,zx⟩
    ·cases Wx.mp mx;exact z zx
   ·rw[tk,tmX,List.map_append];have lt:=(Xh.mp (k2 _ _ (k1 _ _ hy))).1
    exact Y2 (Qi (λt t z=>(z.kp ((k1.trans k2).trans kp1)).set) py) (.cons ⟨_,rfl,by lia,by rw[X3 (by lia)];exact Qo,QkE (by obtain⟨_,_,_,l⟩:=la;exact l) (by obtain⟨_,_,_,l⟩:=hw;exact l)⟩ .nil)
 ·obtain⟨kp,lq,⟨x,rfl⟩,nb,_,ys,hy,py⟩:=z;rw[Qx pu,List.take_length]at nb py
  exact Zb (Q9 (Qc rfl) ⟨kp,.inr ⟨nb,_,rfl,by rw[tmX,Xq];exact lS,ys,hy,Qi (λt t z=>z.ll) py⟩⟩)
end
section
variable {S:Sx}
def LD(s:List U)(h:Hs)(u:U)(a:Sx×Nat):Prop:=∃p w q,u=.ref p/\h[p]?=some (.tup [w,.ref q,iU (a.2:Nat)])/\a.2<=8/\PT s a.2 w a.1 h/\LS h q a.1
theorem LD.kp{a:Sx×Nat}(e:Kp g g')(z:LD s g u a):LD s g' u a:=by obtain⟨p,w,q,a,b,c,t,l⟩:=z;exact⟨p,w,q,a,e _ _ b,c,t.kp e,l.kp e⟩
def LD.lp{a:Sx×Nat}(z:LD s g u a):LP s g u a.1:=by obtain⟨p,w,q,x,b,c,t,l⟩:=z;exact⟨p,w,q,a.2,x,b,c,t,l⟩
def QgM{γ:Type}{P:α->γ->Prop}{f:β->γ}{xs:List α}{ys:List β}(h:Paired (λa b=>P a (f b)) xs ys):Paired P xs (ys.map f):=by
 induction h with
 |nil=>exact .nil
 |cons a _ ih=>exact .cons a ih
def Qn8{xs:List α}{n:Int}(h:0<=n):QaT xs (some n) none=xs.drop n.toNat:=by
 have e1:Z1 xs.length 0 (some n)=min n.toNat xs.length:=by simp only[Z1];rw[if_neg (by lia)]
 have e2:Z1 xs.length xs.length none=xs.length:=rfl;unfold QaT
 rw[e1,e2,V9 (by rw[V7];exact Xi _)]
 rcases Nat.le_total n.toNat xs.length with l|l
 ·rw[Nat.min_eq_left l]
 ·rw[Nat.min_eq_right l,T1.mpr (Xi _),T1.mpr l]
def Qhk{a:Int}(hi:ρ[i]?=some (sR p))(hp:h[p]?=some (.lst us))(hj:ρ[j]?=some (some (iU a)))(ha:0<=a):ev T cf (d+2) (.sl (.var i) (some (.var j)) none) ρ h=some (.ref h.length,h++[.lst (us.drop a.toNat)]):=by
 rw[Qji,Qc hi,Qm];simp only[evO,Qc (d:=d) hj,Qm];rw[Qm7 hp,Qn8 ha]
def QmM{a:Int}(hi:ρ[i]?=some (sR p))(hp:h[p]?=some (.lst us))(hj:ρ[j]?=some (some (iU a)))(ha:0<=a):ev T cf (d+2) (.sl (.var i) none (some (.var j))) ρ h=some (.ref h.length,h++[.lst (us.take a.toNat)]):=by
 rw[Qji,Qc hi,Qm];simp only[evO,Qc (d:=d) hj,Qm];rw[Qm7 hp,Qel ha]
noncomputable def mxd:List Nat->Nat
 |[]=>0
 |a::r=>max a (mxd r)
theorem QgV:∀{l:List Nat} {a:Nat},a∈l->a<=mxd l
 |b::r,a,m=>by
  rcases Xg.mp m with rfl|m
  ·exact Nat.le_max_left _ _
  ·exact X7 (QgV m) (Nat.le_max_right _ _)
theorem QdU:∀(r:List Nat) (z:Nat),QcC (r.map λi:Nat=>(i:Int)) z=((max z (mxd r):Nat):Int)
 |[],z=>by simp[QcC,mxd]
 |a::r,z=>by
  have e:(if(a:Int) > z then(a:Int)else(z:Int))=((max z a:Nat):Int):=by
   by_cases c:z<a
   ·rw[if_pos (by lia),Nat.max_eq_right (by lia)]
   ·rw[if_neg (by lia),Nat.max_eq_left (by lia)]
  show QcC (r.map λi:Nat=>(i:Int)) (if(a:Int) > z then(a:Int)else(z:Int))=_;rw[e,QdU r,mxd,Nat.max_assoc]
theorem Qg0:∀l:List Nat,Jv (l.map λa:Nat=>iU a)=some (l.map λa:Nat=>(a:Int))
 |[]=>rfl
 |a::l=>by
  show(Jv (l.map λa:Nat=>iU a)).map _=_;rw[Qg0 l];rfl
def Qk6(l:List Nat):(Qjn (l.map λa:Nat=>(a:Int))).getD 0=(mxd l:Nat):=by
 cases l with
 |nil=>rfl
 |cons a r=>exact QdU r a
def y_maxd{a b:E}:ev T cf (d+1) (.maxd a b) ρ h=bd (ev T cf d a ρ h) λu h1=>bd (ev T cf d b ρ h1) λw h2=>Qk7 T u w h2:=by rw[ev]
def QnO{l:List Nat}(hp:h[p]?=some (.lst (l.map λa:Nat=>iU a))):Qk7 T (.ref p) (.int 0 0) h=some (iU (mxd l:Nat),h):=by
 simp only[Qk7,Qq hp,Qg0,Option.map,Qk6]
noncomputable abbrev Rz(k:Nat)(b:U)(c x4 x5 x6 x7 x8 x9 x10:Option U):Rho:=[some .scr,sR k,some b,c,x4,x5,x6,x7,x8,x9,x10]
def QdZ{As:List (Sx×Nat)}(pu:Paired (λu a=>LD s h u a) us As)(m:u∈us):∃(p:Nat) (w:U) (q:Nat) (a:Sx×Nat),u=.ref p/\h[p]?=some (.tup [w,.ref q,iU (a.2:Nat)])/\∀b,LD s h u b->b.2=a.2/\PT s b.2 w b.1 h:=by
 obtain⟨a,_,p,w,q,rfl,hp,_,_,_⟩:=Z3 pu m;refine⟨p,w,q,a,rfl,hp,λb z=>?_⟩;obtain⟨p',w',q',e,hp',_,pt,_⟩:=z;cases e;rw[hp]at hp';injection hp' with e;injection e with e;injection e with e1 e;injection e with e2 e;injection e with e3 e;injection e3 with e3 _;subst e1;exact⟨(Int.ofNat.inj e3).symm,pt⟩
section
variable {b:U}{c:Option U}{a:Int}{As:List (Sx×Nat)}
def QjI(hk:h[k]?=some (.lst us))(pu:Paired (λu a=>LD s h u a) us As)(lu:us.length<=900000)(ha:0<=a):∃h1,ev T cf (d+7) (.op .Add Wb (.maxd (.comp (.seq (.sl Vb (some Vf) none)) false none (.ix (.var 11) Wc)) Wa)) (Rz k b c x4 (some (iU a)) x6 x7 x8 x9 x10) h=some (iU ((mxd ((As.drop a.toNat).map (·.2))+1:Nat):Int),h1)/\Kp h h1:=by
 have pd:=Y4 pu a.toNat
 obtain⟨vs,h3,e,kp,pr⟩:=YJ (T:=T) (cf:=cf) (d:=d+4) (ρ:=Rz k b c x4 (some (iU a)) x6 x7 x8 x9 x10) (h:=h) (e:=.sl Vb (some Vf) none) (el:=.ix (.var 11) Wc) (λx u y=>∀a,LD s h x a->u=iU (a.2:Nat)) (λy y y y y z=>z) (Qhk rfl hk rfl ha) (.inl (Qq Qo)) (by rw[V7];lia) λx m g kp=>by
  obtain⟨p,w,q,a,rfl,hp,z⟩:=QdZ pd m
  exact⟨_,_,Yj (d:=d+2) (i:=11) (j:=2) (kp _ _ (kp1 _ _ hp)) rfl rfl,Kp.refl _,λb lb=>by rw[(z b lb).1]⟩
 have p2:=pm (P:=λu a=>LD s h u a) (R:=λu (b:Nat)=>u=iU (b:Nat)) (f:=λa:Sx×Nat=>a.2) pr pd;cases Z4 (g:=λb:Nat=>iU b) p2
 rw[show((mxd ((As.drop a.toNat).map (·.2))+1:Nat):Int)=1+(mxd ((As.drop a.toNat).map (·.2)):Nat)from by lia]
 exact⟨_,ZA (d:=d+6) y_c (y_maxd.trans (by rw[e,Qm,y_c,Qm];exact QnO Qo)) Y5,(kp1.trans kp).trans kp1⟩
def Qhl(hk:h[k]?=some (.lst us))(pu:Paired (λu a=>LD s h u a) us As)(lu:us.length<=900000)(ha:0<=a)(hD:∀b∈As.drop a.toNat,b.2<=D):∃p h1 ws,ev T cf (d+5) (.comp (.seq (.sl Vb (some Vf) none)) false none (.ix (.var 11) Wa)) (Rz k b c x4 (some (iU a)) x6 x7 x8 x9 x10) h=some (.ref p,h1)/\Kp h h1/\h1[p]?=some (.lst ws)/\Paired (λu S=>PT s D u S h1) ws ((As.drop a.toNat).map (·.1)):=by
 have pd:=Y4 pu a.toNat
 obtain⟨vs,h3,e,kp,pr⟩:=YJ (T:=T) (cf:=cf) (d:=d+4) (ρ:=Rz k b c x4 (some (iU a)) x6 x7 x8 x9 x10) (h:=h) (e:=.sl Vb (some Vf) none) (el:=.ix (.var 11) Wa) (λx u g=>∀b,(LD s h x b/\b∈As.drop a.toNat)->PT s D u b.1 g) (λy y y y k z b l=>(z b l).kp k) (Qhk rfl hk rfl ha) (.inl (Qq Qo)) (by rw[V7];lia) λx m g kp=>by
  obtain⟨p,w,q,a,rfl,hp,z⟩:=QdZ pd m;exact⟨_,_,Yj (d:=d+2) (i:=11) (j:=0) (kp _ _ (kp1 _ _ hp)) rfl rfl,Kp.refl _,λb lb=>((z b lb.1).2.le (hD b lb.2)).kp (kp1.trans kp)⟩
 have p2:=pm (P:=λu b=>LD s h u b/\b∈As.drop a.toNat) (R:=λu (S:Sx)=>PT s D u S h3) (f:=λa:Sx×Nat=>a.1) pr (Qdx pd);exact⟨_,_,vs,e,(kp1.trans kp).trans kp1,Qo,Qi (λy y z=>z.kp kp1) p2⟩
end
end
section
variable {v:Sv}
def QbG{tk:Nat}{ts:List Ti}(z:∀w,Ti.fr w∉ts):Asc ⟨tk,ts,[]⟩:=⟨W8 _,(λw m=>by cases m),λw m=>absurd m (z w)⟩
def Qos(z:Mk mk):Asc (spm mk):=by
 cases z with
 |bare ha=>
  simp only[Xg,Xl,X5]at ha
  rcases ha with rfl|rfl|rfl|rfl|rfl
  ·exact QbG (ts:=[.nw [0] _ 0]) λw m=>by cases Wx.mp m
  ·exact QbG (ts:=[.nw [0] _ 0]) λw m=>by cases Wx.mp m
  ·exact QbG (ts:=[.sm]) λw m=>by cases Wx.mp m
  ·exact QbG (ts:=[.nw [] 0 0]) λw m=>by cases Wx.mp m
  ·exact⟨Xi _,(λw m=>by cases Wx.mp m;rfl),λw m=>by cases m⟩
 | @lean a b c ha hb hc=>
  have e:spm [a,b,c]=⟨b-48,[.nw (lnP (b-48) c) (sd a) 0],[]⟩:=if_neg (by simp only[Xg,Xl,X5]at hb;lia)
  rw[e]
  exact QbG λw m=>by cases Wx.mp m
 | @grow a b ha hb=>
  exact QbG (ts:=grT (b-48) (sd a)) λw m=>by
   obtain⟨_,_,e⟩:=T0.mp m;cases e
 | @cross a b c e ha hb hc he=>
  exact QbG (ts:=crA (b-48) (e-48) (sd a) (lf c)++crB (b-48) (sd a) (lf c)) λw m=>by
   rcases Uq.mp m with m|m<;>(obtain⟨_,_,e⟩:=T0.mp m;cases e)
 | @keep a b ha hb=>
  have ab:asc [b]=true:=by
   simp only[Xg,Xl,X5]at hb
   rcases hb with rfl|rfl|rfl|rfl<;>rfl
  simp only[Xg,Xl,X5]at ha
  rcases ha with rfl|rfl
  ·exact⟨Xi _,(λw m=>by cases Wx.mp m;exact ab),λw m=>by cases m⟩
  ·exact⟨W8 _,(λw m=>by cases m),λw m=>by cases Wx.mp m;exact ab⟩
def Qdh(sp:Sp):(spS sp).length=10:=rfl
section
variable {b:U}{c:Option U}{a:Int}
noncomputable def eN:E:=.op .Add Vb (.lst [(.tup [(.tup [(.c (.str QjE)),(.call 46 [Vk])]),(.comp (.seq (.call 53 [Vk])) false none (.lst [(.var 11),Wa,Wa,Wa,Wa])),Wa])])
def QbN{a:E}(ea:ev T cf d a ρ h=some (u,h1)):ev T cf (d+1) (.lst [a]) ρ h=some (.ref h1.length,h1++[.lst [u]]):=by rw[y_lst];simp only[evs,ea,Qm]
def QmN(z:Mk mk)(hk:h[k]?=some (.lst us))(lu:us.length<=900000):∃h1 k' w,ev (tbG xx s) (Qa (tbG xx s) (n+4)) (d+9) eN (Rz k b c x4 x5 x6 x7 x8 x9 (sS mk)) h=some (.ref k',h1)/\Kp h h1/\h1[k']?=some (.lst (us++[w]))/\LD s h1 w (spS (spm mk),0):=by
 have ea:ev (tbG xx s) (Qa (tbG xx s) (n+4)) (d+8) Vb (Rz k b c x4 x5 x6 x7 x8 x9 (sS mk)) h=some (.ref k,h):=Qc rfl;obtain⟨o,tl,e1⟩:=Qgd (xx:=xx) (s:=s) (n:=n) (hs:=h) z;have e2:=QbM (T:=(tbG xx s)) (cf:=Qa (tbG xx s) (n+4)) (d:=d+5) (ρ:=Rz k b c x4 x5 x6 x7 x8 x9 (sS mk)) (h:=h) (a:=.c (.str QjE)) y_c (QH (d:=d+4) (e_1 (Qc (i:=10) rfl)) e1);obtain⟨r3,h3,e3,k3,cc,⟨p3,rfl,hp3⟩,ec⟩:=QqG (xx:=xx) (s:=s) (n:=n+3) (h:=h++[o]++[.tup [.str QjE,.ref h.length]]) z
 have lc:cc.length=10:=by have:=congrArg List.length ec;rw[Xq,Qdh]at this;exact this
 obtain⟨vs,h4,e4,k4,pr⟩:=YJ (T:=(tbG xx s)) (cf:=Qa (tbG xx s) (n+4)) (d:=d+5) (ρ:=Rz k b c x4 x5 x6 x7 x8 x9 (sS mk)) (e:=.call 53 [Vk]) (el:=.lst [(.var 11),Wa,Wa,Wa,Wa]) (λx u g=>∀i,x=iU i->Ll u (un i) g) (λy y y y k z i e=>(z i e).kp k) (QH (d:=d+4) (e_1 (Qc rfl)) e3) (.inl (Qq hp3)) (by rw[Xq,lc];decide) λx m g kp=>by
  obtain⟨i,_,rfl⟩:=Y7 m
  refine⟨.ref g.length,g++[.lst [iU i,iU 0,iU 0,iU 0,iU 0]],?_,kp1,λj e=>by cases e;exact⟨_,rfl,Qo,rfl⟩⟩
  have v1:ev (tbG xx s) (Qa (tbG xx s) (n+4)) (d+4) (.var 11) (Rz k b c x4 x5 x6 x7 x8 x9 (sS mk)++[some (iU i)]) g=some (iU i,g):=Qc rfl;rw[y_lst];simp only[evs,y_c,Qm,v1]
 have p2:Paired (λu v=>Ll u v h4) vs (spS (spm mk)):=by
  rw[<-ec];clear e3 hp3 ec lc e4
  induction cc generalizing vs with
  |nil=>cases pr;exact .nil
  |cons i cc ih=>cases pr with
   |cons a t=>exact .cons (a i rfl) (ih _ t)
 have K:=((kp1 (h:=h) (o:=o)).trans (kp1 (o:=.tup [.str QjE,.ref h.length]))).trans (k3.trans k4);have e5:=QbL (d:=d+6) e2 e4 (y_c (u:=iU 0))
 refine⟨_,_,_,ZA (d:=d+8) ea (QbN e5) (show opU _ _ _ _=_ from QcQ (kp1 _ _ (kp1 _ _ (kp1 _ _ (K _ _ hk)))) Qo (by simp only[Wm,W2];lia)),(((K.trans kp1).trans kp1).trans kp1).trans kp1,Qo,?_⟩
 have kk:=((kp1 (h:=h4) (o:=.lst vs)).trans (kp1 (o:=O.tup [.ref (h++[o]).length,.ref h4.length,iU 0]))).trans ((kp1 (o:=O.lst [.ref (h4++[O.lst vs]).length])).trans (kp1 (o:=O.lst (us++[.ref (h4++[O.lst vs]).length]))));refine⟨_,_,_,rfl,kp1 _ _ (kp1 _ _ Qo),W8 _,?_,Qdh _,vs,kp1 _ _ (kp1 _ _ (kp1 _ _ Qo)),Qi (λy y z=>z.kp kk) p2⟩;exact⟨_,_,o,spm mk,rfl,kk _ _ ((k3.trans k4) _ _ Qo),kk _ _ ((k3.trans k4) _ _ (kp1 _ _ Qo)),tl,Qos z,rfl⟩
end
end
section
variable {k9:Nat}{S:Sx}{Ss:List Sx}{v:Sv}{b:U}{c:Option U}{a N:Int}{As:List (Sx×Nat)}
def Qpp(s:List U)(L:Nat)(ρ:Rho)(h:Hs):Prop:=∃k b c x4 x5 x6 x7 x8 x9 x10 us As,ρ=Rz k b c x4 x5 x6 x7 x8 x9 x10/\h[k]?=some (.lst us)/\Paired (λu a=>LD s h u a) us As/\us.length<=L/\(b=.non\/BT s b h)
def Qn(s:List U)(L:Nat)(h:Hs):Fl->Rho->Hs->Prop:=λf ρ h1=>f=.next/\Kp h h1/\Qpp s L ρ h1
def Qn.kp{L:Nat}{f:Fl}(k:Kp h h1)(z:Qn s L h1 f ρ g):Qn s L h f ρ g:=⟨z.1,k.trans z.2.1,z.2.2⟩
def Xx.mp{ss:List Iv.S}{Q':Fl->Rho->Hs->Prop}(z:Xx T cf d ss ρ h Q)(f:∀a b c,Q a b c->Q' a b c):Xx T cf d ss ρ h Q':=by obtain⟨a,b,c,e,q⟩:=z;exact⟨a,b,c,e,f _ _ _ q⟩
def QaX(k:Kp h h1)(z:b=.non\/BT s b h):b=.non\/BT s b h1:=z.imp id (·.kp k)
noncomputable def eA:E:=.op .Add (.sl Vb none (some Vf)) (.lst [(.tup [(.tup [(.c (.str ZJ)),Vh,Vi]),Vj,Vg])])
def t58(hk:h[k]?=some (.lst us))(pu:Paired (λu a=>LD s h u a) us As)(lu:us.length<=84)(ha:0<=a)(hw:Sr w v h)(s6:s64 v)(hq:h[q]?=some (.lst ws))(pw:Paired (λu S=>PT s m u S h) ws Ss)(ne:ws≠[])(lw:ws.length<=900000)(zs:LS h k9 (tmX (fX Ss) v))(nb:¬bx (fX Ss) v)(lm:m+1<=8)(hb:b=.non\/BT s b h):
  Xx T cf (d+8) [.set 1 eA] (Rz k b c x4 (some (iU a)) (some (iU ((m+1:Nat):Int))) (some w) (sR q) (sR k9) x10) h (Qn s (us.length+1) h):=by
 have e1:=QmM (T:=T) (cf:=cf) (d:=d+3) (ρ:=Rz k b c x4 (some (iU a)) (some (iU ((m+1:Nat):Int))) (some w) (sR q) (sR k9) x10) (i:=1) (j:=5) rfl hk rfl ha;have e2:=QbN (T:=T) (cf:=cf) (d:=d+4) (QbL (d:=d+3) (QbL (d:=d+2) (ρ:=Rz k b c x4 (some (iU a)) (some (iU ((m+1:Nat):Int))) (some w) (sR q) (sR k9) x10) (h:=h++[.lst (us.take a.toNat)]) (y_c (u:=.str ZJ)) (Qc (i:=7) rfl) (Qc (i:=8) rfl)) (Qc (i:=9) rfl) (Qc (i:=6) rfl))
 refine Za (d:=d+6) (Q9 (ZA (d:=d+5) e1 e2 (show opU _ _ _ _=_ from QcQ (kp1 _ _ (kp1 _ _ (kp1 _ _ Qo))) Qo (by rw[Vz];simp only[Wm,W2];lia))) (Ju ⟨rfl,?_,_,b,c,x4,_,_,_,_,_,x10,_,As.take a.toNat++[(tmX (fX Ss) v,m+1)],rfl,Qo,?_,?_,?_⟩))
 ·exact((((kp1.trans kp1).trans kp1).trans kp1).trans kp1)
 ·have K1:=((kp1 (h:=h++[.lst (us.take a.toNat)]) (o:=.tup [.str ZJ,w,.ref q])).trans (kp1 (o:=.tup [.ref (h++[O.lst (us.take a.toNat)]).length,.ref k9,iU ((m+1:Nat):Int)]))).trans ((kp1 (o:=.lst [.ref (h++[O.lst (us.take a.toNat)]++[O.tup [.str ZJ,w,.ref q]]).length])).trans (kp1 (o:=.lst (us.take a.toNat++[.ref (h++[O.lst (us.take a.toNat)]++[O.tup [.str ZJ,w,.ref q]]).length]))));have K:=(kp1 (h:=h) (o:=.lst (us.take a.toNat))).trans K1;refine Y2 (Qi (λy y z=>z.kp K) (Qbe pu _)) (.cons ?_ .nil);refine⟨_,_,_,rfl,kp1 _ _ (kp1 _ _ Qo),lm,.inr ⟨Ss,v,⟨_,w,q,ws,rfl,kp1 _ _ (kp1 _ _ (kp1 _ _ Qo)),hw.mono K,s6,K _ _ hq,ne,lw,Qi (λy y z=>PT.kp K z) pw⟩,nb,rfl⟩,zs.kp K⟩
 ·rw[Wn,Vz];simp only[Wm,W2];lia
 ·exact QaX ((((kp1.trans kp1).trans kp1).trans kp1).trans kp1) hb
noncomputable def e9:E:=.call 55 [(.call 57 [(.sl Vb (some Vf) none)]),Vh]
def v_9(hk:h[k]?=some (.lst us))(pu:Paired (λu a=>LD s h u a) us As)(ha:0<=a)(hw:Sr w v h)(s6:s64 v):∃r h1,ev (tbG xx s) (Qa (tbG xx s) (n+2)) (d+4) e9 (Rz k b c x4 (some (iU a)) x6 (some w) x8 x9 x10) h=some (r,h1)/\Kp h h1/\((bx (fX ((As.drop a.toNat).map (·.1))) v/\r=.non)\/(¬bx (fX ((As.drop a.toNat).map (·.1))) v/\∃k,r=.ref k/\LS h1 k (tmX (fX ((As.drop a.toNat).map (·.1))) v))):=by
 have e1:=Qhk (T:=(tbG xx s)) (cf:=Qa (tbG xx s) (n+2)) (d:=d) (ρ:=Rz k b c x4 (some (iU a)) x6 (some w) x8 x9 x10) (i:=1) (j:=5) rfl hk rfl ha;obtain⟨_,h1,e2,k1,q1,rfl,z1⟩:=Qpi (xx:=xx) (s:=s) (n:=n) (h:=h++[.lst (us.drop a.toNat)]) (Ss:=(As.drop a.toNat).map (·.1)) Qo (QgM (Qi (λy y z=>(z.kp kp1).lp) (Y4 pu a.toNat)));obtain⟨r,h2,e3,k2,z2⟩:=QqE (xx:=xx) (s:=s) (n:=n+1) z1 (hw.mono (kp1.trans k1)) s6;exact⟨r,h2,QH (d:=d+3) (e_2 (QH (d:=d+2) (e_1 e1) e2) (Qc rfl)) e3,(kp1.trans k1).trans k2,z2⟩
def QgY{u:U}:Zi T .Is u .non h=some (decide (u=.non)):=rfl
noncomputable def bA:List Iv.S:=[(.set 7 (.call 54 [(.op .FloorDiv Ve (.c (.int 12 0)))])),(.set 8 (.comp (.seq (.sl Vb (some Vf) none)) false none (.ix (.var 11) Wa))),(.set 9 e9),(.ite (.cmp .Is Vj (.c .non)) [(.set 2 (.tup [(.c (.str ZJ)),Vh,Vi])),(.set 7 (.tup [(.op .Add Wc (.op .Mod (.op .FloorDiv Ve (.c (.int 60 0))) Wf)),Wa,Wa,Wa,Wa])),(.set 9 e9)] []),(.set 1 eA)]
def ix0{As:List (Sx×Nat)}(l:As.length=us.length)(la:a.toNat<us.length):(As.drop a.toNat).map (·.1)≠[]:=by
 intro e;have:=congrArg List.length e;simp only[Xq,V7,W2]at this;lia
def Qpw(hk:h[k]?=some (.lst us))(pu:Paired (λu a=>LD s h u a) us As)(lu:us.length<=84)(ha:0<=a)(la:a.toNat<us.length)(hN:0<=N)(hm:∀b∈As.drop a.toNat,b.2<=m)(lm:m+1<=8)(hb:b=.non\/BT s b h):
  Xx (tbG xx s) (Qa (tbG xx s) (n+2)) (d+16) bA (Rz k b c (some (iU N)) (some (iU a)) (some (iU ((m+1:Nat):Int))) x7 x8 x9 x10) h (Qn s (us.length+1) h):=by
 obtain⟨w,h1,e1,k1,v,sw,s6⟩:=QqF (xx:=xx) (s:=s) (n:=n+1) (h:=h) (x:=N / 12) (by lia)
 obtain⟨q,h2,ws,e2,k2,hq,pw⟩:=Qhl (T:=(tbG xx s)) (cf:=Qa (tbG xx s) (n+2)) (d:=d+8) (b:=b) (c:=c) (x4:=some (iU N)) (x6:=some (iU ((m+1:Nat):Int))) (x7:=some w) (x8:=x8) (x9:=x9) (x10:=x10) (k1 _ _ hk) (Qi (λy y z=>z.kp k1) pu) (by lia) ha hm
 have K2:=k1.trans k2;have pu2:=Qi (λy y z=>LD.kp K2 z) pu
 have nws:ws≠[]:=λe=>by
  subst e;have:=Qx pw;exact ix0 (Qx pu).symm la (List.length_eq_zero_iff.mp this.symm)
 have lws:ws.length<=900000:=by
  rw[Qx pw,Xq,V7,<-Qx pu];lia
 obtain⟨r3,h3,e3,k3,z3⟩:=v_9 (xx:=xx) (s:=s) (n:=n) (d:=d+8) (b:=b) (c:=c) (x4:=some (iU N)) (x6:=some (iU ((m+1:Nat):Int))) (x8:=sR q) (x9:=x9) (x10:=x10) (K2 _ _ hk) pu2 ha (sw.mono k2) s6;have K3:=K2.trans k3
 refine Za (d:=d+14) (Q9 (QH (d:=d+13) (e_1 (Qau (d:=d+11) (Qc rfl) (by decide))) e1) (Za (d:=d+13) (Q9 e2 (Za (d:=d+12) (Q9 e3 ?_)))))
 rcases z3 with⟨bad,rfl⟩|⟨nb,k9,rfl,zs⟩
 ·obtain⟨Yyy,hY⟩:∃Yyy,Yyy=2+N / 60 % 5:=⟨_,rfl⟩;have sY:Sr (.ref (h3++[O.tup [.str ZJ,w,.ref q]]).length) (un Yyy) (h3++[O.tup [.str ZJ,w,.ref q]]++[O.tup [iU Yyy,iU 0,iU 0,iU 0,iU 0]]):=⟨_,rfl,Qo,rfl⟩;have k35:Kp h3 (h3++[O.tup [.str ZJ,w,.ref q]]++[O.tup [iU Yyy,iU 0,iU 0,iU 0,iU 0]]):=kp1.trans kp1
  have s6Y:s64 (un Yyy):=λi m=>by
   simp only[un,Xg,Xl,X5]at m
   exact Qmj (by lia) (by lia)
  have zb:BT s (.ref h3.length) (h3++[O.tup [.str ZJ,w,.ref q]]++[O.tup [iU Yyy,iU 0,iU 0,iU 0,iU 0]]):=⟨_,v,⟨_,w,q,ws,rfl,kp1 _ _ Qo,((sw.mono k2).mono k3).mono k35,s6,k35 _ _ (k3 _ _ hq),nws,lws,Qi (λy y z=>(PT.kp k35 (PT.kp k3 z)).le (by lia)) pw⟩,bad⟩
  obtain⟨r6,h6,e6,k6,z6⟩:=v_9 (xx:=xx) (s:=s) (n:=n) (d:=d+5) (b:=.ref h3.length) (c:=c) (x4:=some (iU N)) (x6:=some (iU ((m+1:Nat):Int))) (x8:=sR q) (x9:=some .non) (x10:=x10) (k35 _ _ (K3 _ _ hk)) (Qi (λy y z=>LD.kp (k3.trans k35) z) pu2) ha sY s6Y;have K6:=(k3.trans k35).trans k6;refine QeO (d:=d+11) (Zu (d:=d+9) (Qc rfl) y_c QgY) ?_
  refine Za (d:=d+9) (Q9 (QbL (d:=d+8) y_c (Qc rfl) (Qc rfl)) (Za (d:=d+8) (Q9 (Qar (d:=d+7) (u0:=iU Yyy) (by rw[hY];exact ZA (d:=d+6) y_c (Qmd (a:=Ve) (λd=>Qc rfl) (by decide) (by decide) (d+3)) Y5) y_c y_c y_c y_c) (Za (d:=d+7) (Q9 e6 (Ju ?_))))))
  rcases z6 with⟨⟨x,mx,zx,zv⟩,_⟩|⟨nb,k9,rfl,zs⟩
  ·cases zv
  ·exact(t58 (K6 _ _ (K2 _ _ hk)) (Qi (λy y z=>LD.kp K6 z) pu2) lu ha (sY.mono k6) s6Y (K6 _ _ hq) (Qi (λy y z=>PT.kp K6 z) pw) nws lws zs nb lm (.inr (zb.kp k6))).mp λy y y z=>z.kp (K2.trans K6)
 ·refine QeO (d:=d+11) (Zu (d:=d+9) (Qc rfl) y_c QgY) ?_;exact Ju (d:=d+10) ((t58 (K3 _ _ hk) (Qi (λy y z=>z.kp k3) pu2) lu ha ((sw.mono k2).mono k3) s6 (k3 _ _ hq) (Qi (λy y z=>PT.kp k3 z) pw) nws lws zs nb lm (QaX K3 hb)).mp λy y y z=>z.kp K3)
end
section
variable {S:Sx}{b:U}{c:Option U}{a N z:Int}{As:List (Sx×Nat)}{M:Nat}
noncomputable def bB:List Iv.S:=[(.set 10 (.call 52 [(.op .Mod (.op .Mult (.op .Add (.op .FloorDiv Ve Wd) Wf) (.c (.int 48271 0))) (.c (.int 2147483647 0)))])),(.set 1 eN)]
noncomputable def tQ:E:=.and (.cmp .Eq (.op .Mod Ve Wd) Wc) (.and (.cmp .NotEq Vb (.lst [])) (.cmp .Lt Vg (.c (.int 9 0))))
def t_C(hk:h[k]?=some (.lst us)):∃f h1,evT T cf (d+6) tQ (Rz k b c (some (iU N)) x5 (sN M) x7 x8 x9 x10) h=some (f,h1)/\Kp h h1/\(f=true->us≠[]/\M<9):=by
 have e1:evT T cf (d+5) (.cmp .Eq (.op .Mod Ve Wd) Wc) (Rz k b c (some (iU N)) x5 (sN M) x7 x8 x9 x10) h=some (decide (N % 3=2),h):=QoK (d:=d+3) (Jt (d:=d+1) (Qc rfl) (by decide)) y_c
 by_cases c1:N % 3=2
 ·have e2:evT T cf (d+4) (.cmp .NotEq Vb (.lst [])) (Rz k b c (some (iU N)) x5 (sN M) x7 x8 x9 x10) h=some (!decide (us=[]),h++[.lst []]):=Zu (d:=d+2) (Qc rfl) (show ev T cf (d+2) (.lst []) _ h=some (.ref h.length,h++[.lst []])from rfl) (by
   show(eqA T _ _ _).map (!·)=_
   rw[Qi6 (kp1 _ _ hk) Qo];rfl)
  have e3:evT T cf (d+4) (.cmp .Lt Vg (.c (.int 9 0))) (Rz k b c (some (iU N)) x5 (sN M) x7 x8 x9 x10) (h++[.lst []])=some (decide ((M:Int) < 9),h++[.lst []]):=Zu (d:=d+2) (Qc rfl) y_c rfl;by_cases c2:us=[]
  ·exact⟨false,_,Qe7 e1 (Wv c1) (QeM e2 (by rw[Wv c2];rfl)),kp1,λz=>by cases z⟩
  ·exact⟨_,_,Qe7 e1 (Wv c1) (Qe7 e2 (by rw[X6 c2];rfl) e3),kp1,λz=>⟨c2,by have:=Wt z;lia⟩⟩
 ·exact⟨false,_,QeM e1 (X6 c1),Kp.refl _,λz=>by cases z⟩
def Qpv(hk:h[k]?=some (.lst us))(pu:Paired (λu a=>LD s h u a) us As)(lu:us.length<=84)(hb:b=.non\/BT s b h):
  Xx (tbG xx s) (Qa (tbG xx s) (n+4)) (d+12) bB (Rz k b c (some (iU N)) x5 x6 x7 x8 x9 x10) h (Qn s (us.length+1) h):=by
 obtain⟨m,hm,e1⟩:=QqH (xx:=xx) (s:=s) (n:=n+3) (x:=(N / 3+5)*48271 % 2147483647) (hs:=h)
 obtain⟨h1,k',w,e2,k2,hk',ld⟩:=QmN (xx:=xx) (s:=s) (n:=n) (d:=d) (b:=b) (c:=c) (x4:=some (iU N)) (x5:=x5) (x6:=x6) (x7:=x7) (x8:=x8) (x9:=x9) hm hk (by lia)
 refine Za (d:=d+10) (Q9 (QH (d:=d+9) (e_1 (Jt (d:=d+7) (ZA (d:=d+7) (ZA (d:=d+6) (Qau (d:=d+4) (Qc rfl) (by decide)) y_c Y5) y_c (QdK (.inr (by decide)))) (by decide))) e1) (Za (d:=d+9) (Q9 e2 (Ju ⟨rfl,k2,_,b,c,_,_,_,_,_,_,_,_,As++[(spS (spm m),0)],rfl,hk',Y2 (Qi (λy y z=>z.kp k2) pu) (.cons ld .nil),by rw[Wn];exact Xi _,QaX k2 hb⟩))))
noncomputable def e5:E:=.bi .max [Wa,(.op .Sub (.op .Sub (.bi .len [Vb]) Wb) (.op .Mod (.op .FloorDiv Ve Wd) We))]
def v_5(hk:h[k]?=some (.lst us)):∃a,ev T cf (d+6) e5 (Rz k b c (some (iU N)) x5 x6 x7 x8 x9 x10) h=some (iU a,h)/\0<=a/\(us≠[]->a.toNat<us.length):=by
 refine⟨if(us.length:Int) - 1-N / 3 % 4>0 then(us.length:Int) - 1-N / 3 % 4 else 0,?_,?_,λne=>?_⟩
 ·have e1:=ZA (d:=d+4) (o:=.Sub) (ZA (d:=d+3) (o:=.Sub) (QmO (T:=T) (cf:=cf) (d:=d+2) (ρ:=Rz k b c (some (iU N)) x5 x6 x7 x8 x9 x10) (Qc (i:=1) rfl) hk) (y_c (u:=.int 1 0)) Qk2) (Jt (d:=d+2) (j:=4) (Qau (d:=d+1) (j:=3) (Qc (i:=4) rfl) (by decide)) (by decide)) Qk2
  unfold e5;rw[YB];simp only[evs,y_c,Qm];rw[e1];rfl
 ·split<;>lia
 ·have:=List.length_pos_iff.mpr ne;split<;>lia
noncomputable def Qpn:List Iv.S:=[(.set 4 (.op .Mod Vd (.op .Pow (.c (.int 10 0)) (.c (.int 15 0))))),(.set 5 e5),(.set 6 (.op .Add Wb (.maxd (.comp (.seq (.sl Vb (some Vf) none)) false none (.ix (.var 11) Wc)) Wa))),(.ite tQ bA bB)]
def QoY{L:Nat}{f:Fl}(z:Qn s L h f ρ h1):Nq T cf (d+1) [] (Qn s L h) f ρ h1:=by
 obtain⟨rfl,z⟩:=z;exact Ju ⟨rfl,z⟩
def Qpx(hk:h[k]?=some (.lst us))(pu:Paired (λu a=>LD s h u a) us As)(lu:us.length<=84)(hb:b=.non\/BT s b h):
  Xx (tbG xx s) (Qa (tbG xx s) (n+4)) (d+30) Qpn (Rz k b (some (iU z)) x4 x5 x6 x7 x8 x9 x10) h (Qn s (us.length+1) h):=by
 obtain⟨a,e5,ha,la⟩:=v_5 (T:=(tbG xx s)) (cf:=Qa (tbG xx s) (n+4)) (d:=d+21) (b:=b) (c:=some (iU z)) (N:=z % 1000000000000000) (x5:=x5) (x6:=x6) (x7:=x7) (x8:=x8) (x9:=x9) (x10:=x10) hk
 obtain⟨h1,e6,k1⟩:=QjI (T:=(tbG xx s)) (cf:=Qa (tbG xx s) (n+4)) (d:=d+19) (b:=b) (c:=some (iU z)) (x4:=some (iU (z % 1000000000000000))) (x6:=x6) (x7:=x7) (x8:=x8) (x9:=x9) (x10:=x10) hk pu (by lia) ha
 obtain⟨f,h2,e7,k2,zf⟩:=t_C (T:=(tbG xx s)) (cf:=Qa (tbG xx s) (n+4)) (d:=d+19) (b:=b) (c:=some (iU z)) (N:=z % 1000000000000000) (x5:=some (iU a)) (M:=mxd ((As.drop a.toNat).map (·.2))+1) (x7:=x7) (x8:=x8) (x9:=x9) (x10:=x10) (k1 _ _ hk);have K:=k1.trans k2
 refine Za (d:=d+28) (Q9 (ZA (d:=d+27) (Qc rfl) (ZA (d:=d+26) y_c y_c (QfB (k:=15) (z:=1000000000000000) (by decide) (by decide) (by decide))) (QdL (by decide))) (Za (d:=d+27) (Q9 e5 (Za (d:=d+26) (Q9 e6 (QeO (d:=d+25) e7 ?_))))))
 cases f with
 |true=>
  obtain⟨ne,lm⟩:=zf rfl
  exact(Qpw (n:=n+2) (d:=d+9) (m:=mxd ((As.drop a.toNat).map (·.2))) (K _ _ hk) (Qi (λy y z=>z.kp K) pu) lu ha (la ne) (by lia) (λb mb=>QgV (T0.mpr ⟨b,mb,rfl⟩)) (by lia) (QaX K hb)).mp λy y y z=>QoY (z.kp K)
 |false=>exact(Qpv (n:=n) (d:=d+13) (K _ _ hk) (Qi (λy y z=>z.kp K) pu) lu (QaX K hb)).mp λy y y z=>QoY (z.kp K)
def QqC{ns:List Int}(es:s=ns.map iU):Pc (tbG xx s) (n+5) 58 [.scr] h λu h1=>∃p k b us As,u=.ref p/\h1[p]?=some (.tup [.ref k,b])/\h1[k]?=some (.lst us)/\Paired (λu a=>LD s h1 u a) us As/\us.length<=84/\(b=.non\/BT s b h1):=by
 have cu:QaT s none (some 84)=(ns.take 84).map iU:=by
  rw[es,Qel (by decide),List.map_take];rfl
 have e1:∀d g (ρ:Rho),ρ[0]?=some (some U.scr)->ev (tbG xx s) (Qa (tbG xx s) (n+4)) (d+2) (.sl Va none (some (.c (.int 84 0)))) ρ g=some (.ref g.length,g++[.lst ((ns.take 84).map iU)]):=λd g ρ h0=>by
  rw[Qji,Qc h0,Qm];simp only[evO,y_c,Qm];show some (_,g++[O.lst (QaT s none (some 84))])=_;rw[cu]
 have l84:((ns.take 84).map iU).length<=84:=by rw[Xq,Vz];lia
 refine Pc.of (Jr (Qf fnL[58] rfl rfl) (Za (d:=98) (Q9 (u:=.ref h.length) (h1:=h++[.lst []]) rfl (Za (d:=97) (Q9 y_c (QhY (d:=96) (body:=Qpn) (L:=(ns.take 84).map iU) (λi ρ hs=>Kp (h++[.lst []]++[.lst ((ns.take 84).map iU)]) hs/\Qpp s i ρ hs) (e1 94 _ _ rfl) (λi ρ hs z=>Qq (z.1 _ _ Qo)) ⟨Kp.refl _,_,_,none,none,none,none,none,none,none,none,[],[],rfl,kp1 _ _ Qo,.nil,Xi _,.inl rfl⟩ (λi x hi ρ hs z=>?_) λρ2 h2 z=>?_))))))
 ·obtain⟨kp,k,b,c,x4,x5,x6,x7,x8,x9,x10,us,As,rfl,hk,pu,lu,hb⟩:=z;obtain⟨y,_,rfl⟩:=Y7 (X2 hi);have li:=(Xh.mp hi).1
  obtain⟨f,ρ2,h2,e,rfl,k2,z2⟩:=Qpx (xx:=xx) (s:=s) (n:=n) (d:=66) (z:=y) (x4:=x4) (x5:=x5) (x6:=x6) (x7:=x7) (x8:=x8) (x9:=x9) (x10:=x10) hk pu (by lia) hb
  refine⟨_,ρ2,h2,rfl,e,kp.trans k2,?_⟩;obtain⟨k,b,c,x4,x5,x6,x7,x8,x9,x10,us',As,e,hk,pu,lu',hb⟩:=z2
  exact⟨k,b,c,x4,x5,x6,x7,x8,x9,x10,us',As,e,hk,pu,by lia,hb⟩
 ·obtain⟨kp,k,b,c,x4,x5,x6,x7,x8,x9,x10,us,As,rfl,hk,pu,lu,hb⟩:=z
  exact Zb (Q9 (QbM (Qc rfl) (Qc rfl)) ⟨((kp1.trans kp1).trans kp).trans kp1,_,k,b,us,As,rfl,Qo,kp1 _ _ hk,Qi (λw w z=>z.kp kp1) pu,by lia,QaX kp1 hb⟩)
end
section
variable {S:Sx}{Ss:List Sx}{b:U}{As:List (Sx×Nat)}{z0:Nat->List U->Hs->Option (Er×Hs)}{x4' x5':Option U}
noncomputable def Z0(h:Hs):U->U
 |.ref p=>(match h[p]? with
  |some (.tup (w::_))=>w
  |_=>.non)
 |_=>.non
def QlF{a:Sx×Nat}(z:LD s h u a):PT s 8 (Z0 h u) a.1 h:=by
 obtain⟨p,w,q,rfl,hp,l,pt,_⟩:=z
 have e:Z0 h (.ref p)=w:=by simp only[Z0,hp]
 rw[e];exact pt.le l
def Qns{P:U->α->Prop}{R:U->β->Prop}{f:U->U}{g:α->β}{us:List U}{As:List α}(z:Paired P us As)(k:∀u a,P u a->R (f u) (g a)):Paired R (us.map f) (As.map g):=by
 induction z with
 |nil=>exact .nil
 |cons a _ ih=>exact .cons (k _ _ a) ih
def Qgr(hk:h[k]?=some (.lst us))(pu:Paired (λu a=>LD s h u a) us As)(lu:us.length<=84)(kp:Kp h g):∃h1,ev T cf (d+4) (.comp (.seq Vb) false none (.ix Vg Wa)) [some .scr,sR k,some b,x3',x4',x5'] g=some (.ref h1.length,h1++[.lst (us.map (Z0 h))])/\Kp g h1:=by
 obtain⟨vs,h3,e,kq,pr⟩:=YJ (T:=T) (cf:=cf) (d:=d+3) (ρ:=[some .scr,sR k,some b,x3',x4',x5']) (h:=g) (e:=Vb) (el:=.ix Vg Wa) (λx u y=>u=Z0 h x) (λy y y y y z=>z) (Qc rfl) (.inl (Qq (kp _ _ hk))) (by lia) λx m g' kp'=>by
  obtain⟨p,w,q,a,rfl,hp,z⟩:=QdZ pu m
  exact⟨_,_,Yj (d:=d+1) (i:=6) (j:=0) (kp' _ _ (kp _ _ hp)) rfl rfl,Kp.refl _,by simp only[Z0,hp]⟩
 cases Z4 pr;exact⟨h3,e,kq⟩
def QkA:∀{d:Nat} {u:U} {S:Sx},PT s d u S h->∃p,u=.ref p
 |0,_,_,⟨p,_,_,_,e,_⟩=>⟨p,e⟩
 |_+1,_,_,.inl ⟨p,_,_,_,e,_⟩=>⟨p,e⟩
 |_+1,_,_,.inr ⟨_,_,⟨p,_,_,_,e,_⟩,_⟩=>⟨p,e⟩
def Qi5(hp:h[p]?=some (.lst xs))(hq:h[q]?=some (.lst xs))(z:∀x∈xs,∃p,x=.ref p):Zi T .Eq (.ref p) (.ref q) h=some true:=by
 have o4:YG T (.ref p) (.ref q) h=false:=by simp[YG,Qq hp,Qq hq]
 have o5:Y0 T (.ref p) (.ref q) h=true:=by
  simp only[Y0,Qq hp,Qq hq,decide_true,T6]
  exact Xz.mpr λx m=>by obtain⟨p,rfl⟩:=z x m;rfl
 show eqA T (.ref p) (.ref q) h=_;simp only[eqA,Qeh,o4,o5,Wp,Vn,Wg]
structure Hd(s:List U)(h:Hs)(k k3 k4:Nat)(b:U)(us:List U)(As:List (Sx×Nat))(h0:Hs):Prop where
 fk:h[k]?=some (O.lst us)
 pu:Paired (λu a=>LD s h0 u a) us As
 fl:us.length<=84
 fp:Kp h0 h
 f0:h0[k]?=some (O.lst us)
 fb:b=.non\/BT s b h
 f3:LS h k3 (fX (As.map (·.1)))
 f4:h[k4]?=some (O.lst (us.map (Z0 h0)))
def Hd.pt(z:Hd s h k k3 k4 b us As h0):Paired (λu S=>PT s 8 u S h) (us.map (Z0 h0)) (As.map (·.1)):=Qns z.pu λu a ld=>(QlF ld).kp z.fp
def Hd.mv(z:Hd s h k k3 k4 b us As h0)(e:Kp h h1):Hd s h1 k k3 k4 b us As h0:=⟨e _ _ z.fk,z.pu,z.fl,z.fp.trans e,z.f0,QaX e z.fb,z.f3.kp e,e _ _ z.f4⟩
def Hd.c40(z:Hd s h k k3 k4 b us As h0):Pc (tbG xx s) (n+23) 40 [.ref k4] h λr h1=>Ct (Su (tbG xx s)) h.length h1 r (fX (As.map (·.1))):=by
 obtain⟨r,h1,e,kp,c,_⟩:=Qom (xx:=xx) (s:=s) (P:=PT s 8) (n:=n+19) (λy y y y e z=>PT.kp e z) (λu S g y z=>Qmv (n:=n+3) 8 z) z.f4 z.pt;exact⟨r,h1,e,kp,c⟩
noncomputable def eQ:E:=.and (.cmp .IsNot Vc (.c .non)) (.or (.not (.call 62 [(.lst [Vc])])) (.not (.call 62 [(.op .Add Ve (.lst [Vc]))])))
def t_Q(hx:xx=QI (tbG x2 s) 22)(hx2:x2=QI (tbG x1 s) 21)(hx1:x1=QI (tbG x0 s) 3)(hx0:x0=QI (tbG z0 s) 2)(z:Hd s h k k3 k4 b us As h0):∃h1,evT (tbG xx s) (Qa (tbG xx s) (n+23)) (d+8) eQ [some .scr,sR k,some b,x3',sR k4,x5'] h=some (false,h1)/\Kp h h1:=by
 have e1:evT (tbG xx s) (Qa (tbG xx s) (n+23)) (d+7) (.cmp .IsNot Vc (.c .non)) [some .scr,sR k,some b,x3',sR k4,x5'] h=some (!decide (b=.non),h):=Zu (d:=d+5) (Qc rfl) y_c rfl
 rcases z.fb with e|zb
 ·exact⟨h,QeM e1 (by rw[Wv e];rfl),Kp.refl _⟩
 ·have nb:b≠.non:=by obtain⟨_,_,⟨p,_,_,_,rfl,_⟩,_⟩:=zb;intro e;cases e
  have v1:ev (tbG xx s) (Qa (tbG xx s) (n+23)) (d+3) (.lst [Vc]) [some .scr,sR k,some b,x3',sR k4,x5'] h=some (.ref h.length,h++[.lst [b]]):=QbN (d:=d+2) (Qc rfl);obtain⟨_,h2,c2,k2,rfl⟩:=Qpg (n:=n) (m3:=0) (m2:=0) (m1:=0) (m0:=0) (us:=[]) (Ss:=[]) hx hx2 hx1 hx0 (h:=h++[.lst [b]]) Qo .nil (zb.kp kp1);have zz:=z.mv (kp1.trans k2)
  have v2:ev (tbG xx s) (Qa (tbG xx s) (n+23)) (d+3) (.op .Add Ve (.lst [Vc])) [some .scr,sR k,some b,x3',sR k4,x5'] h2=some (.ref (h2++[O.lst [b]]).length,h2++[.lst [b]]++[.lst (us.map (Z0 h0)++[b])]):=ZA (d:=d+2) (Qc rfl) (QbN (d:=d+1) (Qc rfl)) (show opU _ _ _ _=_ from QcQ (kp1 _ _ zz.f4) Qo (by rw[Xq];have:=z.fl;simp only[Wm,W2];lia))
  obtain⟨_,h3,c3,k3,rfl⟩:=Qpg (n:=n) (m3:=0) (m2:=0) (m1:=0) (m0:=0) hx hx2 hx1 hx0 (h:=h2++[.lst [b]]++[.lst (us.map (Z0 h0)++[b])]) Qo (zz.mv (kp1.trans kp1)).pt ((zb.kp (kp1.trans k2)).kp (kp1.trans kp1))
  exact⟨h3,Qe7 e1 (by rw[X6 nb];rfl) (Qcq (d:=d+6) (YC (c:=true) (Qf7 (d:=d+4) rfl (QH (d:=d+3) (e_1 v1) c2))) (YC (c:=true) (Qf7 (d:=d+4) rfl (QH (d:=d+3) (e_1 v2) c3)))),(kp1.trans k2).trans ((kp1.trans kp1).trans k3)⟩
end
section
variable {a b:U}{o:E}{z0:Nat->List U->Hs->Option (Er×Hs)}
def QmI(v:ev T cf d e ρ h=some (.ref p,h1))(hp:h1[p]?=some (.tup [a,b])):ex T cf (d+1) (.unp i j e) ρ h=some (.next,(ρ.set i (some a)).set j (some b),h1):=by
 rw[QmG,v,Qm];simp only[tgt,hp,Option.map]
def QjB(vo:ev T cf d o ρ h=some (.ref q,h))(hq:h[q]?=some (.lst xs))(v:ev T cf d e ρ h=some (u,h))(l:xs.length<1000000):ex T cf (d+2) (.expr (.bm .append o [e])) ρ h=some (.next,ρ,h.set q (.lst (xs++[u]))):=by
 rw[Qt,Yl,vo,Qm,if_pos (Qkr hq)];simp only[evs,v,Qm,Ql3 hq l]
def QmK(vo:ev T cf d o ρ h=some (.ref q,h))(hq:h[q]?=some (.lst xs)):ex T cf (d+2) (.expr (.bm .clear o [])) ρ h=some (.next,ρ,h.set q (.lst [])):=by
 have r:QcS .clear (.ref q) h=true:=by simp only[QcS,hq];rfl
 rw[Qt,Yl,vo,Qm,if_pos r];simp only[evs,Qm,bmU,hq,bmL]
def QmR{a b:E}{r:Option (U×Hs)}(x:ev T cf d a ρ h=some (.bl true,h1))(y:ev T cf d b ρ h1=r):ev T cf (d+1) (.and a b) ρ h=r:=by rw[Zp,x,Qm];exact y
def QnP{ns:List Int}(es:s=ns.map iU)(hx:xx=QI (tbG x2 s) 22)(hx2:x2=QI (tbG x1 s) 21)(hx1:x1=QI (tbG x0 s) 3)(hx0:x0=QI (tbG z0 s) 2):Cc (tbG xx s) (n+24) 63 [.scr] [] λu y=>u=.bl true:=by
 obtain⟨_,h1,e1,_,p1,k,b,us,As,rfl,hp1,hk,pu,lu,hb⟩:=QqC (xx:=xx) (n:=n+18) (h:=[]) es;obtain⟨_,h2,e2,k2,k3,rfl,z2⟩:=Qpi (xx:=xx) (s:=s) (n:=n+21) (Ss:=As.map (·.1)) hk (QgM (Qi (λy y z=>z.lp) pu));obtain⟨h3,e3,kp3⟩:=Qgr (T:=(tbG xx s)) (cf:=Qa (tbG xx s) (n+23)) (d:=92) (b:=b) (x3':=sR k3) (x4':=none) (x5':=none) hk pu lu k2;have K3:=k2.trans (kp3.trans (kp1 (o:=.lst (us.map (Z0 h1)))));have Z:Hd s (h3++[.lst (us.map (Z0 h1))]) k k3 h3.length b us As h1:=⟨K3 _ _ hk,pu,lu,K3,hk,QaX K3 hb,z2.kp (kp3.trans kp1),Qo⟩;obtain⟨r5,h5,e5,k5,c5⟩:=Z.c40 (xx:=xx) (n:=n);have Z5:=Z.mv k5;obtain⟨_,h6,e6,k6,rfl⟩:=Qph (n:=n+21) c5 Z5.f3;have Z6:=Z5.mv k6;obtain⟨h7,e7,k7⟩:=t_Q (n:=n) (d:=85) (x3':=sR k3) (x5':=some r5) hx hx2 hx1 hx0 Z6;have K7:=k5.trans (k6.trans k7);obtain⟨p,a,a',kk,ff,s0,s1,A,B,rfl,hp,ra,rb,⟨ks,hks,mk,pk⟩,⟨fs,hfs,mf,pf⟩,l1,l2,eS⟩:=c5.kp (k6.trans k7)
 have lk:ks.length=4:=by rw[Qx pk,l1]
 have np:kk≠p:=λe=>by rw[e,hp]at hks;cases hks
 have hp8:(h7.set kk (.lst (ks++[a])))[p]?=some (.tup [a,a',.ref kk,.ref ff]):=by rw[X3 np];exact hp
 obtain⟨fs',hf8⟩:∃fs',(h7.set kk (.lst (ks++[a])))[ff]?=some (.lst fs'):=by
  by_cases c:kk=ff
  ·rw[c];exact⟨_,X9 (Xh.mp hfs).1⟩
  ·exact⟨fs,by rw[X3 c];exact hfs⟩
 have K8:Kp (h3++[.lst (us.map (Z0 h1))]) ((h7.set kk (.lst (ks++[a]))).set ff (.lst [])):=(K7.put mk).put mf;have Z8:=Z.mv K8;obtain⟨r9,h9,e9,k9,c9⟩:=Z8.c40 (xx:=xx) (n:=n);have Z9:=Z8.mv k9;obtain⟨_,h10,e10,k10,rfl⟩:=Qph (n:=n+21) c9 Z9.f3;have Z10:=Z9.mv k10;obtain⟨h11,e11,k11⟩:=Qgr (T:=(tbG xx s)) (cf:=Qa (tbG xx s) (n+23)) (d:=84) (b:=b) (x3':=sR k3) (x4':=sR h3.length) (x5':=sR p) hk pu lu Z10.fp
 have eq:=Qi5 (T:=(tbG xx s)) ((k11.trans kp1) _ _ Z10.f4) (Qo (h:=h11) (o:=.lst (us.map (Z0 h1)))) λx m=>by
  obtain⟨S,_,pt⟩:=Z3 Z.pt m;exact QkA pt
 refine Jr (Qf fnL[63] rfl rfl) (J1 (d:=99) (QmI (d:=98) (QH (d:=97) (e_1 (Qc rfl)) e1) hp1) ?_);refine Za (d:=97) (Q9 (QH (d:=96) (e_1 (Qc rfl)) e2) ?_);refine Za (d:=96) (Q9 e3 ?_);refine J1 (d:=96) (Ym (JP (QH (d:=93) (e_1 (Qc rfl)) e5))) ?_;refine J1 (d:=95) (JR (d:=93) (YC (d:=93) (c:=true) (Qf7 (d:=92) rfl (QH (d:=91) (e_2 (Qc rfl) (Qc rfl)) e6))) rfl) ?_;refine J1 (d:=94) (JR (d:=92) e7 rfl) ?_
 refine J1 (d:=93) (QjB (d:=91) (Yj (d:=89) (j:=2) hp rfl rfl) hks (Yj (d:=89) (j:=0) hp rfl rfl) (by lia)) ?_
 refine J1 (d:=92) (QmK (d:=90) (Yj (d:=88) (j:=3) hp8 rfl rfl) hf8) ?_;refine Zb (d:=90) (Q9 (u:=.bl true) (h1:=h11++[O.lst (us.map (Z0 h1))]) ?_ rfl);have v1:ev (tbG xx s) (Qa (tbG xx s) (n+23)) 89 (.call 60 [(.call 40 [Ve]),Vd]) [some .scr,sR k,some b,sR k3,sR h3.length,sR p] ((h7.set kk (.lst (ks++[a]))).set ff (.lst []))=some (.bl true,h10):=QH (d:=88) (e_2 (QH (d:=87) (e_1 (Qc rfl)) e9) (Qc rfl)) e10
 have v2:=Qhn (d:=88) (o:=.Eq) (ρ:=[some .scr,sR k,some b,sR k3,sR h3.length,sR p]) (Qc (TT:=(tbG xx s)) (cf:=Qa (tbG xx s) (n+23)) (d:=87) (i:=4) rfl) (by exact e11) eq
 exact QmR v1 v2
theorem QgL:∀ns:List Int,Paired (λ(u:U) (i:Int)=>∃r m,u=.int r m/\∃q:Int,i=r+m*q) (ns.map λi=>U.int i 0) ns
 |[]=>.nil
 |i::ns=>.cons ⟨i,0,rfl,0,by simp⟩ (QgL ns)
def comp(ns:List Int)(hl:ns.length<=63):∃s hs',Paired (λ(u:U) (i:Int)=>∃r m,u=.int r m/\∃q:Int,i=r+m*q) s ns/\Qa (tb s) 24 63 [.scr] []=some (.bl true,hs'):=by
 obtain⟨u,h,e,rfl⟩:=QnP (xx:=QI (QjV (ns.map iU)) 22) (ns:=ns) (n:=0) (x2:=QI (QjW (ns.map iU)) 21) (x1:=QI (QjX (ns.map iU)) 3) (x0:=QI (tbX (ns.map iU)) 2) (z0:=λz z z=>none) rfl rfl rfl rfl rfl;exact⟨_,h,QgL ns,e⟩
end
noncomputable def hfL:List Addr:=[38,45,66,73,80,87,127,134,141,181,188,195,235,242,249,256,296,303,310,315,355,362,369,374,414,421,428,468,475,482,489,529,536,543,550,684,689,696,701,706,711,718,723,730,735,740,753,760,767,774,781,788,795,802,809,814,819,824,829,836,843,850,857,862]
noncomputable def hcL:List Addr:=[48,111,165,219,280,339,398,452,513,574,586,599,619,631,643,662,674]
noncomputable def hkL:List Addr:=[22,23,24,677,741,742,743,744,745,746]
noncomputable def adr(a:Addr):Adr:=⟨λi=>hfL.getD i 0,λi=>hcL.getD i 0,λi=>hkL.getD i 0,a⟩
def Jl(s:List U)(x:Nat->List U->Hs->Option (Er×Hs)):Jp {tbX s with xf:=x} glo Qmy:=QeA (by repeat (first|exact .nil|refine .cons (by kernel_rfl) ?_))
def QlZ(s:List U):Jp (tb s) glo Qmy:=Jl s _
section
variable (w:World)(s:List U)(a:Addr)
def Qql:AllI (FnA (K w.params) (adr a)) 0 (tbX s).fns:=by(repeat (first|exact .nil|refine .cons ⟨by kernel_rfl,by kernel_rfl,.inl λv=>by kernel_rfl⟩ ?_))
def Qqw:AllI (λz (p:Nat×Df)=>∃fd x q st,FunD (K w.params) x q st ((adr a).f p.1) fd/\Qjv (adr a) (K w.params) fd p.2/\∀F,(tbX s).fns[p.1]?=some F->F.ps=p.2.ps/\F.np=p.2.np) 0 (tbX s).dfl:=.nil
def Qpd:Qjt (λk c=>coB (K w.params) (adr a) ((adr a).k k) c) 0 (tbX s).cons=true:=by kernel_rfl
def Qqd:AllI (λk z=>Qoz (K w.params) w ((adr a).k k)) 0 (tbX s).cons:=by repeat (first|exact .nil|refine .cons (by kernel_rfl) ?_)
def QpA:QmS (K w.params) (tbX s) (adr a) glo Qmy=true:=by kernel_rfl
end
def all_at{l:W.OpenLaw}(w:World){mg:Str->Option Value}{fa:Addr}{h:Heap}(X:(K w.params).In h)(G:h.Ns mainGlobals mg)(hfa:mg "law"=some (.ref fa)):
  ∃fd:FuncData,(∀(s:Shared) (v:Value),BindsTo s fd ⟨[v],[]⟩ [("_law_script",v)])/\∀base:Heap,(K w.params).In base->base.Ns mainGlobals mg->FnOk l.prog w (K w.params) mg base CX0 (0+2+2*2+2+2*3+2+2*21+2+2*22+2*24) fa fd ["_law_script"] (Qfc (K w.params)):= by
 have tp:∀(s:List U) (a:Addr),Top (tbX s) (adr a) (K w.params) mg glo Qmy:=λs a=>QjS X G (Qql w s a) (Qpd w s a) (QpA w s a) (Qqw w s a) (.cons ⟨⟨by kernel_rfl,by kernel_rfl,by kernel_rfl,by kernel_rfl,by kernel_rfl,by kernel_rfl,by kernel_rfl,by kernel_rfl⟩,⟨6,"row",rfl,by simp[Qpa,tbX],rfl,QfW (F:=⟨"__init__","NoSum.__init__",(Ql (top 18) 0),["self","row"],["self","row"],2,2,false,[]⟩) (C:=619) (CB:=586) (fI:=616) (by kernel_rfl) (by kernel_rfl) (Qgf (m:=1) rfl λs v X=>W.binds_K X (show _=Value.ref 609 from by kernel_rfl) (o:=tu #[.none] 0) (by kernel_rfl) rfl rfl rfl) rfl rfl rfl ⟨by kernel_rfl,by kernel_rfl,by kernel_rfl⟩ ⟨by kernel_rfl,by kernel_rfl,by kernel_rfl,by kernel_rfl,by kernel_rfl,by kernel_rfl,by kernel_rfl,by kernel_rfl⟩ (by kernel_rfl) (by kernel_rfl) (by kernel_rfl) (W.mg_of X G (by kernel_rfl)) (by kernel_rfl) (by kernel_rfl) (by kernel_rfl) (by kernel_rfl) (λz z z=>rfl) (by decide +kernel) (λz z z=>rfl) (λz z z=>⟨_,rfl⟩)⟩⟩ .nil)
 have tab:∀(s:List U) (a:Addr),Jx l.prog w (tbX s) (adr a) (K w.params):=λs a=>QjY (Qpd w s a) (Qqd w s a)
 cases hfa.symm.trans ((tp [] 0).gfn "law" 63 (by kernel_rfl))
 have hX0:∀(base:Heap) (s:List U) (a:Addr),XOk l.prog w (K w.params) mg base (tbX s) (adr a) 0:=λbase s a=>Qp3 (tp s a) rfl;have hX1:∀(base:Heap) (s:List U) (a:Addr),XOk l.prog w (K w.params) mg base (QjX s) (adr a) (0+2+2*2):=λbase s a=>Qmc (T:=tbX s) (T':=QjX s) (m:=2) rfl rfl rfl rfl rfl rfl rfl (tp s a) (tab s a) (Jl s _) (hX0 base s a);have hX2:∀(base:Heap) (s:List U) (a:Addr),XOk l.prog w (K w.params) mg base (QjW s) (adr a) (0+2+2*2+2+2*3):=λbase s a=>Qmc (T:=QjX s) (T':=QjW s) (m:=3) rfl rfl rfl rfl rfl rfl rfl (Qe2 (tp s a)) (tab s a) (Jl s _) (hX1 base s a);have hX3:∀(base:Heap) (s:List U) (a:Addr),XOk l.prog w (K w.params) mg base (QjV s) (adr a) (0+2+2*2+2+2*3+2+2*21):=λbase s a=>Qmc (T:=QjW s) (T':=QjV s) (m:=21) rfl rfl rfl rfl rfl rfl rfl (Qe2 (tp s a)) (tab s a) (Jl s _) (hX2 base s a);have hX:∀(base:Heap) (s:List U) (a:Addr),XOk l.prog w (K w.params) mg base (tb s) (adr a) (0+2+2*2+2+2*3+2+2*21+2+2*22):=λbase s a=>Qmc (T:=QjV s) (T':=tb s) (m:=22) rfl rfl rfl rfl rfl rfl rfl (Qe2 (tp s a)) (tab s a) (Jl s _) (hX3 base s a)
 exact⟨Qa6 (K w.params) ((adr 0).f 63),λs v=>.of_eq (by kernel_rfl),λbase z z=>Qli (tb:=tb) (adr:=adr) (L:=63) (F:=⟨"law","law",top 62,["_law_script"],["_law_script","_law_parts_here","_law_bad","_law_sums","_law_handed","_law_found"],1,6,true,b63⟩) (λz=>rfl) (λz=>rfl) rfl rfl (λz=>rfl) (λz=>rfl) (λs a=>Qe2 (tp s a)) (λs a=>tab s a) QlZ (hX base) (Qbv (F:=⟨"law","law",top 62,["_law_script"],["_law_script","_law_parts_here","_law_bad","_law_sums","_law_handed","_law_found"],1,6,true,b63⟩) (by kernel_rfl) (by kernel_rfl)).1 comp⟩
def walk{l:W.OpenLaw}{q:Program}{loose:List Str}{XP:(Str->Option Value)->Heap->Prop}{YP:World->Heap->Prop}{d:DefRec}{K:Params->W.Frag}(hn:l.most=some 63)(hdf:d.params.defaults=[])
  (hY:∀(w:World) (h:Heap),YP w h->(K w.params).In h)
  (F:∀(w:World) (mg:Str->Option Value) (fa:Addr) (h:Heap),(K w.params).In h->h.Ns mainGlobals mg->mg d.name=some (.ref fa) ->
   ∃fd:FuncData,(∀(s:Shared) (u:Value),BindsTo s fd ⟨[u],[]⟩ [("_law_script",u)])/\∀base:Heap,(K w.params).In base->base.Ns mainGlobals mg->FnOk l.prog w (K w.params) mg base CX0 (0+2+2*2+2+2*3+2+2*21+2+2*22+2*24) fa fd ["_law_script"] (Qfc (K w.params))):
  W.WalkO q loose XP YP l.row.toRowW d [] (λf vs=>PySem.call f vs):=
 L2.walk_of (n:=63) (k:=(0+2+2*2+2+2*3+2+2*21+2+2*22+2*24)) (x:="_law_script") (CX:=λy=>CX0) (sp:=λw=>Qfc (K w.params)) hn (by decide) hdf ⟨rfl,by decide,by decide⟩ hY F (λy y a ns hl hO hS=>⟨a,ns,rfl,hS,hO,hl,λy=>rfl⟩) λy y y y y z=>z
end K12
open PySem PySem.W PyProof.Rows
set_option maxRecDepth 100000 in
set_option maxHeartbeats 0 in
theorem PySem.Challenge.cw_stitchroom_k12_parts_counted_holds : PySem.Challenge.rw_stitchroom_k12_parts_counted.Holds := by
 w_on;refine W.holds_law (by kernel_rfl) λsaid=>?_
 refine holds_open (q:=K12.hq) (loose:=K12.hlo) (Xt:=K12.hXt) (XP:=XL K12.hq []) (Yf:=K12.hYf) (Ya:=K12.hYa) (YP:=Hook.says (kHook K12.K K12.KA K12.hKA)) (N:=13804) K12.hleft (Hook.of (kHook K12.K K12.KA K12.hKA)) (Hook.keeps (kHook K12.K K12.KA K12.hKA)) (λs e=>xl_of s (Bool.and_eq_true_iff.mp e).1) XL.keeps (by rfl) (by rfl) (by rfl) (λs e=>recFacts_of (Bool.and_eq_true_iff.mp e).2) (by rfl) (by first|assumption|decide +kernel) (by decide +kernel) ⟨rfl,rfl,rfl,rfl,rfl,by decide +kernel⟩ ?hw ?hc
 (case hw=>w_witness2)
 refine K12.walk (l:=PySem.Challenge.rw_stitchroom_k12_parts_counted) rfl rfl (λw h Yyy=>W.kIn_of Yyy) ?F
 case F=>
  intro w mg fa h KX G hmg;exact K12.all_at w KX G hmg
