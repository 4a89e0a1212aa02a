import PyProof.Rows.All
import KE.KDictOf
import KE.KIntText
import KE.KRevIter
import KE.KSortAsk
import KE.KTryMore
import KE.KTurns
import KE.LcSums
import PySem.Challenge.RW_stitchroom_k41_charts_read
set_option Elab.async false
set_option linter.all false
set_option maxRecDepth 100000
set_option maxHeartbeats 4000000
set_option bootstrap.genMatcherCode false
set_option compiler.extract_closed false
set_option genSizeOf false
def Xa:=@PySem.wpAny_bind
def Xb:=@Option.bind_eq_some_iff
def Xc:=@Option.map_eq_some_iff
def Xd:=@PySem.Heap.get?_push_of_some
def Xe:=@Bool.and_eq_true
def Xf:=@List.getElem?_eq_some_iff
def Xg:=@List.mem_cons_of_mem
def Xh:=@List.mem_cons_self
def Xi:=@Bool.false_ne_true
def Xj:=@PySem.wpAny_mono
def Xk:=@PySem.Heap.lt_size
def Xl:=@PySem.wpAny_pure
def Xm:=@Nat.le_refl
def Xn:=@List.getElem?_eq_getElem
def Xo:=@List.mem_cons
def Xp:=@Option.ite_none_right_eq_some
def Xq:=@List.mem_append_right
def Xr:=@Nat.lt_of_lt_of_le
def Xs:=@List.all_eq_true
def Xu:=@decide_eq_false
def Xv:=@List.size_toArray
def Xw:=@decide_eq_true_eq
def Xy:=@List.length_map
def Xz:=@List.getElem?_set_ne
def X0:=@PySem.Heap.get?_push_size
def X1:=@Nat.le_trans
def X2:=@Option.some.inj
def X3:=@decide_eq_true
def X4:=@Nat.ne_of_lt
def X5:=@List.mem_append
def X6:=@List.not_mem_nil
def X7:=@List.mem_of_getElem?
def X8:=@List.length_cons
def X9:=@List.length_append
def Wg:=@List.getElem?_append_left
def Wh:=@List.getElem?_set_self
def Wi:=@List.getElem?_append_right
def Wj:=@List.append_nil
def Wl:=@PySem.wpAny_Call_Name_kw
def Wm:=@beq_iff_eq
def Wn:=@Nat.lt_irrefl
def Wo:=@PySem.wpAny_holding
def Wp:=@List.mem_map
def Wq:=@beq_eq_false_iff_ne
def Wr:=@of_decide_eq_true
def Ws:=@List.map_cons
def Wt:=@if_true
def Wu:=@List.mem_singleton
def Wv:=@PySem.wpAny_field
def Ww:=@Ne.symm
def Wx:=@List.length_reverse
def Wy:=@Option.some.injEq
def Wz:=@Option.isSome_iff_exists
def W2:=@List.length_nil
def W3:=@Nat.lt_succ_self
def W4:=@PySem.F.excBase_ValueError
def W5:=@PySem.Heap.size_push
def W6:=@or_false
def W7:=@List.map_append
def W8:=@List.contains_iff_mem
def W9:=@Bool.false_eq_true
def Vi:=@List.lookup_cons
def Vj:=@List.mem_reverse
def Vk:=@Bool.and_eq_true_iff
def Vl:=@PySem.wpAny_truthy_bool
def Vm:=@List.getElem?_map
def Vn:=@Bool.not_eq_true'
def Vo:=@List.replicate_succ
def Vq:=@Nat.zero_le
def Vr:=@Nat.zero_add
def Vs:=@PySem.Heap.get?_update_self
def Vt:=@List.set_append_right
def Vu:=@Int.emod_lt_of_pos
def Vv:=@List.getElem?_eq_none_iff
def Vw:=@PySem.W.kia_one
def Vx:=@List.all_cons
def Vy:=@List.length_take
def Vz:=@Option.getD_some
def V0:=@PySem.wpAny_seqItems
def V1:=@PySem.Heap.get?_update_other
def V2:=@List.take_of_length_le
def V3:=@PyProof.Rows.callWith_type1
def V4:=@PySem.codeAny_mono
def V5:=@PySem.F.attrBase_ValueError
def V6:=@PySem.wpAny_setField_rec
def V7:=@Int.emod_nonneg
def V8:=@PySem.wpAny_standAt
def V9:=@PySem.F.slot_tuple_iterator_next
def Ua:=@PySem.wpAny_pyIter_list
def Ub:=@List.flatten_cons
def Uc:=@PySem.wpAny_call
def Ud:=@List.getElem?_of_mem
def Ue:=@List.cons_append
def Uf:=@List.getElem_mem
def Ug:=@PySem.mem_of_lookup
def Uh:=@List.take_succ_cons
def Ui:=@PySem.wpAny_callSpecial?_slot
def Uj:=@Option.map_some
def Uk:=@PySem.wpAny_pyIter_tuple
def Ul:=@Nat.le_succ
def Um:=@List.take_add_one
def Uo:=@Int.toNat_natCast
def Up:=@PySem.W.callWith_K
def Uq:=@List.map_map
def Ur:=@Nat.sub_self
def Us:=@List.getElem?_eq_none
def Ut:=@List.mem_append_left
def Uu:=@PySem.wpAny_execs_cons
def Uv:=@if_false
def Uw:=@PySem.codeAny_call_builtin
def Ux:=@List.mem_of_mem_take
def Uy:=@PySem.Calls.Name_function_global
def Uz:=@PySem.wpAny_attempt
def U0:=@List.filterMap_cons
def U1:=@PySem.wpAny_execs_nil
def U2:=@PySem.wpAny_passesOwn
def U3:=@Bool.eq_iff_iff
def U4:=@List.nil_append
def U5:=@Bool.or_eq_true
def U6:=@List.cons.injEq
def U7:=@PySem.Obj.data_mapFields
def U8:=@PySem.typeIs_str
def U9:=@PySem.call_meets
def Ta:=@List.getElem?_replicate
def Tb:=@List.reverse_cons
def Tc:=@PySem.wpAny_loadPart_at
def Td:=@PySem.wpAny_newObj_type
def Te:=@PySem.F.plainAttrs_str
def Tf:=@Option.map_eq_none_iff
def Th:=@List.length_drop
def Ti:=@Nat.le_of_not_lt
def Tj:=@beq_self_eq_true
def Tk:=@Array.toList_inj
def Tl:=@PySem.wpAny_call_entry
def Tn:=@List.length_replicate
def To:=@List.length_singleton
def Tp:=@List.lookup_cons_self
def Tq:=@List.mem_filter
def Ts:=@List.nodup_cons
def Tt:=@List.of_mem_zip
def Tu:=@List.map_nil
def Tv:=@Int.natCast_mul
def Tw:=@PySem.F.slot_zip_next
def Tx:=@List.mem_of_mem_drop
def Tz:=@Nat.mod_lt
def T0:=@ne_true_of_eq_false
def T1:=@List.mem_filterMap
def T2:=@List.any_cons
def T3:=@Int.mul_assoc
def Znn{α:Type}{P:Prop}{x:α}(h:(none:Option α)=some x):P:=nomatch h
namespace Iv
open PySem PySem.W PySem.Spec PyProof.Rows
variable {α β Y:Type}
noncomputable def YQ(tb:String->Option Builtin)(p:Program)(w:World)(n₀:Nat)(ann:Option Value):Nat->SharedT->Thread->Option SharedT
 |0,_,_=>none
 |n+1,s,t=>match through t with
  |true=>some s
  |false=>match stepOk n₀ ann t with
   |false=>none
   |true=>match stepT (denote tb) p w s t with
    |some (s',t')=>YQ tb p w n₀ ann n s' t'
    |none=>none
theorem Qag{tb:String->Option Builtin}{p:Program}{w:World}{n₀:Nat}{ann:Option Value}:∀{n:Nat} {s s':SharedT} {t:Thread},YQ tb p w n₀ ann n s t=some s'->topRun tb p w n₀ ann n s.abs t=some s'.abs
 |0,_,_,_,h=>by cases h
 |n+1,s,s',t,h=>by
  unfold YQ at h;unfold topRun
  cases he:through t with
  |true=>rw[he]at h;cases h;rfl
  |false=>
   rw[he]at h
   cases hk:stepOk n₀ ann t with
   |false=>rw[hk]at h;cases h
   |true=>
    rw[hk]at h
    cases hs:stepT (denote tb) p w s t with
    |none=>rw[hs]at h;cases h
    |some r=>obtain⟨s₂,t₂⟩:=r;rw[hs]at h;rw[stepT_spec hs];exact Qag h
structure BootT where
 t:Params->BT
 n:Nat
 life:Life
noncomputable def BootT.at(B:BootT)(w:World)(os:OsState):SharedT:=⟨B.t w.params,B.n,B.life,Array.mk [],boot_drawn,boot_toks,os⟩
noncomputable abbrev RunT(p q:Program)(loose:List Str)(Xt:Shared->Bool){α:Type}(Yf:Shared->α)(Ya:World->α)(N:Nat)(g0:Bool)(B:BootT)(m₀:Nat)(ann:Option Value)(w:World):Prop :=
 ∀os:OsState,(YQ treeTable p w m₀ ann N (B.at w os) (topStub p)).map (λs=>((staticsOk (importedModules p.main.body) (boot_heap w.params) s.abs.heap&&namesBound p s.abs.heap&&gensDone s.abs&&laidKept (boot_heap w.params) s.abs.heap),openSeen q loose (importedModules p.main.body) Xt g0 s.abs,Yf s.abs))=some (true,openGood q loose,Ya w)
def left_tree{p q:Program}{loose:List Str}{Xt:Shared->Bool}{Yf:Shared->α}{Ya:World->α}{N:Nat}{g0:Bool}{B:BootT}{m₀:Nat}{ann:Option Value}
  (op:opening p=plainProg p.main.scope.names) (hN:Nat.ble 600 N=true) (fm:∀s,fenceModules? p s=some s)
  (hB:∀w:World,absHeap (B.t w.params) B.n B.life=boot_heap w.params)
  (size:∀w:World,((boot_heap w.params).isNs mainGlobals,(boot_heap w.params).objs.size,(boot_heap w.params).nsMap mainGlobals "__annotations__")=(true,m₀,ann))
  (run:∀w,RunT p q loose Xt Yf Ya N g0 B m₀ ann w):LeftO p q loose Xt Yf Ya N g0:=λw=>by
 obtain⟨⟨h,gs,d,k,os⟩,e,e'⟩:=Xc.mp (boot_open (N:=N) op hN fm w)
 obtain⟨rfl,rfl,rfl,rfl⟩:h=boot_heap w.params/\gs=Array.mk []/\d=boot_drawn/\k=boot_toks:=by simpa using e'
 obtain⟨z1,z2,z3⟩:_/\_/\_:=by simpa only[Prod.mk.injEq]using size w
 obtain⟨s1,r,l⟩:=Xc.mp (run w os)
 obtain⟨l1,l2,l3⟩:_/\_/\_:=by simpa only[Prod.mk.injEq]using l
 have r:=Qag r
 have ab:(B.at w os).abs=⟨boot_heap w.params,Array.mk [],boot_drawn,boot_toks,os⟩:=by
  unfold BootT.at SharedT.abs;rw[hB w]
 rw[ab]at r
 have t:topFrom treeTable p w N ⟨boot_heap w.params,Array.mk [],boot_drawn,boot_toks,os⟩=some s1.abs:=by
  unfold topFrom;dsimp only;rw[z1,z2,z3,r]
  show(match staticsOk (importedModules p.main.body) (boot_heap w.params) s1.abs.heap&&namesBound p s1.abs.heap&&gensDone s1.abs&&laidKept (boot_heap w.params) s1.abs.heap with|true=>_|false=>_)=_
  rw[l1]
 unfold openEnds;rw[e];show(topFrom treeTable p w N _).map _=_;rw[t];exact congrArg some (Prod.ext l2 l3)
def Qc4{x:Option Y}{f:Y->α}{g:Y->β}{a:α}{b:β}(h1:x.map f=some a)(h2:x.map g=some b):x.map (λs=>(f s,g s))=some (a,b):=by
 cases x with
 |none=>cases h1
 |some s=>cases h1;cases h2;rfl
def QeH{x:Option Y}{f:Y->α×β}{a:α×β}(h1:x.map (λs=>(f s).1)=some a.1)(h2:x.map (λs=>(f s).2)=some a.2):x.map f=some a:=by
 cases x with
 |none=>cases h1
 |some s=>
  simp only[Uj,Wy]at h1 h2 ⊢;exact Prod.ext h1 h2
def QfP{γ δ τ:Type}{x:Option Y}{f:Y->α×β}{e:Y->τ×γ}{g:Y->δ}{a:α}{b:β}{c:γ}{d:δ}{t:τ}(h0:x.map e=some (t,c))(h1:x.map f=some (a,b))(h2:x.map g=some d):x.map (λs=>(e s).1)=some t/\x.map (λs=>((f s).1,(f s).2,(e s).2,g s))=some (a,b,c,d):=by
 cases x with
 |none=>cases h1
 |some s=>
  simp only[Uj,Wy]at h0 h1 h2 ⊢;rw[h0,h1,h2];exact⟨rfl,rfl⟩
section
variable (p q:Program)(loose:List Str)(Xt:Shared->Bool)(N:Nat)(g0:Bool)(B:BootT)(m₀:Nat)(ann:Option Value)
noncomputable abbrev Qim(w:World)(os:OsState):Option SharedT:=YQ treeTable p w m₀ ann N (B.at w os) (topStub p)
def PAt(w:World):Prop:=∀os:OsState,(Qim p N B m₀ ann w os).map (λs=>(staticsOk (importedModules p.main.body) (boot_heap w.params) s.abs.heap&&namesBound p s.abs.heap&&gensDone s.abs&&laidKept (boot_heap w.params) s.abs.heap,tabsOk q s.abs))=some (true,true)
def PB1(w:World):Prop:=∀os:OsState,(Qim p N B m₀ ann w os).map (λs=>(openSeen q loose (importedModules p.main.body) Xt g0 s.abs).1)=some (openGood q loose).1
def PB2(w:World):Prop:=∀os:OsState,(Qim p N B m₀ ann w os).map (λz=>let s:=z.abs;(s.heap.bltView,s.heap.keysOk (looseW q loose) ((recsOf q).map (·.name)) ((litsOf q).map (·.1)) ((clssOf q (looseW q loose)).map (·.name))&&s.heap.accountedOkI (importedModules p.main.body)&&s.heap.isNs mainGlobals&&s.heap.isNs builtinsNs&&tablesOk q s.heap&&Xt s&&(if g0 then s.gens.size==0 else !leftWithCleanup s.gens)))=some (bltViewBooted,true)
def PB3(w:World):Prop:=∀os:OsState,(Qim p N B m₀ ann w os).map (λz=>let s:=z.abs;(pinSeenD q (drecsOf q) s,plainSeenE q (looseW q loose) s,plainSeenD q loose s,wideSeen q s,clsSeenW q loose s))=some (pinGoodD (drecsOf q),plainGoodE q (looseW q loose),plainGoodD q loose,wideGood q,clsGoodW q loose)
abbrev PC(as:List Addr)(bs:List (Option Obj))(w:World):Prop:=∀os:OsState,(Qim p N B m₀ ann w os).map (λs=>as.map λa=>s.abs.heap.get? a)=some bs
variable {p q loose Xt N g0 B m₀ ann}
def parts_run{as:List Addr}{Ya:World->List (Option Obj)}{w:World}(a:PAt p q N B m₀ ann w)(b1:PB1 p q loose Xt N g0 B m₀ ann w)(b2:PB2 p q loose Xt N g0 B m₀ ann w)(b3:PB3 p q loose N B m₀ ann w)(c:PC p N B m₀ ann as (Ya w) w):
  RunT p q loose Xt (λs=>as.map s.heap.get?) Ya N g0 B m₀ ann w:=λos=>Qc4 (QfP (a os) (b2 os) (b3 os)).1 (Qc4 (QeH (b1 os) (QfP (a os) (b2 os) (b3 os)).2) (c os))
abbrev PL(p q:Program)(loose:List Str)(Xt:Shared->Bool)(N:Nat)(g0:Bool)(B:BootT)(m₀:Nat)(ann:Option Value)(w:World):Prop:=∀os:OsState,(Qim p N B m₀ ann w os).map (λs=>((staticsOk (importedModules p.main.body) (boot_heap w.params) s.abs.heap&&namesBound p s.abs.heap&&gensDone s.abs&&laidKept (boot_heap w.params) s.abs.heap),openSeen q loose (importedModules p.main.body) Xt g0 s.abs))=some (true,openGood q loose)
end
abbrev PX(p:Program)(N:Nat)(B:BootT)(m₀:Nat)(ann:Option Value){α:Type}(f:Shared->α)(a:α)(w:World):Prop:=∀os:OsState,(Qim p N B m₀ ann w os).map (λs=>f s.abs)=some a
noncomputable abbrev f1(q:Program)(s:Shared):=seen ((recsOf q).map (·.name)) (ownsOf q) [] {s with gens:=#[]}
noncomputable abbrev f2(s:Shared):=s.heap.bltView
noncomputable abbrev f3(q:Program)(loose:List Str)(s:Shared):Bool:=s.heap.keysOk (looseW q loose) ((recsOf q).map (·.name)) ((litsOf q).map (·.1)) ((clssOf q (looseW q loose)).map (·.name))
noncomputable abbrev f4(q:Program)(mods:List Str)(Xt:Shared->Bool)(g0:Bool)(s:Shared):Bool:=s.heap.accountedOkI mods&&s.heap.isNs mainGlobals&&s.heap.isNs builtinsNs&&tablesOk q s.heap&&Xt s&&(if g0 then s.gens.size==0 else !leftWithCleanup s.gens)
noncomputable abbrev f5(q:Program)(s:Shared):Bool:=tabsOk q s
noncomputable abbrev f6(q:Program)(loose:List Str)(s:Shared):=(pinSeenD q (drecsOf q) s,plainSeenE q (looseW q loose) s,plainSeenD q loose s)
noncomputable abbrev f7(q:Program)(loose:List Str)(s:Shared):=(wideSeen q s,clsSeenW q loose s)
noncomputable abbrev fA(p:Program)(w:World)(s:Shared):Bool:=staticsOk (importedModules p.main.body) (boot_heap w.params) s.heap&&namesBound p s.heap&&gensDone s&&laidKept (boot_heap w.params) s.heap
abbrev Lk1(p q:Program)(N:Nat)(B:BootT)(m₀:Nat)(ann:Option Value)(w:World):Prop:=PX p N B m₀ ann (λs=>(fA p w s,f1 q s,f2 s)) (true,expectedOf q,bltViewBooted) w
abbrev Lk2(p q:Program)(loose:List Str)(Xt:Shared->Bool)(N:Nat)(g0:Bool)(B:BootT)(m₀:Nat)(ann:Option Value)(w:World):Prop:=PX p N B m₀ ann (λs=>(f3 q loose s,f4 q (importedModules p.main.body) Xt g0 s,f5 q s,f6 q loose s,f7 q loose s)) (true,true,true,(pinGoodD (drecsOf q),plainGoodE q (looseW q loose),plainGoodD q loose),(wideGood q,clsGoodW q loose)) w
abbrev Lk3(p q:Program)(loose:List Str)(N:Nat)(B:BootT)(m₀:Nat)(ann:Option Value)(w:World):Prop:=PX p N B m₀ ann (λs=>(f3 q loose s,f5 q s)) (true,true) w
abbrev Lk5(p q:Program)(Xt:Shared->Bool)(N:Nat)(g0:Bool)(B:BootT)(m₀:Nat)(ann:Option Value)(w:World):Prop:=PX p N B m₀ ann (f4 q (importedModules p.main.body) Xt g0) true w
abbrev Lk4(p q:Program)(loose:List Str)(N:Nat)(B:BootT)(m₀:Nat)(ann:Option Value)(w:World):Prop:=PX p N B m₀ ann (λs=>(f6 q loose s,f7 q loose s)) ((pinGoodD (drecsOf q),plainGoodE q (looseW q loose),plainGoodD q loose),(wideGood q,clsGoodW q loose)) w
noncomputable abbrev Ql0(p q:Program)(loose:List Str)(Xt:Shared->Bool){α:Type}(Yf:Shared->α)(g0:Bool)(w:World)(s:Shared):=((staticsOk (importedModules p.main.body) (boot_heap w.params) s.heap&&namesBound p s.heap&&gensDone s&&laidKept (boot_heap w.params) s.heap),openSeen q loose (importedModules p.main.body) Xt g0 s,Yf s)
noncomputable abbrev vF(p q:Program)(w:World)(s:SharedT):=(fA p w s.abs,f1 q s.abs,f2 s.abs)
noncomputable abbrev gF(q:Program):=(true,expectedOf q,bltViewBooted)
noncomputable abbrev vK(p q:Program)(loose:List Str)(Xt:Shared->Bool)(g0:Bool)(s:SharedT):=(f3 q loose s.abs,f4 q (importedModules p.main.body) Xt g0 s.abs,f5 q s.abs)
noncomputable abbrev vL(q:Program)(loose:List Str)(s:SharedT):=(f6 q loose s.abs,f7 q loose s.abs)
noncomputable abbrev gL(q:Program)(loose:List Str):=((pinGoodD (drecsOf q),plainGoodE q (looseW q loose),plainGoodD q loose),(wideGood q,clsGoodW q loose))
end Iv
namespace L2
open PySem PySem.Spec PyProof.Rows
noncomputable def QM(s:Stmt)(j:Nat):Stmt:=match s with
 |.ClassDef _ _ _ body _ _ _ _ _ _ _=>body.getD j (.Pass ⟨0,0,0,0⟩)
 |_=>.Pass ⟨0,0,0,0⟩
noncomputable def Qbr(s:Stmt):Arguments:=match s with
 |.FunctionDef _ a _ _ _ _ _ _ _ _=>a
 |_=>{posonlyargs:=[],args:=[],vararg:=none,kwonlyargs:=[],kw_defaults:=[],kwarg:=none,defaults:=[]}
noncomputable def Zi(s:Stmt):List Stmt:=match s with
 |.FunctionDef _ _ b _ _ _ _ _ _ _=>b
 |_=>[]
noncomputable def Qh(s:Stmt):Scope:=match s with
 |.FunctionDef _ _ _ _ _ _ sc _ _ _=>sc
 |_=>{kind:=.function,names:=[],isGenerator:=false,isCoroutine:=false}
end L2
namespace K41
open PySem Iv L2
noncomputable def top(i:Nat):Stmt:=PySem.Challenge.pw_stitchroom_k41_charts_read.main.body.getD i (.Pass ⟨0,0,0,0⟩)
noncomputable abbrev so(x:String):Str:=Str.ofString x
noncomputable abbrev rf(a:Addr):Value:=.ref a
noncomputable abbrev sv(x:String)(n:Nat):Value:=.str (Str.ofString x) n
noncomputable abbrev dk(P:Params)(x:String)(n:Nat)(v:Value):DictEntry:=DictEntry.mk (PyData.keyHash P (Str.ofString x)) (.str (Str.ofString x) n) v
noncomputable abbrev tu(xs:Array Value)(n:Nat):Obj:=Obj.mk (.type "tuple") none (Data.seq xs n) #[]
noncomputable abbrev ob(c:String)(d:Data):Obj:=Obj.mk (.type c) none d #[]
noncomputable abbrev en(P:Params)(x:Str)(k v:Value):DictEntry:=DictEntry.mk (PyData.keyHash P x) k v
noncomputable abbrev de(P:Params)(x:Str)(n:Nat)(v:Value):DictEntry:=DictEntry.mk (PyData.keyHash P x) (.str x n) v
noncomputable abbrev fo(x q:String)(s:Stmt)(d:Value)(m:String)(n c:Nat):Obj:=⟨.type "function",none,.func (W.fnOf (so x) (so q) (Qbr s) (Zi s) (Qh s) d .none .none (sv m n) none (rf c) .none),#[]⟩
noncomputable abbrev z0:Value:=.int 0 0
noncomputable abbrev i0(n:Int):Value:=.int n 0
noncomputable abbrev hF:Value:=.bool false
noncomputable abbrev hT:Value:=.bool true
noncomputable abbrev sr(a:Addr):Option Value:=some (.ref a)
noncomputable abbrev hC(n:Nat):Value:=.str (Str.ofString "/claim/cut.py") n
noncomputable abbrev oc(d:Array Value):Obj:=Obj.mk (.type "code") none (Data.fields d) #[]
noncomputable abbrev cO(x q:String)(a l:Nat)(n r s u v y t:Value)(m d:Nat):Obj:=oc (#[sv x a,sv q (a+1),hC (a+2),i0 l,n,z0,z0,i0 3,r,hT,i0 181,s,u,v,y,t,i0 m,i0 l,hC d])
noncomputable abbrev dm(P:Params)(n:Nat)(x:String)(m:Nat):DictEntry:=dk P "__module__" n (sv x m)
noncomputable abbrev dq(P:Params)(n:Nat)(x:String)(m:Nat):DictEntry:=dk P "__qualname__" n (sv x m)
noncomputable abbrev hD(P:Params)(n:Nat):DictEntry:=dk P "__doc__" n .none
noncomputable abbrev dl(P:Params)(n:Nat)(x:Int)(m:Nat):DictEntry:=dk P "__firstlineno__" n (.int x m)
noncomputable abbrev ds(P:Params)(n:Nat)(a:Addr):DictEntry:=dk P "__static_attributes__" n (.ref a)
noncomputable abbrev dR(P:Params)(x:String)(n:Nat)(a:Addr):DictEntry:=dk P x n (.ref a)
noncomputable abbrev hp:Program:=PySem.Challenge.pw_stitchroom_k41_charts_read
noncomputable abbrev hr:W.RowW:=(PySem.Challenge.rw_stitchroom_k41_charts_read).row.toRowW
noncomputable def hB:Iv.BootT:=⟨λP=>(.node (W.boot_o_0 P) (.node (W.boot_o_1 P) (.node (W.boot_o_3 P) (.node (W.boot_o_7 P) .nil .nil) .nil) (.node (W.boot_o_5 P) (.node (W.boot_o_9 P) .nil .nil) .nil)) (.node (W.boot_o_2 P) (.node (W.boot_o_4 P) (.node (W.boot_o_8 P) .nil .nil) .nil) (.node (W.boot_o_6 P) (.node (W.boot_o_10 P) .nil .nil) .nil))),11,{}⟩
noncomputable def hq:Program:=W.view hp [0,2,3,4,5,6,7,8,9,10,11,12,13,15,16,18,19,20,21,22,23,24,25,26,27,28,29,30,32,33,34,35,36,37,38,39,40,41,42,43,45,46,47,48,49,50,51,53,54,55,56,57,58,59,60,61,62,63,64]
noncomputable abbrev hlo:List Str:=["NoSum","SIDE_SIGNS","CROSS_SIGNS","SIDES","CROSS_SIDES","MANY","CROSSED"]
noncomputable def hA(a:Nat)(o:Obj)(r:W.Frag):W.Frag:=(a,o)::r
noncomputable def fA(x q:String)(a l n c m:Nat)(s:Stmt)(v:Value)(u:String×Nat)(r:W.Frag):W.Frag:=(c,cO x q a l (i0 n) (rf (c-5)) (rf (c-4)) .none (rf (c-3)) (rf (c-2)) (rf (c-1)) m (m+1))::(c+1,fo x q s v u.1 u.2 c)::r
noncomputable def fB(x q:String)(a l n c m:Nat)(s:Stmt)(v:Value)(u:String×Nat)(r:W.Frag):W.Frag:=(c,cO x q a l (i0 n) (rf (c-3)) (rf (c-2)) .none .none .none (rf (c-1)) m (m+1))::(c+1,fo x q s v u.1 u.2 c)::r
noncomputable def fC(x:String)(a l n c m k:Nat)(u:String×Nat)(r:W.Frag):W.Frag:=fA x x a l n c m (top k) .none u r
noncomputable def fD(x:String)(a l n c m k:Nat)(u:String×Nat)(r:W.Frag):W.Frag:=fB x x a l n c m (top k) .none u r
noncomputable def oC(x:String)(c d t v:Nat)(b:List Value)(r:W.Frag):W.Frag:=(c,Obj.mk (.type "type") none (Data.cls (ClassData.mk (so x) [.type "object"] [rf c,.type "object"] d (so x) true [] b false none false)) #[none,none,some (sv x t),some (sv x v),some (.builtin "object.__new__"),some hT])::r
noncomputable def eC(x:String)(e c d y t v:Nat)(r:W.Frag):W.Frag:=(c,Obj.mk (.type "type") none (Data.cls (ClassData.mk (so x) [rf e] [rf c,rf e,.type "ValueError",.type "Exception",.type "BaseException",.type "object"] d (so x) true [] [] false none false)) #[sr y,none,some (sv x t),some (sv x v),some (.builtin "ValueError.__new__"),some hT])::r
noncomputable def gS(a c t:Nat)(u:Nat)(r:W.Frag):W.Frag:=(a,ob "getset_descriptor" (Data.fields #[sv "__dict__" t,rf c,.builtin "function.__dict__",.builtin "function.__dict__#set"]))::(a+1,ob "getset_descriptor" (Data.fields #[sv "__weakref__" u,rf c,.builtin "ExceptionGroup.__weakref__",.none]))::r
noncomputable abbrev mo0:String×Nat:=("stitchroom.figures",425)
noncomputable abbrev mo1:String×Nat:=("stitchroom.stitches",444)
noncomputable abbrev mo2:String×Nat:=("stitchroom.marks",1088)
noncomputable abbrev mo3:String×Nat:=("stitchroom.charts",1185)
noncomputable abbrev mo4:String×Nat:=("law_stitchroom_k41_charts_read",1220)
noncomputable def K:Params->W.Frag:=λP=>
 hA 2 (Obj.mk .none none (Data.dict #[] 0) #[]) <|
 hA 3 (ob "dict" (Data.dict #[(dk P "__name__" 165 (sv "law_stitchroom_k41_charts_read" 1220)),(hD P 166),(dk P "__package__" 167 .none),(dk P "__loader__" 168 (.builtin "__main__.__loader__#opaque")),(dk P "__spec__" 169 .none),(dR P "__annotations__" 170 6),(dR P "__builtins__" 171 4),(dk P "__file__" 173 (hC 172)),(dk P "__cached__" 174 .none),(dR P "_wall" 193 21),(dR P "StitchError" 213 31),(dR P "NoStitch" 229 44),(dR P "NoSum" 254 64),(dR P "NoPattern" 270 76),(dR P "TooMany" 286 88),(dR P "Miscount" 319 107),(dR P "NotLying" 335 119),(dR P "NoChart" 351 131),(dR P "Tangle" 376 150),(dR P "NoRow" 392 162),(dR P "NoName" 408 174),(dR P "NoPlace" 424 186),(dR P "FIGURES" 437 189),(dR P "figures_number" 443 194),(dR P "KEEPERS" 450 195),(dR P "SIDE_SIGNS" 458 196),(dR P "CROSS_SIGNS" 466 197),(dR P "Stitch" 500 221),(dR P "Plain" 567 284),(dR P "Slip" 625 338),(dR P "Over" 683 392),(dR P "Lean" 755 453),(dR P "Grow" 823 512),(dR P "Cross" 895 571),(dR P "Off" 953 625),(dR P "Keep" 1020 686),(dR P "Fetch" 1087 747),(dR P "SIDES" 1097 750),(dR P "CROSS_SIDES" 1105 751),(dR P "LEAN_WAYS" 1108 752),(dR P "CROSS_WAYS" 1111 753),(dR P "MANY" 1121 754),(dR P "CROSSED" 1134 755),(dR P "stitch" 1142 762),(dR P "stitch_of_text" 1150 769),(dR P "bare_stitch" 1157 776),(dR P "keeper_stitch" 1165 783),(dR P "sided_stitch" 1174 790),(dR P "crossing" 1184 797),(dk P "CAST" 1188 (sv "cast " 1187)),(dk P "NO_STITCHES" 1190 (sv "-" 1189)),(dk P "MOST_FIGURES" 1192 (.int 9 1191)),(dR P "read_chart" 1198 802),(dR P "row_of_text" 1204 807),(dR P "stitch_of_mark" 1211 814),(dR P "cast_of_text" 1219 821),(dR P "_law_cell_at" 1229 828),(dR P "_law_mark" 1238 835),(dR P "_law_rows" 1247 842),(dR P "_law_texts" 1253 847),(dR P "_law_no_row" 1261 854),(dR P "_law_no_cast" 1269 861),(dR P "_law_no_chart" 1278 868),(dR P "_law_spoiled" 1288 875),(dR P "_law_class_told" 1296 882),(dR P "_law_refused" 1305 889),(dR P "_law_read" 1311 894),(dR P "law" 1323 901)] 68)) <|
 hA 30 (ob "dict" (Data.dict #[(dm P 203 "stitchroom.errors" 194),(dl P 207 5 206),(ds P 208 29),(dR P "__weakref__" 210 32),(hD P 211)] 3)) <|
 hA 31 (Obj.mk (.type "type") none (Data.cls (ClassData.mk (so "StitchError") [(.type "ValueError")] [(rf 31),(.type "ValueError"),(.type "Exception"),(.type "BaseException"),(.type "object")] 30 (so "StitchError") true [] [(rf 44),(rf 64),(rf 76),(rf 88),(rf 107),(rf 119),(rf 131),(rf 150),(rf 162),(rf 174),(rf 186)] false none false)) #[(sr 22),none,(some (sv "StitchError" 196)),(some (sv "StitchError" 204)),(some (.builtin "ValueError.__new__")),(some hT)]) <|
 hA 32 (ob "getset_descriptor" (Data.fields #[(sv "__weakref__" 209),(rf 31),(.builtin "ExceptionGroup.__weakref__"),.none])) <|
 hA 43 (ob "dict" (Data.dict #[(dm P 221 "stitchroom.errors" 194),(dl P 225 7 224),(ds P 226 42),(hD P 227)] 2)) <|
 eC "NoStitch" 31 44 43 35 214 222 <|
 hA 63 (ob "dict" (Data.dict #[(dm P 237 "stitchroom.errors" 194),(dl P 241 9 240),(dR P "__init__" 249 61),(ds P 251 62),(hD P 252)] 2)) <|
 eC "NoSum" 31 64 63 47 230 238 <|
 hA 75 (ob "dict" (Data.dict #[(dm P 262 "stitchroom.errors" 194),(dl P 266 14 265),(ds P 267 74),(hD P 268)] 2)) <|
 eC "NoPattern" 31 76 75 67 255 263 <|
 hA 87 (ob "dict" (Data.dict #[(dm P 278 "stitchroom.errors" 194),(dl P 282 16 281),(ds P 283 86),(hD P 284)] 2)) <|
 eC "TooMany" 31 88 87 79 271 279 <|
 hA 106 (ob "dict" (Data.dict #[(dm P 294 "stitchroom.errors" 194),(dl P 298 18 297),(dR P "__init__" 310 104),(ds P 316 105),(hD P 317)] 2)) <|
 eC "Miscount" 31 107 106 91 287 295 <|
 hA 118 (ob "dict" (Data.dict #[(dm P 327 "stitchroom.errors" 194),(dl P 331 27 330),(ds P 332 117),(hD P 333)] 2)) <|
 eC "NotLying" 31 119 118 110 320 328 <|
 hA 130 (ob "dict" (Data.dict #[(dm P 343 "stitchroom.errors" 194),(dl P 347 29 346),(ds P 348 129),(hD P 349)] 2)) <|
 eC "NoChart" 31 131 130 122 336 344 <|
 hA 149 (ob "dict" (Data.dict #[(dm P 359 "stitchroom.errors" 194),(dl P 363 31 362),(dR P "__init__" 371 147),(ds P 373 148),(hD P 374)] 2)) <|
 eC "Tangle" 31 150 149 134 352 360 <|
 hA 161 (ob "dict" (Data.dict #[(dm P 384 "stitchroom.errors" 194),(dl P 388 36 387),(ds P 389 160),(hD P 390)] 2)) <|
 eC "NoRow" 31 162 161 153 377 385 <|
 hA 173 (ob "dict" (Data.dict #[(dm P 400 "stitchroom.errors" 194),(dl P 404 38 403),(ds P 405 172),(hD P 406)] 2)) <|
 eC "NoName" 31 174 173 165 393 401 <|
 hA 185 (ob "dict" (Data.dict #[(dm P 416 "stitchroom.errors" 194),(dl P 420 40 419),(ds P 421 184),(hD P 422)] 2)) <|
 eC "NoPlace" 31 186 185 177 409 417 <|
 hA 189 (tu #[(sv "0" 427),(sv "1" 428),(sv "2" 429),(sv "3" 430),(sv "4" 431),(sv "5" 432),(sv "6" 433),(sv "7" 434),(sv "8" 435),(sv "9" 436)] 0) <|
 fD "figures_number" 438 44 2 193 441 16 mo0 <|
 hA 195 (tu #[(sv "w" 446),(sv "x" 447),(sv "y" 448),(sv "z" 449)] 0) <|
 hA 196 (ob "dict" (Data.dict #[(DictEntry.mk 1 (.int 1 451) (sv "k" 452)),(DictEntry.mk (-2) (.int (-1) 454) (sv "p" 455))] 2)) <|
 hA 197 (ob "dict" (Data.dict #[(DictEntry.mk 1 (.int 1 459) (sv "c" 460)),(DictEntry.mk (-2) (.int (-1) 462) (sv "q" 463))] 2)) <|
 hA 220 (ob "dict" (Data.dict #[(dm P 474 "stitchroom.stitches" 444),(dl P 478 54 477),(dR P "ties" 485 211),(dR P "ends" 492 218),(ds P 493 219),(dR P "__dict__" 495 222),(dR P "__weakref__" 497 223),(hD P 498)] 4)) <|
 oC "Stitch" 221 220 467 475 [(rf 284),(rf 338),(rf 392),(rf 453),(rf 512),(rf 571),(rf 625),(rf 686),(rf 747)] <|
 gS 222 221 494 496 <|
 fA "__init__" "Plain.__init__" 513 63 2 238 518 (QM (top 22) 0) .none mo1 <|
 fA "mark" "Plain.mark" 542 75 1 266 546 (QM (top 22) 4) .none mo1 <|
 hA 283 (ob "dict" (Data.dict #[(dm P 508 "stitchroom.stitches" 444),(dl P 512 61 511),(dR P "__init__" 520 239),(dR P "takes" 527 246),(dR P "gives" 534 253),(dR P "ties" 541 260),(dR P "mark" 548 267),(dR P "mirrored" 555 274),(dR P "turned" 562 281),(ds P 564 282),(hD P 565)] 2)) <|
 hA 284 (Obj.mk (.type "type") none (Data.cls (ClassData.mk (so "Plain") [(rf 221)] [(rf 284),(rf 221),(.type "object")] 283 (so "Plain") true [] [] false none false)) #[(sr 226),none,(some (sv "Plain" 501)),(some (sv "Plain" 509)),(some (.builtin "object.__new__")),(some hT)]) <|
 fA "mark" "Slip.mark" 601 94 1 320 605 (QM (top 23) 3) .none mo1 <|
 hA 337 (ob "dict" (Data.dict #[(dm P 575 "stitchroom.stitches" 444),(dl P 579 83 578),(dR P "takes" 586 300),(dR P "gives" 593 307),(dR P "ties" 600 314),(dR P "mark" 607 321),(dR P "mirrored" 614 328),(dR P "turned" 621 335),(ds P 622 336),(hD P 623)] 2)) <|
 hA 338 (Obj.mk (.type "type") none (Data.cls (ClassData.mk (so "Slip") [(rf 221)] [(rf 338),(rf 221),(.type "object")] 337 (so "Slip") true [] [] false none false)) #[(sr 287),none,(some (sv "Slip" 568)),(some (sv "Slip" 576)),(some (.builtin "object.__new__")),(some hT)]) <|
 fA "mark" "Over.mark" 659 113 1 374 663 (QM (top 24) 3) .none mo1 <|
 hA 391 (ob "dict" (Data.dict #[(dm P 633 "stitchroom.stitches" 444),(dl P 637 102 636),(dR P "takes" 644 354),(dR P "gives" 651 361),(dR P "ties" 658 368),(dR P "mark" 665 375),(dR P "mirrored" 672 382),(dR P "turned" 679 389),(ds P 680 390),(hD P 681)] 2)) <|
 hA 392 (Obj.mk (.type "type") none (Data.cls (ClassData.mk (so "Over") [(rf 221)] [(rf 392),(rf 221),(.type "object")] 391 (so "Over") true [] [] false none false)) #[(sr 341),none,(some (sv "Over" 626)),(some (sv "Over" 634)),(some (.builtin "object.__new__")),(some hT)]) <|
 fA "__init__" "Lean.__init__" 696 123 4 407 703 (QM (top 25) 0) .none mo1 <|
 fA "mark" "Lean.mark" 728 141 1 435 732 (QM (top 25) 4) .none mo1 <|
 hA 452 (ob "dict" (Data.dict #[(dm P 691 "stitchroom.stitches" 444),(dl P 695 121 694),(dR P "__init__" 705 408),(dR P "takes" 712 415),(dR P "gives" 719 422),(dR P "ties" 727 429),(dR P "mark" 734 436),(dR P "mirrored" 741 443),(dR P "turned" 748 450),(ds P 752 451),(hD P 753)] 2)) <|
 hA 453 (Obj.mk (.type "type") none (Data.cls (ClassData.mk (so "Lean") [(rf 221)] [(rf 453),(rf 221),(.type "object")] 452 (so "Lean") true [] [] false none false)) #[(sr 395),none,(some (sv "Lean" 684)),(some (sv "Lean" 692)),(some (.builtin "object.__new__")),(some hT)]) <|
 fA "__init__" "Grow.__init__" 768 151 3 468 774 (QM (top 26) 0) .none mo1 <|
 fA "mark" "Grow.mark" 797 164 1 494 801 (QM (top 26) 4) .none mo1 <|
 hA 511 (ob "dict" (Data.dict #[(dm P 763 "stitchroom.stitches" 444),(dl P 767 149 766),(dR P "__init__" 776 469),(dR P "takes" 783 476),(dR P "gives" 790 483),(dR P "ties" 796 488),(dR P "mark" 803 495),(dR P "mirrored" 810 502),(dR P "turned" 817 509),(ds P 820 510),(hD P 821)] 2)) <|
 hA 512 (Obj.mk (.type "type") none (Data.cls (ClassData.mk (so "Grow") [(rf 221)] [(rf 512),(rf 221),(.type "object")] 511 (so "Grow") true [] [] false none false)) #[(sr 456),none,(some (sv "Grow" 756)),(some (sv "Grow" 764)),(some (.builtin "object.__new__")),(some hT)]) <|
 fA "__init__" "Cross.__init__" 836 174 5 527 844 (QM (top 27) 0) .none mo1 <|
 fA "mark" "Cross.mark" 867 192 1 553 871 (QM (top 27) 4) .none mo1 <|
 hA 570 (ob "dict" (Data.dict #[(dm P 831 "stitchroom.stitches" 444),(dl P 835 172 834),(dR P "__init__" 846 528),(dR P "takes" 853 535),(dR P "gives" 860 542),(dR P "ties" 866 547),(dR P "mark" 873 554),(dR P "mirrored" 880 561),(dR P "turned" 887 568),(ds P 892 569),(hD P 893)] 2)) <|
 hA 571 (Obj.mk (.type "type") none (Data.cls (ClassData.mk (so "Cross") [(rf 221)] [(rf 571),(rf 221),(.type "object")] 570 (so "Cross") true [] [] false none false)) #[(sr 515),none,(some (sv "Cross" 824)),(some (sv "Cross" 832)),(some (.builtin "object.__new__")),(some hT)]) <|
 fA "mark" "Off.mark" 929 211 1 607 933 (QM (top 28) 3) .none mo1 <|
 hA 624 (ob "dict" (Data.dict #[(dm P 903 "stitchroom.stitches" 444),(dl P 907 200 906),(dR P "takes" 914 587),(dR P "gives" 921 594),(dR P "ends" 928 601),(dR P "mark" 935 608),(dR P "mirrored" 942 615),(dR P "turned" 949 622),(ds P 950 623),(hD P 951)] 2)) <|
 hA 625 (Obj.mk (.type "type") none (Data.cls (ClassData.mk (so "Off") [(rf 221)] [(rf 625),(rf 221),(.type "object")] 624 (so "Off") true [] [] false none false)) #[(sr 574),none,(some (sv "Off" 896)),(some (sv "Off" 904)),(some (.builtin "object.__new__")),(some hT)]) <|
 fA "__init__" "Keep.__init__" 966 221 2 640 971 (QM (top 29) 0) .none mo1 <|
 fA "mark" "Keep.mark" 995 233 1 668 999 (QM (top 29) 4) .none mo1 <|
 hA 685 (ob "dict" (Data.dict #[(dm P 961 "stitchroom.stitches" 444),(dl P 965 219 964),(dR P "__init__" 973 641),(dR P "takes" 980 648),(dR P "gives" 987 655),(dR P "ends" 994 662),(dR P "mark" 1001 669),(dR P "mirrored" 1008 676),(dR P "turned" 1015 683),(ds P 1017 684),(hD P 1018)] 2)) <|
 hA 686 (Obj.mk (.type "type") none (Data.cls (ClassData.mk (so "Keep") [(rf 221)] [(rf 686),(rf 221),(.type "object")] 685 (so "Keep") true [] [] false none false)) #[(sr 628),none,(some (sv "Keep" 954)),(some (sv "Keep" 962)),(some (.builtin "object.__new__")),(some hT)]) <|
 fA "__init__" "Fetch.__init__" 1033 243 2 701 1038 (QM (top 30) 0) .none mo1 <|
 fA "mark" "Fetch.mark" 1062 255 1 729 1066 (QM (top 30) 4) .none mo1 <|
 hA 746 (ob "dict" (Data.dict #[(dm P 1028 "stitchroom.stitches" 444),(dl P 1032 241 1031),(dR P "__init__" 1040 702),(dR P "takes" 1047 709),(dR P "gives" 1054 716),(dR P "ties" 1061 723),(dR P "mark" 1068 730),(dR P "mirrored" 1075 737),(dR P "turned" 1082 744),(ds P 1084 745),(hD P 1085)] 2)) <|
 hA 747 (Obj.mk (.type "type") none (Data.cls (ClassData.mk (so "Fetch") [(rf 221)] [(rf 747),(rf 221),(.type "object")] 746 (so "Fetch") true [] [] false none false)) #[(sr 689),none,(some (sv "Fetch" 1021)),(some (sv "Fetch" 1029)),(some (.builtin "object.__new__")),(some hT)]) <|
 hA 750 (ob "dict" (Data.dict #[(dk P "k" 1090 (.int 1 1091)),(dk P "p" 1092 (.int (-1) 1094))] 2)) <|
 hA 751 (ob "dict" (Data.dict #[(dk P "c" 1098 (.int 1 1099)),(dk P "q" 1100 (.int (-1) 1102))] 2)) <|
 hA 752 (tu #[(sv "r" 1106),(sv "l" 1107)] 0) <|
 hA 753 (tu #[(sv "f" 1109),(sv "b" 1110)] 0) <|
 hA 754 (ob "dict" (Data.dict #[(dk P "2" 1112 (.int 2 1113)),(dk P "3" 1114 (.int 3 1115)),(dk P "4" 1116 (.int 4 1117))] 3)) <|
 hA 755 (ob "dict" (Data.dict #[(dk P "1" 1122 (.int 1 1123)),(dk P "2" 1124 (.int 2 1125)),(dk P "3" 1126 (.int 3 1127)),(dk P "4" 1128 (.int 4 1129))] 4)) <|
 fC "stitch" 1135 270 1 761 1140 38 mo2 <|
 fC "stitch_of_text" 1143 275 1 768 1148 39 mo2 <|
 fC "bare_stitch" 1151 286 1 775 1155 40 mo2 <|
 fC "keeper_stitch" 1158 296 2 782 1163 41 mo2 <|
 fC "sided_stitch" 1166 304 3 789 1172 42 mo2 <|
 fC "crossing" 1175 312 4 796 1182 43 mo2 <|
 fD "read_chart" 1193 320 1 801 1196 48 mo3 <|
 fD "row_of_text" 1199 327 1 806 1202 49 mo3 <|
 fC "stitch_of_mark" 1205 331 1 813 1209 50 mo3 <|
 fC "cast_of_text" 1212 336 1 820 1217 51 mo3 <|
 fC "_law_cell_at" 1222 342 2 827 1227 53 mo4 <|
 fC "_law_mark" 1230 346 1 834 1236 54 mo4 <|
 fC "_law_rows" 1239 358 1 841 1245 55 mo4 <|
 fD "_law_texts" 1248 366 2 846 1251 56 mo4 <|
 fC "_law_no_row" 1254 374 1 853 1259 57 mo4 <|
 fC "_law_no_cast" 1262 378 1 860 1267 58 mo4 <|
 fC "_law_no_chart" 1270 382 2 867 1276 59 mo4 <|
 fC "_law_spoiled" 1279 385 3 874 1286 60 mo4 <|
 fC "_law_class_told" 1289 394 1 881 1294 61 mo4 <|
 fC "_law_refused" 1297 399 1 888 1303 62 mo4 <|
 fD "_law_read" 1306 406 3 893 1309 63 mo4 <|
 fC "law" 1312 423 1 900 1321 64 mo4 []
noncomputable def KA:List Addr:=[2,3,30,31,32,43,44,63,64,75,76,87,88,106,107,118,119,130,131,149,150,161,162,173,174,185,186,189,193,194,195,196,197,220,221,222,223,238,239,266,267,283,284,320,321,337,338,374,375,391,392,407,408,435,436,452,453,468,469,494,495,511,512,527,528,553,554,570,571,607,608,624,625,640,641,668,669,685,686,701,702,729,730,746,747,750,751,752,753,754,755,761,762,768,769,775,776,782,783,789,790,796,797,801,802,806,807,813,814,820,821,827,828,834,835,841,842,846,847,853,854,860,861,867,868,874,875,881,882,888,889,893,894,900,901]
def hKA:∀P,KA=(K P).map (·.1):=λz=>by kernel_rfl
noncomputable abbrev hXt:Shared->Bool:=λs=>W.xlAt hq [] s&&W.recOk (W.RowW.records hr) s
def hop:W.opening hp=W.plainProg hp.main.scope.names:=by kernel_rfl
def hfm:∀s,PySem.fenceModules? hp s=some s:=λs=>by kernel_rfl
def hbo:∀w:World,W.absHeap (hB.t w.params) hB.n hB.life=W.boot_heap w.params:=λw=>by kernel_rfl
def hsz:∀w:World,((W.boot_heap w.params).isNs mainGlobals,(W.boot_heap w.params).objs.size,(W.boot_heap w.params).nsMap mainGlobals "__annotations__")=(true,11,some (.ref 6)):=λw=>by kernel_rfl
noncomputable abbrev hYf:Shared->List (Option Obj):=λs=>KA.map s.heap.get?
noncomputable abbrev hYa:World->List (Option Obj):=λw=>(K w.params).map λp=>some p.2
noncomputable abbrev hN:Nat:=15762
noncomputable abbrev hn6:Option Value:=some (.ref 6)
abbrev hS(w:World):Prop:=Iv.RunT hp hq hlo hXt hYf hYa 15762 true hB 11 (some (.ref 6)) w
noncomputable abbrev wF(w:World):World:=w.withFollow "special-get-raises" false
noncomputable abbrev wT(w:World):World:=w.withFollow "special-get-raises" true
def QhT(w:World):Iv.PC hp hN hB 11 hn6 KA (hYa (wF w)) (wF w):=λos=>by kernel_rfl
def QkA(w:World):Iv.PAt hp hq hN hB 11 hn6 (wF w):=λos=>by kernel_rfl
def Qkz(w:World):Iv.PB1 hp hq hlo hXt hN true hB 11 hn6 (wF w):=λos=>by kernel_rfl
def Qky(w:World):Iv.PB2 hp hq hlo hXt hN true hB 11 hn6 (wF w):=λos=>by kernel_rfl
def Qkx(w:World):Iv.PB3 hp hq hlo hN hB 11 hn6 (wF w):=λos=>by kernel_rfl
def QmO(w:World):hS (wF w):=Iv.parts_run (QkA w) (Qkz w) (Qky w) (Qkx w) (QhT w)
def QhS(w:World):Iv.PC hp hN hB 11 hn6 KA (hYa (wT w)) (wT w):=λos=>by kernel_rfl
def Qkw(w:World):Iv.PAt hp hq hN hB 11 hn6 (wT w):=λos=>by kernel_rfl
def Qkv(w:World):Iv.PB1 hp hq hlo hXt hN true hB 11 hn6 (wT w):=λos=>by kernel_rfl
def Qku(w:World):Iv.PB2 hp hq hlo hXt hN true hB 11 hn6 (wT w):=λos=>by kernel_rfl
def Qkt(w:World):Iv.PB3 hp hq hlo hN hB 11 hn6 (wT w):=λos=>by kernel_rfl
def QmN(w:World):hS (wT w):=Iv.parts_run (Qkw w) (Qkv w) (Qku w) (Qkt w) (QhS w)
def QoN:∀w,hS w:=W.byRow2 "special-get-raises" QmO QmN
def hleft:W.LeftO hp hq hlo hXt hYf hYa 15762 true:=Iv.left_tree hop (by decide) hfm hbo hsz QoN
end K41
namespace L2
open PySem PySem.Spec PyProof.Rows
section
abbrev Key:=Sum Int Str
noncomputable def Qbi:Key->Value->Bool
 |.inl k,v=>Value.isInt k v
 |.inr x,v=>Value.isStrOf x v
noncomputable def QnF(w:World):Key->Int
 |.inl k=>hashInt k
 |.inr x=>hashStr w x
def QC:∀{k:Key} {v:Value},Qbi k v=true->(∃i t,k=Sum.inl i/\v=Value.int i t)\/(∃x t,k=Sum.inr x/\v=Value.str x t)
 |.inl i,v,h=>by
  obtain⟨t,e⟩:=Value.isInt_shape (k:=i) (v:=v) h;exact .inl ⟨i,t,rfl,e⟩
 |.inr x,v,h=>by
  obtain⟨t,e⟩:=Value.isStrOf_shape (x:=x) (v:=v) h;exact .inr ⟨x,t,rfl,e⟩
def QaA(i:Int)(t:Tok):Qbi (.inl i) (.int i t)=true:=by simp[Qbi,Value.isInt]
def Qaz(x:Str)(t:Tok):Qbi (.inr x) (.str x t)=true:=by simp[Qbi,Value.isStrOf]
def Qkh(a b:Int):decide ((Sum.inl a:Key)=Sum.inl b)=(a==b):=by
 by_cases e:a=b
 ·subst e;simp
 ·have h:¬(Sum.inl a:Key)=Sum.inl b:=λq=>e (Sum.inl.inj q);rw[Xu h];exact(Wq.mpr e).symm
def Qke(a b:Str):decide ((Sum.inr a:Key)=Sum.inr b)=decide (a=b):=by
 by_cases e:a=b
 ·subst e;simp
 ·have h:¬(Sum.inr a:Key)=Sum.inr b:=λq=>e (Sum.inr.inj q);rw[Xu h,Xu e]
def Qkg(a:Int)(b:Str):decide ((Sum.inl a:Key)=Sum.inr b)=false:=Xu (λq=>nomatch q)
def Qkf(a:Str)(b:Int):decide ((Sum.inr a:Key)=Sum.inl b)=false:=Xu (λq=>nomatch q)
noncomputable def ZC(prog:Program)(w:World):PySem.KeyKind prog w Key where
 is:=Qbi
 hash:=QnF w
 inj:=λv a b ha hb=>by
  rcases QC ha with⟨i,t,rfl,rfl⟩|⟨x,t,rfl,rfl⟩
  ·rcases QC hb with⟨j,u,rfl,e⟩|⟨y,u,rfl,e⟩
   ·injection e with e1 _;rw[e1]
   ·exact nomatch e
  ·rcases QC hb with⟨j,u,rfl,e⟩|⟨y,u,rfl,e⟩
   ·exact nomatch e
   ·injection e with e1 _;rw[e1]
 byValue:=λk v h=>by
  rcases QC h with⟨i,t,rfl,rfl⟩|⟨x,t,rfl,rfl⟩<;>rfl
 pyHash:=λhv h=>by
  rcases QC hv with⟨i,t,rfl,rfl⟩|⟨x,t,rfl,rfl⟩
  ·exact wpAny_pyHash_int h
  ·exact wpAny_pyHash_str h
 eqBool:=λhu hv h=>by
  rcases QC hu with⟨i,t,rfl,rfl⟩|⟨x,t,rfl,rfl⟩
  ·rcases QC hv with⟨j,u,rfl,rfl⟩|⟨y,u,rfl,rfl⟩
   ·rw[Qkh]at h;exact wpAny_eqBool_int h
   ·rw[Qkg]at h;exact SeqAt.EqAt.int_str i t y u _ _ _ _ h
  ·rcases QC hv with⟨j,u,rfl,rfl⟩|⟨y,u,rfl,rfl⟩
   ·rw[Qkf]at h;exact SeqAt.EqAt.str_int x t j u _ _ _ _ h
   ·rw[Qke]at h;exact wpAny_eqBool_str h
 «strs»:=λk x t v h=>by
  rcases QC h with⟨i,u,rfl,e⟩|⟨y,u,rfl,e⟩
  ·exact nomatch e
  ·injection e with e1 _;subst e1;cases v<;>rfl
def Qbe(prog:Program)(w:World)(i:Int)(t:Tok):(ZC prog w).is (.inl i) (.int i t)=true:=QaA i t
def Qbd(prog:Program)(w:World)(x:Str)(t:Tok):(ZC prog w).is (.inr x) (.str x t)=true:=Qaz x t
end
section
variable {a:Addr}{h h':Heap}{us:List Value}{P:Program}{α β:Type}{w:World}
inductive V where
 |non|bl (b:Bool)|int (i:Int)|str (x:Str)|byt (b:Array UInt8)|flt (b:UInt64)|ref (a:Addr)|ty (n:String)
 deriving DecidableEq
def RelV:V->Value->Prop
 |.non,u=>u=Value.none
 |.bl b,u=>u=Value.bool b
 |.int i,u=>∃t,u=Value.int i t
 |.str x,u=>∃t,u=Value.str x t
 |.byt b,u=>∃t,u=Value.bytes b t
 |.flt b,u=>∃t,u=Value.float b t
 |.ref a,u=>u=Value.ref a
 |.ty n,u=>u=Value.type n
abbrev Vals:List V->List Value->Prop:=Paired RelV
theorem Vals.length{xs:List V}(r:Vals xs us):xs.length=us.length:=Paired.length r
def Qde{P:α->β->Prop}{l l':List α}{r r':List β}(h:Paired P l r)(h':Paired P l' r'):Paired P (l++l') (r++r'):=by
 induction h with
 |nil=>exact h'
 |cons a _ ih=>exact .cons a ih
def Qdb{P:α->β->Prop}{l:List α}{r:List β}(h:Paired P l r)(n:Nat):Paired P (l.take n) (r.take n):=by
 induction h generalizing n with
 |nil=>rw[List.take_nil,List.take_nil];exact .nil
 |cons a _ ih=>
  cases n with
  |zero=>exact .nil
  |succ n=>exact .cons a (ih n)
def Qdd{P:α->β->Prop}{l:List α}{r:List β}(h:Paired P l r)(n:Nat):Paired P (l.drop n) (r.drop n):=by
 induction h generalizing n with
 |nil=>rw[List.drop_nil,List.drop_nil];exact .nil
 |cons a t ih=>
  cases n with
  |zero=>exact .cons a t
  |succ n=>exact ih n
def Jo{P:α->β->Prop}{l:List α}{r:List β}{i:Nat}{a:α}(h:Paired P l r)(e:l[i]?=some a):∃b,r[i]?=some b/\P a b:=by
 induction h generalizing i with
 |nil=>cases e
 |cons x _ ih=>
  cases i with
  |zero=>cases(show some _=some _ from e);exact⟨_,rfl,x⟩
  |succ i=>exact ih e
def QfV{P:α->β->Prop}{l:List α}{r:List β}(h:Paired P l r):Paired P l.reverse r.reverse:=by
 induction h with
 |nil=>exact .nil
 |cons a _ ih=>rw[Tb,Tb];exact Qde ih (.cons a .nil)
def Vals.get{xs:List V}{i:Nat}{x:V}(h:Vals xs us)(e:xs[i]?=some x):∃u,us[i]?=some u/\RelV x u:=Jo h e
def Vals.append{xs ys:List V}{ws:List Value}(h:Vals xs us)(h':Vals ys ws):Vals (xs++ys) (us++ws):=Qde h h'
theorem Vals.take{xs:List V}(n:Nat)(h:Vals xs us):Vals (xs.take n) (us.take n):=Qdb h n
theorem Vals.drop{xs:List V}(n:Nat)(h:Vals xs us):Vals (xs.drop n) (us.drop n):=Qdd h n
def RelO:Option V->Option Value->Prop
 |some v,some u=>RelV v u
 |none,none=>True
 |_,_=>False
def KV{κ:Type}:List (κ×V)->List (κ×Value)->Prop:=Paired λ(p:κ×V) (q:κ×Value)=>p.1=q.1/\RelV p.2 q.2
noncomputable def kV:Key->V
 |.inl i=>.int i
 |.inr x=>.str x
inductive HO where
 /-- a list -/
 |lst (xs:List V)
 /-- a tuple (never changes) -/
 |tup (xs:List V)
 /-- a dict whose keys are ints and texts;one whose keys are tuples of ints and texts (the empty one is both) -/
 |dK (kvs:List (Key×V))|dT (kvs:List (List Key×V))
 /-- a set of ints: its members,its size -/
 |set (S:Int->Bool) (n:Nat)
 /-- an instance of the class at C,its dict at dx,its attributes -/
 |ins (C dx:Addr) (fs:List (Str×V))
 /-- the dict of the instance at x -/
 |own (x:Addr)
 /-- the dict of an exception -/
 |xd (fs:List (Str×V))
 /-- a bound method,f of x -/
 |met (f x:Addr)
 /-- a range object lo,lo+1,.. below hi -/
 |rng (lo hi:Int)
 /-- a thing that is known to the object (the script;a dict while a loop walks it): read,never written while it is so -/
 |frz (o:Obj) (u:HO)
 /-- a code object's table -/
 |tbl (ps:Array Value)
 /-- any other thing,by what is true of its one object (a def of one's own: SetO a S n:=HO.ext λh=>..) -/
 |ext (φ:Heap->Prop)
abbrev Hp:=Addr->Option HO
noncomputable def upd(H:Hp)(a:Addr)(o:HO):Hp:=λb=>if b=a then some o else H b
def Ql{H:Hp}{o:HO}:upd H a o a=some o:=by unfold upd;rw[if_pos rfl]
def Qe{H:Hp}{b:Addr}{o:HO}(h:b≠a):upd H a o b=H b:=by unfold upd;rw[if_neg h]
def Zm{H:Hp}{b:Addr}{o:HO}(h:H a=some o)(h':H b=none):a≠b:=by
 intro e;subst e;rw[h]at h';cases h'
section
variable (P:Program)(w:World)
def ObjOk(H:Hp)(h:Heap)(a:Addr):HO->Prop
 |.lst xs=>xs.length<=sizeLine/\∃(its:List Value) (n:Nat),Vals xs its/\h.get? a=some {cls:=.type "list",data:=.seq its.toArray n}
 |.tup xs=>xs.length<=sizeLine/\∃its:List Value,Vals xs its/\IsTup h a its.toArray
 |.dK kvs=>kvs.length<=sizeLine/\(a==sysModules)=false/\∃vs,KV kvs vs/\h.DictOf (ZC P w) a vs
 |.dT kvs=>kvs.length<=sizeLine/\(a==sysModules)=false/\∃xs:List (List Key×Addr×Value),
   Paired (λ(p:List Key×V) (q:List Key×Addr×Value)=>p.1=q.1/\H q.2.1=some (.tup (p.1.map kV))/\RelV p.2 q.2.2) kvs xs /\
   ∃o es ep,h.get? a=some o/\o.ExactDict/\o.data=.dict es ep/\es.toList=xs.map (entryOfKey (tupleKind (ZC P w)))/\(xs.map (·.1)).Nodup
 |.set S n=>h.SetOf (intKind P w) a S n
 |.ins C dx fs=>H dx=some (.own a)/\fs.length<=1000/\dx≠a/\h.get? a=some (W.instObj C dx) /\
   ∃mA,h.Ns1 dx mA/\(∀f,RelO (fs.lookup f) (mA f))/\PySem.Within mA (fs.map (·.1))
 |.own _=>∃o,h.get? a=some o
 |.xd fs=>∃mA,h.Ns1 a mA/\∀f,RelO (fs.lookup f) (mA f)
 |.rng lo hi=>∃t u v,h.get? a=some {cls:=.type "range",data:=.fields #[.int lo t,.int hi u,.int 1 v]}
 |.frz o u=>h.get? a=some o/\ObjOk H h a u
 |.tbl ps=>h.get? a=some {cls:=.none,data:=.fields ps}
 |.met f x=>h.get? a=some (W.methodObj (.ref f) (.ref x))
 |.ext φ=>φ h/\(∃o,h.get? a=some o)/\∀h1 h2:Heap,φ h1->(∀o,h1.get? a=some o->h2.get? a=some o)->φ h2
def HOk(H:Hp)(h:Heap):Prop:=∀a o,H a=some o->ObjOk P w H h a o
end
section
variable {H H':Hp}{o:HO}
theorem ObjOk.lt(x:ObjOk P w H h a o):a<h.objs.size:=by
 cases o with
 |lst xs=>obtain⟨_,_,_,_,e⟩:=x;exact Xk e
 |tup xs=>obtain⟨_,_,_,p⟩:=x;exact p.lt
 |dK kvs=>obtain⟨_,_,_,_,o,_,_,e,_⟩:=x;exact Xk e
 |dT kvs=>obtain⟨_,_,_,_,o,_,_,e,_⟩:=x;exact Xk e
 |set S n=>obtain⟨o,_,_,_,e,_⟩:=x;exact Xk e
 |ins C dx fs=>obtain⟨_,_,_,e,_⟩:=x;exact Xk e
 |own y=>obtain⟨_,e⟩:=x;exact Xk e
 |xd fs=>obtain⟨_,⟨_,_,_,e,_⟩,_⟩:=x;exact Xk e
 |rng lo hi=>obtain⟨_,_,_,e⟩:=x;exact Xk e
 |frz ob u=>obtain⟨e,_⟩:=x;exact Xk e
 |tbl ps=>exact Xk (show h.get? a=some _ from x)
 |met f y=>exact Xk (show h.get? a=some _ from x)
 |ext φ=>obtain⟨_,⟨_,e⟩,_⟩:=x;exact Xk e
def Paired.mapP{F G:α->β->Prop}{l₁:List α}{l₂:List β}(h:Paired F l₁ l₂)(f:∀a b,F a b->G a b):Paired G l₁ l₂:=PySem.Paired.mono f h
def ObjOk.stay(x:ObjOk P w H h a o)(k:∀b u,(b=a\/H b=some (.own a))->h.get? b=some u->h'.get? b=some u)
  (ho:∀b,H b=some (.own a)->H' b=some (.own a)) (ht:∀b xs,H b=some (.tup xs)->H' b=some (.tup xs)):ObjOk P w H' h' a o:=by
 induction o with
 |lst xs=>obtain⟨z,its,n,r,e⟩:=x;exact⟨z,its,n,r,k _ _ (.inl rfl) e⟩
 |tup xs=>obtain⟨z,its,r,ob,e,c⟩:=x;exact⟨z,its,r,ob,k _ _ (.inl rfl) e,c⟩
 |dK kvs=>obtain⟨z,y,vs,r,ob,es,ep,e,c⟩:=x;exact⟨z,y,vs,r,ob,es,ep,k _ _ (.inl rfl) e,c⟩
 |dT kvs=>
  obtain⟨z,y,xs,r,ob,es,ep,e,c⟩:=x;exact⟨z,y,xs,Paired.mapP r λp q z=>⟨z.1,ht _ _ z.2.1,z.2.2⟩,ob,es,ep,k _ _ (.inl rfl) e,c⟩
 |set S n=>obtain⟨ob,es,ep,t,e,c⟩:=x;exact⟨ob,es,ep,t,k _ _ (.inl rfl) e,c⟩
 |ins C dx fs=>
  obtain⟨d,z,ne,e,mA,⟨od,es,ep,e2,c⟩,r⟩:=x;exact⟨ho _ d,z,ne,k _ _ (.inl rfl) e,mA,⟨od,es,ep,k _ _ (.inr d) e2,c⟩,r⟩
 |own y=>obtain⟨ob,e⟩:=x;exact⟨ob,k _ _ (.inl rfl) e⟩
 |xd fs=>obtain⟨mA,⟨od,es,ep,e,c⟩,r⟩:=x;exact⟨mA,⟨od,es,ep,k _ _ (.inl rfl) e,c⟩,r⟩
 |rng lo hi=>obtain⟨t,u,v,e⟩:=x;exact⟨t,u,v,k _ _ (.inl rfl) e⟩
 |frz ob u ih=>obtain⟨e,q⟩:=x;exact⟨k _ _ (.inl rfl) e,ih q⟩
 |tbl ps=>
  have e:h.get? a=some {cls:=.none,data:=.fields ps}:=x;show h'.get? a=some {cls:=.none,data:=.fields ps};exact k a _ (.inl rfl) e
 |met f y=>
  have e:h.get? a=some (W.methodObj (.ref f) (.ref y)):=x;show h'.get? a=some (W.methodObj (.ref f) (.ref y));exact k a _ (.inl rfl) e
 |ext φ=>obtain⟨p,⟨o,e⟩,st⟩:=x;exact⟨st _ _ p λo q=>k _ _ (.inl rfl) q,⟨o,k _ _ (.inl rfl) e⟩,st⟩
theorem HOk.lt(x:HOk P w H h)(e:H a=some o):a<h.objs.size:=(x a o e).lt
def HOk.fresh(x:HOk P w H h)(e:h.objs.size<=a):H a=none:=by
 cases q:H a with
 |none=>rfl
 |some u=>exact absurd (Xr (x.lt q) e) (Wn _)
def HOk.kept(x:HOk P w H h)(k:∀b u,h.get? b=some u->h'.get? b=some u):HOk P w H h':=λa o e=>
 (x a o e).stay (λb u z q=>k b u q) (λz q=>q) λz z q=>q
def HOk.laid(x:HOk P w H h)(k:∀b u,h.get? b=some u->h'.get? b=some u)(hp:h.objs.size<=a)(new:ObjOk P w (upd H a o) h' a o):HOk P w (upd H a o) h':=λb u e=>by
 have hn:=x.fresh hp;by_cases hb:b=a
 ·subst hb;rw[Ql]at e;cases e;exact new
 ·rw[Qe hb]at e
  exact(x b u e).stay (λc v z q=>k c v q) (λc q=>by rw[Qe (Zm q hn)];exact q) λc xs q=>by rw[Qe (Zm q hn)];exact q
end
def Rd(H:Hp)(a:Addr)(u:HO):Prop:=H a=some u\/∃o,H a=some (.frz o u)
def Rd.ok{H:Hp}{u:HO}(r:Rd H a u)(x:HOk P w H h):ObjOk P w H h a u:=by
 rcases r with r|⟨o,r⟩
 ·exact x a u r
 ·obtain⟨_,q⟩:=x a _ r;exact q
def Mut:Option HO->Prop
 |some (.lst _)=>True
 |some (.dK _)=>True
 |some (.dT _)=>True
 |some (.set _ _)=>True
 |some (.ins _ _ _)=>True
 |some (.ext _)=>True
 |_=>False
section
variable {H:Hp}{x e:Addr}{o':HO}
def HOk.write(ok:HOk P w H h)(mu:Mut (H x))(he:e=x\/H e=some (.own x))(k:∀b u,b≠e->h.get? b=some u->h'.get? b=some u)(heo:∃u,h'.get? e=some u)
  (new:ObjOk P w (upd H x o') h' x o'):HOk P w (upd H x o') h':=λb u q=>by
 have nown:∀c y,H c=some (.own y)->c≠x:=λc y r z=>by subst z;rw[r]at mu;exact mu
 have ntup:∀c xs,H c=some (.tup xs)->c≠x:=λc xs r z=>by subst z;rw[r]at mu;exact mu
 by_cases hb:b=x
 ·subst hb;rw[Ql]at q;cases q;exact new
 ·rw[Qe hb]at q;by_cases hbe:b=e
  ·have q':H b=some (.own x):=by
    rcases he with z|z
    ·exact absurd (hbe.trans z) hb
    ·rw[hbe];exact z
   rw[q]at q';cases q';obtain⟨v,hv⟩:=heo
   exact⟨v,by rw[hbe];exact hv⟩
  ·refine(ok b u q).stay (λc v hc r=>k c v ?_ r) (λc r=>by rw[Qe (nown c b r)];exact r) λc xs r=>by rw[Qe (ntup c xs r)];exact r
   rcases hc with rfl|hc
   ·exact hbe
   ·rintro rfl
    rcases he with z|z
    ·exact nown c b hc z
    ·rw[hc]at z;cases z;exact hb rfl
end
structure Un(fs ex:List Addr)(H H':Hp)(h h':Heap):Prop where
 keep:∀b o,h.get? b=some o->H b=none->b∉fs->b∉ex->h'.get? b=some o
 slot:∀b o,h.get? b=some o->H b=none->b∈fs->b∉ex->∃sl,h'.get? b=some {o with slots:=sl}
 free:∀b o,h.get? b=some o->H b=none->b∉ex->H' b=none
 there:∀b o,h.get? b=some o->b∉ex->∃o',h'.get? b=some o'
 tups:∀b xs,H b=some (.tup xs)->H' b=some (.tup xs)
 frzs:∀b o u,H b=some (.frz o u)->H' b=some (.frz o u)
 tbls:∀b ps,H b=some (.tbl ps)->∃more,H' b=some (.tbl (ps++more))
section
variable {fs ex:List Addr}{H H1:Hp}{h1:Heap}{x e:Addr}{o:HO}
def Un.any(u:Un fs ex H H1 h h1){b:Addr}{ob:Obj}(q:h.get? b=some ob)(n:H b=none)(hx:b∉ex):∃sl,h1.get? b=some {ob with slots:=sl}:=by
 by_cases hb:b∈fs
 ·exact u.slot b ob q n hb hx
 ·exact⟨ob.slots,u.keep b ob q n hb hx⟩
def Un.kept(k:∀b u,h.get? b=some u->h'.get? b=some u):Un fs ex H H h h' :=
 ⟨λb ob q z z z=>k b ob q,λb ob q z z z=>⟨ob.slots,k b ob q⟩,λz z z n z=>n,λb ob q z=>⟨ob,k b ob q⟩,λz z q=>q,λz z z q=>q,λz ps q=>⟨#[],by rw[q];simp⟩⟩
def Un.refl:Un fs ex H H h h:=Un.kept λz z q=>q
def Un.laid(k:∀b u,h.get? b=some u->h'.get? b=some u)(hp:h.objs.size<=a)(hn:H a=none):Un fs ex H (upd H a o) h h' where
 keep:=λb u q z z z=>k b u q
 slot:=λb u q z z z=>⟨u.slots,k b u q⟩
 free:=λb u q n z=>by rw[Qe (X4 (Xr (Xk q) hp))];exact n
 there:=λb u q z=>⟨u,k b u q⟩
 tups:=λb xs q=>by rw[Qe (Zm q hn)];exact q
 frzs:=λb u xs q=>by rw[Qe (Zm q hn)];exact q
 tbls:=λb ps q=>⟨#[],by rw[Qe (Zm q hn),q];simp⟩
def Un.write(mu:Mut (H x))(he:e=x\/H e=some (.own x))(k:∀b u,b≠e->h.get? b=some u->h'.get? b=some u)(heo:∃u,h'.get? e=some u):Un fs ex H (upd H x o) h h':=by
 have hx:∀b,H b=none->b≠x:=λb n z=>by subst z;rw[n]at mu;exact mu
 have hb:∀b,H b=none->b≠e:=λb n z=>by
  subst z
  rcases he with r|r
  ·exact hx b n r
  ·rw[n]at r;cases r
 have hm:∀b u,H b=some u->¬Mut (some u)->b≠x:=λb u q nm z=>by subst z;rw[q]at mu;exact nm mu
 refine⟨λb u q n y y=>k b u (hb b n) q,λb u q n y y=>⟨u.slots,k b u (hb b n) q⟩,λb u q n y=>by rw[Qe (hx b n)];exact n,λb u q y=>?_,
  λb xs q=>by rw[Qe (hm b _ q λz=>z)];exact q,λb u xs q=>by rw[Qe (hm b _ q λz=>z)];exact q,λb ps q=>⟨#[],by rw[Qe (hm b _ q λz=>z),q];simp⟩⟩
 by_cases hbe:b=e
 ·subst hbe;exact heo
 ·exact⟨u,k b u hbe q⟩
end
noncomputable def trk(h:Heap)(H:Hp):List Addr:=(List.range h.objs.size).filter λa=>(H a).isSome
noncomputable def Qfe(h:Heap)(H:Hp):Heap:=W.hideAll h (trk h H)
def QdD(h:Heap)(H:Hp):(Qfe h H).objs.size=h.objs.size:=W.hideAll_size _ _
def Qfd{H:Hp}{b:Addr}{o:Obj}(e:h.get? b=some o)(n:H b=none):(Qfe h H).get? b=some o :=
 W.hideAll_get _ e λhm=>by
  have q:(H b).isSome=true:=(Tq.mp hm).2;rw[n]at q;simp at q
def Qhs{H:Hp}{b:Addr}{o:Obj}(e:(Qfe h H).get? b=some o):h.get? b=some o/\H b=none:=by
 have e':h.get? b=some o:=W.of_hideAll (trk h H) e;refine⟨e',?_⟩
 cases q:H b with
 |none=>rfl
 |some x=>
  have hm:b∈trk h H:=Tq.mpr ⟨List.mem_range.mpr (Xk e'),by simp[q]⟩
  have z:(Qfe h H).get? b=none:=W.hideAll_none (trk h H) hm;rw[z]at e;cases e
end
section
variable {A:Around}{ch:List Addr}{M:Model}{i t':Nat}{x:Str}
structure Mod(K:W.Frag)(mg:Str->Option Value)(base:Heap):Prop where
 kin:K.In base
 glob:base.Ns mainGlobals mg
 blt:∃mb,base.Ns builtinsNs mb/\∀x:Str,x≠"__name__"->mb x=bootBuiltins x
 nolimit:base.NoLimit
structure Cx where
 prog:Program
 w:World
 K:W.Frag
 mg:Str->Option Value
 base:Heap
 A:Around
 N:List Str
 s₀:Shared
 H₀:Hp
 env:Env
 outer:List Env
 stack:List Env
 ex:List Addr
 fn:Str->Bool
 calm:Bool
 pn:List (Addr×Obj)
 xe:Value->Shared->Prop
noncomputable def frs(l:List Env):List Addr:=l.filterMap (·.frame)
noncomputable abbrev Cx.fs(X:Cx):List Addr:=frs X.outer
def Vis(sc:Scope)(x:Str):Prop:=sc.names.lookup x=some .local\/sc.names.lookup x=some .cell\/sc.names.lookup x=some .free
def Loc(sc:Scope)(x:Str):Prop:=sc.names.lookup x=some .local\/sc.names.lookup x=some .cell
noncomputable def Qpz(env:Env)(h:Heap)(m:Str->Option Value)(x:Str)(u:Value):Prop :=
 (env.kindOf x=some .local/\m x=some u)\/((env.kindOf x=some .cell\/env.kindOf x=some .free)/\∃c,env.cells.lookup x=some c/\h.IsCell c (some u))
structure Cx.Ok(X:Cx):Prop where
 mod:Mod X.K X.mg X.base
 kind:X.env.scope.kind=.function
 glob:X.env.globals=mainGlobals
 blt:X.env.builtins=builtinsNs
 above:X.s₀.heap.objs.size<=X.env.locals
 inj:∀x y c,X.env.cells.lookup x=some c->X.env.cells.lookup y=some c->x=y
 has:∀x,(X.env.kindOf x=some .cell\/X.env.kindOf x=some .free)->∃c,X.env.cells.lookup x=some c
 cab:∀x c,X.fn x=true->X.env.cells.lookup x=some c->X.s₀.heap.objs.size<=c
 hd:X.calm=true->X.A.handled=none
 frames:X.A.frames=some X.stack
 stk:X.stack=X.outer\/(X.stack=X.env::X.outer/\X.env.frame=some X.env.locals)
 exf:∀b∈X.ex,b≠X.env.locals/\∀x c,X.env.cells.lookup x=some c->c≠b
 bs:∀b o,X.base.get? b=some o->X.s₀.heap.get? b=some o/\X.H₀ b=none
 bsz:X.base.objs.size<=X.s₀.heap.objs.size
 noex:∀b o,X.base.get? b=some o->b∉X.ex
 exfs:∀b∈X.ex,b∉X.fs
 funs:X.s₀.heap.FunFrames X.base X.outer
 frf:∀b∈X.fs,X.H₀ b=none
structure Inv(X:Cx)(pins:List (Addr×Obj))(Y:List (Option V))(H:Hp)(s:Shared):Prop where
 ok:X.Ok
 os:s.os=X.s₀.os
 bare:AllBare s.gens
 base:Un X.fs X.ex X.H₀ H X.s₀.heap s.heap
 loc:∃m,s.heap.Ns X.env.locals m/\∀(i:Nat) (x:Str) (v:V),X.N[i]?=some x->Y[i]?=some (some v)->Vis X.env.scope x->∃u,RelV v u/\Qpz X.env s.heap m x u
 cell:∀x c,X.env.cells.lookup x=some c->∃v,s.heap.IsCell c v
 free:H X.env.locals=none
 freeC:∀x c,X.env.cells.lookup x=some c->H c=none
 pin:∀p∈X.pn++pins,s.heap.get? p.1=some p.2/\H p.1=none/\p.1≠X.env.locals/\p.1∉X.fs/\∀v,p.2.data≠.cell v
 hok:HOk X.prog X.w H s.heap
 len:Y.length=X.N.length
section
variable {X:Cx}{pins:List (Addr×Obj)}{Y:List (Option V)}{H H':Hp}{s:Shared}{h':Heap}
def Cx.Ok.nofr(ok:X.Ok){b:Addr}{o:Obj}(e:X.base.get? b=some o):b∉X.fs:=λhb=>by
 have:=(ok.funs.mem hb).1;rw[e]at this;cases this
theorem Inv.bs(I:Inv X pins Y H s):∀b o,X.base.get? b=some o->s.heap.get? b=some o/\H b=none:=λb o e=>
 ⟨I.base.keep b o (I.ok.bs b o e).1 (I.ok.bs b o e).2 (I.ok.nofr e) (I.ok.noex b o e),I.base.free b o (I.ok.bs b o e).1 (I.ok.bs b o e).2 (I.ok.noex b o e)⟩
def Inv.bk(I:Inv X pins Y H s):∀b o,X.base.get? b=some o->s.heap.get? b=some o:=λb o e=>(I.bs b o e).1
theorem Inv.mod(I:Inv X pins Y H s):Mod X.K X.mg X.base:=I.ok.mod
def Inv.kIn(I:Inv X pins Y H s):X.K.In s.heap:=I.ok.mod.kin.keeps I.bk
theorem Inv.lt(I:Inv X pins Y H s):X.env.locals<s.heap.objs.size:=by obtain⟨_,hn,_⟩:=I.loc;exact hn.lt
def Inv.sz(I:Inv X pins Y H s):X.s₀.heap.objs.size<=s.heap.objs.size:=X1 I.ok.above (Nat.le_of_lt I.lt)
def Inv.nofs(I:Inv X pins Y H s){a:Addr}(h:s.heap.objs.size<=a):a∉X.fs:=λhb=>by
 obtain⟨_,o,ho,_⟩:=I.ok.funs.mem hb;exact absurd (Xr (Xk ho) (X1 I.sz h)) (Wn _)
def Inv.cne(I:Inv X pins Y H s):∀x c,X.env.cells.lookup x=some c->c≠X.env.locals:=λx c e z=>by
 obtain⟨v,o,ho,hd⟩:=I.cell x c e;obtain⟨m,⟨o',es,ep,ho',hd',_⟩,_⟩:=I.loc;rw[z,ho']at ho;cases ho;rw[hd']at hd;cases hd
theorem Inv.funs(I:Inv X pins Y H s):s.heap.FunFrames X.base X.outer:=by
 have all:∀(l:List Env),(∀b∈frs l,b∈X.fs)->X.s₀.heap.FunFrames X.base l->s.heap.FunFrames X.base l:=by
  intro l
  induction l with
  |nil=>intro _ _;trivial
  |cons env r ih=>
   intro hs hl;obtain⟨hk,⟨L,o,hf,hn,ho,hd⟩,hr⟩:=hl
   have hL:L∈X.fs:=hs L (by unfold frs;rw[U0,hf];exact Xh)
   obtain⟨sl,e⟩:=I.base.slot L o ho (I.ok.frf L hL) hL λz=>I.ok.exfs L z hL
   exact⟨hk,⟨L,_,hf,hn,e,hd⟩,ih (λb hb=>hs b (by unfold frs;rw[U0,hf];exact Xg _ hb)) hr⟩
 exact all X.outer (λy hb=>hb) I.ok.funs
theorem Inv.stack(I:Inv X pins Y H s):s.heap.FunFrames X.base X.stack:=by
 rcases I.ok.stk with e|⟨e,hf⟩
 ·rw[e];exact I.funs
 ·rw[e];obtain⟨m,hn,_⟩:=I.loc
  refine .cons (by rw[I.ok.kind];decide) hf hn ?_ I.funs
  exact Heap.get?_none_of_le (X1 I.ok.bsz I.ok.above)
def Inv.stkSub(I:Inv X pins Y H s):∀b∈frs X.stack,b∈X.env.locals::X.fs:=λb hb=>by
 rcases I.ok.stk with e|⟨e,hf⟩
 ·rw[e]at hb;exact Xg _ hb
 ·rw[e]at hb;unfold frs at hb;rw[U0,hf]at hb;exact hb
def Inv.stkFree(I:Inv X pins Y H s):∀b∈frs X.stack,H b=none:=λb hb=>by
 rcases Xo.mp (I.stkSub b hb)with e|hb
 ·rw[e];exact I.free
 ·obtain⟨_,o,ho,_⟩:=I.ok.funs.mem hb;exact I.base.free b o ho (I.ok.frf b hb) λz=>I.ok.exfs b z hb
def Inv.step{g':Array GenState}{d':Drawn}(I:Inv X pins Y H s)
  (hch:∀b∈ch,(b∈X.ex\/X.s₀.heap.objs.size<=b)/\b≠X.env.locals/\(∀x c,X.env.cells.lookup x=some c->c≠b)/\∀p∈X.pn++pins,p.1≠b)
  (keep:∀b o,b≠X.env.locals->b∉X.fs->b∉ch->s.heap.get? b=some o->H b=none->h'.get? b=some o)
  (slot:∀b o,b≠X.env.locals->b∈X.fs->b∉ch->s.heap.get? b=some o->H b=none->∃sl,h'.get? b=some {o with slots:=sl}) (free:∀b o,b∉ch->s.heap.get? b=some o->H b=none->H' b=none)
  (there:∀b o,b∉ch->s.heap.get? b=some o->∃o',h'.get? b=some o')
  (tups:∀b xs,H b=some (.tup xs)->H' b=some (.tup xs)) (frzs:∀b o u,H b=some (.frz o u)->H' b=some (.frz o u)) (tbls:∀b ps,H b=some (.tbl ps)->∃more,H' b=some (.tbl (ps++more)))
  (ns:∀m,s.heap.Ns X.env.locals m->h'.Ns X.env.locals m) (hok:HOk X.prog X.w H' h') (hg:AllBare g'):
  Inv X pins Y H' {s with heap:=h',gens:=g',drawn:=d',toks:=t'}:=by
 have neL:∀b o,X.s₀.heap.get? b=some o->b≠X.env.locals:=λb o e=>X4 (Xr (Xk e) I.ok.above)
 have neC:∀b o,X.s₀.heap.get? b=some o->b∉X.ex->b∉ch:=λb o e hx hb=>by
  rcases (hch b hb).1 with z|z
  ·exact hx z
  ·exact absurd (Xr (Xk e) z) (Wn _)
 have cellK:∀x c,X.env.cells.lookup x=some c->∀v,s.heap.IsCell c v->h'.IsCell c v:=λx c e v y=>by
  obtain⟨o,ho,hd⟩:=y
  have nch:c∉ch:=λz=>(hch c z).2.2.1 x c e rfl;by_cases hc:c∈X.fs
  ·obtain⟨sl,q⟩:=slot c o (I.cne x c e) hc nch ho (I.freeC x c e);exact⟨_,q,hd⟩
  ·exact⟨o,keep c o (I.cne x c e) hc nch ho (I.freeC x c e),hd⟩
 refine⟨I.ok,I.os,hg,⟨λb o e n hb hx=>?_,λb o e n hb hx=>?_,λb o e n hx=>?_,λb o e hx=>?_,λb xs e=>tups b xs (I.base.tups b xs e),λb o xs e=>frzs b o xs (I.base.frzs b o xs e),λb ps e=>?_⟩,?_,λx c e=>?_,?_,λx c e=>?_,λp hp=>?_,hok,I.len⟩
 ·exact keep b o (neL b o e) hb (neC b o e hx) (I.base.keep b o e n hb hx) (I.base.free b o e n hx)
 ·obtain⟨sl,e1⟩:=I.base.slot b o e n hb hx;obtain⟨sl',e2⟩:=slot b _ (neL b o e) hb (neC b o e hx) e1 (I.base.free b o e n hx);exact⟨sl',e2⟩
 ·obtain⟨o',e1⟩:=I.base.there b o e hx;exact free b o' (neC b o e hx) e1 (I.base.free b o e n hx)
 ·obtain⟨o',e1⟩:=I.base.there b o e hx;exact there b o' (neC b o e hx) e1
 ·obtain⟨m1,e1⟩:=I.base.tbls b ps e;obtain⟨m2,e2⟩:=tbls b _ e1
  exact⟨m1++m2,by rw[e2,Array.append_assoc]⟩
 ·obtain⟨m,hn,hl⟩:=I.loc;refine⟨m,ns m hn,λi x v e1 e2 e3=>?_⟩;obtain⟨u,r,l⟩:=hl i x v e1 e2 e3;refine⟨u,r,?_⟩
  rcases l with l|⟨k,c,e,z⟩
  ·exact .inl l
  ·exact .inr ⟨k,c,e,cellK x c e _ z⟩
 ·obtain⟨v,z⟩:=I.cell x c e;exact⟨v,cellK x c e v z⟩
 ·obtain⟨m,⟨o,_,_,ho,_⟩,_⟩:=I.loc;exact free _ o (λz=>(hch _ z).2.1 rfl) ho I.free
 ·obtain⟨v,o,ho,hd⟩:=I.cell x c e;exact free c o (λz=>(hch c z).2.2.1 x c e rfl) ho (I.freeC x c e)
 ·obtain⟨e,n,ne,nf,d⟩:=I.pin p hp;have nch:p.1∉ch:=λz=>(hch p.1 z).2.2.2 p hp rfl;exact⟨keep p.1 p.2 ne nf nch e n,free p.1 p.2 nch e n,ne,nf,d⟩
def Inv.un(I:Inv X pins Y H s)(u:Un X.fs [] H H' s.heap h')(hok:HOk X.prog X.w H' h'):Inv X pins Y H' {s with heap:=h',toks:=t'}:=by
 obtain⟨m,⟨o,es,ep,ho,r⟩,_⟩:=id I.loc
 obtain⟨sl,hL⟩:=u.any ho I.free (by simp)
 exact I.step (g':=s.gens) (d':=s.drawn) (ch:=[]) (λy z=>nomatch z) (λb o y hb y e n=>u.keep b o e n hb (by simp)) (λb o y hb y e n=>u.slot b o e n hb (by simp)) (λb o y e n=>u.free b o e n (by simp)) (λb o y e=>u.there b o e (by simp)) u.tups u.frzs u.tbls (λm' hm=>by
  obtain⟨o',es',ep',ho',r'⟩:=hm;rw[ho]at ho';cases ho'
  exact⟨_,es',ep',hL,r'⟩) hok I.bare
def Inv.call{g':Array GenState}{d':Drawn}(I:Inv X pins Y H s)(u:Un (frs X.stack) ch H H' s.heap h')(hok:HOk X.prog X.w H' h')(hg:AllBare g')
  (hch:∀b∈ch,(b∈X.ex\/X.s₀.heap.objs.size<=b)/\b≠X.env.locals/\(∀x c,X.env.cells.lookup x=some c->c≠b)/\∀p∈X.pn++pins,p.1≠b):
  Inv X pins Y H' {s with heap:=h',gens:=g',drawn:=d',toks:=t'}:=by
 obtain⟨m,⟨o,es,ep,ho,r⟩,_⟩:=id I.loc;obtain⟨sl,hL⟩:=u.any ho I.free λz=>(hch _ z).2.1 rfl
 exact I.step (ch:=ch) hch (λb o hL hb hc e n=>u.keep b o e n (λz=>(Xo.mp (I.stkSub b z)).elim hL hb) hc) (λb o y y hc e n=>u.any e n hc) (λb o hc e n=>u.free b o e n hc) (λb o hc e=>u.there b o e hc) u.tups u.frzs u.tbls (λm' hm=>by
  obtain⟨o',es',ep',ho',r'⟩:=hm;rw[ho]at ho';cases ho'
  exact⟨_,es',ep',hL,r'⟩) hok hg
def Inv.turned{it:Addr}(I:Inv X pins Y H s)(k:∀b o,b≠it->s.heap.get? b=some o->h'.get? b=some o)(hn:H it=none)(hL:it≠X.env.locals)
  (h1:it∈X.ex\/X.s₀.heap.objs.size<=it) (h2:∀x c,X.env.cells.lookup x=some c->c≠it) (h3:∀p∈X.pn++pins,p.1≠it):Inv X pins Y H {s with heap:=h',toks:=t'}:=by
 have nit:∀b u,H b=some u->b≠it:=λb u e z=>by rw[z,hn]at e;cases e
 refine I.step (g':=s.gens) (d':=s.drawn) (ch:=[it]) (λb hb=>?_) (λb o y y hc e y=>k b o (λz=>hc (by simp[z])) e) (λb o y y hc e y=>⟨o.slots,k b o (λz=>hc (by simp[z])) e⟩) (λy y y y n=>n)
  (λb o hc e=>⟨o,k b o (λz=>hc (by simp[z])) e⟩) (λy y e=>e) (λy y y e=>e) (λb ps e=>⟨#[],by rw[e];simp⟩) (λm hm=>?_) (λb u e=>?_) I.bare
 ·have e:b=it:=by simpa using hb
  subst e;exact⟨h1,hL,h2,h3⟩
 ·obtain⟨o,es,ep,ho,r⟩:=hm;exact⟨o,es,ep,k _ o (Ww hL) ho,r⟩
 ·refine(I.hok b u e).stay (λc v hc q=>k c v ?_ q) (λy q=>q) λy y q=>q
  rcases hc with z|z
  ·rw[z];exact nit b u e
  ·exact nit c _ z
def Inv.tok(I:Inv X pins Y H s)(t:Nat):Inv X pins Y H {s with toks:=t}:=I.un (h':=s.heap) (t':=t) Un.refl I.hok
theorem Inv.kept(I:Inv X pins Y H s)(k:∀b u,s.heap.get? b=some u->h'.get? b=some u):Inv X pins Y H {s with heap:=h',toks:=t'}:=I.un (Un.kept k) (I.hok.kept k)
theorem Inv.laid{a:Addr}{o:HO}(I:Inv X pins Y H s)(k:∀b u,s.heap.get? b=some u->h'.get? b=some u)(hp:s.heap.objs.size<=a)(new:ObjOk X.prog X.w (upd H a o) h' a o):
  Inv X pins Y (upd H a o) {s with heap:=h',toks:=t'}:=I.un (Un.laid k hp (I.hok.fresh hp)) (I.hok.laid k hp new)
theorem Inv.write{x e:Addr}{o:HO}(I:Inv X pins Y H s)(mu:Mut (H x))(he:e=x\/H e=some (.own x))(k:∀b u,b≠e->s.heap.get? b=some u->h'.get? b=some u)(heo:∃u,h'.get? e=some u)
  (new:ObjOk X.prog X.w (upd H x o) h' x o):Inv X pins Y (upd H x o) {s with heap:=h',toks:=t'}:=I.un (Un.write mu he k heo) (I.hok.write mu he k heo new)
def Inv.pins_of{pins':List (Addr×Obj)}(I:Inv X pins Y H s)(h:∀p∈pins',s.heap.get? p.1=some p.2/\H p.1=none/\p.1≠X.env.locals/\p.1∉X.fs/\∀v,p.2.data≠.cell v):Inv X pins' Y H s :=
 ⟨I.ok,I.os,I.bare,I.base,I.loc,I.cell,I.free,I.freeC,λp hp=>(X5.mp hp).elim (λz=>I.pin p (Ut _ z)) (h p),I.hok,I.len⟩
def JS{N:List Str}(hN:N.Nodup){j:Nat}(a:N[i]?=some x)(b:N[j]?=some x):i=j:=by
 obtain⟨h1,e1⟩:=Xf.mp a;obtain⟨h2,e2⟩:=Xf.mp b;exact(List.getElem_inj hN).mp (e1.trans e2.symm)
def QcT{E:Value->Shared->Prop}{v:V}{u:Value}{Q:Unit->Shared->Prop}(I:Inv X pins Y H s)(hN:X.N.Nodup)(hi:X.N[i]?=some x)(hx:Loc X.env.scope x)(r:RelV v u)
  (h:∀s',Inv X pins (Y.set i (some v)) H s'->(∃a,Heap.SameBut a s.heap s'.heap/\(a=X.env.locals\/X.env.cells.lookup x=some a))->Q () s') (hf:X.fn x=true\/X.env.scope.names.lookup x=some .local:=by first|exact .inl rfl|exact .inr rfl|assumption):wpAny M A (storeName X.env x u) Q E s:=by
 obtain⟨m,hn,hl⟩:=id I.loc
 have hcls:(X.env.scope.kind==.class||(X.env.scope.kind==.module&&X.env.locals != X.env.globals))=false:=by rw[I.ok.kind];rfl
 have hiY:i < Y.length:=by rw[I.len];exact(Xf.mp hi).1
 have cne:=I.cne
 have tracked:∀{a:Addr} {h':Heap},(∃o,s.heap.get? a=some o/\H a=none)->Heap.SameBut a s.heap h'->HOk X.prog X.w H h':=λ{a h'} ha hs b ob e=>by
  obtain⟨_,_,hfree⟩:=ha;refine(I.hok b ob e).stay (λc w' hc q=>(hs.2 c ?_).trans q) (λt q=>q) λt t q=>q;rintro rfl
  rcases hc with rfl|hc
  ·rw[hfree]at e;cases e
  ·rw[hfree]at hc;cases hc
 rcases hx with hk|hk
 ·refine wpAny_storeName_local hk hn (λh' hn' hs=>?_) hcls;obtain⟨oL,_,_,hoL,_⟩:=id hn
  refine h _ ⟨I.ok,I.os,I.bare,⟨λb o e n hb hx=>?_,λb o e n hb hx=>?_,I.base.free,λb o e hx=>?_,I.base.tups,I.base.frzs,I.base.tbls⟩,⟨_,hn',λj y v' e1 e2 e3=>?_⟩,λy c e=>?_,I.free,I.freeC,λp hp=>?_,tracked ⟨oL,hoL,I.free⟩ hs,by simpa using I.len⟩ ⟨_,hs,.inl rfl⟩
  ·exact(hs.2 b (X4 (Xr (Xk e) I.ok.above))).trans (I.base.keep b o e n hb hx)
  ·obtain⟨sl,e1⟩:=I.base.slot b o e n hb hx;exact⟨sl,(hs.2 b (X4 (Xr (Xk e) I.ok.above))).trans e1⟩
  ·obtain⟨o',e1⟩:=I.base.there b o e hx;exact⟨o',(hs.2 b (X4 (Xr (Xk e) I.ok.above))).trans e1⟩
  ·by_cases hj:j=i
   ·subst hj;rw[hi]at e1;cases e1;rw[Wh hiY]at e2;cases e2
    exact⟨u,r,.inl ⟨hk,by simp⟩⟩
   ·rw[Xz (Ww hj)]at e2;obtain⟨u',r',q⟩:=hl j y v' e1 e2 e3;refine⟨u',r',?_⟩
    rcases q with⟨k,e⟩|⟨k,c,e,z⟩
    ·refine .inl ⟨k,?_⟩;have:y≠x:=λe=>hj (JS hN e1 (e▸hi));simp[this,e]
    ·exact .inr ⟨k,c,e,z.sameBut hs (cne y c e)⟩
  ·obtain⟨w',z⟩:=I.cell y c e;exact⟨w',z.sameBut hs (cne y c e)⟩
  ·obtain⟨e,n,ne,nf,d⟩:=I.pin p hp;exact⟨(hs.2 p.1 ne).trans e,n,ne,nf,d⟩
 ·have hfn:X.fn x=true:=by
   rcases hf with z|z
   ·exact z
   ·rw[z]at hk;cases hk
  obtain⟨c,hc⟩:=I.ok.has x (.inl hk);obtain⟨w',z⟩:=I.cell x c hc;refine wpAny_storeName_cell I.ok.kind hk hc z (λh' hc' hs=>?_);obtain⟨oc,hoc,hocd⟩:=id z
  refine h {s with heap:=h'} ⟨I.ok,I.os,I.bare,⟨λb o e n hb hx=>?_,λb o e n hb hx=>?_,I.base.free,λb o e hx=>?_,I.base.tups,I.base.frzs,I.base.tbls⟩,⟨m,hn.sameBut hs (Ww (cne x c hc)),λj y v' e1 e2 e3=>?_⟩,λy c' e=>?_,I.free,I.freeC,λp hp=>?_,tracked ⟨oc,hoc,I.freeC x c hc⟩ hs,by simpa using I.len⟩ ⟨c,hs,.inr hc⟩
  ·exact(hs.2 b (X4 (Xr (Xk e) (I.ok.cab x c hfn hc)))).trans (I.base.keep b o e n hb hx)
  ·obtain⟨sl,e1⟩:=I.base.slot b o e n hb hx;exact⟨sl,(hs.2 b (X4 (Xr (Xk e) (I.ok.cab x c hfn hc)))).trans e1⟩
  ·obtain⟨o',e1⟩:=I.base.there b o e hx;exact⟨o',(hs.2 b (X4 (Xr (Xk e) (I.ok.cab x c hfn hc)))).trans e1⟩
  ·by_cases hj:j=i
   ·subst hj;rw[hi]at e1;cases e1;rw[Wh hiY]at e2;cases e2;exact⟨u,r,.inr ⟨.inl hk,c,hc,hc'⟩⟩
   ·rw[Xz (Ww hj)]at e2;obtain⟨u',r',q⟩:=hl j y v' e1 e2 e3;refine⟨u',r',?_⟩
    rcases q with q|⟨k,c',e,z'⟩
    ·exact .inl q
    ·refine .inr ⟨k,c',e,z'.sameBut hs ?_⟩;rintro rfl;exact hj (JS hN e1 (I.ok.inj _ _ _ e hc▸hi))
  ·by_cases hcc:c'=c
   ·subst hcc;exact⟨_,hc'⟩
   ·obtain⟨w2,z2⟩:=I.cell y c' e;exact⟨w2,z2.sameBut hs hcc⟩
  ·obtain⟨e,n,ne,nf,d⟩:=I.pin p hp;refine⟨(hs.2 p.1 ?_).trans e,n,ne,nf,d⟩;intro q;rw[q,hoc]at e;have q':oc=p.2:=X2 e
   exact d w' (by rw[<-q'];exact hocd)
def JF{E:Value->Shared->Prop}{v:V}{u:Value}{Q:Unit->Shared->Prop}(I:Inv X pins Y H s)(hN:X.N.Nodup)(hi:X.N[i]?=some x)(hx:Loc X.env.scope x)(r:RelV v u)
  (h:∀s',Inv X pins (Y.set i (some v)) H s'->Q () s') (hf:X.fn x=true\/X.env.scope.names.lookup x=some .local:=by first|exact .inl rfl|exact .inr rfl|assumption):wpAny M A (storeName X.env x u) Q E s :=
 QcT I hN hi hx r (λs' I' z=>h s' I') hf
def Inv.call'{s':Shared}(I:Inv X pins Y H s)(ho:s'.os=s.os)(u:Un (frs X.stack) ch H H' s.heap s'.heap)(hok:HOk X.prog X.w H' s'.heap)(hg:AllBare s'.gens)
  (hch:∀b∈ch,(b∈X.ex\/X.s₀.heap.objs.size<=b)/\b≠X.env.locals/\(∀x c,X.env.cells.lookup x=some c->c≠b)/\∀p∈X.pn++pins,p.1≠b):Inv X pins Y H' s':=by
 obtain⟨h',g',d',t',o'⟩:=s';have e:o'=s.os:=ho;subst e;exact I.call (g':=g') (t':=t') (d':=d') u hok hg hch
end
abbrev XK:=Value->Option Addr->Hp->Prop
abbrev St:=List (Option V)
abbrev VK:=V->Hp->Prop
abbrev TE:=St->Hp->VK->Prop
abbrev TT:=St->Hp->(Bool->Hp->Prop)->Prop
abbrev TA:=St->Hp->(List V->Hp->Prop)->Prop
structure Ends where
 nx:St->Hp->Prop
 rt:VK
 bk:St->Hp->Prop:=λ_ _=>False
 ct:St->Hp->Prop:=λ_ _=>False
abbrev TS:=Ends->St->Hp->Prop
def EP(X:Cx)(pins:List (Addr×Obj))(Y:St)(Q:VK)(u:Value)(s':Shared):Prop:=∃v H',Inv X pins Y H' s'/\RelV v u/\Q v H'
def TP(X:Cx)(pins:List (Addr×Obj))(Y:St)(Q:Bool->Hp->Prop)(b:Bool)(s':Shared):Prop:=∃H',Inv X pins Y H' s'/\Q b H'
def AP(X:Cx)(pins:List (Addr×Obj))(Y:St)(Q:List V->Hp->Prop)(us:List Value)(s':Shared):Prop:=∃vs H',Inv X pins Y H' s'/\Vals vs us/\Q vs H'
noncomputable def SP(X:Cx)(pins:List (Addr×Obj))(D:Ends)(f:Flow)(s':Shared):Prop :=
 match f with
 |.next=>∃Y' H',Inv X pins Y' H' s'/\D.nx Y' H'
 |.brk=>∃Y' H',Inv X pins Y' H' s'/\D.bk Y' H'
 |.cont=>∃Y' H',Inv X pins Y' H' s'/\D.ct Y' H'
 |.ret u=>∃v Y' H',Inv X pins Y' H' s'/\RelV v u/\D.rt v H'
noncomputable def PE(X:Cx)(e:Expr)(t:TE):Prop :=
 ∀(pins:List (Addr×Obj)) (s:Shared) (Y:St) (H:Hp) (Q:VK),Inv X pins Y H s->t Y H Q->wpAny (model X.prog X.w) X.A (eval e X.env) (EP X pins Y Q) X.xe s
noncomputable def PT(X:Cx)(e:Expr)(t:TT):Prop :=
 ∀(pins:List (Addr×Obj)) (s:Shared) (Y:St) (H:Hp) (Q:Bool->Hp->Prop),Inv X pins Y H s->t Y H Q->wpAny (model X.prog X.w) X.A (isTrue e X.env (eval e X.env)) (TP X pins Y Q) X.xe s
noncomputable def PW(X:Cx)(e:Expr)(t:TT):Prop :=
 ∀(whole:Sem Value) (pins:List (Addr×Obj)) (s:Shared) (Y:St) (H:Hp) (Q:Bool->Hp->Prop),Inv X pins Y H s->t Y H Q->wpAny (model X.prog X.w) X.A (isTrue e X.env whole) (TP X pins Y Q) X.xe s
def PW.pt{X:Cx}{e:Expr}{t:TT}(h:PW X e t):PT X e t:=h _
noncomputable def PA(X:Cx)(es:List Expr)(t:TA):Prop :=
 ∀(pos:Pos) (pins:List (Addr×Obj)) (s:Shared) (Y:St) (H:Hp) (Q:List V->Hp->Prop),Inv X pins Y H s->t Y H Q->wpAny (model X.prog X.w) X.A (spliced (backTo pos (starEach es X.env))) (AP X pins Y Q) X.xe s
noncomputable def PS(X:Cx)(st:Stmt)(t:TS):Prop :=
 ∀(pins:List (Addr×Obj)) (s:Shared) (Y:St) (H:Hp) (D:Ends),Inv X pins Y H s->t D Y H->wpAny (model X.prog X.w) X.A (exec st X.env) (SP X pins D) X.xe s
noncomputable def PSs(X:Cx)(st:List Stmt)(t:TS):Prop :=
 ∀(pins:List (Addr×Obj)) (s:Shared) (Y:St) (H:Hp) (D:Ends),Inv X pins Y H s->t D Y H->wpAny (model X.prog X.w) X.A (execs st X.env) (SP X pins D) X.xe s
def thn{α:Type}{t:Sem α}{Q Q':α->Shared->Prop}{E:Value->Shared->Prop}{s:Shared}(h:wpAny M A t Q E s)(hQ:∀a s,Q a s->Q' a s):wpAny M A t Q' E s:=Xj h hQ λz z x=>x
end
section
variable {pos:Pos}{x:Str}{u:Value}
section
variable {X:Cx}
def Qn8(i:Nat):TE:=λY H Q=>∃v,Y[i]?=some (some v)/\Q v H
def tC(v:V):TE:=λz H Q=>Q v H
def QjI{i:Nat}(hN:X.N[i]?=some x)(hv:Vis X.env.scope x)(hd:(x==("__debug__":Str))=false:=by decide)(hcd:(x==("__classdict__":Str))=false:=by decide):PE X (.Name x pos) (Qn8 i):=by
 intro pins s Y H Q I h;obtain⟨v,e,h⟩:=h;obtain⟨m,hn,hl⟩:=I.loc;obtain⟨u,r,l⟩:=hl i x v hN e hv;have fin:EP X pins Y Q u s:=⟨v,H,I,r,h⟩
 rcases l with⟨hk,hm⟩|⟨hk,c,hc,hcell⟩
 ·exact wpAny_Name (wpAny_loadName_local I.ok.kind hk hn hm fin) hd
 ·rcases hk with hk|hk
  ·exact wpAny_Name (wpAny_loadName_cell I.ok.kind hk hc hcell fin) hd
  ·exact wpAny_Name (wpAny_loadName_free I.ok.kind hk hc hcell fin hcd) hd
def QjM{i j pos}:PE X (.Constant (.int i) j pos) (tC (.int i)):=λz z z H z I h=>wpAny_Constant_int ⟨.int i,H,I.tok _,⟨_,rfl⟩,h⟩
def Qmm{b j pos}:PE X (.Constant (.bool b) j pos) (tC (.bl b)):=λz z z H z I h=>Constant_bool ⟨.bl b,H,I,rfl,h⟩
def QjK{j pos}:PE X (.Constant .none j pos) (tC .non):=λz z z H z I h=>Constant_none ⟨.non,H,I,rfl,h⟩
def QjJ{x j pos}:PE X (.Constant (.str x) j pos) (tC (.str x)):=λz z z H z I h=>Calls.Constant_str ⟨.str x,H,I.tok _,⟨_,rfl⟩,h⟩
def Gl(X:Cx)(x:Str):Prop:=X.env.kindOf x=some .globalImplicit
def QR{E:Value->Shared->Prop}{pins:List (Addr×Obj)}{s:Shared}{Y:St}{H:Hp}{Q:Value->Shared->Prop}(I:Inv X pins Y H s)(hg:Gl X x)(hm:X.mg x=some u)(h:Q u s)
  (hd:(x==("__debug__":Str))=false:=by decide):wpAny (model X.prog X.w) X.A (eval (.Name x pos) X.env) Q E s :=
 Uy I.ok.kind hg (Calls.loadGlobal_global (by rw[I.ok.glob];exact I.mod.glob.keeps I.bk) hm h) hd
def Js{E:Value->Shared->Prop}{pins:List (Addr×Obj)}{s:Shared}{Y:St}{H:Hp}{Q:Value->Shared->Prop}(I:Inv X pins Y H s)(hg:Gl X x)(hm:X.mg x=none)(hv:bootBuiltins x=some u)(h:Q u s)
  (hn:x≠"__name__":=by decide) (hd:(x==("__debug__":Str))=false:=by decide):wpAny (model X.prog X.w) X.A (eval (.Name x pos) X.env) Q E s:=by
 obtain⟨mb,h1,h2⟩:=I.mod.blt
 exact Uy I.ok.kind hg (Calls.loadGlobal_builtin (by rw[I.ok.glob];exact I.mod.glob.keeps I.bk) hm (by rw[I.ok.blt];exact h1.keeps I.bk) ((h2 x hn).trans hv) h) hd
def Qbb{v:V}(hg:Gl X x)(hm:X.mg x=some u)(r:RelV v u)(hd:(x==("__debug__":Str))=false:=by decide):PE X (.Name x pos) (tC v):=
 λz z z H z I h=>QR I hg hm ⟨v,H,I,r,h⟩ hd
def Qhh{v:V}(hg:Gl X x)(hm:X.mg x=none)(hv:bootBuiltins x=some u)(r:RelV v u)(hn:x≠"__name__":=by decide)(hd:(x==("__debug__":Str))=false:=by decide):PE X (.Name x pos) (tC v):=
 λz z z H z I h=>Js I hg hm hv ⟨v,H,I,r,h⟩ hn hd
variable {a b:Expr}{ta tb:TE}
variable {tA tB':TT}{rest:List Expr}
def Qoj(t u:TT):TT:=λY H Q=>t Y H λc H1=>if c=true then u Y H1 Q else Q false H1
def tOr(t u:TT):TT:=λY H Q=>t Y H λc H1=>if c=true then Q true H1 else u Y H1 Q
def Qod(t:TT):TT:=λY H Q=>t Y H λc H1=>Q (!c) H1
def Qg0(ha:PT X a tA):PW X (.BoolOp .And [a] pos) tA:=by
 intro wh pins s Y H Q I h;refine isTrue_and (thn (ha pins s Y H Q I h) λc s1 e=>?_)
 cases c with
 |true=>exact isTrue_and_nil e
 |false=>exact e
def Qjw(ha:PT X a tA):PW X (.BoolOp .Or [a] pos) tA:=by
 intro wh pins s Y H Q I h;refine isTrue_or (thn (ha pins s Y H Q I h) λc s1 e=>?_)
 cases c with
 |false=>exact isTrue_or_nil e
 |true=>exact e
def Qjx(ha:PT X a tA)(hb:PW X (.BoolOp .And (b::rest) pos) tB'):PW X (.BoolOp .And (a::b::rest) pos) (Qoj tA tB'):=by
 intro wh pins s Y H Q I h;refine isTrue_and (thn (ha pins s Y H _ I h) λc s1 z=>?_);obtain⟨H1,I1,q1⟩:=z
 cases c with
 |true=>exact hb wh pins s1 Y H1 Q I1 q1
 |false=>exact⟨H1,I1,q1⟩
def Qme(ha:PT X a tA)(hb:PW X (.BoolOp .Or (b::rest) pos) tB'):PW X (.BoolOp .Or (a::b::rest) pos) (tOr tA tB'):=by
 intro wh pins s Y H Q I h;refine isTrue_or (thn (ha pins s Y H _ I h) λc s1 z=>?_);obtain⟨H1,I1,q1⟩:=z
 cases c with
 |true=>exact⟨H1,I1,q1⟩
 |false=>exact hb wh pins s1 Y H1 Q I1 q1
def Qjz(ha:PT X a tA):PT X (.UnaryOp .Not a pos) (Qod tA):=by
 intro pins s Y H Q I h;exact isTrue_not (ha pins s Y H (λc H1=>Q (!c) H1) I h)
def QlU(ta tb:TE):TE:=λY H Q=>ta Y H λx H1=>∃c,x=.bl c/\if c=true then tb Y H1 Q else Q (.bl false) H1
def Qoc(ta tb:TE):TE:=λY H Q=>ta Y H λx H1=>∃c,x=.bl c/\if c=true then Q (.bl true) H1 else tb Y H1 Q
def QfY{op}{t:TE}(h:PE X a t):PE X (.BoolOp op [a] pos) t:=λpins s Y H Q I hw=>BoolOp_one (h pins s Y H Q I hw)
def QjP(ha:PE X a ta)(hb:PE X (.BoolOp .And (b::rest) pos) tb):PE X (.BoolOp .And (a::b::rest) pos) (QlU ta tb):=by
 intro pins s Y H Q I h;refine BoolOp_and (thn (ha pins s Y H _ I h) λv s1 z=>?_);obtain⟨x,H1,I1,r1,q1⟩:=z;obtain⟨c,rfl,q1⟩:=q1;cases r1;refine Vl ?_
 cases c with
 |true=>exact hb pins s1 Y H1 Q I1 q1
 |false=>exact⟨.bl false,H1,I1,rfl,q1⟩
def Qmi(ha:PE X a ta)(hb:PE X (.BoolOp .Or (b::rest) pos) tb):PE X (.BoolOp .Or (a::b::rest) pos) (Qoc ta tb):=by
 intro pins s Y H Q I h;refine BoolOp_or (thn (ha pins s Y H _ I h) λv s1 z=>?_);obtain⟨x,H1,I1,r1,q1⟩:=z;obtain⟨c,rfl,q1⟩:=q1;cases r1;refine Vl ?_
 cases c with
 |false=>exact hb pins s1 Y H1 Q I1 q1
 |true=>exact⟨.bl true,H1,I1,rfl,q1⟩
def tIf(t:TT)(ta tb:TE):TE:=λY H Q=>t Y H λc H1=>if c=true then ta Y H1 Q else tb Y H1 Q
def QbO{c:Expr}(hc:PT X c tA)(ha:PE X a ta)(hb:PE X b tb):PE X (.IfExp c a b pos) (tIf tA ta tb):=by
 intro pins s Y H Q I h;refine wpAny_IfExp (thn (hc pins s Y H _ I h) λd s1 z=>?_);obtain⟨H1,I1,q1⟩:=z
 cases d with
 |true=>exact ha pins s1 Y H1 Q I1 q1
 |false=>exact hb pins s1 Y H1 Q I1 q1
end
end
section
variable {X:Cx}{e tg:Expr}{H:Hp}{pins:List (Addr×Obj)}{pos:Pos}{P:Program}{s:Shared}{Y:St}{te:TE}{u:Value}{w:World}
noncomputable def SqL(K:W.Frag)(H:Hp)(a:Addr)(xs:List V):Prop :=
 Rd H a (.lst xs) \/
  ∃(o:Obj) (its:Array Value) (n:Nat),K.lookup a=some o/\o.cls=.type "list"/\o.dict=none/\o.data=.seq its n/\its.size<=sizeLine/\Vals xs its.toList
noncomputable def SqT(K:W.Frag)(H:Hp)(a:Addr)(xs:List V):Prop :=
 Rd H a (.tup xs) \/
  ∃(o:Obj) (its:Array Value) (n:Nat),K.lookup a=some o/\o.cls=.type "tuple"/\o.data=.seq its n/\its.size<=sizeLine/\Vals xs its.toList
noncomputable def Qpv:Value->Option V
 |.none=>some .non
 |.bool b=>some (.bl b)
 |.int i _=>some (.int i)
 |.str x _=>some (.str x)
 |.bytes b _=>some (.byt b)
 |.float b _=>some (.flt b)
 |.ref a=>some (.ref a)
 |.type n=>some (.ty n)
 |_=>none
def RelV.abs{x:V}(r:RelV x u):Qpv u=some x:=by
 cases x with
 |non=>cases r;rfl
 |bl _=>cases r;rfl
 |int _=>obtain⟨t,rfl⟩:=r;rfl
 |str _=>obtain⟨t,rfl⟩:=r;rfl
 |byt _=>obtain⟨t,rfl⟩:=r;rfl
 |flt _=>obtain⟨t,rfl⟩:=r;rfl
 |ref _=>cases r;rfl
 |ty _=>cases r;rfl
def RelV.inj{x y:V}(r:RelV x u)(q:RelV y u):x=y:=X2 (r.abs.symm.trans q.abs)
theorem Vals.inj{xs ys:List V}{us:List Value}(h:Vals xs us)(h':Vals ys us):xs=ys:=by
 induction h generalizing ys with
 |nil=>cases h';rfl
 |cons r _ ih=>
  cases h' with
  |cons r' t'=>rw[r.inj r',ih t']
section
variable {a:Addr}{xs ys:List V}
def SqL.of{K:W.Frag}(h:H a=some (.lst xs)):SqL K H a xs:=.inl (.inl h)
def SqT.of{K:W.Frag}(h:H a=some (.tup xs)):SqT K H a xs:=.inl (.inl h)
def Inv.list(I:Inv X pins Y H s)(h:SqL X.K H a xs):∃its:List Value,Vals xs its/\PlainL s.heap a its.toArray/\xs.length<=sizeLine:=by
 rcases h with h|⟨o,its,n,hk,hc,hd,hs,hz,r⟩
 ·obtain⟨z,its,n,r,e⟩:=h.ok I.hok;exact⟨its,r,⟨_,n,e,rfl,rfl,rfl⟩,z⟩
 ·refine⟨its.toList,r,⟨o,n,I.kIn a o hk,hc,hd,by simpa using hs⟩,?_⟩
  have e:=r.length;simp only[Array.length_toList]at e;omega
def Inv.tuple(I:Inv X pins Y H s)(h:SqT X.K H a xs):∃its:List Value,Vals xs its/\IsTup s.heap a its.toArray/\xs.length<=sizeLine:=by
 rcases h with h|⟨o,its,n,hk,hc,hs,hz,r⟩
 ·obtain⟨z,its,r,p⟩:=h.ok I.hok;exact⟨its,r,p,z⟩
 ·refine⟨its.toList,r,⟨o,I.kIn a o hk,hc,n,by simpa using hs⟩,?_⟩
  have e:=r.length;simp only[Array.length_toList]at e;omega
def Inv.list_inj(I:Inv X pins Y H s)(h:SqL X.K H a xs)(h':SqL X.K H a ys):xs=ys:=by
 obtain⟨its,r,⟨o,n,e,_,_,d⟩,_⟩:=I.list h;obtain⟨its',r',⟨o',n',e',_,_,d'⟩,_⟩:=I.list h';rw[e]at e';cases e';rw[d]at d';injection d' with d1 _
 have:its=its':=by simpa using congrArg Array.toList d1
 subst this;exact r.inj r'
def Inv.tuple_inj(I:Inv X pins Y H s)(h:SqT X.K H a xs)(h':SqT X.K H a ys):xs=ys:=by
 obtain⟨its,r,⟨o,e,_,n,d⟩,_⟩:=I.tuple h;obtain⟨its',r',⟨o',e',_,n',d'⟩,_⟩:=I.tuple h';rw[e]at e';cases e';rw[d]at d';injection d' with d1 _
 have:its=its':=by simpa using congrArg Array.toList d1
 subst this;exact r.inj r'
end
noncomputable abbrev Cx.wish(X:Cx)(E:Value->Shared->Prop):Cx:={X with xe:=E}
noncomputable abbrev Cx.nox(X:Cx):Cx:=X.wish λz z=>False
theorem Cx.Ok.wish(ok:X.Ok)(E:Value->Shared->Prop):(X.wish E).Ok :=
 ⟨ok.mod,ok.kind,ok.glob,ok.blt,ok.above,ok.inj,ok.has,ok.cab,ok.hd,ok.frames,ok.stk,ok.exf,ok.bs,ok.bsz,ok.noex,ok.exfs,ok.funs,ok.frf⟩
def Cx.Ok.unwish{E:Value->Shared->Prop}(ok:(X.wish E).Ok):X.Ok :=
 ⟨ok.mod,ok.kind,ok.glob,ok.blt,ok.above,ok.inj,ok.has,ok.cab,ok.hd,ok.frames,ok.stk,ok.exf,ok.bs,ok.bsz,ok.noex,ok.exfs,ok.funs,ok.frf⟩
section
variable {E:Value->Shared->Prop}
theorem Inv.wish(I:Inv X pins Y H s)(E:Value->Shared->Prop):Inv (X.wish E) pins Y H s:=⟨I.ok.wish E,I.os,I.bare,I.base,I.loc,I.cell,I.free,I.freeC,I.pin,I.hok,I.len⟩
theorem Inv.unwish(I:Inv (X.wish E) pins Y H s):Inv X pins Y H s:=⟨I.ok.unwish,I.os,I.bare,I.base,I.loc,I.cell,I.free,I.freeC,I.pin,I.hok,I.len⟩
theorem SP.unwish{D:Ends}{f:Flow}{s':Shared}(h:SP (X.wish E) pins D f s'):SP X pins D f s':=by
 cases f with
 |next=>obtain⟨Y',H',I,q⟩:=h;exact⟨Y',H',I.unwish,q⟩
 |brk=>obtain⟨Y',H',I,q⟩:=h;exact⟨Y',H',I.unwish,q⟩
 |cont=>obtain⟨Y',H',I,q⟩:=h;exact⟨Y',H',I.unwish,q⟩
 |ret u=>obtain⟨v,Y',H',I,r,q⟩:=h;exact⟨v,Y',H',I.unwish,r,q⟩
theorem PE.nox{t:TE}(h:PE X.nox e t):PE X e t:=λpins s Y H Q I hw=>
 Xj (h pins s Y H Q (I.wish _) hw) (λy y x=>by obtain⟨v,H',I',r,q⟩:=x;exact⟨v,H',I'.unwish,r,q⟩) λy y z=>False.elim z
theorem PT.nox{t:TT}(h:PT X.nox e t):PT X e t:=λpins s Y H Q I hw=>
 Xj (h pins s Y H Q (I.wish _) hw) (λy y x=>by obtain⟨H',I',q⟩:=x;exact⟨H',I'.unwish,q⟩) λy y z=>False.elim z
theorem PSs.nox{st:List Stmt}{t:TS}(h:PSs X.nox st t):PSs X st t:=λpins s Y H D I hw=>
 Xj (h pins s Y H D (I.wish _) hw) (λy y q=>q.unwish) λy y z=>False.elim z
end
section
variable {st:Stmt}{rest:List Stmt}{t u:TS}
def Qgz:TS:=λD Y H=>D.nx Y H
def Qoa(t u:TS):TS:=λD Y H=>t {D with nx:=u D} Y H
def Qa7:PSs X [] Qgz:=λz z Y H z I h=>U1 ⟨Y,H,I,h⟩
def Yb(h1:PS X st t)(h2:PSs X rest u):PSs X (st::rest) (Qoa t u):=by
 intro pins s Y H D I h;refine Uu (thn (h1 pins s Y H {D with nx:=u D} I h) λf s1 q=>?_)
 cases f with
 |next=>
  obtain⟨Y',H',I',q⟩:=q;exact h2 pins s1 Y' H' D I' q
 |ret v=>exact q
 |brk=>exact q
 |cont=>exact q
def Qg2(h1:PS X st t):PSs X [st] t:=by
 intro pins s Y H D I h;refine Uu (thn (h1 pins s Y H D I h) λf s1 q=>?_)
 cases f with
 |next=>exact U1 q
 |ret v=>exact q
 |brk=>exact q
 |cont=>exact q
def Qi3:TS:=λD Y H=>D.bk Y H
def QlT:TS:=λD Y H=>D.ct Y H
def Qg4:PS X (.Pass pos) Qgz:=λz z Y H z I h=>wpAny_Pass ⟨Y,H,I,h⟩
def QeQ:PS X (.Break pos) Qi3:=λz z Y H z I h=>wpAny_Break ⟨Y,H,I,h⟩
def Qa9:PS X (.Continue pos) QlT:=λz z Y H z I h=>wpAny_Continue ⟨Y,H,I,h⟩
def Inv.quiet(I:Inv X pins Y H s):interactive X.env=false:=by simp[interactive,I.ok.kind]
def QjB{x j pos pos'}:PS X (.Expr (.Constant (.str x) j pos) pos') Qgz:=λz s Y H z I h=>wpAny_Expr (Calls.Constant_str (show SP X _ _ .next {s with toks:=s.toks+1}from⟨Y,H,I.tok _,h⟩)) I.quiet
def QlS(te:TE):TS:=λD Y H=>te Y H λz H1=>D.nx Y H1
def Qa8(he:PE X e te)(hs:swapsWith e none pos.line X.env=pure false:=by rfl):PS X (.Expr e pos) (QlS te):=by
 intro pins s Y H D I h;exact wpAny_Expr_any (thn (he pins s Y H _ I h) λv s1 z=>by obtain⟨x,H1,I1,r1,q1⟩:=z;exact⟨Y,H1,I1,q1⟩) I.quiet hs
def Qob(te:TE):TS:=λD Y H=>te Y H D.rt
def Qc8(he:PE X e te):PS X (.Return (some e) pos) (Qob te):=by
 intro pins s Y H D I h;exact wpAny_Return_some (thn (he pins s Y H _ I h) λv s1 z=>by obtain⟨x,H1,I1,r1,q1⟩:=z;exact⟨x,Y,H1,I1,r1,q1⟩)
def QlP:TS:=λD z H=>D.rt .non H
def Qg3:PS X (.Return none pos) QlP:=λz z Y H z I h=>wpAny_Return_none ⟨.non,Y,H,I,rfl,h⟩
def Qof(c:TT)(t u:TS):TS:=λD Y H=>c Y H λb H1=>if b=true then t D Y H1 else u D Y H1
def Qg5{c:Expr}{a b:List Stmt}{tc:TT}(hc:PT X c tc)(ha:PSs X a t)(hb:PSs X b u):PS X (.If c a b pos) (Qof tc t u):=by
 intro pins s Y H D I h;refine wpAny_If (thn (hc pins s Y H _ I h) λd s1 z=>?_);obtain⟨H1,I1,q1⟩:=z
 cases d with
 |true=>exact ha pins s1 Y H1 D I1 q1
 |false=>exact hb pins s1 Y H1 D I1 q1
end
abbrev TG:=V->St->Hp->(St->Hp->Prop)->Prop
abbrev TGs:=List V->St->Hp->(St->Hp->Prop)->Prop
noncomputable def PG(X:Cx)(target:Expr)(t:TG):Prop :=
 ∀(pins:List (Addr×Obj)) (s:Shared) (Y:St) (H:Hp) (v:V) (u:Value) (Q:St->Hp->Prop),Inv X pins Y H s->RelV v u->t v Y H Q ->
  wpAny (model X.prog X.w) X.A (assign target X.env u) (λz s'=>∃Y' H',Inv X pins Y' H' s'/\Q Y' H') X.xe s
noncomputable def PGs(X:Cx)(ts:List Expr)(t:TGs):Prop :=
 ∀(pins:List (Addr×Obj)) (s:Shared) (Y:St) (H:Hp) (vs:List V) (us:List Value) (Q:St->Hp->Prop),Inv X pins Y H s->Vals vs us->t vs Y H Q ->
  wpAny (model X.prog X.w) X.A (assignInOrder ((assignEach ts X.env).map (·.2)) us) (λz s'=>∃Y' H',Inv X pins Y' H' s'/\Q Y' H') X.xe s
abbrev QpC:=V->V->V->Hp->(Hp->Prop)->Prop
abbrev TIp:=V->V->Hp->VK->Prop
section

def Qbl(i:Nat):TG:=λv Y H Q=>Q (Y.set i (some v)) H
def Yp{i:Nat}{x:Str}(hN:X.N.Nodup)(hi:X.N[i]?=some x)(hx:Loc X.env.scope x)(hf:X.fn x=true\/X.env.scope.names.lookup x=some .local:=by first|exact .inl rfl|exact .inr rfl|assumption):PG X (.Name x pos) (Qbl i):=by
 intro pins s Y H v u Q I r h;exact wpAny_assign_Name (JF I hN hi hx r (λs' I'=>⟨_,H,I',h⟩) hf)
def QnK:TGs:=λvs Y H Q=>vs=[]/\Q Y H
def QhZ(t:TG)(u:TGs):TGs:=λvs Y H Q=>∃v r,vs=v::r/\t v Y H λY' H'=>u r Y' H' Q
def Qba:PGs X [] QnK:=by
 intro pins s Y H vs us Q I r h;obtain⟨e,h⟩:=h;subst e;cases r;exact assignInOrder_nil ⟨Y,H,I,h⟩
def ZO{es:List Expr}{t:TG}{u:TGs}(h1:PG X e t)(h2:PGs X es u)
  (hs:(assignEach (e::es) X.env).map (·.2)=assign e X.env::(assignEach es X.env).map (·.2):=by rfl):PGs X (e::es) (QhZ t u):=by
 intro pins s Y H vs us Q I r h;obtain⟨v,vr,e1,h⟩:=h;subst e1
 cases r with
 |cons r rr=>
  rw[hs];refine assignInOrder_cons (thn (h1 pins s Y H _ _ _ I r h) λz s1 y=>?_);obtain⟨σ1,H1,I1,q1⟩:=y;exact h2 pins s1 σ1 H1 _ _ Q I1 rr q1
def QnJ(K:W.Frag)(n:Nat)(t:TGs):TG:=λv Y H Q=>∃a xs,v=.ref a/\SqT K H a xs/\xs.length=n/\t xs Y H Q
def Qdj{es:List Expr}{k:Nat}{t:TGs}{n:Nat}(hc:X.calm=true)(h:PGs X es t)
  (hn:(assignEach es X.env).length=n:=by rfl) (hst:(assignEach es X.env).findIdx? (·.1)=none:=by rfl):PG X (.Tuple es k pos) (QnJ X.K n t):=by
 intro pins s Y H v u Q I r hw;obtain⟨a,xs,e1,hq,hl,hw⟩:=hw;subst e1;cases r;obtain⟨its,rv,ht,hz⟩:=I.tuple hq
 refine assign_Tuple_tuple (I.ok.hd hc) ht (by simp[hn,<-hl,rv.length]) hst λh' hx=>?_
 have I1:Inv X pins Y H {s with heap:=h'}:=I.kept (t':=s.toks) λb o e=>hx b o (X4 (Xk e)) e
 exact h pins _ Y H xs _ Q I1 (by simpa using rv) hw
def Qnn(te:TE)(g:TG):TS:=λD Y H=>te Y H λx H1=>g x Y H1 D.nx
def QjC{g:TG}(he:PE X e te)(hg:PG X tg g)(hs:swapsWithSole [tg] e pos.line X.env=pure false:=by rfl)(hw:swappedStores [tg] e X.env=pure none:=by rfl)
  (h1:(assignEach [tg] X.env).map (·.2)=[assign tg X.env]:=by rfl):PS X (.Assign [tg] e pos) (Qnn te g):=by
 intro pins s Y H D I h;refine wpAny_Assign_stores (thn (he pins s Y H _ I h) λv s1 z=>?_) hs hw;obtain⟨x,H1,I1,r1,q1⟩:=z;rw[h1];exact thn (hg pins s1 Y H1 x v _ I1 r1 q1) λy s2 q=>q
def Jn{i:Nat}{x:Str}{pos':Pos}(hN:X.N.Nodup)(hi:X.N[i]?=some x)(hx:Loc X.env.scope x)(he:PE X e te)(hs:swapsWith e (some (.Name x pos')) pos.line X.env=pure false:=by rfl)(hf:X.fn x=true\/X.env.scope.names.lookup x=some .local:=by first|exact .inl rfl|exact .inr rfl|assumption):
  PS X (.Assign [.Name x pos'] e pos) (Qnn te (Qbl i)):=by
 intro pins s Y H D I h;refine wpAny_Assign_Name (thn (he pins s Y H _ I h) λv s1 z=>?_) hs;obtain⟨y,H1,I1,r1,q1⟩:=z;exact JF I1 hN hi hx r1 (λs2 I2=>⟨_,H1,I2,q1⟩) hf
end
section

end
structure It where
 go:Nat->Hp->Prop
 yld:Nat->Hp->V->Hp->Prop
 stop:Nat->Hp->Prop
noncomputable def Jh(X:Cx)(pins:List (Addr×Obj))(H:Hp)(b:Addr):Prop :=
 H b=none/\b≠X.env.locals/\b∉X.fs/\(b∈X.ex\/X.s₀.heap.objs.size<=b)/\(∀x c,X.env.cells.lookup x=some c->c≠b)/\∀p∈X.pn++pins,p.1≠b
def Inv.fpOk{H':Hp}{b:Addr}(I:Inv X pins Y H s)(hb:s.heap.objs.size<=b)(hn:H' b=none):Jh X pins H' b:=by
 refine⟨hn,Nat.ne_of_gt (Xr I.lt hb),I.nofs hb,.inr (X1 I.sz hb),λx c e z=>?_,λp hp z=>?_⟩
 ·obtain⟨v,q⟩:=I.cell x c e
  exact absurd (Xr q.lt (by rw[z];exact hb)) (Wn _)
 ·exact absurd (Xr (Xk (I.pin p hp).1) (by rw[z];exact hb)) (Wn _)
structure Turn(P:Program)(w:World)(K:W.Frag)(tg:Expr)(J:It)(fp:List Addr)(it:Addr)(tn:Nat->Heap->Prop):Prop where
 mem:it∈fp
 obj:∀i h,tn i h->∀b∈fp,∃o,h.get? b=some o/\∀v,o.data≠.cell v
 keep:∀i h h',tn i h->(∀b∈fp,∀o,h.get? b=some o->h'.get? b=some o)->tn i h'
 item:∀(X:Cx),X.prog=P->X.w=w->X.K=K->X.calm=true->∀(i:Nat) (pins:List (Addr×Obj)) (s:Shared) (Y:St) (H:Hp) (E:Value->Shared->Prop),Inv X pins Y H s->(∀b∈fp,Jh X pins H b)->tn i s.heap->J.go i H ->
  wpAny (model P w) X.A (pyNext (.ref it)) (λr s1=>∃u,r=some u /\
   wpAny (model P w) X.A (letOwnedTupleGo tg (.ref it) u) (λ_ s2=>∃x H',Inv X pins Y H' s2/\RelV x u/\J.yld i H x H'/\tn (i+1) s2.heap/\∀b∈fp,H' b=none) E s1) E s
 done:∀(X:Cx),X.prog=P->X.w=w->X.K=K->X.calm=true->∀(i:Nat) (pins:List (Addr×Obj)) (s:Shared) (Y:St) (H:Hp) (E:Value->Shared->Prop),Inv X pins Y H s->(∀b∈fp,Jh X pins H b)->tn i s.heap->J.stop i H ->
  wpAny (model P w) X.A (pyNext (.ref it)) (λr s1=>r=none/\Inv X pins Y H s1) E s
 self:∀(A:Around) (i:Nat) (s:Shared) (Q:Value->Shared->Prop) (E:Value->Shared->Prop),tn i s.heap->Q (.ref it) s->wpAny (model P w) A (pyIter (.ref it)) Q E s
abbrev TI:=St->Hp->(It->Hp->Prop)->Prop
noncomputable def PIE(X:Cx)(pins:List (Addr×Obj))(Y:St)(tg:Expr)(R:It->Hp->Prop)(itv:Value)(s2:Shared):Prop :=
 ∃(it:Addr) (fp:List Addr) (tn:Nat->Heap->Prop) (J:It) (H':Hp),itv=.ref it/\Inv X pins Y H' s2/\Turn X.prog X.w X.K tg J fp it tn/\tn 0 s2.heap/\(∀b∈fp,Jh X pins H' b)/\R J H'
noncomputable def PI(X:Cx)(tg iter:Expr)(wi:TI):Prop :=
 ∀(pins:List (Addr×Obj)) (s:Shared) (Y:St) (H:Hp) (R:It->Hp->Prop),Inv X pins Y H s->wi Y H R ->
  wpAny (model X.prog X.w) X.A (eval iter X.env) (λv s1=>wpAny (model X.prog X.w) X.A (pyIter v) (PIE X pins Y tg R) X.xe s1) X.xe s
def Qfi{M:Model}{A:Around}{E:Value->Shared->Prop}{it:Addr}{o:Obj}{n:String}{vs:Array Value}{Q:Unit->Shared->Prop}(ho:s.heap.get? it=some o)(hc:o.cls=.type n)(hd:o.data=.fields vs)
  (hn:["enumerate","zip","dict_itemiterator","dict_reverseitemiterator","odict_iterator","itertools.zip_longest","itertools.pairwise"].contains n=false) (hQ:Q () s):wpAny M A (letOwnedTupleGo tg (.ref it) u) Q E s:=by
 unfold letOwnedTupleGo
 cases tg<;>first
  |exact Xl hQ
  | (cases u<;>first
    |exact Xl hQ
    | (refine Xa (wpAny_load ho ?_)
       rw[hc,hd];show wpAny M A (if(["enumerate","zip","dict_itemiterator","dict_reverseitemiterator","odict_iterator","itertools.zip_longest","itertools.pairwise"].contains n&&vs[0]?==some (rawInt _))=true then _ else _) Q E s
       rw[if_neg (by intro h;rw[hn,Bool.false_and]at h;cases h)]
       exact Xl hQ))
noncomputable def Itl(K:W.Frag)(a:Addr):It :=
 ⟨λi H=>∃xs x,SqL K H a xs/\xs[i]?=some x,λi H x H'=>H'=H/\∀xs,SqL K H a xs->xs[i]?=some x,λi H=>∃xs,SqL K H a xs/\xs.length<=i⟩
noncomputable def Itt(K:W.Frag)(a:Addr):It :=
 ⟨λi H=>∃xs x,SqT K H a xs/\xs[i]?=some x,λi H x H'=>H'=H/\∀xs,SqT K H a xs->xs[i]?=some x,λi H=>∃xs,SqT K H a xs/\xs.length<=i⟩
noncomputable def Itr(lo:Int)(n:Nat):It:=⟨λi z=>i<n,λi H x H'=>H'=H/\x=.int (lo+i),λi z=>n<=i⟩
def QcN{K:W.Frag}(a it:Addr):Turn P w K tg (Itl K a) [it] it (λi h=>h.IsListIter it a i) where
 mem:=by simp
 obj:=λi h st b hb=>by
  have e:b=it:=by simpa using hb
  subst e;obtain⟨o,e,c,d⟩:=st
  exact⟨o,e,λv z=>by rw[d]at z;cases z⟩
 keep:=λi h h' st k=>st.at λo e=>k it (by simp) o e
 item:=by
  intro X hP hw hK hc i pins s Y H E I hf st hg;subst hP hw hK;obtain⟨xs,x,hq,hx⟩:=hg;obtain⟨its,rv,p,hz⟩:=I.list hq;obtain⟨u,hu,ru⟩:=rv.get hx
  obtain⟨f0,f1,f2,f3,f4,f5⟩:=hf it (by simp)
  refine wpAny_pyNext_list_item st p.isList (x:=u) (by simpa using hu) λh' st' sb=>?_
  have I1:Inv X pins Y H {s with heap:=h'}:=I.turned (t':=s.toks) (λb o hb e=>(sb.2 b hb).trans e) f0 f1 f3 f4 f5;obtain⟨o,e,c,d⟩:=id st'
  exact⟨u,rfl,Qfi (s:={s with heap:=h'}) e c d (by decide) ⟨x,H,I1,ru,⟨rfl,λys hy=>by rw[I.list_inj hy hq];exact hx⟩,st',λb hb=>(hf b hb).1⟩⟩
 done:=by
  intro X hP hw hK hc i pins s Y H E I hf st hg;subst hP hw hK;obtain⟨xs,hq,hx⟩:=hg;obtain⟨its,rv,p,hz⟩:=I.list hq
  obtain⟨f0,f1,f2,f3,f4,f5⟩:=hf it (by simp)
  have hl:=rv.length
  exact wpAny_pyNext_list_end (I.ok.hd hc) st p.isList (by simp;omega) λh' eb=>⟨rfl,I.turned (t':=s.toks) (λb o hb e=>eb b o hb e) f0 f1 f3 f4 f5⟩
 self:=λy y y y y st h=>wpAny_pyIter_listiter st h
def Qb7{K:W.Frag}(a it:Addr):Turn P w K tg (Itt K a) [it] it (λi h=>h.IsTupleIter it a i) where
 mem:=by simp
 obj:=λi h st b hb=>by
  have e:b=it:=by simpa using hb
  subst e;obtain⟨o,e,c,d⟩:=st
  exact⟨o,e,λv z=>by rw[d]at z;cases z⟩
 keep:=λi h h' st k=>st.at λo e=>k it (by simp) o e
 item:=by
  intro X hP hw hK hc i pins s Y H E I hf st hg;subst hP hw hK;obtain⟨xs,x,hq,hx⟩:=hg;obtain⟨its,rv,p,hz⟩:=I.tuple hq;obtain⟨u,hu,ru⟩:=rv.get hx
  obtain⟨f0,f1,f2,f3,f4,f5⟩:=hf it (by simp)
  refine wpAny_pyNext_tuple_item st (show s.heap.IsTuple a its.toArray from p) (x:=u) (by simpa using hu) λh' st' sb=>?_
  have I1:Inv X pins Y H {s with heap:=h'}:=I.turned (t':=s.toks) (λb o hb e=>(sb.2 b hb).trans e) f0 f1 f3 f4 f5;obtain⟨o,e,c,d⟩:=id st'
  exact⟨u,rfl,Qfi (s:={s with heap:=h'}) e c d (by decide) ⟨x,H,I1,ru,⟨rfl,λys hy=>by rw[I.tuple_inj hy hq];exact hx⟩,st',λb hb=>(hf b hb).1⟩⟩
 done:=by
  intro X hP hw hK hc i pins s Y H E I hf st hg;subst hP hw hK;obtain⟨xs,hq,hx⟩:=hg;obtain⟨its,rv,p,hz⟩:=I.tuple hq
  obtain⟨f0,f1,f2,f3,f4,f5⟩:=hf it (by simp)
  have hl:=rv.length
  exact wpAny_pyNext_tuple_end (I.ok.hd hc) st (show s.heap.IsTuple a its.toArray from p) (by simp;omega) λh' eb=>⟨rfl,I.turned (t':=s.toks) (λb o hb e=>eb b o hb e) f0 f1 f3 f4 f5⟩
 self:=λy y y y y st h=>wpAny_pyIter_tupleiter st h
def Qb8{K:PySem.W.Frag}(it:Addr)(lo:Int)(n:Nat):Turn P w K tg (Itr lo n) [it] it (λi h=>IsRangeIter h it (lo+(i:Nat)*1) ((n:Int) - (i:Nat)) 1) where
 mem:=by simp
 obj:=λi h st b hb=>by
  have e:b=it:=by simpa using hb
  subst e
  exact⟨_,st,λv z=>by
   have z':Data.fields _=Data.cell v:=z
   cases z'⟩
 keep:=λi h h' st k=>k it (by simp) _ st
 item:=by
  intro X hP hw hK hc i pins s Y H E I hf st hg;subst hP hw hK
  obtain⟨f0,f1,f2,f3,f4,f5⟩:=hf it (by simp)
  have W:=Walks.range (prog:=X.prog) (w:=X.w) (I.ok.hd hc) it lo 1 n;refine W.item i s _ _ hg st λv h' tk hv st' kk=>?_;obtain⟨t,rfl⟩:=hv
  have I1:Inv X pins Y H {s with heap:=h',toks:=tk}:=I.turned (λb o hb e=>kk b o (by simpa using hb) e) f0 f1 f3 f4 f5
  refine⟨_,rfl,Qfi (s:={s with heap:=h',toks:=tk}) (n:="range_iterator") st' rfl rfl (by decide) ⟨.int (lo+i),H,I1,⟨t,?_⟩,⟨rfl,rfl⟩,st',λb hb=>(hf b hb).1⟩⟩
  rw[Int.mul_one]
 done:=by
  intro X hP hw hK hc i pins s Y H E I hf st hg;subst hP hw hK
  obtain⟨f0,f1,f2,f3,f4,f5⟩:=hf it (by simp)
  exact wpAny_pyNext_range_end (I.ok.hd hc) st (by have:n<=i:=hg;omega) λh' eb=>⟨rfl,I.turned (t':=s.toks) (λb o hb e=>eb b o hb e) f0 f1 f3 f4 f5⟩
 self:=λy y y y y st h=>wpAny_pyIter_rangeiter st h
end
section
variable {H:Hp}{pins:List (Addr×Obj)}{fp:List Addr}{pos:Pos}{s:Shared}{Y:St}
section
variable {X:Cx}{tg:Expr}
def QmL(K:W.Frag)(tl:TE):TI:=λY H R=>tl Y H λx H1=>∃a,x=.ref a/\(∃xs,SqL K H1 a xs)/\R (Itl K a) H1
def QoK(K:W.Frag)(tl:TE):TI:=λY H R=>tl Y H λx H1=>∃a,x=.ref a/\(∃xs,SqT K H1 a xs)/\R (Itt K a) H1
def Qhb{l:Expr}{tl:TE}(hl:PE X l tl):PI X tg l (QmL X.K tl):=by
 intro pins s Y H R I h;refine thn (hl pins s Y H _ I h) λv s1 z=>?_;obtain⟨x,H1,I1,r1,q1⟩:=z;obtain⟨a,e,⟨xs,hq⟩,q⟩:=q1;subst e;cases r1;obtain⟨its,rv,p,hz⟩:=I1.list hq;refine Ua p.isList ?_;refine⟨s1.heap.objs.size,[s1.heap.objs.size],_,_,H1,rfl,I1.kept (t':=s1.toks) λb o e=>Xd _ e,QcN a _,⟨_,X0 _ rfl,rfl,rfl⟩,λb hb=>?_,q⟩
 have e:b=s1.heap.objs.size:=by simpa using hb
 subst e;exact I1.fpOk (Xm _) (I1.hok.fresh (Xm _))
def QjE{l:Expr}{tl:TE}(hl:PE X l tl):PI X tg l (QoK X.K tl):=by
 intro pins s Y H R I h;refine thn (hl pins s Y H _ I h) λv s1 z=>?_;obtain⟨x,H1,I1,r1,q1⟩:=z;obtain⟨a,e,⟨xs,hq⟩,q⟩:=q1;subst e;cases r1;obtain⟨its,rv,p,hz⟩:=I1.tuple hq;refine Uk (show s1.heap.IsTuple a its.toArray from p) ?_;refine⟨s1.heap.objs.size,[s1.heap.objs.size],_,_,H1,rfl,I1.kept (t':=s1.toks) λb o e=>Xd _ e,Qb7 a _,⟨_,X0 _ rfl,rfl,rfl⟩,λb hb=>?_,q⟩
 have e:b=s1.heap.objs.size:=by simpa using hb
 subst e;exact I1.fpOk (Xm _) (I1.hok.fresh (Xm _))
def QbL{R:It->Hp->Prop}{E:Value->Shared->Prop}{lo hi:Int}{t u v:Tok}{tk:Nat}(I:Inv X pins Y H s)(h1:-(2 ^ 62)<=lo)(h2:lo<2 ^ 62)(h3:-(2 ^ 62)<=hi)(h4:hi<2 ^ 62)
  (q:R (Itr lo (hi-lo).toNat) H):wpAny (model X.prog X.w) X.A (pyIter (.ref s.heap.objs.size)) (PIE X pins Y tg R) E {s with heap:=s.heap.push {cls:=.type "range",data:=.fields #[.int lo t,.int hi u,.int 1 v]},toks:=tk}:=by
 refine wpAny_pyIter_range (IsRange.new ..) (small_one h1 h2 h3 h4) ?_;have I1:Inv X pins Y H {s with heap:=s.heap.push {cls:=.type "range",data:=.fields #[.int lo t,.int hi u,.int 1 v]},toks:=tk}:=I.kept λb o e=>Xd _ e
 refine⟨(s.heap.push {cls:=.type "range",data:=.fields #[.int lo t,.int hi u,.int 1 v]}).objs.size,[(s.heap.push {cls:=.type "range",data:=.fields #[.int lo t,.int hi u,.int 1 v]}).objs.size],_,_,H,rfl,
  I1.kept (t':=tk) λb o e=>Xd _ e,Qb8 _ lo (hi-lo).toNat,?_,λb hb=>?_,q⟩
 ·have e1:lo+((0:Nat):Int)*1=lo:=by simp
  have e2:(((hi-lo).toNat:Nat):Int) - ((0:Nat):Int)=Builtin.Range.rangeSize lo hi 1:=by rw[rangeSize_one];split<;>omega
  show IsRangeIter _ _ (lo+((0:Nat):Int)*1) ((((hi-lo).toNat:Nat):Int) - ((0:Nat):Int)) 1;rw[e1,e2];exact X0 _ rfl
 ·have e:b=(s.heap.push {cls:=.type "range",data:=.fields #[.int lo t,.int hi u,.int 1 v]}).objs.size:=by simpa using hb
  subst e;exact I1.fpOk (Xm _) (I1.hok.fresh (Xm _))
def QmK(ta:TA):TI:=λY H R=>ta Y H λvs H1=>∃j:Int,vs=[.int j]/\-(2 ^ 62)<=j/\j<2 ^ 62/\R (Itr 0 j.toNat) H1
def QmJ(ta:TA):TI:=λY H R=>ta Y H λvs H1=>∃i j:Int,vs=[.int i,.int j]/\(-(2 ^ 62)<=i/\i<2 ^ 62/\-(2 ^ 62)<=j/\j<2 ^ 62)/\R (Itr i (j-i).toNat) H1
def Qdi{a:Expr}{ta:TA}{p:Pos}(hg:Gl X "range")(hm:X.mg "range"=none)(ha:PA X [a] ta)(hs:starEach [a] X.env=[(false,eval a X.env)]:=by rfl):PI X tg (.Call (.Name "range" p) [a] [] pos) (QmK ta):=by
 intro pins s Y H R I h;refine Call_ (Js I hg hm boot_range (V3 (thn (ha pos pins s Y H _ I h) λus s1 z=>?_) hs rfl));obtain⟨vs,H1,I1,r1,q1⟩:=z;obtain⟨j,e,q1,q2,q⟩:=q1;subst e
 cases r1 with
 |cons r rr=>
  cases rr;obtain⟨t,rfl⟩:=r
  exact call_range_1 (QbL I1 (by omega) (by omega) q1 q2 (by simpa using q))
def Qdh{a b:Expr}{ta:TA}{p:Pos}(hg:Gl X "range")(hm:X.mg "range"=none)(ha:PA X [a,b] ta)(hs:starEach [a,b] X.env=[(false,eval a X.env),(false,eval b X.env)]:=by rfl)(hs2:starEach [b] X.env=[(false,eval b X.env)]:=by rfl):
  PI X tg (.Call (.Name "range" p) [a,b] [] pos) (QmJ ta):=by
 intro pins s Y H R I h
 refine Call_ (Js I hg hm boot_range (V3 (thn (ha pos pins s Y H _ I h) λus s1 z=>?_) (by rw[hs,hs2]) (by rw[hs2];rfl)));obtain⟨vs,H1,I1,r1,q1⟩:=z
 obtain⟨i,j,e,⟨q1,q2,q3,q4⟩,q⟩:=q1;subst e
 cases r1 with
 |cons r rr=>
  cases rr with
  |cons r' rr=>
   cases rr;obtain⟨t,rfl⟩:=r;obtain⟨t',rfl⟩:=r';exact call_range_2 (QbL I1 q1 q2 q3 q4 q)
def Qog(wi:TI)(g:TG)(tb:TS):TS:=λD Y H=>wi Y H λJ H1=>∃W:Nat->Nat->St->Hp->Prop,(∃m,W 0 m Y H1)/\∀i m Y H,W i m Y H ->
 (J.stop i H/\D.nx Y H)\/(J.go i H/\∃N:St->Hp->Prop,(∀Y' H',N Y' H'->∃m',m'<m/\W (i+1) m' Y' H')/\∀x H',J.yld i H x H'->g x Y H' λσ2 H2=>tb {D with nx:=N,ct:=N,bk:=D.nx} σ2 H2)
noncomputable def ZV(fp:List Addr)(h:Heap):List (Addr×Obj):=fp.filterMap λb=>(h.get? b).map λo=>(b,o)
def QU{h:Heap}{b:Addr}{o:Obj}(hb:b∈fp)(e:h.get? b=some o):(b,o)∈ZV fp h:=T1.mpr ⟨b,hb,by rw[e];rfl⟩
def Qdp{h:Heap}{p:Addr×Obj}(hp:p∈ZV fp h):p.1∈fp/\h.get? p.1=some p.2:=by
 obtain⟨b,hb,e⟩:=T1.mp hp
 cases q:h.get? b with
 |none=>rw[q]at e;cases e
 |some o=>
  rw[q]at e;have e':(b,o)=p:=X2 e;subst e';exact⟨hb,q⟩
def Inv.pinned(I:Inv X pins Y H s)(hf:∀b∈fp,Jh X pins H b)(ho:∀b∈fp,∃o,s.heap.get? b=some o/\∀v,o.data≠.cell v):Inv X (pins++ZV fp s.heap) Y H s :=
 I.pins_of λp hp=>(X5.mp hp).elim (λz=>I.pin p (Xq _ z)) λz=>by
  obtain⟨hb,e⟩:=Qdp z;obtain⟨f0,f1,f2,_⟩:=hf p.1 hb;obtain⟨o,e',d⟩:=ho p.1 hb;rw[e]at e';cases e';exact⟨e,f0,f1,f2,d⟩
def Inv.unpinned{pl:List (Addr×Obj)}(I:Inv X (pins++pl) Y H s):Inv X pins Y H s:=I.pins_of λp hp=>I.pin p (Xq _ (Ut _ hp))
def QfU{iter:Expr}{body:List Stmt}{wi:TI}{g:TG}{tb:TS}(hp:PassesOwn (model X.prog X.w) X.A X.env X.xe)(hc:X.calm=true)(hi:PI X tg iter wi)(hg:PG X tg g)(hb:PSs X body tb)
  (hs:∀x,foldedSetIterable iter X.env x=pure x:=by intro _;rfl):PS X (.For tg iter body [] pos) (Qog wi g tb):=by
 intro pins s Y H D I h;refine wpAny_For (thn (hi pins s Y H _ I h) λv s1 h1=>thn h1 λitv s2 h2=>?_) hs;obtain⟨it,fp,tn,J,H2,e,I2,T,st2,f2,W,⟨m0,w0⟩,turn⟩:=h2;subst e
 have stat:∀{H':Hp},(∀b∈fp,H' b=none)->∀b∈fp,Jh X pins H' b:=λhn b hb=>⟨hn b hb,(f2 b hb).2⟩;refine codeAny_forLoop_any (λn s'=>∃i Y' H',Inv X pins Y' H' s'/\tn i s'.heap/\(∀b∈fp,H' b=none)/\W i n Y' H') ?_ m0 ⟨0,Y,H2,I2,st2,λb hb=>(f2 b hb).1,w0⟩;rintro n s3 ⟨i,σ3,H3,I3,st3,fr3,w3⟩
 rcases turn i n σ3 H3 w3 with⟨stop,qn⟩|⟨go,N,hN,step⟩
 ·refine U2 hp (thn (T.done X rfl rfl rfl hc i pins s3 σ3 H3 X.xe I3 (stat fr3) st3 stop) λr s4 z=>?_);obtain⟨hr,I4⟩:=z;subst hr;exact U1 ⟨σ3,H3,I4,qn⟩
 ·refine U2 hp (thn (T.item X rfl rfl rfl hc i pins s3 σ3 H3 X.xe I3 (stat fr3) st3 go) λr s4 y=>?_);obtain⟨u,hr,h4⟩:=y;subst hr;refine U2 hp (thn h4 λt s5 q=>?_);obtain⟨x,H5,I5,r5,y5,st5,fr5⟩:=q;have I5':=I5.pinned (stat fr5) (T.obj _ _ st5);refine U2 hp (thn (hg _ s5 σ3 H5 x u _ I5' r5 (step x H5 y5)) λt s6 p=>?_);obtain⟨σ6,H6,I6,q6⟩:=p;refine U2 hp (thn (hb _ s6 σ6 H6 _ I6 q6) λf s7 q7=>?_)
  have again:∀{σ7:St} {H7:Hp},Inv X (pins++ZV fp s5.heap) σ7 H7 s7->N σ7 H7->∃m,m<n/\∃i Y' H',Inv X pins Y' H' s7/\tn i s7.heap/\(∀b∈fp,H' b=none)/\W i m Y' H':=λ{σ7 H7} I7 n7=>by
   obtain⟨m',hm,w7⟩:=hN σ7 H7 n7;refine⟨m',hm,i+1,σ7,H7,I7.unpinned,T.keep _ _ _ st5 λb hb o e=>(I7.pin (b,o) (Xq _ (Xq _ (QU hb e)))).1,λb hb=>?_,w7⟩;obtain⟨o,e,d⟩:=T.obj _ _ st5 b hb;exact(I7.pin (b,o) (Xq _ (Xq _ (QU hb e)))).2.1
  cases f with
  |next=>obtain⟨σ7,H7,I7,n7⟩:=q7;exact again I7 n7
  |cont=>obtain⟨σ7,H7,I7,n7⟩:=q7;exact again I7 n7
  |brk=>obtain⟨σ7,H7,I7,q7⟩:=q7;exact⟨σ7,H7,I7.unpinned,q7⟩
  |ret v=>obtain⟨x7,σ7,H7,I7,r7,q7⟩:=q7;exact⟨x7,σ7,H7,I7.unpinned,r7,q7⟩
end
end
section
variable {op:CmpOp}{f:Value->Value->Sem Value}
abbrev R2:=V->V->Hp->VK->Prop
noncomputable def OpR(X:Cx)(f:Value->Value->Sem Value)(r:R2):Prop :=
 ∀(pins:List (Addr×Obj)) (s:Shared) (Y:St) (H:Hp) (x y:V) (v u:Value) (Q:VK),Inv X pins Y H s->RelV x v->RelV y u->r x y H Q ->
  wpAny (model X.prog X.w) X.A (f v u) (EP X pins Y Q) X.xe s
noncomputable def UnR(X:Cx)(f:Value->Sem Value)(r:V->Hp->VK->Prop):Prop :=
 ∀(pins:List (Addr×Obj)) (s:Shared) (Y:St) (H:Hp) (x:V) (v:Value) (Q:VK),Inv X pins Y H s->RelV x v->r x H Q ->
  wpAny (model X.prog X.w) X.A (f v) (EP X pins Y Q) X.xe s
noncomputable def CallR(X:Cx)(f:Value)(r:List V->Hp->VK->Prop):Prop :=
 ∀(pins:List (Addr×Obj)) (s:Shared) (Y:St) (H:Hp) (xs:List V) (us:List Value) (Q:VK),Inv X pins Y H s->Vals xs us->r xs H Q ->
  wpAny (model X.prog X.w) X.A (call f us) (EP X pins Y Q) X.xe s
noncomputable def Qpw(X:Cx)(r:V->Hp->(Bool->Hp->Prop)->Prop):Prop :=
 ∀(pins:List (Addr×Obj)) (s:Shared) (Y:St) (H:Hp) (x:V) (v:Value) (Q:Bool->Hp->Prop),Inv X pins Y H s->RelV x v->r x H Q ->
  wpAny (model X.prog X.w) X.A (truthy v) (TP X pins Y Q) X.xe s
def tOp(r:R2)(ta tb:TE):TE:=λY H Q=>ta Y H λx H1=>tb Y H1 λy H2=>r x y H2 Q
def tUn(r:V->Hp->VK->Prop)(ta:TE):TE:=λY H Q=>ta Y H λx H1=>r x H1 Q
def rI(C:Int->Int->Prop)(g:Int->Int->V):R2:=λx y H Q=>∃i j,x=.int i/\y=.int j/\C i j/\Q (g i j) H
def rI0(g:Int->Int->V):R2:=λx y H Q=>∃i j,x=.int i/\y=.int j/\Q (g i j) H
def rU(g:Int->V):V->Hp->VK->Prop:=λx H Q=>∃i,x=.int i/\Q (g i) H
section
variable {X:Cx}{a b:Expr}{ta tb:TE}{pos:Pos}
def Qm9(ha:PE X a ta)(hb:PE X b tb){pins:List (Addr×Obj)}{s:Shared}{Y:St}{H:Hp}{R:V->V->Hp->Prop}(I:Inv X pins Y H s)
  (h:ta Y H λx H1=>tb Y H1 λy H2=>R x y H2) {Q:Value->Shared->Prop}
  (hf:∀v u s2 x y H2,Inv X pins Y H2 s2->RelV x v->RelV y u->R x y H2->wpAny (model X.prog X.w) X.A (f v u) Q X.xe s2):
  wpAny (model X.prog X.w) X.A (eval a X.env) (λv s₁=>wpAny (model X.prog X.w) X.A (eval b X.env) (λu s₂=>wpAny (model X.prog X.w) X.A (f v u) Q X.xe s₂) X.xe s₁) X.xe s:=by
 refine thn (ha pins s Y H _ I h) λv s1 z=>?_;obtain⟨x,H1,I1,r1,q1⟩:=z;refine thn (hb pins s1 Y H1 _ I1 q1) λu s2 t=>?_;obtain⟨y,H2,I2,r2,q2⟩:=t;exact hf v u s2 x y H2 I2 r1 r2 q2
def Qmj{op:Operator}{r:R2}(ho:OpR X (binaryOp op) r)(ha:PE X a ta)(hb:PE X b tb):PE X (.BinOp a op b pos) (tOp r ta tb):=by
 intro pins s Y H Q I h;exact wpAny_BinOp (Qm9 ha hb I h λv u s2 x y H2 I2 rx ry q=>ho pins s2 Y H2 x y v u Q I2 rx ry q)
def Qmh{op:UnaryOp}{r:V->Hp->VK->Prop}(ho:UnR X (unaryOp op) r)(ha:PE X a ta):PE X (.UnaryOp op a pos) (tUn r ta):=by
 intro pins s Y H Q I h;exact UnaryOp_ (thn (ha pins s Y H _ I h) λv s1 z=>by obtain⟨x,H1,I1,r1,q1⟩:=z;exact ho pins s1 Y H1 x v Q I1 r1 q1)
def opI{C:Int->Int->Prop}{g:Int->Int->Int}
  (rule:∀(i j:Int) (t u:Tok) (s:Shared) (Q:Value->Shared->Prop) (E:Value->Shared->Prop),C i j->Q (.int (g i j) s.toks) {s with toks:=s.toks+1}->wpAny (model X.prog X.w) X.A (f (.int i t) (.int j u)) Q E s):
  OpR X f (rI C λi j=>.int (g i j)):=by
 intro pins s Y H x y v u Q I rx ry h;obtain⟨i,j,rfl,rfl,hc,q⟩:=h;obtain⟨t,rfl⟩:=rx;obtain⟨t',rfl⟩:=ry;exact rule i j t t' s _ _ hc ⟨.int (g i j),H,I.tok _,⟨_,rfl⟩,q⟩
def QnB{g:Int->Int->Int}
  (rule:∀(i j:Int) (t u:Tok) (s:Shared) (Q:Value->Shared->Prop) (E:Value->Shared->Prop),Q (.int (g i j) s.toks) {s with toks:=s.toks+1}->wpAny (model X.prog X.w) X.A (f (.int i t) (.int j u)) Q E s):
  OpR X f (rI0 λi j=>.int (g i j)):=by
 intro pins s Y H x y v u Q I rx ry h;obtain⟨i,j,rfl,rfl,q⟩:=h;obtain⟨t,rfl⟩:=rx;obtain⟨t',rfl⟩:=ry;exact rule i j t t' s _ _ ⟨.int (g i j),H,I.tok _,⟨_,rfl⟩,q⟩
def Qlo{g:Int->Int->Bool}
  (rule:∀(i j:Int) (t u:Tok) (s:Shared) (Q:Value->Shared->Prop) (E:Value->Shared->Prop),Q (.bool (g i j)) s->wpAny (model X.prog X.w) X.A (f (.int i t) (.int j u)) Q E s):
  OpR X f (rI0 λi j=>.bl (g i j)):=by
 intro pins s Y H x y v u Q I rx ry h;obtain⟨i,j,rfl,rfl,q⟩:=h;obtain⟨t,rfl⟩:=rx;obtain⟨t',rfl⟩:=ry;exact rule i j t t' s _ _ ⟨.bl (g i j),H,I,rfl,q⟩
def QpA(i j:Int):Prop:=0<=j/\j<=1000000/\i.natAbs<2 ^ 64
def CMul(i j:Int):Prop:=(-(2 ^ 64) < i/\i<2 ^ 64)\/(-(2 ^ 64) < j/\j<2 ^ 64)
def CMul.ok{i j:Int}(h:CMul i j):IntMulOk i j:=by
 rcases h with⟨h1,h2⟩|⟨h1,h2⟩
 ·exact .of_left (intBits_le_64 h1 h2)
 ·exact .of_right (intBits_le_64 h1 h2)
def Qj4:OpR X (binaryOp .Add) (rI0 λi j=>.int (i+j)):=QnB λz z z z z z z q=>add_int q
def QjQ:OpR X (binaryOp .Sub) (rI0 λi j=>.int (i-j)):=QnB λz z z z z z z q=>sub_int q
def QjX:OpR X (binaryOp .Mod) (rI (λz j=>0<j) λi j=>.int (i % j)):=opI λi j z z z z z hc q=>by
 have h1:(0:Int) < j:=hc
 exact mod_int' (by omega) (by rw[Int.fmod_eq_emod_of_nonneg i (by omega)];exact q)
def QjS:OpR X (binaryOp .Pow) (rI QpA λi j=>.int (i ^ j.toNat)):=opI λz z z z z z z hc q=>pow_int_small hc.1 hc.2.1 hc.2.2 q
def unI{f:Value->Sem Value}{g:Int->Int}
  (rule:∀(i:Int) (t:Tok) (s:Shared) (Q:Value->Shared->Prop) (E:Value->Shared->Prop),Q (.int (g i) s.toks) {s with toks:=s.toks+1}->wpAny (model X.prog X.w) X.A (f (.int i t)) Q E s):
  UnR X f (rU λi=>.int (g i)):=by
 intro pins s Y H x v Q I rx h;obtain⟨i,rfl,q⟩:=h;obtain⟨t,rfl⟩:=rx;exact rule i t s _ _ ⟨.int (g i),H,I.tok _,⟨_,rfl⟩,q⟩
def QiN:UnR X (unaryOp .USub) (rU λi=>.int (-i)):=unI λz z z z z q=>neg_int q
end
noncomputable def Ql1:V->V->Bool
 |.non,.non=>true|.non,.int _=>true|.int _,.non=>true|.non,.bl _=>true|.bl _,.non=>true|.non,.str _=>true|.str _,.non=>true
 |.int _,.int _=>true|.bl _,.bl _=>true|.str _,.str _=>true|.byt _,.byt _=>true
 |.int _,.str _=>true|.str _,.int _=>true|.bl _,.str _=>true|.str _,.bl _=>true
 |_,_=>false
def rEq:R2:=λx y H Q=>Ql1 x y=true/\Q (.bl (decide (x=y))) H
def rNe:R2:=λx y H Q=>Ql1 x y=true/\Q (.bl (!decide (x=y))) H
def QdU{i j:Int}:decide (V.int i=V.int j)=(i==j):=by
 rw[U3];simp
def Qgd{i j:Bool}:decide (V.bl i=V.bl j)=(i==j):=by
 rw[U3];simp
def QdT{i j:Str}:decide (V.str i=V.str j)=(i==j):=by
 rw[U3];simp
def QdV{i j:Array UInt8}:decide (V.byt i=V.byt j)=(i.toList==j.toList):=by
 rw[U3];cases i;cases j;simp
section
variable {X:Cx}{a b c:Expr}{ta tb tc:TE}{pos:Pos}
def Qm{pins:List (Addr×Obj)}{Y:St}{H:Hp}{s:Shared}{Q:VK}{k k':Bool}(I:Inv X pins Y H s)(q:Q (.bl k) H)(e:k=k'):EP X pins Y Q (.bool k') s:=by
 subst e;exact⟨.bl k,H,I,rfl,q⟩
def Qmt:OpR X (compareOp .Eq) rEq:=by
 intro pins s Y H x y v u Q I rx ry h;obtain⟨hs,q⟩:=h
 cases x with
 |non=>
  cases rx
  cases y with
  |non=>cases ry;exact PySem.EqNone.eq_none_none (Qm I q (by simp))
  |bl j=>cases ry;exact PySem.EqNone.eq_none_bool (Qm I q (by simp))
  |int j=>obtain⟨t',rfl⟩:=ry;exact PySem.EqNone.eq_none_int (Qm I q (by simp))
  |str j=>obtain⟨t',rfl⟩:=ry;exact PySem.EqNone.eq_none_str (Qm I q (by simp))
  |_=>exact absurd (show false=true from hs) Xi
 |bl i=>
  cases rx
  cases y with
  |non=>cases ry;exact PySem.EqNone.eq_bool_none (Qm I q (by simp))
  |bl j=>cases ry;exact eq_bool (Qm I q Qgd)
  |str j=>obtain⟨t',rfl⟩:=ry;exact PySem.EqMixed.eq_bool_str (Qm I q (by simp))
  |_=>exact absurd (show false=true from hs) Xi
 |int i=>
  obtain⟨t,rfl⟩:=rx
  cases y with
  |non=>cases ry;exact PySem.EqNone.eq_int_none (Qm I q (by simp))
  |int j=>obtain⟨t',rfl⟩:=ry;exact eq_int (Qm I q QdU)
  |str j=>obtain⟨t',rfl⟩:=ry;exact PySem.EqMixed.eq_int_str (Qm I q (by simp))
  |_=>exact absurd (show false=true from hs) Xi
 |str i=>
  obtain⟨t,rfl⟩:=rx
  cases y with
  |non=>cases ry;exact PySem.EqNone.eq_str_none (Qm I q (by simp))
  |bl j=>cases ry;exact PySem.EqMixed.eq_str_bool (Qm I q (by simp))
  |int j=>obtain⟨t',rfl⟩:=ry;exact PySem.EqMixed.eq_str_int (Qm I q (by simp))
  |str j=>obtain⟨t',rfl⟩:=ry;exact eq_str (Qm I q QdT)
  |_=>exact absurd (show false=true from hs) Xi
 |byt i=>
  obtain⟨t,rfl⟩:=rx
  cases y with
  |byt j=>obtain⟨t',rfl⟩:=ry;exact W.eq_bytes (Qm I q QdV)
  |_=>exact absurd (show false=true from hs) Xi
 |_=>cases y<;>exact absurd (show false=true from hs) Xi
def Qmo:OpR X (compareOp .NotEq) rNe:=by
 intro pins s Y H x y v u Q I rx ry h;obtain⟨hs,q⟩:=h
 cases x with
 |non=>
  cases rx
  cases y with
  |non=>cases ry;exact PySem.EqNone.ne_none_none (Qm I q (by simp))
  |bl j=>cases ry;exact PySem.EqNone.ne_none_bool (Qm I q (by simp))
  |int j=>obtain⟨t',rfl⟩:=ry;exact PySem.EqNone.ne_none_int (Qm I q (by simp))
  |str j=>obtain⟨t',rfl⟩:=ry;exact PySem.EqNone.ne_none_str (Qm I q (by simp))
  |_=>exact absurd (show false=true from hs) Xi
 |bl i=>
  cases rx
  cases y with
  |non=>cases ry;exact PySem.EqNone.ne_bool_none (Qm I q (by simp))
  |bl j=>cases ry;exact ne_bool (Qm I q (congrArg not Qgd))
  |str j=>obtain⟨t',rfl⟩:=ry;exact PySem.EqMixed.ne_bool_str (Qm I q (by simp))
  |_=>exact absurd (show false=true from hs) Xi
 |int i=>
  obtain⟨t,rfl⟩:=rx
  cases y with
  |non=>cases ry;exact PySem.EqNone.ne_int_none (Qm I q (by simp))
  |int j=>obtain⟨t',rfl⟩:=ry;exact ne_int (Qm I q (congrArg not QdU))
  |str j=>obtain⟨t',rfl⟩:=ry;exact PySem.EqMixed.ne_int_str (Qm I q (by simp))
  |_=>exact absurd (show false=true from hs) Xi
 |str i=>
  obtain⟨t,rfl⟩:=rx
  cases y with
  |non=>cases ry;exact PySem.EqNone.ne_str_none (Qm I q (by simp))
  |bl j=>cases ry;exact PySem.EqMixed.ne_str_bool (Qm I q (by simp))
  |int j=>obtain⟨t',rfl⟩:=ry;exact PySem.EqMixed.ne_str_int (Qm I q (by simp))
  |str j=>obtain⟨t',rfl⟩:=ry;exact ne_str (Qm I q (congrArg not QdT))
  |_=>exact absurd (show false=true from hs) Xi
 |byt i=>
  obtain⟨t,rfl⟩:=rx
  cases y with
  |byt j=>obtain⟨t',rfl⟩:=ry;exact W.ne_bytes (Qm I q (congrArg not QdV))
  |_=>exact absurd (show false=true from hs) Xi
 |_=>cases y<;>exact absurd (show false=true from hs) Xi
def Qmp:OpR X (compareOp .Lt) (rI0 λi j=>.bl (decide (i<j))):=Qlo λz z z z z z z q=>lt_int q
def Qmq:OpR X (compareOp .LtE) (rI0 λi j=>.bl (decide (i<=j))):=Qlo λz z z z z z z q=>le_int q
def Qmr:OpR X (compareOp .Gt) (rI0 λi j=>.bl (decide (j<i))):=Qlo λz z z z z z z q=>gt_int q
def Qms:OpR X (compareOp .GtE) (rI0 λi j=>.bl (decide (j<=i))):=Qlo λz z z z z z z q=>ge_int q
def QjY:OpR X (compareOp .Is) (λx y H Q=>y=.non/\Q (.bl (decide (x=.non))) H):=by
 intro pins s Y H x y v u Q I rx ry h;obtain⟨rfl,q⟩:=h;cases ry;refine is_none_gen (Qm I q ?_)
 cases x<;>first
  | (cases rx;rfl)
  | (obtain⟨t,rfl⟩:=rx;rfl)
def Qhk:OpR X (compareOp .IsNot) (λx y H Q=>y=.non/\Q (.bl (!decide (x=.non))) H):=by
 intro pins s Y H x y v u Q I rx ry h;obtain⟨rfl,q⟩:=h;cases ry;refine isnot_none_gen (Qm I q ?_)
 cases x<;>first
  | (cases rx;rfl)
  | (obtain⟨t,rfl⟩:=rx;rfl)
def OpR.or{r r':R2}(h:OpR X f r)(h':OpR X f r'):OpR X f (λx y H Q=>r x y H Q\/r' x y H Q):=by
 intro pins s Y H x y v u Q I rx ry q
 rcases q with q|q
 ·exact h pins s Y H x y v u Q I rx ry q
 ·exact h' pins s Y H x y v u Q I rx ry q
def Qhf{r:R2}(ho:OpR X (compareOp op) r)(ha:PE X a ta)(hb:PE X b tb)(hm:behindInMarks op b=false):PE X (.Compare a [op] [b] pos) (tOp r ta tb):=by
 intro pins s Y H Q I h;exact wpAny_Compare1 (Qm9 ha hb I h λv u s2 x y H2 I2 rx ry q=>ho pins s2 Y H2 x y v u Q I2 rx ry q) hm
def Qi0(t:TE):TT:=λY H Q=>t Y H λx H'=>∃k,x=.bl k/\Q k H'
def Qg1{r:R2}(ho:OpR X (compareOp op) r)(ha:PE X a ta)(hb:PE X b tb)(hm:behindInMarks op b=false):PT X (.Compare a [op] [b] pos) (Qi0 (tOp r ta tb)):=by
 intro pins s Y H Q I h
 refine wpAny_isTrue_Compare1 (thn (ha pins s Y H _ I h) λv s1 ⟨x,H1,I1,r1,q1⟩=>thn (hb pins s1 Y H1 _ I1 q1) λu s2 ⟨y,H2,I2,r2,q2⟩=>
  thn (ho pins s2 Y H2 x y v u _ I2 r1 r2 q2) λc s3 ⟨z,H3,I3,r3,k,e,q3⟩=>?_) hm
 subst e;cases r3;exact Vl ⟨H3,I3,q3⟩
def QcR(r r':R2)(ta tb tc:TE):TE:=λY H Q=>ta Y H λx H1=>tb Y H1 λy H2=>r x y H2 λz H3=>∃k,z=.bl k /\
 (if k=true then tc Y H3 λw' H4=>r' y w' H4 Q else Q (.bl false) H3)
def QeU{op':CmpOp}{r r':R2}(ho:OpR X (compareOp op) r)(ho':OpR X (compareOp op') r')(ha:PE X a ta)(hb:PE X b tb)(hc:PE X c tc)
  (hm:lastMarks [op,op'] [b,c]=false:=by with_unfolding_all rfl):PE X (.Compare a [op,op'] [b,c] pos) (QcR r r' ta tb tc):=by
 intro pins s Y H Q I h
 refine Compare_chain (thn (ha pins s Y H _ I h) λv s1 ⟨x,H1,I1,r1,q1⟩=>chain_link (thn (hb pins s1 Y H1 _ I1 q1) λu s2 ⟨y,H2,I2,r2,q2⟩=>
  thn (ho pins s2 Y H2 x y v u _ I2 r1 r2 q2) λd s3 ⟨z,H3,I3,r3,k,e,q3⟩=>?_)) hm
 subst e;cases r3;refine Vl ?_
 cases k with
 |false=>exact ite_ff ⟨.bl false,H3,I3,rfl,q3⟩
 |true=>exact ite_tt (chain_last (thn (hc pins s3 Y H3 _ I3 q3) λw' s4 w=>by obtain⟨z',H4,I4,r4,q4⟩:=w;exact ho' pins s4 Y H4 y z' u w' Q I4 r2 r4 q4))
def QeN{op':CmpOp}{r r':R2}(ho:OpR X (compareOp op) r)(ho':OpR X (compareOp op') r')(ha:PE X a ta)(hb:PE X b tb)(hc:PE X c tc)
  (hm:lastMarks [op,op'] [b,c]=false:=by with_unfolding_all rfl):PT X (.Compare a [op,op'] [b,c] pos) (Qi0 (QcR r r' ta tb tc)):=by
 intro pins s Y H Q I h
 refine isTrue_chain (thn (ha pins s Y H _ I h) λv s1 ⟨x,H1,I1,r1,q1⟩=>test_link (thn (hb pins s1 Y H1 _ I1 q1) λu s2 ⟨y,H2,I2,r2,q2⟩=>
  thn (ho pins s2 Y H2 x y v u _ I2 r1 r2 q2) λd s3 ⟨z,H3,I3,r3,k,e,q3⟩=>?_)) hm
 subst e;cases r3;refine Vl ?_
 cases k with
 |false=>
  obtain⟨k',e',q'⟩:=q3;cases e';exact ite_ff ⟨H3,I3,q'⟩
 |true=>
  refine ite_tt (test_last (thn (hc pins s3 Y H3 _ I3 q3) λw' s4 ⟨z',H4,I4,r4,q4⟩=>thn (ho' pins s4 Y H4 y z' u w' _ I4 r2 r4 q4) λd' s5 w=>?_));obtain⟨z2,H5,I5,r5,k2,e2,q5⟩:=w;subst e2;cases r5;exact Vl ⟨H5,I5,q5⟩
noncomputable def Qk6(K:W.Frag)(x:V)(H:Hp)(k:Bool):Prop :=
 match x with
 |.non=>k=false
 |.bl b=>k=b
 |.int i=>k=(i != 0)
 |.str y=>y.length<=sizeLine/\k=((y.length:Int) != 0)
 |.byt y=>y.size<=sizeLine/\k=((y.size:Int) != 0)
 |.ref p=>(∃xs,SqL K H p xs/\k=!xs.isEmpty)\/(∃xs,SqT K H p xs/\k=!xs.isEmpty)\/∃kvs,H p=some (.dK kvs)/\k=!kvs.isEmpty
 |_=>False
def Qcp{κ:Type}{kvs:List (κ×V)}{vs:List (κ×Value)}(r:KV kvs vs):(!vs.isEmpty)=!kvs.isEmpty:=by
 cases r<;>rfl
def Ju{xs:List V}{its:List Value}(r:Vals xs its):(!its.toArray.isEmpty)=!xs.isEmpty:=by
 cases r<;>simp
def Jr:(sizeLine:Nat) < 2 ^ 63:=by rw[sizeLine_eq];decide
def QfK:Qpw X (λx H Q=>∃k,Qk6 X.K x H k/\Q k H):=by
 intro pins s Y H x v Q I rx h;obtain⟨k,e,q⟩:=h;have hl:=Jr;have hs:sizeLine=16777216:=sizeLine_eq
 cases x with
 |non=>
  cases rx;have e':k=false:=e;subst e';exact truthy_none ⟨H,I,q⟩
 |bl b=>
  cases rx;have e':k=b:=e;subst e';exact Vl ⟨H,I,q⟩
 |int i=>
  obtain⟨t,rfl⟩:=rx;have e':k=(i != 0):=e;subst e';exact PySem.P.truthy_int ⟨H,I,q⟩
 |str y=>
  obtain⟨t,rfl⟩:=rx;obtain⟨hy,e'⟩:y.length<=sizeLine/\k=((y.length:Int) != 0):=e;subst e'
  exact PySem.P.truthy_str (by omega) ⟨H,I.tok _,q⟩
 |byt y=>
  obtain⟨t,rfl⟩:=rx;obtain⟨hy,e'⟩:y.size<=sizeLine/\k=((y.size:Int) != 0):=e;subst e'
  exact W.truthy_bytes (by omega) ⟨H,I.tok _,q⟩
 |ref p=>
  cases rx;have e':(∃xs,SqL X.K H p xs/\k=!xs.isEmpty)\/(∃xs,SqT X.K H p xs/\k=!xs.isEmpty)\/∃kvs,H p=some (.dK kvs)/\k=!kvs.isEmpty:=e
  rcases e' with⟨xs,hx,e'⟩|⟨xs,hx,e'⟩|⟨kvs,hx,e'⟩
  ·subst e';obtain⟨its,r,pl,hz⟩:=I.list hx;have hlen:=r.length
   exact wpAny_truthy_list pl.isList (by simp only[Xv];omega) ⟨H,I.tok _,by rw[Ju r];exact q⟩
  ·subst e';obtain⟨its,r,pl,hz⟩:=I.tuple hx;have hlen:=r.length
   exact truthy_tuple pl (by simp only[Xv];omega) ⟨H,I.tok _,by rw[Ju r];exact q⟩
  ·subst e';obtain⟨hz,hS,vs,r,m⟩:kvs.length<=sizeLine/\(p==sysModules)=false/\∃vs,KV kvs vs/\s.heap.DictOf (ZC X.prog X.w) p vs:=I.hok p _ hx;have hlen:kvs.length=vs.length:=Paired.length r
   exact wpAny_truthy_dict hS m (by omega) ⟨H,I.tok _,by rw[Qcp r];exact q⟩
 |_=>exact(show False from e).elim
def QeM(ha:PE X a ta)(he:∀whole,isTrue a X.env whole=(do let v <-whole;standAt a.pos;holding [v] (truthy v))):
  PT X a (λY H Q=>ta Y H λx H'=>∃k,Qk6 X.K x H' k/\Q k H'):=by
 intro pins s Y H Q I h;exact isTrue_plain (thn (ha pins s Y H _ I h) λv s1 z=>by obtain⟨x,H1,I1,r1,q1⟩:=z;exact QfK pins s1 Y H1 x v Q I1 r1 q1) (he _)
def Qcg:OpR X (binaryOp .Add) (λx y H Q=>∃i j,x=.str i/\y=.str j/\i.length+j.length<=sizeLine/\Q (.str (i++j)) H):=by
 intro pins s Y H x y v u Q I rx ry h;obtain⟨i,j,rfl,rfl,hz,q⟩:=h;obtain⟨t,rfl⟩:=rx;obtain⟨t',rfl⟩:=ry;exact add_str (λt' tk=>⟨.str (i++j),H,I.tok _,⟨_,rfl⟩,q⟩) hz
def JD{x:V}{us:List Value}(r:Vals [x] us):∃u,us=[u]/\RelV x u:=by
 cases r with
 |cons r1 r2=>cases r2;exact⟨_,rfl,r1⟩
def Qgr{x y:V}{us:List Value}(r:Vals [x,y] us):∃u w',us=[u,w']/\RelV x u/\RelV y w':=by
 cases r with
 |cons r1 r2=>
  cases r2 with
  |cons r3 r4=>cases r4;exact⟨_,_,rfl,r1,r3⟩
def Qd7:CallR X (.type "int") (λxs H Q=>(∃i,xs=[.int i]/\Q (.int i) H)\/∃k,xs=[.bl k]/\Q (.int (if k then 1 else 0)) H):= by
 intro pins s Y H xs us Q I r h
 rcases h with⟨i,rfl,q⟩|⟨k,rfl,q⟩
 ·obtain⟨u,rfl,t,rfl⟩:=JD r;exact call_int_int ⟨.int i,H,I,⟨_,rfl⟩,q⟩
 ·obtain⟨u,rfl,r1⟩:=JD r;cases r1;exact call_int_bool ⟨.int (if k then 1 else 0),H,I.tok _,⟨_,rfl⟩,q⟩
def QaL:CallR X (.type "str") (λxs H Q=>∃i,xs=[.int i]/\i.natAbs.log2<1920/\Q (.str (toString i)) H):= by
 intro pins s Y H xs us Q I r h;obtain⟨i,rfl,hz,q⟩:=h;obtain⟨u,rfl,t,rfl⟩:=JD r;exact PySem.P.str_of_int hz ⟨.str _,H,I.tok _,⟨_,rfl⟩,q⟩
end
end
section
variable {C dx:Addr}{A:Around}{X:Cx}{h:Heap}{H:Hp}{s:Shared}{f:Str}{mA:Str->Option Value}{v:V}{u:Value}{Q:Value->Shared->Prop}{w:World}
structure ObjM(h:Heap)(x dx C:Addr)(mA:Str->Option Value):Prop where
 obj:h.get? x=some (W.instObj C dx)
 ns:h.Ns1 dx mA
 ne:dx≠x
def Qav(n:h.Ns1 dx mA):∃od,h.get? dx=some od/\∀name,W.lookIn name od=some (mA name):=by
 obtain⟨o,es,ep,ho,hd,hk,_,hm⟩:=n;refine⟨o,ho,λname=>?_⟩;have e:=hm name;unfold nsFind findBy at e;rw[<-Array.find?_toList]at e;unfold W.lookIn;rw[hd];dsimp only;split
 ·rename_i y q;rw[q]at e;exact congrArg some e
 ·rename_i q;rw[q]at e
  have a:es.toList.any (·.refKey)=false:=by
   rw[List.any_eq_false];intro y hy;obtain⟨z,t,hkey⟩:=hk y (Array.mem_toList_iff.mp hy);simp[DictEntry.refKey,hkey]
  have a':¬es.toList.any (·.refKey)=true:=by rw[a];exact Xi
  rw[if_neg a'];exact congrArg some e
def ObjM.look{x:Addr}(I:ObjM h x dx C mA):∃od,W.InstAt h x (W.instObj C dx) C (some od)/\∀name,W.lookIn name od=some (mA name):=
 let ⟨od,ho,hl⟩:=Qav I.ns
 ⟨od,⟨I.obj,rfl,rfl,ho⟩,hl⟩
section
variable {prog:Program}{E:Value->Shared->Prop}{K:W.Frag}{x f:Addr}{name:Str}{v:Value}
def QhX{expr:Bool}(X:K.In s.heap)(I:ObjM s.heap x dx C mA)(hg:W.plainGet K C name=true)(hh:W.hasDictIn K C=true)
  (ha:W.findIn K (.ref C) name=some none) (hv:mA name=some v) (hv':W.handedIn v=true) (h:Q v {s with toks:=s.toks+1}):
  wpAny (model prog w) A (getAttr (.ref x) name expr) Q E s:=by
 obtain⟨od,J,hl⟩:=I.look
 exact W.get_value X J (W.plainGet_of hg).1 (W.findObj_own hh ha rfl (by rw[hl,hv])) hv' h
def Qfj{pl:Sem Bool}{Q:Value×List Value->Shared->Prop}(X:K.In s.heap)(I:ObjM s.heap x dx C mA)(hg:W.plainGet K C name=true)
  (hf:W.findIn K (.ref C) name=some (some (.ref f))) (ht:W.isFn K (.ref f)=true) (hv:mA name=none) (h:Q (.ref f,[.ref x]) s):
  wpAny (model prog w) A (getMethod (.ref x) name pl) Q E s:=by
 obtain⟨od,J,hl⟩:=I.look
 exact W.method_fn X J (W.plainGet_of hg).1 (W.plainGet_of hg).2 hf (Wm.mp ht) (by show(W.lookIn name od).map (·.isSome)=some false;rw[hl,hv];rfl) h
def QgL{ns:List Str}{Q:Unit->Shared->Prop}(X:K.In s.heap)(I:ObjM s.heap x dx C mA)
  (hs:W.findIn K (.ref C) "__setattr__"=some (some (.builtin "object.__setattr__"))) (hp:W.plainOver K C=true) (ht:W.takerIn K C name=some none) (hh:W.hasDictIn K C=true)
  (hw:PySem.Within mA ns) (hsz:ns.length<=sizeLine)
  (h:∀h',ObjM h' x dx C (λy=>if y=name then some v else mA y)->Heap.SameBut dx s.heap h'->Q () {s with heap:=h',toks:=s.toks+2}):
  wpAny (model prog w) A (setAttr (.ref x) name v) Q E s:=by
 obtain⟨od,J,hl⟩:=I.look;refine W.set_plain X J hs (W.osa_open (s:={s with toks:=s.toks+1}) (r:=none) X J hp ht λb=>?_);obtain⟨cd,hc,hd'⟩:=W.any_some hh;have hx:s.heap.get? x=some ⟨.ref C,some dx,.plain,#[]⟩:=I.obj;refine Xa (Xl (Xa (Xa (wpAny_loadPart hx (Xa (W.Looks.here (s:={s with toks:=s.toks+1}) (W.looks_clsIn X hc) ?_))))));rw[hd'];refine Xl (a:=some dx) (Xa (Xl (Xa ?_)));refine wpAny_nsSet1 (s:={s with toks:=s.toks+1}) I.ns λh' hn2 hs2=>?_;obtain⟨oD,esD,epD,hoD,hdD,hcD⟩:=hn2.count (PySem.Within.cons name v hw)
 refine Xa (wpAny_lookBehind hoD (by rw[hdD];exact pastItsLine_dict (X1 hcD (by rw[X8];omega))) ?_)
 exact Xl (h _ ⟨(hs2.2 _ (Ww I.ne)).trans I.obj,hn2,I.ne⟩ hs2)
def Qe4{R:Result->Shared->Prop}{vs:List Value}{kw:List (Str×Value)}(X:K.In s.heap)(hm:W.makesIn K C=true)
  (hi:W.findIn K (.ref C) "__init__"=some (some (.ref f))) (hf:W.typeIn K (.ref f)=some (.type "function"))
  (h:codeAny (model prog w) (A.under (.builtin "type.__call__" ⟨.ref C::vs,kw⟩)) (.call (.ref f) ⟨.ref (s.heap.objs.size+1)::vs,kw⟩) (W.InitBack (s.heap.objs.size+1) R)
   {s with heap:=(s.heap.push W.emptyDict).push (W.instObj C s.heap.objs.size)}):
  codeAny (model prog w) A (.call (.ref C) ⟨vs,kw⟩) R s:=by
 obtain⟨hh,g,d,t,os⟩:=s;exact W.make_core (W.makes_of X hm) (W.looks_findIn X hi) (λself=>W.bind_fn X self hf) (.inl rfl) h
def Qdw{R:Result->Shared->Prop}(X:K.In s.heap)(hm:W.makesIn K C=true)
  (hi:W.findIn K (.ref C) "__init__"=some (some (.builtin "object.__init__")))
  (hb:∀self,W.Looks (model prog w) s.heap (bindSpecial (.builtin "object.__init__") self) (.builtin "object.__init__",[self]))
  (h:codeAny (model prog w) (A.under (.builtin "type.__call__" ⟨[.ref C],[]⟩)) (.call (.builtin "object.__init__") ⟨[.ref (s.heap.objs.size+1)],[]⟩) (W.InitBack (s.heap.objs.size+1) R)
   {s with heap:=(s.heap.push W.emptyDict).push (W.instObj C s.heap.objs.size)}):
  codeAny (model prog w) A (.call (.ref C) ⟨[],[]⟩) R s:=by
 obtain⟨hh,g,d,t,os⟩:=s;exact W.make_core (W.makes_of X hm) (W.looks_findIn X hi) hb (.inr ⟨rfl,rfl⟩) h
end
noncomputable def JK(f:Str)(v:V):List (Str×V)->List (Str×V)
 |[]=>[(f,v)]
 | (g,x)::r=>if g=f then(g,v)::r else(g,x)::JK f v r
theorem YZ(f g:Str)(v:V):∀fs:List (Str×V),(JK f v fs).lookup g=if g=f then some v else fs.lookup g
 |[]=>by
  show List.lookup g [(f,v)]=_;by_cases h:g=f
  ·have hb:(g==f)=true:=Wm.mpr h;simp only[List.lookup,hb,if_pos h]
  ·have hb:(g==f)=false:=Wq.mpr h;simp only[List.lookup,hb,if_neg h]
 | (k,x)::r=>by
  have ih:=YZ f g v r;rw[show JK f v ((k,x)::r)=(if k=f then(k,v)::r else(k,x)::JK f v r)from rfl];by_cases hk:k=f
  ·rw[if_pos hk];by_cases h:g=k
   ·have hb:(g==k)=true:=Wm.mpr h;simp only[List.lookup,hb,if_pos (h.trans hk)]
   ·have hb:(g==k)=false:=Wq.mpr h;simp only[List.lookup,hb,if_neg (λe:g=f=>h (e.trans hk.symm))]
  ·rw[if_neg hk];by_cases h:g=k
   ·have hb:(g==k)=true:=Wm.mpr h;simp only[List.lookup,hb,if_neg (λe:g=f=>hk (h.symm.trans e))]
   ·have hb:(g==k)=false:=Wq.mpr h;simp only[List.lookup,hb];exact ih
theorem Y2(f:Str)(v:V):∀fs:List (Str×V),f∈(JK f v fs).map (·.1)/\∀g,g∈fs.map (·.1)->g∈(JK f v fs).map (·.1)
 |[]=>⟨by simp[JK],λg h=>by simp at h⟩
 | (k,x)::r=>by
  obtain⟨i1,i2⟩:=Y2 f v r;rw[show JK f v ((k,x)::r)=(if k=f then(k,v)::r else(k,x)::JK f v r)from rfl];by_cases hk:k=f
  ·rw[if_pos hk];subst hk
   exact⟨by simp,λg h=>by simpa using h⟩
  ·rw[if_neg hk];refine⟨?_,λg h=>?_⟩
   ·rw[Ws];exact Xg _ i1
   ·rw[Ws]at h ⊢
    rcases Xo.mp h with e|e
    ·exact Xo.mpr (.inl e)
    ·exact Xg _ (i2 g e)
theorem Y0(f:Str)(v:V):∀fs:List (Str×V),(JK f v fs).length<=fs.length+1
 |[]=>by simp[JK]
 | (k,x)::r=>by
  have ih:=Y0 f v r;rw[show JK f v ((k,x)::r)=(if k=f then(k,v)::r else(k,x)::JK f v r)from rfl];by_cases hk:k=f
  ·rw[if_pos hk,X8,X8];omega
  ·rw[if_neg hk,X8,X8];omega
def RelO.some_of{o:Option Value}(r:RelO (some v) o):∃u,o=some u/\RelV v u:=by
 cases o with
 |none=>exact(show False from r).elim
 |some u=>exact⟨u,rfl,r⟩
def RelO.none_of{o:Option Value}(r:RelO none o):o=none:=by
 cases o with
 |none=>rfl
 |some u=>exact(show False from r).elim
def QaF(r:RelV v u):W.handedIn u=true:=by
 cases v with
 |non=>cases(show u=Value.none from r);rfl
 |bl b=>cases(show u=Value.bool b from r);rfl
 |int i=>obtain⟨t,e⟩:=(show ∃t,u=Value.int i t from r);cases e;rfl
 |str x=>obtain⟨t,e⟩:=(show ∃t,u=Value.str x t from r);cases e;rfl
 |byt b=>obtain⟨t,e⟩:=(show ∃t,u=Value.bytes b t from r);cases e;rfl
 |flt b=>obtain⟨t,e⟩:=(show ∃t,u=Value.float b t from r);cases e;rfl
 |ref a=>cases(show u=Value.ref a from r);rfl
 |ty n=>cases(show u=Value.type n from r);rfl
section
variable {P:Program}{a:Addr}{fs:List (Str×V)}
def JV(hok:HOk P w H h)(e:H a=some (.ins C dx fs)):∃mA,ObjM h a dx C mA/\(∀f,RelO (fs.lookup f) (mA f))/\PySem.Within mA (fs.map (·.1))/\fs.length<=1000/\H dx=some (.own a):=by
 obtain⟨d,z,ne,ob,mA,n,r,q⟩:=(show ObjOk P w H h a (.ins C dx fs)from hok a _ e);exact⟨mA,⟨ob,n,ne⟩,r,q,z,d⟩
end
structure Cls(K:W.Frag)(C:Addr):Prop where
 pg:W.plainGet K C Str.empty=true
 hd:W.hasDictIn K C=true
 po:W.plainOver K C=true
 sa:W.findIn K (.ref C) "__setattr__"=some (some (.builtin "object.__setattr__"))
def Cls.get{K:W.Frag}(c:Cls K C)(f:Str):W.plainGet K C f=true:=c.pg
def NoAttr(K:W.Frag)(C:Addr)(f:Str):Prop:=W.findIn K (.ref C) f=some none
def NoAttr.taker{K:W.Frag}(n:NoAttr K C f):W.takerIn K C f=some none:=by
 unfold W.takerIn;rw[show W.findIn K (.ref C) f=some none from n];rfl
structure Meth(K:W.Frag)(C:Addr)(m:Str)(f:Addr):Prop where
 at_:W.findIn K (.ref C) m=some (some (.ref f))
 fn:W.isFn K (.ref f)=true
 kp:W.keepIn K (.ref f)=true
section
variable {pins:List (Addr×Obj)}{Y:St}{a:Addr}{fs:List (Str×V)}{E:Value->Shared->Prop}
def Qcr{b:Bool}(I:Inv X pins Y H s)(e:H a=some (.ins C dx fs))(c:Cls X.K C)(n:NoAttr X.K C f)(l:fs.lookup f=some v)
  (h:∀u s',Inv X pins Y H s'->RelV v u->Q u s'):wpAny (model X.prog X.w) A (getAttr (.ref a) f b) Q E s:=by
 obtain⟨mA,O,r,_,_,_⟩:=JV I.hok e
 obtain⟨u,hu,ru⟩:=RelO.some_of (v:=v) (o:=mA f) (by rw[<-l];exact r f)
 exact QhX I.kIn O (c.get f) c.hd n hu (QaF ru) (h u _ (I.tok _) ru)
def Qcq{m:Str}{g:Addr}{pl:Sem Bool}{Q:Value×List Value->Shared->Prop}(I:Inv X pins Y H s)(e:H a=some (.ins C dx fs))(c:Cls X.K C)(k:Meth X.K C m g)(l:fs.lookup m=none)
  (h:Q (.ref g,[.ref a]) s):wpAny (model X.prog X.w) A (getMethod (.ref a) m pl) Q E s:=by
 obtain⟨mA,O,r,_,_,_⟩:=JV I.hok e
 have hn:mA m=none:=RelO.none_of (by rw[<-l];exact r m)
 exact Qfj I.kIn O (c.get m) k.at_ k.fn hn h
def Qcb{y:V}{Q:Unit->Shared->Prop}(I:Inv X pins Y H s)(e:H a=some (.ins C dx fs))(c:Cls X.K C)(n:NoAttr X.K C f)(hl:fs.length<1000)(ry:RelV y u)
  (h:∀s',Inv X pins Y (upd H a (.ins C dx (JK f y fs))) s'->Q () s'):wpAny (model X.prog X.w) A (setAttr (.ref a) f u) Q E s:=by
 obtain⟨mA,O,r,wi,_,ho⟩:=JV I.hok e
 have hz:(fs.map (·.1)).length<=sizeLine:=by rw[Xy,sizeLine_eq];omega
 refine QgL I.kIn O c.sa c.po n.taker c.hd wi hz λh' O' sb=>h _ ?_;have hd:∃o,h'.get? dx=some o:=let ⟨o,_,_,e',_⟩:=O'.ns;⟨o,e'⟩
 refine I.write (x:=a) (e:=dx) (by rw[e];exact True.intro) (.inr ho) (λb q hb z=>(sb.2 b hb).trans z) hd ?_
 refine⟨by rw[Qe O.ne];exact ho,?_,O.ne,O'.obj,_,O'.ns,λg=>?_,λg hg=>?_⟩
 ·have:=Y0 f y fs;omega
 ·show RelO ((JK f y fs).lookup g) (if g=f then some u else mA g);rw[YZ];by_cases q:g=f
  ·rw[if_pos q,if_pos q];exact ry
  ·rw[if_neg q,if_neg q];exact r g
 ·by_cases q:g=f
  ·rw[q];exact(Y2 f y fs).1
  ·refine(Y2 f y fs).2 g (wi g λz=>hg ?_);show(if g=f then some u else mA g)=none;rw[if_neg q];exact z
def Inv.made(I:Inv X pins Y H s):Inv X pins Y (upd (upd H s.heap.objs.size (.own (s.heap.objs.size+1))) (s.heap.objs.size+1) (.ins C s.heap.objs.size []))
  {s with heap:=(s.heap.push W.emptyDict).push (W.instObj C s.heap.objs.size)}:=by
 have e1:(s.heap.push W.emptyDict).get? s.heap.objs.size=some W.emptyDict:=X0 s.heap rfl
 have e2:((s.heap.push W.emptyDict).push (W.instObj C s.heap.objs.size)).get? (s.heap.objs.size+1)=some (W.instObj C s.heap.objs.size):=by
  have:=X0 (s.heap.push W.emptyDict) (o:=W.instObj C s.heap.objs.size) rfl;rwa [W5]at this
 have e3:(s.heap.push W.emptyDict).Ns s.heap.objs.size (λz=>none):=⟨W.emptyDict,#[],_,e1,rfl,(λe he=>absurd he (by simp)),λz=>rfl⟩
 have I1:=I.laid (a:=s.heap.objs.size) (o:=.own (s.heap.objs.size+1)) (h':=s.heap.push W.emptyDict) (t':=s.toks) (λb u q=>Xd _ q) (Xm _) ⟨_,e1⟩;refine I1.laid (a:=s.heap.objs.size+1) (o:=.ins C s.heap.objs.size []) (t':=s.toks) (λb u q=>Xd _ q) (Nat.le_of_eq (W5 _ _)) ?_;have ne:s.heap.objs.size≠s.heap.objs.size+1:=X4 (W3 _)
 refine⟨by rw[Qe ne,Ql],Vq _,ne,e2,λz=>none,(Heap.Ns1.of_empty e3).at λo q=>Xd _ q,λz=>True.intro,λy hy=>absurd rfl hy⟩
def Qeh{prog:Program}{env:Env}{e:Expr}{f:Str}{pos:Pos}{s:Shared}(hb:attributeBase e f env (eval e env)=eval e env)
  (h:wpAny (model prog w) A (eval e env) (λo s₁=>wpAny (model prog w) A (getAttr o f true) Q E s₁) E s):wpAny (model prog w) A (eval (.Attribute e f pos) env) Q E s :=
 Attribute_any_ h (by rw[arm_eval_Attribute,hb])
end
def Qoh(K:W.Frag)(ta:TE)(f:Str):TE:=λY H Q=>ta Y H λx H1=>∃a C dx fs v,x=.ref a/\H1 a=some (.ins C dx fs)/\Cls K C/\NoAttr K C f/\fs.lookup f=some v/\Q v H1
def Qor(K:W.Frag)(ta tv:TE)(f:Str):TS:=λD Y H=>tv Y H λy H1=>ta Y H1 λx H2=>∃a C dx fs,x=.ref a/\H2 a=some (.ins C dx fs)/\Cls K C/\NoAttr K C f/\fs.length<1000 /\
 D.nx Y (upd H2 a (.ins C dx (JK f y fs)))
section
variable {o e value:Expr}{pos pos':Pos}{ta tv:TE}
def QjN(he:PE X e ta)(hb:attributeBase e f X.env (eval e X.env)=eval e X.env):PE X (.Attribute e f pos) (Qoh X.K ta f):=by
 intro pins s Y H Q I h;refine Qeh hb (thn (he pins s Y H _ I h) λu s1 z=>?_);obtain⟨x,H1,I1,rx,a,C,dx,fs,v,ex,ea,c,n,l,q⟩:=z;subst ex;obtain rfl:u=Value.ref a:=rx;exact Qcr I1 ea c n l λu' s2 I2 ru=>⟨v,H1,I2,ru,q⟩
def QjA(ha:PE X o ta)(hv:PE X value tv)(hs:swapsWith value (some (.Attribute o f pos')) pos.line X.env=pure false):PS X (.Assign [.Attribute o f pos'] value pos) (Qor X.K ta tv f):=by
 intro pins s Y H D I h;refine plainObj_wpAny_Assign_Attribute (thn (hv pins s Y H _ I h) λu s1 ⟨y,H1,I1,ry,q⟩=>thn (ha pins s1 Y H1 _ I1 q) λov s2 z=>?_) hs;obtain⟨x,H2,I2,rx,a,C,dx,fs,ex,ea,c,n,l,q2⟩:=z;subst ex;obtain rfl:ov=Value.ref a:=rx;exact Qcb I2 ea c n l ry λs3 I3=>⟨Y,_,I3,q2⟩
end
section
variable {pins:List (Addr×Obj)}{Y:St}{E:Value->Shared->Prop}{c:Value}{b:Bool}
inductive TyOf(K:W.Frag)(H:Hp):V->Value->Prop where
 |non:TyOf K H .non (.type "NoneType")
 |bl (x:Bool):TyOf K H (.bl x) (.type "bool")
 |int (i:Int):TyOf K H (.int i) (.type "int")
 |str (x:Str):TyOf K H (.str x) (.type "str")
 |flt (x:UInt64):TyOf K H (.flt x) (.type "float")
 |lst {a:Addr} {xs:List V} (e:H a=some (.lst xs)):TyOf K H (.ref a) (.type "list")
 |frz {a:Addr} {o:Obj} {xs:List V} (e:H a=some (.frz o (.lst xs))):TyOf K H (.ref a) (.type "list")
 |tup {a:Addr} {xs:List V} (e:H a=some (.tup xs)):TyOf K H (.ref a) (.type "tuple")
 |dK {a:Addr} {kvs:List (Key×V)} (e:H a=some (.dK kvs)):TyOf K H (.ref a) (.type "dict")
 |dT {a:Addr} {kvs:List (List Key×V)} (e:H a=some (.dT kvs)):TyOf K H (.ref a) (.type "dict")
 |ins {a C dx:Addr} {fs:List (Str×V)} (e:H a=some (.ins C dx fs)) (cl:Cls K C) (ha:W.findIn K (.ref C) "__class__"=some (some (.builtin "object.__class__")))
   (hn:W.specialIn K (.builtin "object.__class__") "__get__"=some (some (.builtin "getset_descriptor.__get__"))) (htk:W.takesIn K (.builtin "object.__class__")=some true)
   (hm:W.mroIn K C (.type "object")=some true):TyOf K H (.ref a) (.ref C)
def QdB{x:V}{t:Value}(I:Inv X pins Y H s)(rx:RelV x u)(ty:TyOf X.K H x t)(e:W.kitOne X.K t c=some b)(h:∀tk,Q (.bool b) {s with toks:=tk}):
  wpAny (model X.prog X.w) A (call (.builtin "isinstance") [u,c]) Q E s:=by
 cases ty with
 |non=>cases(show u=Value.none from rx);exact Vw W.kitx_none I.kIn True.intro e (λz=>nomatch z) h
 |bl y=>cases(show u=Value.bool y from rx);exact Vw W.kitx_bool I.kIn True.intro e (λz=>nomatch z) h
 |int i=>obtain⟨t,q⟩:=(show ∃t,u=Value.int i t from rx);cases q;exact Vw W.kitx_int I.kIn True.intro e (λz=>nomatch z) h
 |str y=>obtain⟨t,q⟩:=(show ∃t,u=Value.str y t from rx);cases q;exact Vw W.kitx_str I.kIn True.intro e (λz=>nomatch z) h
 |flt y=>obtain⟨t,q⟩:=(show ∃t,u=Value.float y t from rx);cases q;exact Vw W.kitx_float I.kIn True.intro e (λz=>nomatch z) h
 | @lst a xs ea=>
  cases(show u=Value.ref a from rx);obtain⟨_,_,n,_,h1⟩:=(show ObjOk X.prog X.w H s.heap a (.lst xs)from I.hok a _ ea);exact Vw W.kitx_list I.kIn ⟨_,h1,rfl⟩ e (λz=>nomatch z) h
 | @frz a ob xs ea=>
  cases(show u=Value.ref a from rx);obtain⟨_,_,_,n,_,h1⟩:=(show ObjOk X.prog X.w H s.heap a (.frz ob (.lst xs))from I.hok a _ ea);exact Vw W.kitx_list I.kIn ⟨_,h1,rfl⟩ e (λz=>nomatch z) h
 | @tup a xs ea=>
  cases(show u=Value.ref a from rx);obtain⟨_,_,_,p⟩:=(show ObjOk X.prog X.w H s.heap a (.tup xs)from I.hok a _ ea);obtain⟨o,h1,h2,_⟩:=p;exact Vw W.kitx_tuple I.kIn ⟨o,h1,h2⟩ e (λz=>nomatch z) h
 | @dK a kvs ea=>
  cases(show u=Value.ref a from rx);obtain⟨_,_,vs,_,p⟩:=(show ObjOk X.prog X.w H s.heap a (.dK kvs)from I.hok a _ ea);obtain⟨o,es,ep,h1,h2,_⟩:=p;exact Vw W.kitx_dict I.kIn ⟨o,h1,h2.1⟩ e (λz=>nomatch z) h
 | @dT a kvs ea=>
  cases(show u=Value.ref a from rx);obtain⟨_,_,xs,_,o,es,ep,h1,h2,_⟩:=(show ObjOk X.prog X.w H s.heap a (.dT kvs)from I.hok a _ ea);exact Vw W.kitx_dict I.kIn ⟨o,h1,h2.1⟩ e (λz=>nomatch z) h
 | @ins a C dx fs ea cl ha hn htk hm=>
  cases(show u=Value.ref a from rx);obtain⟨mA,O,_⟩:=JV I.hok ea;obtain⟨od,J,_⟩:=O.look;exact Vw (W.kitx_own (cl.get _) cl.hd ha hn htk hm) I.kIn J e (λz=>nomatch z) h
end
end
section
variable {C f:Addr}{A:Around}{X:Cx}{e:Expr}{fd:FuncData}{base:Heap}{H:Hp}{pins:List (Addr×Obj)}{es:List Expr}{ps:List Str}{vs:List V}{us:List Value}{k:Nat}{pos:Pos}{P:Program}{s:Shared}{Y:St}{x:Str}{mg:Str->Option Value}{t:TA}{Q:VK}{w:World}
structure Room(k:Nat)(A:Around):Prop where
 hd:A.handled=none
 dp:A.depth+3*k+5<recursionLimit
 un:A.units+16*k+200<cLine
def Room.mono{j:Nat}(r:Room k A)(h:j<=k):Room j A:=⟨r.hd,by have:=r.dp;omega,by have:=r.un;omega⟩
theorem Room.deeper(r:Room (k+1) A)(env:Env):Room k (A.deeper env):=
 ⟨r.hd,by have:=r.dp;show A.depth+1+3*k+5<_;omega,by have:=r.un;show A.units+3+16*k+200<_;omega⟩
def Qcm{kw:List (Str×Value)}:(A.under (.builtin "type.__call__" ⟨.ref C::us,kw⟩)).depth=A.depth+1:=by
 first|rfl|simp[Around.under,Code.weight,Code.isCreation,Code.isGuard,Code.isCaller,Code.frames,Code.isFrame,guardIds]
def Qcl{kw:List (Str×Value)}:(A.under (.builtin "type.__call__" ⟨.ref C::us,kw⟩)).units=A.units+1:=by
 first|rfl|simp[Around.under,Code.cUnits,Code.frames,Code.isFrame]
def Room.make(r:Room (k+1) A)(C:Addr)(us:List Value)(kw:List (Str×Value)):Room k (A.under (.builtin "type.__call__" ⟨.ref C::us,kw⟩)):=
 ⟨r.hd,by have:=r.dp;rw[Qcm];omega,by have:=r.un;rw[Qcl];omega⟩
theorem Room.depth(r:Room k A):A.depth<recursionLimit:=by have:=r.dp;omega
theorem Room.units(r:Room k A):A.units+64<cLine:=by have:=r.un;omega
def Qlk:TA:=λz H Q=>Q [] H
def QgB(ta:TE)(tr:TA):TA:=λY H Q=>ta Y H λx H1=>tr Y H1 λxs H2=>Q (x::xs) H2
section
variable {te:TE}
def Qao:PA X [] Qlk:=λz z z z H Q I h=>Calls.spliced_nil ⟨[],H,I,.nil,h⟩
def Zt(ha:PE X e te)(hr:PA X es t)(hs:starEach (e::es) X.env=(false,eval e X.env)::starEach es X.env:=by rfl):PA X (e::es) (QgB te t):=by
 intro pos pins s Y H Q I h;rw[hs];show wpAny _ _ (spliced ((false,eval e X.env)::backTo pos (starEach es X.env))) _ _ s;refine Calls.spliced_cons (thn (ha pins s Y H _ I h) λu s1 z=>?_);obtain⟨x,H1,I1,r1,q1⟩:=z;exact thn (hr pos pins s1 Y H1 _ I1 q1) λus s2 y=>by obtain⟨xs,H2,I2,r2,q2⟩:=y;exact⟨x::xs,H2,I2,.cons r1 r2,q2⟩
def Qn9(t:TA):TE:=λY H Q=>t Y H λxs H1=>xs.length<=sizeLine/\∀p,H1 p=none->Q (.ref p) (upd H1 p (.tup xs))
def Qoe(t:TA):TE:=λY H Q=>t Y H λxs H1=>xs.length<=sizeLine/\∀p,H1 p=none->Q (.ref p) (upd H1 p (.lst xs))
def QfX{x1}(h:PA X es t):PE X (.Tuple es x1 pos) (Qn9 t):=by
 intro pins s Y H Q I hq
 refine wpAny_Tuple_spliced (thn (h pos pins s Y H _ I hq) λus s1 ⟨xs,H1,I1,r,z,q⟩=>⟨by rw[<-r.length];exact z,?_⟩)
 have hf:H1 s1.heap.objs.size=none:=I1.hok.fresh (Xm _);refine⟨.ref s1.heap.objs.size,upd H1 s1.heap.objs.size (.tup xs),I1.laid (t':=s1.toks) (λb u e=>Xd _ e) (Xm _) ?_,rfl,q _ hf⟩;exact⟨z,us,r,⟨_,X0 _ rfl,rfl,_,rfl⟩⟩
def QjL(h:PA X es t):PE X (.List es pos) (Qoe t):=by
 intro pins s Y H Q I hq
 refine wpAny_List_spliced (thn (h pos pins s Y H _ I hq) λus s1 ⟨xs,H1,I1,r,z,q⟩=>⟨by rw[<-r.length];exact z,?_⟩)
 have hf:H1 s1.heap.objs.size=none:=I1.hok.fresh (Xm _);refine⟨.ref s1.heap.objs.size,upd H1 s1.heap.objs.size (.lst xs),I1.laid (t':=s1.toks) (λb u e=>Xd _ e) (Xm _) ?_,rfl,q _ hf⟩;exact⟨z,us,0,r,X0 _ rfl⟩
end
abbrev Sp:=List V->Hp->VK->XK->Prop
abbrev CXT:=List Env->Hp->Shared->XK->Value->Shared->Prop
structure Env0(P:Program)(w:World)(K:W.Frag)(mg:Str->Option Value)(base:Heap)(A:Around)(outer:List Env)(s:Shared)(H:Hp):Prop where
 frames:A.frames=some outer
 mod:Mod K mg base
 bs:∀b o,base.get? b=some o->s.heap.get? b=some o/\H b=none
 bsz:base.objs.size<=s.heap.objs.size
 funs:s.heap.FunFrames base outer
 frf:∀b∈frs outer,H b=none
 hok:HOk P w H s.heap
 bare:AllBare s.gens
noncomputable def CE(outer:List Env)(P:Program)(w:World)(H:Hp)(s:Shared)(Q:VK)(u:Value)(s':Shared):Prop :=
 ∃v H',s'.os=s.os/\AllBare s'.gens/\Un (frs outer) [] H H' s.heap s'.heap/\HOk P w H' s'.heap/\RelV v u/\Q v H'
noncomputable def CR(CX:CXT)(outer:List Env)(P:Program)(w:World)(H:Hp)(s:Shared)(Q:VK)(E:XK)(r:Result)(s':Shared):Prop :=
 match r with
 |.ok (.ret u)=>CE outer P w H s Q u s'
 |.ok _=>False
 |.error e=>CX outer H s E e s'
structure FnOk(P:Program)(w:World)(K:W.Frag)(mg:Str->Option Value)(base:Heap)(CX:CXT)(k:Nat)(f:Addr)(fd:FuncData)(ps:List Str)(sp:Sp):Prop where
 len:∀vs H Q E,sp vs H Q E->vs.length=ps.length
 run:∀(A:Around) (outer:List Env) (s:Shared) (H:Hp) (args:Args) (us:List Value) (vs:List V) (Q:VK) (E:XK),Room k A->Env0 P w K mg base A outer s H->BindsTo s fd args (ps.zip us)->Vals vs us->sp vs H Q E ->
  codeAny (model P w) A (.call (.ref f) args) (CR CX outer P w H s Q E) s
theorem FnOk.mono{K:W.Frag}{CX:CXT}{j:Nat}{sp:Sp}(F:FnOk P w K mg base CX j f fd ps sp)(h:j<=k):
  FnOk P w K mg base CX k f fd ps sp:=⟨F.len,λA outer s H args us vs Q E hr=>F.run A outer s H args us vs Q E (hr.mono h)⟩
def FnOk.imp{K:W.Frag}{CX:CXT}{sp sp':Sp}(F:FnOk P w K mg base CX k f fd ps sp)
  (h:∀vs H Q E,sp' vs H Q E->sp vs H Q E):FnOk P w K mg base CX k f fd ps sp' :=
 ⟨λvs H Q E q=>F.len vs H Q E (h _ _ _ _ q),λA outer s H args us vs Q E hr he hb hv hs=>F.run A outer s H args us vs Q E hr he hb hv (h _ _ _ _ hs)⟩
def Env0.make{K:W.Frag}{outer:List Env}(e:Env0 P w K mg base A outer s H)(C:Addr)(us:List Value)(kw:List (Str×Value)):
  Env0 P w K mg base (A.under (.builtin "type.__call__" ⟨.ref C::us,kw⟩)) outer s H:=⟨by first|exact e.frames|(simpa[Around.under,Code.envs,Code.isFrame,pushEnvs]using e.frames),e.mod,e.bs,e.bsz,e.funs,e.frf,e.hok,e.bare⟩
section
variable {s':Shared}
def Inv.env0(I:Inv X pins Y H s):Env0 X.prog X.w X.K X.mg X.base X.A X.stack s H :=
 ⟨I.ok.frames,I.ok.mod,I.bs,X1 I.ok.bsz I.sz,I.stack,I.stkFree,I.hok,I.bare⟩
def Inv.after{u:Value}(I:Inv X pins Y H s)(h:CE X.stack X.prog X.w H s Q u s'):EP X pins Y Q u s':=by
 obtain⟨v,H',os,bare,un,hok,r,q⟩:=h;obtain⟨hh,g,d,t,os'⟩:=s';obtain rfl:os'=s.os:=os
 exact⟨v,H',I.call (h':=hh) (g':=g) (d':=d) (t':=t) (ch:=[]) un hok bare (λb z=>absurd z (by simp)),r,q⟩
end
def QgC(sp:Sp)(dvs:List V)(E:XK)(t:TA):TE:=λY H Q=>t Y H λvs H1=>sp (vs++dvs) H1 Q E
def Qi1(C:Addr)(sp:Sp)(dvs:List V)(E:XK)(t:TA):TE:=λY H Q=>t Y H λvs H1=>∀x dx,H1 x=none->H1 dx=none->dx≠x ->
 sp (.ref x::(vs++dvs)) (upd (upd H1 dx (.own x)) x (.ins C dx [])) (λv H2=>v=.non/\Q (.ref x) H2) E
noncomputable def Binds(K:W.Frag)(fd:FuncData)(ps:List Str)(ds:List Value):Prop :=
 ∀(s:Shared) (us:List Value),K.In s.heap->(us++ds).length=ps.length->BindsTo s fd ⟨us,[]⟩ (ps.zip (us++ds))
def Binds.all{K:W.Frag}(h:∀us:List Value,us.length=ps.length->bindArgs fd ⟨us,[]⟩=pure (ps.zip us)):Binds K fd ps []:=λs us z hl=>by
 rw[Wj]at hl ⊢;exact .of_eq (h us hl)
def Jf(CX:CXT)(X:Cx)(E:XK):Prop:=∀(pins:List (Addr×Obj)) (Y:St) (H:Hp) (s:Shared) (e:Value) (s':Shared),Inv X pins Y H s->CX X.stack H s E e s'->X.xe e s'
section
variable {CX:CXT}{sp:Sp}{dvs:List V}{ds:List Value}{E:XK}{p:Pos}
def Qc3(F:FnOk X.prog X.w X.K X.mg X.base CX k f fd ps sp)(hr:Room k X.A)(hb:Binds X.K fd ps ds)(hd:Vals dvs ds)(hx:Jf CX X E)
  (I:Inv X pins Y H s) (r:Vals vs us) (h:sp (vs++dvs) H Q E):wpAny (model X.prog X.w) X.A (call (.ref f) us) (EP X pins Y Q) X.xe s:=by
 have r2:Vals (vs++dvs) (us++ds):=r.append hd
 have hl:(us++ds).length=ps.length:=by rw[<-r2.length];exact F.len _ _ _ _ h
 refine Uc (V4 (F.run X.A X.stack s H ⟨us,[]⟩ (us++ds) (vs++dvs) Q E hr I.env0 (hb s us I.kIn hl) r2 h) λr s' hq=>?_)
 cases r with
 |error e=>exact hx pins Y H s e s' I hq
 |ok fl=>
  cases fl with
  |ret u=>exact I.after hq
  |next=>exact False.elim hq
  |brk=>exact False.elim hq
  |cont=>exact False.elim hq
def Qhg(F:FnOk X.prog X.w X.K X.mg X.base CX k f fd ps sp)(hr:Room k X.A)(hg:Gl X x)(hm:X.mg x=some (.ref f))(hk:W.keepIn X.K (.ref f)=true)(hb:Binds X.K fd ps ds)(hd:Vals dvs ds)(hx:Jf CX X E)
  (ha:PA X (e::es) t) (hdb:(x==("__debug__":Str))=false:=by decide) (he:starEach (e::es) X.env=(false,eval e X.env)::starEach es X.env:=by rfl) (hpl:(backTo pos (starEach es X.env)).any (·.1)=false:=by rfl):
  PE X (.Call (.Name x p) (e::es) [] pos) (QgC sp dvs E t):=by
 intro pins s Y H Q I h;refine Wl (QR I hg hm ?_ hdb);refine Up (h₀:=X.base) I.ok.mod.kin hk (thn (ha pos pins s Y H _ I h) λus s1 ⟨vs,H1,I1,r,q⟩=>⟨I1.kIn,?_⟩) he hpl;exact Qc3 F hr hb hd hx I1 r q
def QeV(F:FnOk X.prog X.w X.K X.mg X.base CX k f fd ps sp)(hr:Room k X.A)(hg:Gl X x)(hm:X.mg x=some (.ref f))(hk:W.keepIn X.K (.ref f)=true)(hb:Binds X.K fd ps ds)(hd:Vals dvs ds)(hx:Jf CX X E)
  (hdb:(x==("__debug__":Str))=false:=by decide):PE X (.Call (.Name x p) [] [] pos) (QgC sp dvs E Qlk):=by
 intro pins s Y H Q I h;refine Wl (QR I hg hm ?_ hdb);exact W.callWith_K0 I.kIn hk (Qc3 (us:=[]) F hr hb hd hx I .nil h)
structure Mk(K:W.Frag)(C f:Addr):Prop where
 makes:W.makesIn K C=true
 init:W.findIn K (.ref C) "__init__"=some (some (.ref f))
 fn:W.isFn K (.ref f)=true
 kp:W.keepIn K (.ref C)=true
def QbK(M:Mk X.K C f)(F:FnOk X.prog X.w X.K X.mg X.base CX k f fd ps sp)(hr:Room (k+1) X.A)(hb:Binds X.K fd ps ds)(hd:Vals dvs ds)
  (hx:Jf CX X E) (I:Inv X pins Y H s) (r:Vals vs us)
  (h:∀x dx,H x=none->H dx=none->dx≠x->sp (.ref x::(vs++dvs)) (upd (upd H dx (.own x)) x (.ins C dx [])) (λv H2=>v=.non/\Q (.ref x) H2) E):
  wpAny (model X.prog X.w) X.A (call (.ref C) us) (EP X pins Y Q) X.xe s:=by
 have hq:=h (s.heap.objs.size+1) s.heap.objs.size (I.hok.fresh (Ul _)) (I.hok.fresh (Xm _)) (X4 (W3 _));have I2:=Inv.made (C:=C) I;have r2:Vals (V.ref (s.heap.objs.size+1)::(vs++dvs)) (Value.ref (s.heap.objs.size+1)::(us++ds)):=.cons rfl (r.append hd)
 have hl:(Value.ref (s.heap.objs.size+1)::us++ds).length=ps.length:=by
  have e:=r2.length;rw[F.len _ _ _ _ hq]at e;exact e.symm
 refine Uc (Qe4 (f:=f) I.kIn M.makes M.init (Wm.mp M.fn) (V4 (F.run _ X.stack _ _ ⟨Value.ref (s.heap.objs.size+1)::us,[]⟩ (Value.ref (s.heap.objs.size+1)::(us++ds)) _ _ E (hr.make C us [])
  (I2.env0.make C us []) (hb _ (Value.ref (s.heap.objs.size+1)::us) I2.kIn hl) r2 hq) λr s' hq'=>?_))
 cases r with
 |error e=>exact hx pins Y _ _ e s' I2 hq'
 |ok fl=>
  cases fl with
  |ret u=>
   obtain⟨v,H',I3,rv,ev,q3⟩:=I2.after hq';subst ev;exact⟨rv,⟨V.ref (s.heap.objs.size+1),H',I3,rfl,q3⟩⟩
  |next=>exact False.elim hq'
  |brk=>exact False.elim hq'
  |cont=>exact False.elim hq'
def Qhc(M:Mk X.K C f)(F:FnOk X.prog X.w X.K X.mg X.base CX k f fd ps sp)(hr:Room (k+1) X.A)(hg:Gl X x)(hm:X.mg x=some (.ref C))(hb:Binds X.K fd ps ds)(hd:Vals dvs ds)(hx:Jf CX X E)
  (ha:PA X (e::es) t) (hdb:(x==("__debug__":Str))=false:=by decide) (he:starEach (e::es) X.env=(false,eval e X.env)::starEach es X.env:=by rfl) (hpl:(backTo pos (starEach es X.env)).any (·.1)=false:=by rfl):
  PE X (.Call (.Name x p) (e::es) [] pos) (Qi1 C sp dvs E t):=by
 intro pins s Y H Q I h;refine Wl (QR I hg hm ?_ hdb);refine Up (h₀:=X.base) I.ok.mod.kin M.kp (thn (ha pos pins s Y H _ I h) λus s1 ⟨vs,H1,I1,r,q⟩=>⟨I1.kIn,?_⟩) he hpl;exact QbK M F hr hb hd hx I1 r q
def QeS(M:Mk X.K C f)(F:FnOk X.prog X.w X.K X.mg X.base CX k f fd ps sp)(hr:Room (k+1) X.A)(hg:Gl X x)(hm:X.mg x=some (.ref C))(hb:Binds X.K fd ps ds)(hd:Vals dvs ds)(hx:Jf CX X E)
  (hdb:(x==("__debug__":Str))=false:=by decide):PE X (.Call (.Name x p) [] [] pos) (Qi1 C sp dvs E Qlk):=by
 intro pins s Y H Q I h;refine Wl (QR I hg hm ?_ hdb);exact W.callWith_K0 I.kIn M.kp (QbK (us:=[]) M F hr hb hd hx I .nil h)
end
structure FnScope(N P:List Str)(sc:Scope):Prop where
 kind:sc.kind=.function
 co:sc.isCoroutine=false
 gen:sc.isGenerator=false
 nd:N.Nodup
 pre:N.take P.length=P
 par:∀x∈P,sc.names.lookup x=some .local\/sc.names.lookup x=some .cell
 nofree:∀y∈sc.names,y.2≠.free
theorem QaS{kindOf:Str->Option NameKind}{x:Str}:∀{binds:List (Str×Value)} {m:Str->Option Value},(∀v,(x,v)∉binds)->bindL kindOf binds m x=m x
 |[],_,_=>rfl
 | (n,v)::r,m,h=>by
  unfold bindL;rw[QaS λw hw=>h w (Xg _ hw)];split
  ·have:x≠n:=by rintro rfl;exact h v Xh
   simp[this]
  ·rfl
theorem QaU{kindOf:Str->Option NameKind}{x:Str}:∀{binds:List (Str×Value)} {m:Str->Option Value},(∀v,(x,v)∉binds)->bindC kindOf binds m x=m x
 |[],_,_=>rfl
 | (n,v)::r,m,h=>by
  unfold bindC;rw[QaU λw hw=>h w (Xg _ hw)];split
  ·rfl
  ·have:x≠n:=by rintro rfl;exact h v Xh
   simp[this]
theorem QaT{kindOf:Str->Option NameKind}{x:Str}{v:Value}:∀{P:List Str} {vs:List Value} {i:Nat} {m:Str->Option Value},P.Nodup->P[i]?=some x->vs[i]?=some v->kindOf x=some .local ->
  bindL kindOf (P.zip vs) m x=some v
 |[],_,_,_,_,h,_,_=>by simp at h
 |_::_,[],_,_,_,_,h,_=>by simp at h
 |p::P,w::vs,0,m,nd,h1,h2,hk=>by
  simp at h1 h2;subst h1;subst h2;show bindL kindOf ((p,w)::P.zip vs) m p=_;unfold bindL;rw[QaS λv hv=>(Ts.mp nd).1 (Tt hv).1,if_pos hk];simp
 |p::P,w::vs,i+1,m,nd,h1,h2,hk=>by
  show bindL kindOf ((p,w)::P.zip vs) m x=_;unfold bindL
  exact QaT (i:=i) (Ts.mp nd).2 (by simpa using h1) (by simpa using h2) hk
theorem QaV{kindOf:Str->Option NameKind}{x:Str}{v:Value}:∀{P:List Str} {vs:List Value} {i:Nat} {m:Str->Option Value},P.Nodup->P[i]?=some x->vs[i]?=some v->kindOf x≠some .local ->
  bindC kindOf (P.zip vs) m x=some v
 |[],_,_,_,_,h,_,_=>by simp at h
 |_::_,[],_,_,_,_,h,_=>by simp at h
 |p::P,w::vs,0,m,nd,h1,h2,hk=>by
  simp at h1 h2;subst h1;subst h2;show bindC kindOf ((p,w)::P.zip vs) m p=_;unfold bindC;rw[QaU λv hv=>(Ts.mp nd).1 (Tt hv).1,if_neg hk];simp
 |p::P,w::vs,i+1,m,nd,h1,h2,hk=>by
  show bindC kindOf ((p,w)::P.zip vs) m x=_;unfold bindC
  exact QaV (i:=i) (Ts.mp nd).2 (by simpa using h1) (by simpa using h2) hk
noncomputable def start(N:List Str)(vs:List V):St:=vs.map some++List.replicate (N.length-vs.length) none
noncomputable def QaJ(CX:CXT)(P:Program)(w:World)(K:W.Frag)(mg:Str->Option Value)(base:Heap)(N:List Str)(qual:Str)(scope:Scope)(f:Addr)(cd:Value)(A:Around)(outer:List Env)(s:Shared)(H:Hp)(E:XK):Cx where
 prog:=P
 w:=w
 K:=K
 mg:=mg
 base:=base
 A:=A.deeper (envOfC qual scope s.heap.objs.size f cd)
 N:=N
 s₀:=s
 H₀:=H
 env:=envOfC qual scope s.heap.objs.size f cd
 outer:=outer
 stack:=envOfC qual scope s.heap.objs.size f cd::outer
 ex:=[]
 calm:=true
 fn:=λz=>true
 pn:=[]
 xe:=λe s'=>wpAny (model P w) (A.deeper (envOfC qual scope s.heap.objs.size f cd)) (leaving (envOfC qual scope s.heap.objs.size f cd) e) (λz s''=>CX outer H s E e s'') (λe' s''=>CX outer H s E e' s'') s'
def Qb3{sc:Scope}{n:Nat}(h:sc.names.lookup x=some .cell):∃c,(cellsFrom n sc.names []).lookup x=some c:=by
 have q:=W.cellsFrom_some sc.names n [] (.inl h);exact Wz.mp q
def QaD{CX:CXT}{K:W.Frag}{N:List Str}{qual:Str}{scope:Scope}{cd:Value}{outer:List Env}{s1:Shared}{E:XK}
  (S:FnScope N ps scope) (hd:A.handled=none) (e0:Env0 P w K mg base A outer s H) (hl:vs.length=ps.length) (r:Vals vs us)
  (x:InCallC s s.heap.objs.size (bindL (envOfC qual scope s.heap.objs.size f cd).kindOf (ps.zip us) λt=>none) (cellsFrom (s.heap.objs.size+1) scope.names []) (bindC (envOfC qual scope s.heap.objs.size f cd).kindOf (ps.zip us) λt=>none) s1):
  Inv (QaJ CX P w K mg base N qual scope f cd A outer s H E) [] (start N vs) H s1:=by
 have hpl:ps.length<=N.length:=by have:=congrArg List.length S.pre;rw[Vy]at this;omega
 obtain⟨h1,tk,rfl,hk⟩:=x.done
 have noA:∀b:Addr,b∉(QaJ CX P w K mg base N qual scope f cd A outer s H E).ex:=λb z=>absurd (show b∈([]:List Addr)from z) (by simp)
 refine⟨⟨e0.mod,S.kind,rfl,rfl,Xm _,λy z c h1 h2=>?_,λy hy=>?_,λy c t h=>?_,λt=>hd,Around.frames_deeper e0.frames,.inr ⟨rfl,rfl⟩,λb z=>absurd z (noA b),e0.bs,e0.bsz,λb t t=>noA b,λb z=>absurd z (noA b),e0.funs,e0.frf⟩,
  rfl,e0.bare,Un.kept hk,⟨_,x.toInCall.ns,λi y v h1 h2 h3=>?_⟩,λy c h=>⟨_,x.cell y c h⟩,e0.hok.fresh (Xm _),λy c h=>?_,λp hp=>absurd (show p∈([]:List (Addr×Obj))from hp) (by simp),e0.hok.kept hk,?_⟩
 ·exact name_of_addr x.apart (Ug h1) (Ug h2)
 ·have hy:scope.names.lookup y=some .cell\/scope.names.lookup y=some .free:=hy
  rcases hy with hy|hy
  ·exact Qb3 hy
  ·exact absurd rfl (S.nofree _ (Ug hy))
 ·exact Nat.le_of_lt (x.above y c (Ug h))
 ·have hi:i<vs.length:=by
   unfold start at h2;by_cases hi:i<vs.length
   ·exact hi
   ·rw[Wi (by simpa using hi)]at h2
    rw[Ta]at h2;split at h2<;>cases h2
  have ha:vs[i]?=some v:=by
   unfold start at h2
   rw[Wg (by simpa using hi),Vm]at h2
   cases e:vs[i]? with
   |none=>rw[e]at h2;cases h2
   |some a=>rw[e]at h2;cases h2;rfl
  obtain⟨u,hu,rv⟩:=r.get ha
  have hp:ps[i]?=some y:=by
   rw[<-S.pre,List.getElem?_take_of_lt (by omega)];exact h1
  have ndP:ps.Nodup:=by rw[<-S.pre];exact S.nd.sublist (List.take_sublist _ _)
  refine⟨u,rv,?_⟩
  rcases S.par y (X7 hp)with k|k
  ·exact .inl ⟨k,QaT ndP hp hu k⟩
  ·obtain⟨c,e⟩:=Qb3 (n:=s.heap.objs.size+1) k;refine .inr ⟨.inl k,c,e,?_⟩;have q:=x.cell y c e
   rw[QaV ndP hp hu (by show scope.names.lookup y≠_;rw[k];decide)]at q
   exact q
 ·exact e0.hok.fresh (Nat.le_of_lt (x.above y c (Ug h)))
 ·unfold start;show _=N.length;rw[X9,Xy,Tn];omega
def QkF{CX:CXT}{K:W.Frag}{name qual:Str}{params:Arguments}{body:List Stmt}{scope:Scope}{dV kV doc pm cdv ct oc:Value}{an od:Option Addr}
  {osl:Array (Option Value)} {N:List Str} {sp:Sp} (lk:K.lookup f=some ⟨oc,od,.func (W.fnOf name qual params body scope dV kV doc pm an cdv ct),osl⟩) (hcd:W.codeIn K cdv qual=true) (S:FnScope N ps scope)
  (len:∀vs H Q E,sp vs H Q E->vs.length=ps.length)
  (hbody:∀(A:Around) (outer:List Env) (s:Shared) (H:Hp) (vs:List V) (Q:VK) (E:XK),Room k (A.deeper (envOfC qual scope s.heap.objs.size f cdv))->sp vs H Q E ->
   ∃t,PSs (QaJ CX P w K mg base N qual scope f cdv A outer s H E) body t/\t {nx:=λz H'=>Q .non H',rt:=Q} (start N vs) H):
  FnOk P w K mg base CX (k+1) f (W.fnOf name qual params body scope dV kV doc pm an cdv ct) ps sp:=by
 refine⟨len,λA outer s H args us vs Q E hr e0 hb r hsp=>?_⟩;have hl:=len _ _ _ _ hsp;have KX:K.In s.heap:=e0.mod.kin.keeps λb o e=>(e0.bs b o e).1;have lim:s.heap.NoLimit:=e0.mod.nolimit.keeps λb o e=>(e0.bs b o e).1
 have hkind:∀y∈ps.zip us,scope.names.lookup y.1=some .local\/(scope.names.lookup y.1=some .cell/\((cellsFrom (s.heap.objs.size+1) scope.names []).lookup y.1).isSome=true):=λp hy=>by
  obtain⟨n,v⟩:=p
  rcases S.par n (Tt hy).1 with q|q
  ·exact .inl q
  ·exact .inr ⟨q,W.cellsFrom_some _ _ _ (.inl q)⟩
 refine codeAny_call_function hr.depth (KX _ _ lk) rfl S.co S.gen rfl (W.codeRec_of KX hcd) (hb _ _ _ _ ?_);refine wpAny_newFunctionEnv_cells S.kind hkind λenv he s1 x=>?_;subst he;refine⟨lim.keeps x.toInCall.keep,codeAny_func ?_⟩;obtain⟨t,ht,hq⟩:=hbody A outer s H vs Q E (hr.deeper _) hsp;have I:Inv (QaJ CX P w K mg base N qual scope f cdv A outer s H E) [] (start N vs) H s1:=QaD S hr.hd e0 hl r x;refine Xj (ht [] s1 (start N vs) H _ I hq) (λfl s' hs=>?_) λe s' hs=>hs
 have fin:∀{Y':St} {H':Hp} {v:V} {u:Value},Inv (QaJ CX P w K mg base N qual scope f cdv A outer s H E) [] Y' H' s'->RelV v u->Q v H'->CE outer P w H s Q u s' :=
  λ{Y' H' v u} J rv q=>⟨v,H',J.os,J.bare,J.base,J.hok,rv,q⟩
 cases fl with
 |ret u=>
  obtain⟨v,Y',H',J,rv,q⟩:=hs;exact fin J rv q
 |next=>
  obtain⟨Y',H',J,q⟩:=hs;exact fin (v:=V.non) (u:=Value.none) J rfl q
 |brk=>
  obtain⟨_,_,_,q⟩:=hs;exact False.elim q
 |cont=>
  obtain⟨_,_,_,q⟩:=hs;exact False.elim q
end
section
section
variable {X:Cx}{x:Str}{p pos:Pos}{e:Expr}{es:List Expr}{t:TA}{id T:String}{r:List V->Hp->VK->Prop}
def tCB(r:List V->Hp->VK->Prop)(t:TA):TE:=λY H Q=>t Y H λvs H1=>r vs H1 Q
def JP(hc:CallR X (.builtin id) r)(hg:Gl X x)(hm:X.mg x=none)(hv:bootBuiltins x=some (.builtin id))(ha:PA X (e::es) t)(hn:x≠"__name__":=by decide)(hdb:(x==("__debug__":Str))=false:=by decide)
  (he:starEach (e::es) X.env=(false,eval e X.env)::starEach es X.env:=by rfl) (hpl:(backTo pos (starEach es X.env)).any (·.1)=false:=by rfl):PE X (.Call (.Name x p) (e::es) [] pos) (tCB r t):=by
 intro pins s Y H Q I h;refine Wl (Js I hg hm hv ?_ hn hdb);exact PyProof.Rows.callWith_builtin1 (thn (ha pos pins s Y H _ I h) λus s1 z=>by obtain⟨vs,H1,I1,r1,q1⟩:=z;exact hc pins s1 Y H1 vs us Q I1 r1 q1) he hpl
def Yc(hc:CallR X (.type T) r)(hg:Gl X x)(hm:X.mg x=none)(hv:bootBuiltins x=some (.type T))(ha:PA X (e::es) t)(hn:x≠"__name__":=by decide)(hdb:(x==("__debug__":Str))=false:=by decide)
  (he:starEach (e::es) X.env=(false,eval e X.env)::starEach es X.env:=by rfl) (hpl:(backTo pos (starEach es X.env)).any (·.1)=false:=by rfl):PE X (.Call (.Name x p) (e::es) [] pos) (tCB r t):=by
 intro pins s Y H Q I h;refine Wl (Js I hg hm hv ?_ hn hdb);exact V3 (thn (ha pos pins s Y H _ I h) λus s1 z=>by obtain⟨vs,H1,I1,r1,q1⟩:=z;exact hc pins s1 Y H1 vs us Q I1 r1 q1) he hpl
end
end
end L2
namespace HT
open PySem PyProof.Rows
section
open PySem.SeqAt
open PySem.AutoSeq1 (wpAny_loadPart')
open PySem.MeetsSeq PySem.MeetsSeq2 PySem.MeetsSeq3
end
section
noncomputable def sIx(n d:Nat):Option Int->Nat
 |none=>d
 |some v=>if v<0 then(v+(n:Int)).toNat else min v.toNat n
def sIx_le(n d:Nat)(hd:d<=n)(o:Option Int):sIx n d o<=n:=by
 cases o with
 |none=>exact hd
 |some v=>
  show(if v<0 then(v+(n:Int)).toNat else min v.toNat n)<=n;by_cases hv:v<0
  ·rw[if_pos hv];omega
  ·rw[if_neg hv];exact Nat.min_le_right _ _
def clip_eq(v:Int)(n d:Nat):(if v<0 then max (v+(n:Int)) 0 else min v (n:Int))=((sIx n d (some v):Nat):Int):=by
 show(if v<0 then max (v+(n:Int)) 0 else min v (n:Int))=(((if v<0 then(v+(n:Int)).toNat else min v.toNat n):Nat):Int);by_cases hv:v<0
 ·simp only[if_pos hv];omega
 ·simp only[if_neg hv];omega
end
end HT
namespace L2
open PySem PySem.Spec PyProof.Rows
section
abbrev TO:=St->Hp->(Option Int->Hp->Prop)->Prop
noncomputable def PO(X:Cx)(e:Option Expr)(t:TO):Prop :=
 ∀(pins:List (Addr×Obj)) (s:Shared) (Y:St) (H:Hp) (Q:Option Int->Hp->Prop),Inv X pins Y H s->t Y H Q ->
  wpAny (model X.prog X.w) X.A (evalPart e X.env) (λu s'=>∃o H',Inv X pins Y H' s'/\IsPart u o/\Q o H') X.xe s
def Qgy:TO:=λz H Q=>Q none H
def QlQ(t:TE):TO:=λY H Q=>t Y H λx H1=>∃i,x=.int i/\Q (some i) H1
section
variable {X:Cx}{e:Expr}{te:TE}{lo hi:Option Expr}{tl th:TO}{pos p2:Pos}
def Qg8:PO X none Qgy:=by
 intro pins s Y H Q I h;rw[evalPart_none];exact Xl ⟨none,H,I,.none,h⟩
def Qg7(h:PE X e te):PO X (some e) (QlQ te):=by
 intro pins s Y H Q I hw;rw[evalPart_some];refine thn (h pins s Y H _ I hw) λu s1 z=>?_;obtain⟨x,H1,I1,r1,q1⟩:=z;obtain⟨i,rfl,q⟩:=q1;obtain⟨t,rfl⟩:=r1;exact⟨some i,H1,I1,.int i t,q⟩
noncomputable def SlR(X:Cx)(r:V->Option Int->Option Int->Hp->VK->Prop):Prop :=
 ∀(pins:List (Addr×Obj)) (s:Shared) (Y:St) (H:Hp) (x:V) (v vl vu:Value) (lo hi:Option Int) (sl:Addr) (Q:VK),Inv X pins Y H s->RelV x v->s.heap.IsSliceOf sl vl vu .none->IsPart vl lo->IsPart vu hi->r x lo hi H Q ->
  ∃T id,typeLookup (.type T) "__getitem__"=pure (some (.builtin id))/\s.TypeIs v T/\wpAny (model X.prog X.w) X.A (getItem v (.ref sl)) (EP X pins Y Q) X.xe s
def SlR.or{r r':V->Option Int->Option Int->Hp->VK->Prop}(h:SlR X r)(h':SlR X r'):SlR X (λx lo hi H Q=>r x lo hi H Q\/r' x lo hi H Q):=by
 intro pins s Y H x v vl vu lo hi sl Q I rx hs pl pu q
 rcases q with q|q
 ·exact h pins s Y H x v vl vu lo hi sl Q I rx hs pl pu q
 ·exact h' pins s Y H x v vl vu lo hi sl Q I rx hs pl pu q
def tSl(r:V->Option Int->Option Int->Hp->VK->Prop)(te:TE)(tl th:TO):TE:=λY H Q=>te Y H λx H1=>tl Y H1 λl H2=>th Y H2 λu H3=>r x l u H3 Q
def QeR{r:V->Option Int->Option Int->Hp->VK->Prop}(hr:SlR X r)(he:PE X e te)(hl:PO X lo tl)(hu:PO X hi th):PE X (.Subscript e (.Slice lo hi none p2) pos) (tSl r te tl th):=by
 intro pins s Y H Q I h;refine Subscript_ (thn (he pins s Y H _ I h) λv s1 z=>?_);obtain⟨x,H1,I1,r1,q1⟩:=z;refine wpAny_Slice (thn (hl pins s1 Y H1 _ I1 q1) λvl s2 ⟨l,H2,I2,pl,q2⟩=>thn (hu pins s2 Y H2 _ I2 q2) λvu s3 y=>?_);obtain⟨u,H3,I3,pu,q3⟩:=y;rw[evalPart_none];refine Xl ?_;have I4:Inv X pins Y H3 {s3 with heap:=s3.heap.push {cls:=.type "slice",data:=.fields #[vl,vu,.none]} }:=I3.kept (t':=s3.toks) λb ob q=>Xd _ q;obtain⟨T,id,hT,ht,hg⟩:=hr pins {s3 with heap:=s3.heap.push {cls:=.type "slice",data:=.fields #[vl,vu,.none]} } Y H3 x v vl vu l u s3.heap.objs.size Q I4 r1 (Heap.IsSliceOf.new ..) pl pu q3;show wpAny (model X.prog X.w) X.A (subscriptTail e (.Slice lo hi none p2) v (.ref s3.heap.objs.size)) (EP X pins Y Q) X.xe {s3 with heap:=s3.heap.push {cls:=.type "slice",data:=.fields #[vl,vu,.none]} }
 exact tail_any (ops:=[.ref s3.heap.objs.size,v]) ht hT hg (by with_unfolding_all rfl)
noncomputable def Qiw(xs:List V)(lo hi:Option Int):List V:=(xs.drop (HT.sIx xs.length 0 lo)).take (HT.sIx xs.length xs.length hi-HT.sIx xs.length 0 lo)
def Qbs(xs:List V)(lo hi:Option Int):(Qiw xs lo hi).length<=xs.length:=by
 unfold Qiw;rw[Vy,Th];omega
end
end
section
variable {x:V}
noncomputable def ixN(n:Nat)(i:Int):Option Nat:=if 0<=i then(if i<n then some i.toNat else none)else if -(n:Int)<=i then some (i+n).toNat else none
noncomputable def atI{α:Type}(xs:List α)(i:Int):Option α:=(ixN xs.length i).bind λj=>xs[j]?
def QhN{n:Nat}{i:Int}{j:Nat}(h:ixN n i=some j):seqIndex? i n=some j/\j<n/\-(n:Int)<=i/\i<n:=by
 unfold ixN at h;by_cases h0:0<=i
 ·rw[if_pos h0]at h;by_cases h1:i<n
  ·rw[if_pos h1]at h;have e:i.toNat=j:=X2 h
   exact⟨by rw[seqIndex_of h0 h1,e],by omega,by omega,h1⟩
  ·rw[if_neg h1]at h;cases h
 ·rw[if_neg h0]at h;by_cases h1:-(n:Int)<=i
  ·rw[if_pos h1]at h;have e:(i+n).toNat=j:=X2 h
   exact⟨by rw[seqIndex_neg (by omega) h1,e],by omega,h1,by omega⟩
  ·rw[if_neg h1]at h;cases h
def Qbv{α:Type}{xs:List α}{i:Int}{v:α}(h:atI xs i=some v):∃j,seqIndex? i xs.length=some j/\xs[j]?=some v/\j<xs.length/\-(xs.length:Int)<=i/\i<xs.length:=by
 unfold atI at h
 cases e:ixN xs.length i with
 |none=>rw[e]at h;cases h
 |some j=>
  rw[e]at h;obtain⟨h1,h2,h3,h4⟩:=QhN e;exact⟨j,h1,h,h2,h3,h4⟩
def Qei(b:Expr):Prop:=∀o i,subscripted b false o i=operate [o,i] (getItem o i)
noncomputable def IxR(X:Cx)(r:R2):Prop :=
 ∀(value slice:Expr) (pins:List (Addr×Obj)) (s:Shared) (Y:St) (H:Hp) (x y:V) (v u:Value) (Q:VK),Inv X pins Y H s->RelV x v->RelV y u->r x y H Q ->
  subscripted slice false v u=operate [v,u] (getItem v u)->wpAny (model X.prog X.w) X.A (subscriptTail value slice v u) (EP X pins Y Q) X.xe s
noncomputable def MtR(X:Cx)(id:String)(r:V->List V->Hp->VK->Prop):Prop :=
 ∀(pins:List (Addr×Obj)) (s:Shared) (Y:St) (H:Hp) (x:V) (xs:List V) (v:Value) (us:List Value) (Q:VK),Inv X pins Y H s->RelV x v->Vals xs us->r x xs H Q ->
  wpAny (model X.prog X.w) X.A (call (.builtin id) (v::us)) (EP X pins Y Q) X.xe s
section
variable {X:Cx}{a b:Expr}{ta tb:TE}{pos:Pos}
def IxR.or{r r':R2}(h:IxR X r)(h':IxR X r'):IxR X (λx y H Q=>r x y H Q\/r' x y H Q):=by
 intro value slice pins s Y H x y v u Q I rx ry q hs
 rcases q with q|q
 ·exact h value slice pins s Y H x y v u Q I rx ry q hs
 ·exact h' value slice pins s Y H x y v u Q I rx ry q hs
def Qmk{r:R2}(hr:IxR X r)(ha:PE X a ta)(hb:PE X b tb)(hs:Qei b):PE X (.Subscript a b pos) (tOp r ta tb):=by
 intro pins s Y H Q I h;exact Subscript_ (Qm9 ha hb I h λv u s2 x y H2 I2 rx ry q=>hr a b pins s2 Y H2 x y v u Q I2 rx ry q (hs _ _))
def Qnz(K:W.Frag):R2:=λx y H Q=>∃p xs i v,x=.ref p/\y=.int i/\SqL K H p xs/\atI xs i=some v/\Q v H
def Qnx(K:W.Frag):R2:=λx y H Q=>∃p xs i v,x=.ref p/\y=.int i/\SqT K H p xs/\atI xs i=some v/\Q v H
def Qny:R2:=λx y H Q=>∃z i c,x=.str z/\y=.int i/\z.length<=sizeLine/\atI z.cps.toList i=some c/\Q (.str ⟨#[c]⟩) H
def ix_list:IxR X (Qnz X.K):=by
 intro value slice pins s Y H x y v u Q I rx ry h hs;obtain⟨p,xs,i,z,rfl,rfl,hq,he,q⟩:=h;cases rx;obtain⟨t,rfl⟩:=ry;obtain⟨its,r,pl,hz⟩:=I.list hq;obtain⟨j,h1,h2,h3,h4,h5⟩:=Qbv he;obtain⟨w,ew,rw'⟩:=r.get h2;have hl:=r.length;have hn:=Jr;have fin:EP X pins Y Q w s:=⟨z,H,I,rw',q⟩;by_cases h0:0<=i
 ·have hj:i.toNat=j:=by
   rw[seqIndex_of h0 h5]at h1;exact X2 h1
  exact item_listR pl.isList h0 (by omega) (by rw[hj];simpa using ew) fin hs
 ·have hj:(i+(its.toArray.size:Int)).toNat=j:=by
   rw[seqIndex_neg (by omega) h4]at h1
   rw[Xv,<-hl];exact X2 h1
  exact subscriptTail_builtinR (x:=w) pl.isList.typeIs slot_list_getitem.lookup
   (wpAny_getItem_list_neg (Q:=λr s'=>r=w/\EP X pins Y Q r s') pl.isList (by omega) (by rw[Xv]<;>omega) (by omega) (by rw[hj];simpa using ew) ⟨rfl,fin⟩) hs
def ix_tup:IxR X (Qnx X.K):=by
 intro value slice pins s Y H x y v u Q I rx ry h hs;obtain⟨p,xs,i,z,rfl,rfl,hq,he,q⟩:=h;cases rx;obtain⟨t,rfl⟩:=ry;obtain⟨its,r,pl,hz⟩:=I.tuple hq;obtain⟨j,h1,h2,h3,h4,h5⟩:=Qbv he;obtain⟨w,ew,rw'⟩:=r.get h2;have hl:=r.length;have hn:=Jr;have fin:EP X pins Y Q w s:=⟨z,H,I,rw',q⟩
 exact subscriptTail_builtinR (x:=w) pl.typeIs slot_tuple_getitem.lookup
  (getItem_tuple (j:=j) (Q:=λr s'=>r=w/\EP X pins Y Q r s') pl (by omega) (by omega) (by rw[Xv,<-hl];exact h1) (by simpa using ew) ⟨rfl,fin⟩) hs
def Qkl:IxR X Qny:=by
 intro value slice pins s Y H x y v u Q I rx ry h hs;obtain⟨z,i,c,rfl,rfl,hz,he,q⟩:=h;obtain⟨t,rfl⟩:=rx;obtain⟨t',rfl⟩:=ry;obtain⟨j,h1,h2,h3,h4,h5⟩:=Qbv he
 have hl:z.cps.toList.length=z.length:=by simp[Str.length]
 rw[hl]at h1 h4 h5;have hn:=Jr
 exact tail_any (U8 s z t) slot_str_getitem.lookup (getItem_str (c:=c) (by
  have e1:decide (i < -(2 ^ 63:Int))=false:=Xu (by omega)
  have e2:decide (i≥2 ^ 63)=false:=Xu (by omega)
  rw[e1,e2,Bool.or_false]) (by rw[h1];simpa using h2) ⟨.str ⟨#[c]⟩,H,I.tok _,⟨_,rfl⟩,q⟩) hs
def rIx(K:W.Frag):R2:=λx y H Q=>Qnz K x y H Q\/Qnx K x y H Q\/Qny x y H Q
def ix_seq:IxR X (rIx X.K):=ix_list.or (ix_tup.or Qkl)
def Qal(lo hi:Option Int)(n:Nat):(sliceBounds lo hi none n).1=((HT.sIx n 0 lo:Nat):Int)/\(sliceBounds lo hi none n).2.1=((HT.sIx n n hi:Nat):Int)/\(sliceBounds lo hi none n).2.2=1:=by
 refine⟨?_,?_,rfl⟩
 ·cases lo with
  |none=>simp[sliceBounds,HT.sIx]
  |some i=>
   simp only[sliceBounds,HT.sIx,Option.getD_none,show(1:Int) > 0 by decide,Wt]
   by_cases h:i<0
   ·simp only[h,Wt]<;>omega
   ·simp only[h,Uv]<;>omega
 ·cases hi with
  |none=>simp[sliceBounds,HT.sIx]
  |some i=>
   simp only[sliceBounds,HT.sIx,Option.getD_none,show(1:Int) > 0 by decide,Wt]
   by_cases h:i<0
   ·simp only[h,Wt]<;>omega
   ·simp only[h,Uv]<;>omega
def JI(its:List Value)(lo hi:Option Int):slicePick its.toArray lo hi none=((its.drop (HT.sIx its.length 0 lo)).take (HT.sIx its.length its.length hi-HT.sIx its.length 0 lo)).toArray:=by
 obtain⟨h1,h2,h3⟩:=Qal lo hi its.toArray.size;unfold slicePick;rw[h1,h2,h3];simp only[sliceRange_one,pick_run,Xv]<;>rfl
def Qnv(K:W.Frag):V->Option Int->Option Int->Hp->VK->Prop:=λx lo hi H Q=>∃a xs,x=.ref a/\SqL K H a xs/\∀p,H p=none->Q (.ref p) (upd H p (.lst (Qiw xs lo hi)))
def sl_list:SlR X (Qnv X.K):=by
 intro pins s Y H x v vl vu lo hi sl Q I rx hs pl pu h;obtain⟨a,xs,rfl,hx,q⟩:=h;cases rx;obtain⟨its,r,ht,hz⟩:=I.list hx;have hlen:=r.length;refine⟨"list",_,slot_list_getitem.lookup,ht.isList.typeIs,?_⟩
 refine wpAny_getItem_list_slice ht.isList hs pl pu .none (by simp) ?_ (by rw[Xv]<;>omega)
 rw[JI,<-hlen];refine⟨.ref s.heap.objs.size,_,I.laid (t':=s.toks) (o:=.lst (Qiw xs lo hi)) (λb ob q=>Xd _ q) (Xm _) ?_,rfl,q _ (I.hok.fresh (Xm _))⟩;exact⟨X1 (Qbs xs lo hi) hz,_,0,(r.drop (HT.sIx xs.length 0 lo)).take (HT.sIx xs.length xs.length hi-HT.sIx xs.length 0 lo),X0 _ rfl⟩
noncomputable def Jj:V->Bool
 |.non=>true
 |.bl _=>true
 |.int _=>true
 |.str _=>true
 |_=>false
noncomputable def eqV:V->V->Bool
 |.non,.non=>true
 |.bl a,.bl b=>a==b
 |.bl a,.int b=>(if a then 1 else 0)==b
 |.int a,.bl b=>a==(if b then 1 else 0)
 |.int a,.int b=>a==b
 |.str a,.str b=>a==b
 |_,_=>false
def QkL{A:Around}{s:Shared}{y:V}{u v:Value}(ry:RelV y u)(rx:RelV x v)(fy:Jj y=true)(fx:Jj x=true):SeqAt.EqAt A s u v (eqV y x):=by
 cases y with
 |non=>
  cases ry
  cases x with
  |non=>cases rx;exact SeqAt.EqAt.same _
  |bl b=>cases rx;exact SeqAt.EqAt.none_bool b
  |int b=>obtain⟨t,rfl⟩:=rx;exact SeqAt.EqAt.none_int b t
  |str b=>obtain⟨t,rfl⟩:=rx;exact SeqAt.EqAt.none_str b t
  |_=>exact absurd (show false=true from fx) Xi
 |bl a=>
  cases ry
  cases x with
  |non=>cases rx;exact SeqAt.EqAt.bool_none a
  |bl b=>cases rx;exact SeqAt.EqAt.bool_bool a b
  |int b=>obtain⟨t,rfl⟩:=rx;exact SeqAt.EqAt.bool_int a b t
  |str b=>obtain⟨t,rfl⟩:=rx;exact SeqAt.EqAt.bool_str a b t
  |_=>exact absurd (show false=true from fx) Xi
 |int a=>
  obtain⟨t',rfl⟩:=ry
  cases x with
  |non=>cases rx;exact SeqAt.EqAt.int_none a t'
  |bl b=>cases rx;exact SeqAt.EqAt.int_bool a t' b
  |int b=>obtain⟨t,rfl⟩:=rx;exact SeqAt.EqAt.int_int a t' b t
  |str b=>obtain⟨t,rfl⟩:=rx;exact SeqAt.EqAt.int_str a t' b t
  |_=>exact absurd (show false=true from fx) Xi
 |str a=>
  obtain⟨t',rfl⟩:=ry
  cases x with
  |non=>cases rx;exact SeqAt.EqAt.str_none a t'
  |bl b=>cases rx;exact SeqAt.EqAt.str_bool a t' b
  |int b=>obtain⟨t,rfl⟩:=rx;exact SeqAt.EqAt.str_int a t' b t
  |str b=>obtain⟨t,rfl⟩:=rx;exact SeqAt.EqAt.str_str a t' b t
  |_=>exact absurd (show false=true from fx) Xi
 |_=>exact absurd (show false=true from fy) Xi
noncomputable def eqU(x:V)(u:Value):Bool:=match u with
 |.none=>eqV .non x
 |.bool b=>eqV (.bl b) x
 |.int i _=>eqV (.int i) x
 |.str z _=>eqV (.str z) x
 |_=>false
def Qgb{y:V}{u:Value}(r:RelV y u)(f:Jj y=true):eqU x u=eqV y x:=by
 cases y with
 |non=>cases r;rfl
 |bl b=>cases r;rfl
 |int i=>obtain⟨t,rfl⟩:=r;rfl
 |str z=>obtain⟨t,rfl⟩:=r;rfl
 |_=>exact absurd (show false=true from f) Xi
theorem Jd{x:V}:∀{xs:List V} {us:List Value},Vals xs us->xs.all Jj=true->us.any (eqU x)=xs.any λy=>eqV y x
 |_,_,.nil,_=>rfl
 |y::xs,u::us,.cons r t,f=>by
  rw[Vx,Xe]at f;rw[T2,T2,Qgb r f.1,Jd t f.2]
theorem Yg{A:Around}{s:Shared}{x:V}{v:Value}(rx:RelV x v)(fx:Jj x=true):∀{xs:List V} {us:List Value},Vals xs us->xs.all Jj=true->∀u∈us,SeqAt.EqAt A s u v (eqU x u)
 |_,_,.nil,_=>λu hu=>by cases hu
 |y::xs,u::us,.cons r t,f=>λu' hu=>by
  rw[Vx,Xe]at f
  rcases Xo.mp hu with rfl|hu
  ·rw[Qgb r f.1];exact QkL r rx f.1 fx
  ·exact Yg rx fx t f.2 u' hu
noncomputable def inV(x:V)(xs:List V):Bool:=xs.any λy=>eqV y x
def rIn(K:W.Frag)(neg:Bool):R2:=λx y H Q=>∃p xs,y=.ref p/\(SqL K H p xs\/SqT K H p xs)/\Jj x=true/\xs.all Jj=true/\Q (.bl (if neg then !inV x xs else inV x xs)) H
def Qdo:OpR X (compareOp .In) (rIn X.K false):=by
 intro pins s Y H x y v u Q I rx ry h;obtain⟨p,xs,rfl,hq,fx,fs,q⟩:=h;cases ry
 rcases hq with hq|hq
 ·obtain⟨its,r,pl,hz⟩:=I.list hq
  refine SeqAt.in_listAt (eqU x) pl.isList (λw hw=>Yg rx fx r fs w (by simpa using hw)) ⟨.bl _,H,I,rfl,?_⟩
  rw[show its.toArray.any (eqU x)=its.any (eqU x) by simp,Jd r fs]
  exact q
 ·obtain⟨its,r,pl,hz⟩:=I.tuple hq
  refine SeqAt.in_tupleAt (eqU x) pl (λw hw=>Yg rx fx r fs w (by simpa using hw)) ⟨.bl _,H,I,rfl,?_⟩
  rw[show its.toArray.any (eqU x)=its.any (eqU x) by simp,Jd r fs]
  exact q
def Qaq:OpR X (compareOp .NotIn) (rIn X.K true):=by
 intro pins s Y H x y v u Q I rx ry h;obtain⟨p,xs,rfl,hq,fx,fs,q⟩:=h;cases ry
 rcases hq with hq|hq
 ·obtain⟨its,r,pl,hz⟩:=I.list hq
  refine SeqAt.notIn_listAt (eqU x) pl.isList (λw hw=>Yg rx fx r fs w (by simpa using hw)) ⟨.bl _,H,I,rfl,?_⟩
  rw[show its.toArray.any (eqU x)=its.any (eqU x) by simp,Jd r fs]
  exact q
 ·obtain⟨its,r,pl,hz⟩:=I.tuple hq
  refine SeqAt.notIn_tupleAt (eqU x) pl (λw hw=>Yg rx fx r fs w (by simpa using hw)) ⟨.bl _,H,I,rfl,?_⟩
  rw[show its.toArray.any (eqU x)=its.any (eqU x) by simp,Jd r fs]
  exact q
def QaO:CallR X (.builtin "len") (λxs H Q=>∃p ys,xs=[.ref p]/\(SqL X.K H p ys\/SqT X.K H p ys)/\Q (.int ys.length) H):= by
 intro pins s Y H xs us Q I r h;obtain⟨p,ys,rfl,hq,q⟩:=h;obtain⟨u,rfl,rx⟩:=JD r;cases rx;have hn:=Jr
 rcases hq with hq|hq
 ·obtain⟨its,r',pl,hz⟩:=I.list hq;have hlen:=r'.length
  exact Calls.call_len_list pl.isList (by simp only[Xv]<;>omega) ⟨.int ys.length,H,I.tok _,⟨s.toks+1,by rw[Xv,hlen]⟩,q⟩
 ·obtain⟨its,r',pl,hz⟩:=I.tuple hq;have hlen:=r'.length
  exact len_tuple pl (by simp only[Xv]<;>omega) ⟨.int ys.length,H,I.tok _,⟨s.toks+1,by rw[Xv,hlen]⟩,q⟩
def QaN:CallR X (.builtin "len") (λxs H Q=>∃z,xs=[.str z]/\z.length<=sizeLine/\Q (.int z.length) H):= by
 intro pins s Y H xs us Q I r h;obtain⟨z,rfl,hz,q⟩:=h;obtain⟨u,rfl,t,rfl⟩:=JD r;have hn:=Jr
 exact len_str (by omega) ⟨.int z.length,H,I.tok _,⟨_,rfl⟩,q⟩
def CallR.or{f:Value}{r r':List V->Hp->VK->Prop}(h:CallR X f r)(h':CallR X f r'):CallR X f (λxs H Q=>r xs H Q\/r' xs H Q):=by
 intro pins s Y H xs us Q I rs q
 rcases q with q|q
 ·exact h pins s Y H xs us Q I rs q
 ·exact h' pins s Y H xs us Q I rs q
def QaM:CallR X (.type "list") (λxs H Q=>∃p ys,xs=[.ref p]/\(SqL X.K H p ys\/SqT X.K H p ys)/\∀l,H l=none->Q (.ref l) (upd H l (.lst ys))):= by
 intro pins s Y H xs us Q I r h;obtain⟨p,ys,rfl,hq,q⟩:=h;obtain⟨u,rfl,rx⟩:=JD r;cases rx
 have fin:∀(its:List Value),Vals ys its->ys.length<=sizeLine->∀(h':Heap) (c':Nat),(∀b o',s.heap.get? b=some o'->h'.get? b=some o') ->
   h'.get? s.heap.objs.size=some {cls:=.type "list",dict:=none,data:=.seq its.toArray c',slots:=#[]}->EP X pins Y Q (.ref s.heap.objs.size) {s with heap:=h'}:=λits r' hz h' c' kp e=>
  ⟨.ref s.heap.objs.size,_,I.laid (t':=s.toks) kp (Xm _) (show ObjOk X.prog X.w _ h' _ (.lst ys)from⟨hz,its,c',r',e⟩),rfl,q _ (I.hok.fresh (Xm _))⟩
 rcases hq with hq|hq
 ·obtain⟨its,r',pl,hz⟩:=I.list hq;have hlen:=r'.length;obtain⟨o,ho,hc,n,hd⟩:=pl.isList
  exact call_list_seq p (.inl rfl) ho hc hd (λh' c' kp e=>fin its r' hz h' c' kp e) (by simp only[Xv]<;>omega)
 ·obtain⟨its,r',pl,hz⟩:=I.tuple hq;have hlen:=r'.length;obtain⟨o,ho,hc,n,hd⟩:=pl
  exact call_list_seq p (.inr rfl) ho hc hd (λh' c' kp e=>fin its r' hz h' c' kp e) (by simp only[Xv]<;>omega)
def JZ:CallR X (.type "tuple") (λxs H Q=>∃p ys,xs=[.ref p]/\((SqL X.K H p ys/\∀l,H l=none->Q (.ref l) (upd H l (.tup ys)))\/(SqT X.K H p ys/\Q (.ref p) H))):= by
 intro pins s Y H xs us Q I r h;obtain⟨p,ys,rfl,h⟩:=h;obtain⟨u,rfl,rx⟩:=JD r;cases rx
 rcases h with⟨hq,q⟩|⟨hq,q⟩
 ·obtain⟨its,r',pl,hz⟩:=I.list hq;have hlen:=r'.length
  refine call_tuple_list pl.isList (λh' kp=>?_) (by simp only[Xv]<;>omega)
  have I1:Inv X pins Y H {s with heap:=h'}:=I.kept (t':=s.toks) kp
  have I2:Inv X pins Y (upd H h'.objs.size (.tup ys)) {s with heap:=h'.push {cls:=.type "tuple",data:=.seq its.toArray} }:=
   I1.laid (t':=s.toks) (λb o e=>Xd _ e) (Xm _) (show ObjOk X.prog X.w _ _ _ (.tup ys)from⟨hz,its,r',IsTup.new _ _⟩)
  exact⟨.ref h'.objs.size,_,I2,rfl,q _ (I1.hok.fresh (Xm _))⟩
 ·obtain⟨its,r',pl,hz⟩:=I.tuple hq;exact call_tuple_same pl ⟨.ref p,H,I,rfl,q⟩
def tyV(K:W.Frag)(T:String)(x:V)(H:Hp):Prop:=match x with
 |.str _=>T="str"
 |.int _=>T="int"
 |.ref p=>(T="list"/\∃xs,SqL K H p xs)\/(T="tuple"/\∃o,K.lookup p=some o/\o.cls=.type "tuple"/\o.dict=none) \/
   (T="dict"/\((∃kvs,H p=some (.dK kvs))\/∃kvs,H p=some (.dT kvs)))\/(T="set"/\∃S n,H p=some (.set S n))
 |_=>False
def QfH{pins:List (Addr×Obj)}{Y:St}{H:Hp}{s:Shared}{T:String}{v:Value}(I:Inv X pins Y H s)(r:RelV x v)(ty:tyV X.K T x H):
  s.TypeIs v T/\∀a,v=.ref a->∃ob,s.heap.get? a=some ob/\ob.dict=none:=by
 cases x with
 |str z=>
  obtain⟨t,rfl⟩:=r;cases(show T="str" from ty);exact⟨U8 s z t,λy e=>nomatch e⟩
 |int i=>
  obtain⟨t,rfl⟩:=r;cases(show T="int" from ty);exact⟨typeIs_int s i t,λy e=>nomatch e⟩
 |ref p=>
  cases r
  rcases ty with⟨rfl,xs,hq⟩|⟨rfl,o,hk,hc,hd⟩|⟨rfl,hk⟩|⟨rfl,S,n,hk⟩
  ·obtain⟨its,_,pl,_⟩:=I.list hq;refine⟨pl.isList.typeIs,λa e=>?_⟩;cases e;obtain⟨o,n,e,c,hd,_⟩:=pl;exact⟨o,e,hd⟩
  ·refine⟨⟨o,I.kIn p o hk,hc⟩,λa e=>?_⟩;cases e;exact⟨o,I.kIn _ o hk,hd⟩
  ·have z:∃o,s.heap.get? p=some o/\o.ExactDict:=by
    rcases hk with⟨kvs,hk⟩|⟨kvs,hk⟩
    ·obtain⟨_,_,_,_,o,_,_,e,ex,_⟩:=I.hok p _ hk;exact⟨o,e,ex⟩
    ·obtain⟨_,_,_,_,o,_,_,e,ex,_⟩:=I.hok p _ hk;exact⟨o,e,ex⟩
   obtain⟨o,e,ex⟩:=z;refine⟨⟨o,e,ex.1⟩,λa e2=>?_⟩;cases e2;exact⟨o,e,ex.2.1⟩
  ·obtain⟨o,_,_,_,e,ex,_⟩:=I.hok p _ hk;refine⟨⟨o,e,ex.1⟩,λa e2=>?_⟩;cases e2;exact⟨o,e,ex.2.1⟩
 |_=>exact False.elim ty
def Qoi(K:W.Frag)(T:String)(r:V->List V->Hp->VK->Prop)(to:TE):TE:=λY H Q=>to Y H λx H1=>tyV K T x H1/\r x [] H1 Q
def tBM(K:W.Frag)(T:String)(r:V->List V->Hp->VK->Prop)(to:TE)(t:TA):TE:=λY H Q=>to Y H λx H1=>tyV K T x H1/\t Y H1 λxs H2=>r x xs H2 Q
variable {o e:Expr}{es:List Expr}{to:TE}{t:TA}{name:Str}{apos cpos:Pos}{T id:String}{r:V->List V->Hp->VK->Prop}
def QjO(pa:PlainAttrs T)(slot:Slot T name id)(hty:typeOf (.builtin id)=pure (.type "method_descriptor"))(hm:MtR X id r)(ho:PE X o to)
  (hbase:attributeBase o name X.env (eval o X.env)=eval o X.env:=by rfl) (hline:(apos.endLine==cpos.line)=true:=by rfl):PE X (.Call (.Attribute o name apos) [] [] cpos) (Qoi X.K T r to):=by
 intro pins s Y H Q I h;refine wpAny_Call_method0_late hbase hline (thn (ho pins s Y H _ I h) λv s1 z=>?_);obtain⟨x,H1,I1,r1,ty,q1⟩:=z;obtain⟨h1,h2⟩:=QfH I1 r1 ty;exact⟨T,id,pa,slot,hty,h1,h2,Calls.callWith_builtin rfl (PySem.evalArgs_none (hm pins s1 Y H1 x [] v [] Q I1 r1 .nil q1))⟩
def Qml(pa:PlainAttrs T)(slot:Slot T name id)(hty:typeOf (.builtin id)=pure (.type "method_descriptor"))(hm:MtR X id r)(ho:PE X o to)(ha:PA X (e::es) t)
  (hbase:attributeBase o name X.env (eval o X.env)=eval o X.env:=by rfl)
  (hfew:((backTo cpos (starEach (e::es) X.env)).all (λx=>!x.1)&&(backToKw cpos (keywordEach [] X.env)).all (λx=>x.1.isSome)
   && decide ((e::es).length+([]:List Keyword).length+(if([]:List Keyword).isEmpty then 0 else 1) < 30))=true:=by rfl)
  (hline:(apos.endLine==cpos.line)=true:=by rfl) (hs:starEach (e::es) X.env=(false,eval e X.env)::starEach es X.env:=by rfl) (hplain:(backTo cpos (starEach es X.env)).any (·.1)=false:=by rfl):
  PE X (.Call (.Attribute o name apos) (e::es) [] cpos) (tBM X.K T r to t):=by
 intro pins s Y H Q I h;refine wpAny_Call_method_late hbase hfew hline rfl (thn (ho pins s Y H _ I h) λv s1 z=>?_);obtain⟨x,H1,I1,r1,ty,q1⟩:=z;obtain⟨h1,h2⟩:=QfH I1 r1 ty;refine⟨T,id,pa,slot,hty,h1,h2,?_⟩;have hA:=ha cpos pins s1 Y H1 _ I1 q1;rw[hs]at hA ⊢
 refine Calls.callWith_builtin (by show(false||(backTo cpos (starEach es X.env)).any (·.1))=false;rw[hplain]<;>rfl) (Calls.evalArgs_plain ?_)
 exact thn hA λus s2 y=>by obtain⟨vs,H2,I2,r2,q2⟩:=y;exact hm pins s2 Y H2 x vs v us Q I2 r1 r2 q2
end
end
section
variable {X:Cx}
noncomputable def MtM(X:Cx)(id:String)(r:V->List V->Hp->VK->Prop):Prop :=
 ∀(pins:List (Addr×Obj)) (s:Shared) (Y:St) (H:Hp) (x:V) (xs:List V) (v:Value) (us:List Value) (Q:VK),Inv X pins Y H s->RelV x v->Vals xs us->r x xs H Q ->
  wpAny (model X.prog X.w) X.A (call (.builtin id) (v::us)) (EP X pins Y Q) X.xe s
def Vals.one{x:V}{us:List Value}(h:Vals [x] us):∃u,us=[u]/\RelV x u:=by
 cases h with
 |cons r t=>cases t;exact⟨_,rfl,r⟩
def Vals.zero:∀{us:List Value},Vals [] us->us=[]
 |_,.nil=>rfl
theorem Vals.reverse{xs:List V}{us:List Value}(h:Vals xs us):Vals xs.reverse us.reverse:=by
 induction h with
 |nil=>exact .nil
 |cons r t ih=>rw[Tb,Tb];exact Vals.append ih (.cons r .nil)
theorem Vals.rep{xs:List V}{us:List Value}(h:Vals xs us):∀k:Nat,Vals (List.replicate k xs).flatten (List.replicate k us).flatten
 |0=>.nil
 |k+1=>by
  rw[Vo,Vo,Ub,Ub];exact Vals.append h (Vals.rep h k)
theorem QaG(its:List Value):∀(k:Nat) (acc:List Value),
  List.foldl (λx1 x2=>x1++x2) acc.toArray (List.replicate k its.toArray)=(acc++(List.replicate k its).flatten).toArray
 |0,acc=>by simp
 |k+1,acc=>by
  have e:acc.toArray++its.toArray=(acc++its).toArray:=by simp
  have e2:(acc++its)++(List.replicate k its).flatten=acc++(List.replicate (k+1) its).flatten:=by
   rw[Vo,Ub,List.append_assoc]
  rw[<-e2,<-QaG its k (acc++its),<-e,Vo,List.foldl_cons]
section
variable {pins:List (Addr×Obj)}{Y:St}{H:Hp}{s:Shared}{l:Addr}{xs ys:List V}
def Inv.lset{its its':List Value}{n:Nat}{f:Array Value->Array Value}{t':Nat}(I:Inv X pins Y H s)(hH:H l=some (.lst xs))
  (e:s.heap.get? l=some {cls:=.type "list",data:=.seq its.toArray n}) (hf:f its.toArray=its'.toArray) (hv:Vals ys its') (hz:ys.length<=sizeLine):
  Inv X pins Y (upd H l (.lst ys)) {s with heap:=s.heap.update l (Obj.mapSeq f),toks:=t'}:=by
 have q:=PySem.IsL.update e f;rw[hf]at q
 refine I.write (x:=l) (e:=l) (by rw[hH];exact trivial) (.inl rfl) (λb' u hb hu=>(V1 s.heap (Obj.mapSeq f) (Ww hb)).trans hu) ⟨_,q⟩ ?_
 exact⟨hz,its',_,hv,q⟩
def Inv.lnew{its:List Value}{t':Nat}(I:Inv X pins Y H s)(hv:Vals ys its)(hz:ys.length<=sizeLine):
  Inv X pins Y (upd H s.heap.objs.size (.lst ys)) {s with heap:=s.heap.push {cls:=.type "list",data:=.seq its.toArray},toks:=t'}:=
 I.laid (λz z q=>Xd _ q) (Xm _) ⟨hz,its,0,hv,X0 _ rfl⟩
theorem Inv.fresh(I:Inv X pins Y H s):H s.heap.objs.size=none:=I.hok.fresh (Xm _)
def Inv.lstM(I:Inv X pins Y H s)(hH:H l=some (.lst xs)): xs.length<=sizeLine/\∃(its:List Value) (n:Nat),Vals xs its/\xs.length=its.length/\s.heap.get? l=some {cls:=.type "list",data:=.seq its.toArray n}:= by
 obtain⟨z,its,n,r,e⟩:=I.hok l _ hH;exact⟨z,its,n,r,r.length,e⟩
def Qe0{n:Nat}(h:n<=sizeLine):Builtin.List.listTooLong n=false:=by
 unfold Builtin.List.listTooLong
 exact Xu (by omega)
end
section

def QgX:V->List V->Hp->VK->Prop:=λx vs H Q=>∃l xs y,x=.ref l/\vs=[y]/\H l=some (.lst xs)/\xs.length<sizeLine/\Q .non (upd H l (.lst (xs++[y])))
def YY:MtM X "list.append" QgX:=by
 intro pins s Y H x vs v us Q I rx rv h;obtain⟨l,xs,y,rfl,rfl,hH,hz,q⟩:=h;cases rx;obtain⟨u,rfl,ru⟩:=rv.one;obtain⟨z,its,n,r,hl,e⟩:=I.lstM hH
 refine U9 F.slot_list_append ⟨_,e,rfl⟩ F.entry_list_append (F.args_list_append_2 _ _) (PySem.list_append l its.toArray n u (by rw[Xv];omega)) ⟨e,?_⟩
 refine⟨.non,_,I.lset (its':=its++[u]) hH e (by simp) (r.append (.cons ru .nil)) ?_,rfl,q⟩
 rw[X9,To];omega
def QeK:V->List V->Hp->VK->Prop:=λx vs H Q=>∃l xs,x=.ref l/\vs=[]/\H l=some (.lst xs)/\Q .non (upd H l (.lst xs.reverse))
def Qci:MtM X "list.reverse" QeK:=by
 intro pins s Y H x vs v us Q I rx rv h;obtain⟨l,xs,rfl,rfl,hH,q⟩:=h;cases rx;have hus:=rv.zero;subst hus;obtain⟨z,its,n,r,hl,e⟩:=I.lstM hH
 refine U9 F.slot_list_reverse ⟨_,e,rfl⟩ F.entry_list_reverse (F.args_list_reverse_1 _) (AutoSeq1.list_reverse_list_0 l its.toArray n (by rw[Xv];omega)) ⟨e,?_⟩
 refine⟨.non,_,I.lset (its':=its.reverse) hH e (by simp) r.reverse ?_,rfl,q⟩
 rw[Wx];omega
def Qov:R2:=λx y H Q=>∃l b xs zs,x=.ref l/\y=.ref b/\H l=some (.lst xs)/\H b=some (.lst zs)/\xs.length+zs.length<=sizeLine/\∀p,H p=none->Q (.ref p) (upd H p (.lst (xs++zs)))
def Qj3:OpR X (binaryOp .Add) Qov:=by
 intro pins s Y H x y v u Q I rx ry h;obtain⟨l,b,xs,zs,rfl,rfl,hH,hB,hz,q⟩:=h;cases rx;cases ry;obtain⟨z,its,n,r,hl,e⟩:=I.lstM hH;obtain⟨z2,its2,n2,r2,hl2,e2⟩:=I.lstM hB
 refine PySem.P.add_list e e2 ?_ (by rw[Xv,Xv];omega)
 have ea:its.toArray++its2.toArray=(its++its2).toArray:=by simp
 rw[ea]
 exact⟨.ref _,_,I.lnew (t':=s.toks) (r.append r2) (by rw[X9];omega),rfl,q _ I.fresh⟩
def Qou:R2:=λx y H Q=>∃l k xs,x=.ref l/\y=.int k/\H l=some (.lst xs)/\-(2 ^ 63)<=k/\k<2 ^ 63/\xs.length*k.toNat<=sizeLine /\
 ∀p,H p=none->Q (.ref p) (upd H p (.lst (List.replicate k.toNat xs).flatten))
def QhG{α:Type}(xs:List α)(k:Nat):(List.replicate k xs).flatten.length=k*xs.length:=by
 induction k with
 |zero=>simp
 |succ k ih=>rw[Vo,Ub,X9,ih,Nat.succ_mul,Nat.add_comm]
def QjR:OpR X (binaryOp .Mult) Qou:=by
 intro pins s Y H x y v u Q I rx ry h;obtain⟨l,k,xs,rfl,rfl,hH,h1,h2,hz,q⟩:=h;cases rx;obtain⟨t,rfl⟩:=ry;obtain⟨z,its,n,r,hl,e⟩:=I.lstM hH
 have hlen:its.toArray.size*k.toNat<=sizeLine:=by rw[Xv,<-hl];exact hz
 have hcap:¬its.toArray.size*k.toNat>(2 ^ 63-1) / 8:=by
  have:(sizeLine:Nat)<=(2 ^ 63-1) / 8:=by decide
  omega
 have hfit:¬(!Builtin.List.listFitsIndex k)=true:=by
  rw[fitsIndex_both h1 h2];exact Xi
 have hlong:¬Builtin.List.listTooLong (its.toArray.size*k.toNat)=true:=by
  rw[Qe0 hlen];exact Xi
 have hnew:List.foldl (λx1 x2=>x1++x2) #[] (List.replicate (if its.toArray.isEmpty=true then 0 else k.toNat) its.toArray)=(List.replicate k.toNat its).flatten.toArray:=by
  have f0:∀m:Nat,List.foldl (λx1 x2=>x1++x2) #[] (List.replicate m its.toArray)=(List.replicate m its).flatten.toArray:=λm=>by
   have:=QaG its m [];rw[U4]at this;exact this
  rw[f0]
  cases its with
  |nil=>simp
  |cons a r'=>rw[if_neg (by simp)]
 refine wpAny_binaryOp_repeat_ref (T:="list") (U:="int") (by decide) ⟨_,e,rfl⟩ (λs'=>typeIs_int s' k t) noFill_list_mul F.fills_int_mul F.slot_int_rmul repeat_list F.slot_int_index.lookup
  (U9 F.slot_int_rmul (typeIs_int s k t) F.entry_int_rmul (F.args_int_rmul_2 _ _) (int___rmul___int_list k t l its.toArray n)
   ⟨e,rfl,⟨_,e,rfl⟩,U9 F.slot_list_mul ⟨_,e,rfl⟩ F.entry_list_mul (F.args_list_mul_2 _ _) (AutoListH.list___mul___list_int_3 l its.toArray n k t hfit hcap hlong) ⟨e,?_⟩⟩)
 rw[hnew]
 exact⟨.ref _,_,I.lnew (t':=s.toks) (r.rep k.toNat) (by rw[QhG,Nat.mul_comm];exact hz),rfl,q _ I.fresh⟩
end
section
set_option maxRecDepth 100000 in
end
section

end
end
section
variable {a:Addr}{A:Around}{X:Cx}{H:Hp}{pins:List (Addr×Obj)}{pos:Pos}{P:Program}{s:Shared}{Y:St}{u:Value}{w:World}
section
variable {κ:Type}[DecidableEq κ]
end
def QhJ{k:Key}(r:RelV (kV k) u):(ZC P w).is k u=true:=by
 cases k with
 |inl i=>obtain⟨t,e⟩:=(show ∃t,u=Value.int i t from r);subst e;exact Qbe P w i t
 |inr x=>obtain⟨t,e⟩:=(show ∃t,u=Value.str x t from r);subst e;exact Qbd P w x t
abbrev KT(H:Hp):List (List Key×V)->List (List Key×Addr×Value)->Prop:=Paired λp q=>p.1=q.1/\H q.2.1=some (.tup (p.1.map kV))/\RelV p.2 q.2.2
section
def Inv.big(I:Inv X pins Y H s):sysModules<s.heap.objs.size:=by
 have h:mainGlobals<s.heap.objs.size:=(I.mod.glob.keeps I.bk).lt
 exact Nat.lt_trans (by decide) h
end
def Qpy(i:Expr):Prop:=∀ov iv,subscripted i false ov iv=operate [ov,iv] (getItem ov iv)
def QgF{prog:Program}{E:Value->Shared->Prop}{env:Env}{value slice:Expr}{T id:String}{Q:Value->Shared->Prop}
  (hl:typeLookup (.type T) "__getitem__"=pure (some (.builtin id))) (hs:Qpy slice)
  (h:wpAny (model prog w) A (eval value env) (λo s₁=>wpAny (model prog w) A (eval slice env) (λi s₂=>s₂.TypeIs o T/\wpAny (model prog w) A (getItem o i) Q E s₂) E s₁) E s):
  wpAny (model prog w) A (eval (.Subscript value slice pos) env) Q E s:=by
 refine Subscript_ (Xj h (λo s₁ h₁=>Xj h₁ (λi s₂ h₂=>?_) λz z x=>x) λz z x=>x);obtain⟨hT,h₂⟩:=h₂;unfold subscriptTail;refine Xa ?_;rw[getitemInPython_of_ne hT.not_modules];refine Xa (wpAny_specialOf hT hl ?_)
 have fin:wpAny (model prog w) A (subscripted slice false o i) (λr s₃=>wpAny (model prog w) A (letTemporaryGo value o r >>= λz=>pure r) Q E s₃) E s₂:=by
  rw[hs o i];exact wpAny_operating (Xj h₂ (λr s₃ h₃=>Xa (wpAny_letTemporaryGo (Xl h₃))) λz z x=>x)
 first
  |exact Xl (Xa fin)
  |exact Xa (Xl (Xa fin))
  |exact Xa fin
def Qfo(h:Heap)(hb:sysModules<h.objs.size):ObjOk P w H (h.push {cls:=.type "dict",data:=.dict #[]}) h.objs.size (.dK []):=
 ⟨Vq _,Wq.mpr (Ww (X4 hb)),[],.nil,Heap.DictOf.new h⟩
def Qi2:TE:=λz H Q=>∀p,H p=none->Q (.ref p) (upd H p (.dK []))
section

def QeT:PE X (.Dict [] [] pos) Qi2:=λpins s Y H Q I h=>
 wpAny_Dict_empty ⟨.ref s.heap.objs.size,_,I.laid (a:=s.heap.objs.size) (o:=.dK []) (t':=s.toks) (λz z q=>Xd _ q) (Xm _) (Qfo s.heap I.big),rfl,h _ (I.hok.fresh (Xm _))⟩
end
abbrev VV:List (V×V)->List (Value×Value)->Prop:=Paired λp q=>RelV p.1 q.1/\RelV p.2 q.2
end
end L2
namespace Att
open PySem PySem.W PySem.Calls PyProof.Rows
def Y3{P:Params}{h:Heap}:∀(ns:List Int) (vs:List Value),WellAll P h vs (ns.map WData.int)->IntsAre vs ns:=by
 intro ns
 induction ns with
 |nil=>
  intro vs w;rw[Tu]at w;cases w;exact .nil
 |cons n ns ih=>
  intro vs w;rw[Ws]at w
  cases w with
  |cons a b=>
   cases a;exact .cons _ _ (ih _ b)
def QcZ{l:OpenLaw}{n:Nat}(hn:l.most=some n){P:Params}{h:Heap}{args:List WData}{vals:List Value}
  (hpre:l.row.toRowW.claim.pre args=true) (hwl:WellAll P h vals args):
  ∃a vs ns,vals=[Value.ref a]/\args=[WData.list (ns.map WData.int)]/\h.get? a=some {cls:=.type "list",data:=.seq vs.toArray}/\IntsAre vs ns/\ns.length<=n:=by
 have hsh:WShape.hasAll [] args [.list .int]=true:=(pre_splitW hpre).1;have hc:l.pre.holds [] {args:=args}=true:=(pre_splitW hpre).2;obtain⟨d,r,rfl,h1,h2⟩:=hasAllW_cons hsh;obtain rfl:=hasAllW_nil h2;obtain⟨xs,rfl,h3⟩:=hasW_list h1;obtain⟨ns,rfl⟩:=items_int h3
 have hlen:ns.length<=n:=by
  unfold OpenLaw.pre at hc
  have h4:(WTm.not (.lt (.lit (.int (n:Int))) (.len (.arg 0)))).holds [] {args:=[.list (ns.map .int)]}=true:=by
   have h4:=(holds_andW hc).1;rw[hn]at h4;exact h4
  have h5:=condW_of h4 (w_not (w_lt w_lit (w_len_list (w_arg rfl))));rw[Xy]at h5;refine Ti λq=>?_
  have q':(n:Int) < ((ns.length:Nat):Int):=by omega
  first
   | (rw[X3 q']at h5;exact absurd h5 (by decide))
   | (simp at h5;omega)
 cases hwl with
 |cons w1 w2=>
  cases w2
  cases w1 with
  |list ho hall=>exact⟨_,_,ns,rfl,rfl,ho,Y3 ns _ hall,hlen⟩
def Qdf(l:OpenLaw)(args:List WData):l.row.toRowW.claim.post args (.bool true) args=true :=
 postW_of (r:=l.row.toRowW) (X:=(true==true))
  (show WShape.has [] (.bool true) .bool=true by first|rfl|decide|simp[WShape.has,WShape.arms,WShape.armsAll])
  (show(WTm.eq .res (.lit (.bool true))).value [] {args:=args,res:=some (.bool true),after:=args}=some (.bool (true==true))from w_eq_bool (w_res rfl) w_lit) rfl
def attach_call{l:OpenLaw}{n:Nat}{q:Program}{loose:List Str}{XP:(Str->Option Value)->Heap->Prop}{YP:World->Heap->Prop}{d:DefRec}
  (hn:l.most=some n) (hdf:d.params.defaults=[])
  (call:∀(w:World) (s₀ s₁:Shared) (mg mb:Str->Option Value) (fa:Addr) (o:Obj) (pm cd doc:Value) (a:Addr) (vs:List Value) (ns:List Int),
   Ground q loose [] XP w s₀ mg mb s₁.heap->YP w s₁.heap ->
   s₁.heap.get? fa=some o->o.data=.func (docDef d.name d.params d.body d.scope pm cd doc)->s₁.heap.CodeRec cd d.name->mg d.name=some (.ref fa) ->
   s₁.heap.get? a=some {cls:=.type "list",data:=.seq vs.toArray}->IntsAre vs ns->ns.length<=n->s₁.gens=#[] ->
   codeAny (model l.prog w) callerA (.call (.ref fa) ⟨[.ref a],[]⟩) (λr s'=>r=.ok (.ret (.bool true))/\OldK s₁.heap s'.heap/\s'.os=s₁.os/\AllBare s'.gens) s₁):
  WalkO q loose XP YP l.row.toRowW d [] (λf vs=>PySem.call f vs):=by
 intro w s₀ s₁ mg mb G Yyy fa o pm cd doc dV kV ho hd hcd hD hmg hg args vals as hpre hlay hrd hwl hlo;obtain rfl:dV=.none:=Dflts.none hD hdf;obtain rfl:kV=.none:=Dflts.noKw hD;obtain⟨a,vs,ns,rfl,rfl,hobj,hints,hlen⟩:=QcZ hn hpre hwl;refine enter_call (V4 (call w s₀ s₁ mg mb fa o pm cd doc a vs ns G Yyy ho (fd_plain hd) hcd hmg hobj hints hlen hg) λr s' hq=>?_);obtain⟨rfl,h2,h3,h4⟩:=hq;exact⟨.inl ⟨.bool true,.bool true,[],rfl,λz=>rfl,.bool true,Qdf l _,λz=>⟨List.Pairwise.nil,λz hm=>(nomatch hm)⟩⟩,h2,h3,h4⟩
end Att
namespace L2
open PySem PySem.Spec PyProof.Rows
section
theorem Qae:∀{vs:List Value} {ns:List Int},IntsAre vs ns->Vals (ns.map V.int) vs
 |_,_,.nil=>.nil
 |_,_,.cons n t h=>.cons ⟨t,rfl⟩ (Qae h)
def Qlz(H:Hp):Prop:=∀b,H b=none\/∃o xs,H b=some (.frz o (.lst xs))
def Qe5{P:Program}{w:World}{K:W.Frag}{mg mb:Str->Option Value}{CX:CXT}{k:Nat}{fa a:Addr}{fd:FuncData}{x:Str}{sp:Sp}{s₁:Shared}{vs:List Value}{ns:List Int}
  (KX:K.In s₁.heap) (hns:s₁.heap.Ns mainGlobals mg) (hb:s₁.heap.Ns builtinsNs mb) (hbb:∀x:Str,x≠"__name__"->mb x=bootBuiltins x) (hlim:s₁.heap.NoLimit) (hg:s₁.gens=#[])
  (ha:s₁.heap.get? a=some {cls:=.type "list",data:=.seq vs.toArray}) (hi:IntsAre vs ns) (hl:ns.length<=sizeLine) (hr:Room k callerA)
  (F:∀base:Heap,K.In base->base.Ns mainGlobals mg->FnOk P w K mg base CX k fa fd [x] sp) (hbind:∀(s:Shared) (u:Value),BindsTo s fd ⟨[u],[]⟩ [(x,u)])
  (hsp:∀H:Hp,Qlz H->SqL K H a (ns.map V.int)->sp [.ref a] H (λv y=>v=.bl true) λy y y=>False)
  (hCX:∀H e s',CX [] H s₁ (λy y y=>False) e s'->False):
  codeAny (model P w) callerA (.call (.ref fa) ⟨[.ref a],[]⟩) (λr s'=>r=.ok (.ret (.bool true))/\OldK s₁.heap s'.heap/\s'.os=s₁.os/\AllBare s'.gens) s₁:=by
 have rv:=Qae hi;have lenV:=hi.length
 have core:∀H:Hp,Qlz H->SqL K H a (ns.map V.int)->HOk P w H s₁.heap->(∀b,H b≠none->b=a)->(H a≠none->K.lookup a=none) ->
   codeAny (model P w) callerA (.call (.ref fa) ⟨[.ref a],[]⟩) (λr s'=>r=.ok (.ret (.bool true))/\OldK s₁.heap s'.heap/\s'.os=s₁.os/\AllBare s'.gens) s₁:=by
  intro H hO hS hok hA hK;have base_of:∀{b:Addr} {o:Obj},s₁.heap.get? b=some o->H b=none->(Qfe s₁.heap H).get? b=some o:=λe n=>Qfd e n
  have noA:∀{b:Addr} {o:Obj} {es:Array DictEntry} {ep:Nat},s₁.heap.get? b=some o->o.data=.dict es ep->H b=none:=λ{b o es ep} e d=>by
   cases q:H b with
   |none=>rfl
   |some u=>
    have e':b=a:=hA b (by rw[q];simp)
    subst e';rw[ha]at e;cases e;have d':Data.seq vs.toArray _=Data.dict es ep:=d;cases d'
  have nsK:∀{b:Addr} {m:Str->Option Value},s₁.heap.Ns b m->(Qfe s₁.heap H).Ns b m:=λ{b m} ⟨o,es,ep,e,d,r⟩=>⟨o,es,ep,base_of e (noA e d),d,r⟩
  have hKb:K.In (Qfe s₁.heap H):=λb o e=>base_of (KX b o e) (by
   cases q:H b with
   |none=>rfl
   |some u=>
    have e':b=a:=hA b (by rw[q];simp)
    subst e'
    rw[hK (by rw[q];simp)]at e;cases e)
  have hM:Mod K mg (Qfe s₁.heap H):=⟨hKb,nsK hns,⟨mb,nsK hb,hbb⟩,let ⟨mc,h1,h2⟩:=hlim;⟨mc,nsK h1,h2⟩⟩
  have e0:Env0 P w K mg (Qfe s₁.heap H) callerA [] s₁ H:=⟨rfl,hM,λb o e=>Qhs e,Nat.le_of_eq (QdD _ _),trivial,λb hb=>absurd (show b∈([]:List Addr)from hb) (by simp),hok,.of_eq hg⟩
  refine V4 ((F _ hKb (nsK hns)).run callerA [] s₁ H ⟨[.ref a],[]⟩ [.ref a] [.ref a] _ _ hr e0 (hbind s₁ (.ref a)) (.cons rfl .nil) (hsp H hO hS)) λr s' h=>?_
  cases r with
  |error e=>exact(hCX H e s' h).elim
  |ok fl=>
   cases fl with
   |next=>exact False.elim h
   |brk=>exact False.elim h
   |cont=>exact False.elim h
   |ret u=>
    obtain⟨v,H',os,bare,un,hok',r',q⟩:=h;have q':v=.bl true:=q;subst q';obtain rfl:u=Value.bool true:=r';refine⟨rfl,OldK.of_keep λb o e=>?_,os,bare⟩
    cases q:H b with
    |none=>exact un.keep b o e q (by intro z;exact absurd (show b∈([]:List Addr)from z) (by simp)) (by simp)
    |some u=>
     rcases hO b with z|⟨ob,xs,z⟩
     ·rw[q]at z;cases z
     ·have z2:=un.frzs b ob _ z;obtain⟨e1,_⟩:=hok b _ z;obtain⟨e2,_⟩:=hok' b _ z2;rw[e]at e1;cases e1;exact e2
 cases hk:K.lookup a with
 |some o=>
  have e:=KX a o hk;rw[ha]at e;cases e
  refine core (λy=>none) (λy=>.inl rfl) (.inr ⟨_,vs.toArray,_,hk,rfl,rfl,rfl,by rw[Xv,lenV];exact hl,by simpa using rv⟩) (λb u z=>by have z':(none:Option HO)=some u:=z;cases z') (λb z=>absurd rfl z) λz=>absurd rfl z
 |none=>
  refine core (λb=>if b=a then some (.frz {cls:=.type "list",data:=.seq vs.toArray} (.lst (ns.map V.int)))else none) (λb=>?_) (.inl (.inr ⟨{cls:=.type "list",data:=.seq vs.toArray},if_pos rfl⟩)) (λb u z=>?_) (λb z=>?_) λy=>hk
  ·by_cases hb:b=a
   ·exact .inr ⟨_,_,if_pos hb⟩
   ·exact .inl (if_neg hb)
  ·by_cases hb:b=a
   ·have z':=(if_pos hb).symm.trans z;cases z';subst hb
    exact⟨ha,by rw[Xy];exact hl,vs,_,rv,ha⟩
   ·have z':=(if_neg hb).symm.trans z;cases z'
  ·by_cases hb:b=a
   ·exact hb
   ·exact absurd (if_neg hb) z
end
section
noncomputable abbrev KOf{K:W.Frag}{h:Heap}(_:K.In h):W.Frag:=K
def walk_of{l:W.OpenLaw}{n k:Nat}{q:Program}{loose:List Str}{XP:(Str->Option Value)->Heap->Prop}{YP:World->Heap->Prop}{d:DefRec}{K:Params->W.Frag}{CX:World->CXT}{sp:World->Sp}{x:Str}
  (hn:l.most=some n) (hn2:n<=sizeLine) (hdf:d.params.defaults=[]) (hr:Room k callerA)
  (hY:∀(w:World) (h:Heap),YP w h->(K w.params).In h)
  (F:∀(w:World) (mg:Str->Option Value) (fa:Addr) (h:Heap),(K w.params).In h->h.Ns mainGlobals mg->mg d.name=some (.ref fa) ->
   ∃fd:FuncData,(∀(s:Shared) (u:Value),BindsTo s fd ⟨[u],[]⟩ [(x,u)]) /\
    ∀base:Heap,(K w.params).In base->base.Ns mainGlobals mg->FnOk l.prog w (K w.params) mg base (CX w) k fa fd [x] (sp w))
  (hsp:∀(w:World) (H:Hp) (a:Addr) (ns:List Int),ns.length<=n->Qlz H->SqL (K w.params) H a (ns.map V.int)->sp w [.ref a] H (λv z=>v=.bl true) λz z z=>False)
  (hCX:∀(w:World) (H:Hp) (s:Shared) (e:Value) (s':Shared),CX w [] H s (λz z z=>False) e s'->False):
  W.WalkO q loose XP YP l.row.toRowW d [] (λf vs=>PySem.call f vs):=by
 refine Att.attach_call hn hdf λw s₀ s₁ mg mb fa o pm cd doc a vs ns G Yyy ho hd hcd hmg hobj hints hlen hg=>?_;have KX:=hY w _ Yyy;obtain⟨fd,hb,hF⟩:=F w mg fa _ KX G.T.g hmg;exact Qe5 KX G.T.g G.T.b G.T.builtins G.T.nolimit hg hobj hints (X1 hlen hn2) hr hF hb (λH hO hS=>hsp w H a ns hlen hO hS) λH e s'=>hCX w H s₁ e s'
end
section
abbrev CX0:CXT:=λz z z z z z=>False
abbrev E0:XK:=λz z z=>False
def Qdm{X:Cx}:Jf CX0 X E0:=λz z z z z z z h=>h.elim
def QmM{A:Around}{k:Nat}(hr:Room k A):A.units+1<cLine:=Nat.lt_of_le_of_lt (Nat.add_le_add_left (by decide:1<=64) _) hr.units
section
variable {κ:Type}[DecidableEq κ]
end
end
end L2
namespace Iv
open PySem
noncomputable def ZI(sep:List Nat):List (List Nat)->List Nat
 |[]=>[]
 |[x]=>x
 |x::y::r=>x++sep++ZI sep (y::r)
noncomputable def Qx(c:Nat):List Nat->List (List Nat)
 |[]=>[[]]
 |a::r=>if a=c then []::Qx c r else match Qx c r with
  |[]=>[[a]]
  |p::ps=>(a::p)::ps
theorem YT{c:Nat}:∀{p:List Nat},c∉p->∀r:List Nat,Qx c (p++c::r)=p::Qx c r
 |[],_,r=>by
  show(if c=c then []::Qx c r else _)=_;rw[if_pos rfl]
 |a::p,h,r=>by
  have h1:a≠c:=λz=>h (z▸Xh);have h2:c∉p:=λz=>h (Xg _ z);have ih:=YT h2 r;simp only[Ue,Qx,if_neg h1,ih]
theorem YS{c:Nat}:∀{p:List Nat},c∉p->Qx c p=[p]
 |[],_=>rfl
 |a::p,h=>by
  have h1:a≠c:=λz=>h (z▸Xh);have h2:c∉p:=λz=>h (Xg _ z);show(if a=c then []::Qx c p else _)=_;rw[if_neg h1,YS h2]
theorem Yn{c:Nat}:∀{ps:List (List Nat)},ps≠[]->(∀p∈ps,c∉p)->Qx c (ZI [c] ps)=ps
 |[],h,_=>absurd rfl h
 |[p],_,h=>YS (h p (by simp))
 |p::q::r,_,h=>by
  have ih:=Yn (ps:=q::r) (by simp) λx hx=>h x (Xg _ hx)
  show Qx c (p++[c]++ZI [c] (q::r))=_;rw[List.append_assoc];show Qx c (p++c::ZI [c] (q::r))=_;rw[YT (h p Xh),ih]
theorem JU(sep:Str):∀ps:List Str,(Str.join sep ps).cps.toList=ZI sep.cps.toList (ps.map (·.cps.toList))
 |[]=>rfl
 |[x]=>rfl
 |x::y::r=>by
  have ih:=JU sep (y::r);show(x++sep++Str.join sep (y::r)).cps.toList=_
  have ap:∀a b:Str,(a++b).cps.toList=a.cps.toList++b.cps.toList:=λa b=>by
   show(a.cps++b.cps).toList=_;simp
  rw[ap,ap,ih];rfl
def split_is(x:Str)(c:Nat):(Txt.split x ⟨#[c]⟩).map (·.cps.toList)=Qx c x.cps.toList:=by
 have h1:=StrLaws.join_split x ⟨#[c]⟩;have h2:=StrLaws.split_free x c
 have hne:Txt.split x ⟨#[c]⟩≠[]:=by
  unfold Txt.split;split
  ·simp
  ·split
   ·simp
   ·simp[Builtin.Str.partsBetween]
 have e:ZI [c] ((Txt.split x ⟨#[c]⟩).map (·.cps.toList))=x.cps.toList:=by
  have:=JU ⟨#[c]⟩ (Txt.split x ⟨#[c]⟩);rw[h1]at this;exact this.symm
 rw[<-e]
 refine(Yn (by simpa using hne) ?_).symm
 intro p hp;obtain⟨q,hq,rfl⟩:=Wp.mp hp;exact h2 q hq
theorem splitU_len(c:Nat):∀x:List Nat,(Qx c x).length<=x.length+1
 |[]=>by simp[Qx]
 |a::r=>by
  have ih:=splitU_len c r;unfold Qx;split
  ·simp only[X8];omega
  ·split
   ·simp
   ·rename_i p ps e;rw[e]at ih;simp only[X8]at ih ⊢;omega
theorem pickL{β:Type}(l:List β)(a:Nat):∀k:Nat,(List.range k).filterMap (λm=>l[a+m]?)=(l.drop a).take k
 |0=>rfl
 |k+1=>by
  rw[List.range_succ,List.filterMap_append,pickL l a k,Um,List.getElem?_drop];cases e:l[a+k]?<;>simp[e]
end Iv
namespace L2
open PySem PySem.Spec PyProof.Rows Builtin Builtin.Str
section
variable {X:Cx}
theorem Qc7:∀{ts:List Str} {us:List Value},Vals (ts.map V.str) us->∃l:List (Str×Tok),l.map (·.1)=ts/\us=strValues l
 |[],us,r=>by rw[Tu]at r;cases r;exact⟨[],rfl,rfl⟩
 |t::ts,us,r=>by
  rw[Ws]at r
  cases r with
  |cons h t'=>
   obtain⟨k,rfl⟩:=h;obtain⟨l,e1,e2⟩:=Qc7 t'
   exact⟨(t,k)::l,by simp[e1],by rw[e2];rfl⟩
theorem QcS:∀(l:List (Str×Tok)),Vals ((l.map (·.1)).map V.str) (strValues l)
 |[]=>.nil
 |p::r=>.cons ⟨p.2,rfl⟩ (QcS r)
def Qma(K:W.Frag):V->List V->Hp->VK->Prop:=λx vs H Q=>∃sep a ts,x=.str sep/\vs=[.ref a]/\SqL K H a (ts.map V.str)/\JoinOk sep ts=true/\Q (.str (Txt.join sep ts)) H
def QhB:MtR X "str.join" (Qma X.K):=by
 intro pins s Y H x vs v us Q I rx rv h;obtain⟨sep,a,ts,rfl,rfl,hq,ok,q⟩:=h;obtain⟨t,rfl⟩:=rx;obtain⟨u,rfl,ru⟩:=rv.one;cases ru;obtain⟨its,r,pl,hz⟩:=I.list hq;obtain⟨l,e1,rfl⟩:=Qc7 r;exact SC.join pl.isList e1 ok λt' k=>⟨.str _,H,I.kept (t':=k) λz z e=>e,⟨_,rfl⟩,q⟩
def QgW:V->List V->Hp->VK->Prop:=λx vs H Q=>∃y c,x=.str y/\vs=[.str ⟨#[c]⟩]/\y.length+2<=sizeLine/\∀p,H p=none->Q (.ref p) (upd H p (.lst ((Txt.split y ⟨#[c]⟩).map V.str)))
def Qdu:MtR X "str.split" QgW:=by
 intro pins s Y H x vs v us Q I rx rv h;obtain⟨y,c,rfl,rfl,hz,q⟩:=h;obtain⟨t,rfl⟩:=rx;obtain⟨u,rfl,ru⟩:=rv.one;obtain⟨u',rfl⟩:=ru
 have hlen:(Txt.split y ⟨#[c]⟩).length<=sizeLine:=by
  have:=congrArg List.length (Iv.split_is y c);rw[Xy]at this;rw[this];have:=Iv.splitU_len c y.cps.toList
  have e:y.cps.toList.length=y.length:=by simp[Str.length]
  omega
 have new:∀(l:List (Str×Tok)) (k:Nat),l.map (·.1)=Txt.split y ⟨#[c]⟩->EP X pins Y Q (.ref s.heap.objs.size) {s with heap:=s.heap.push {cls:=.type "list",data:=.seq (strValues l).toArray},toks:=k}:=λl k e=>by
  have rr:=QcS l;rw[e]at rr
  exact⟨.ref s.heap.objs.size,_,I.lnew (t':=k) rr (by rw[Xy];exact hlen),rfl,q _ I.fresh⟩
 have hn:(partsBetween y (occurrences y ⟨#[c]⟩ 0 y.length (y.length+1)) (⟨#[c]⟩:Str).length).length<=sizeLine:=by
  have e1:=StrLaws.occ_length_le y ⟨#[c]⟩ 0 y.length (y.length+1);rw[length_partsBetween];omega
 cases h1:(decide (y.length<(⟨#[c]⟩:Str).length)||decide (strKind y<strKind ⟨#[c]⟩))
 ·cases hf:(occurrences y ⟨#[c]⟩ 0 y.length (y.length+1)).isEmpty
  ·refine U9 F.slot_str_split (U8 _ _ _) F.entry_str_split (F.args_str_split_2 _ _) (meets_str_split_sep y ⟨#[c]⟩ t u' h1 rfl hf (by omega) hn) ?_
   show wants _ _ _ {s with toks:=_,heap:=s.heap.push {cls:=.type "list",data:=.seq (strsFrom s.toks (partsBetween y (occurrences y ⟨#[c]⟩ 0 y.length (y.length+1)) (⟨#[c]⟩:Str).length)).toArray} };rw[strsFrom_eq];exact new (numbered s.toks _) _ ((numbered_texts _ _).trans ((if_neg (T0 h1)).trans (if_neg (T0 hf))).symm)
  ·exact U9 F.slot_str_split (U8 _ _ _) F.entry_str_split (F.args_str_split_2 _ _) (meets_str_split_not_found y ⟨#[c]⟩ t u' h1 rfl hf)
    (new [(y,t)] s.toks ((if_neg (T0 h1)).trans (if_pos hf)).symm)
 ·exact U9 F.slot_str_split (U8 _ _ _) F.entry_str_split (F.args_str_split_2 _ _) (meets_str_split_cannot_occur y ⟨#[c]⟩ t u' h1)
   (new [(y,t)] s.toks (if_pos h1).symm)
def J0:CallR X (.type "int") (λxs H Q=>∃x,xs=[.str x]/\NumText.AllDigits x.cps.toList/\x.cps.toList≠[]/\x.length<=640/\Q (.int ((NumText.digitsVal x.cps.toList:Nat): Int)) H):= by
 intro pins s Y H xs us Q I r h;obtain⟨x,rfl,h1,h2,h3,q⟩:=h;obtain⟨u,rfl,t,rfl⟩:=JD r
 exact W.KIN.call_text (intText_digits h1 h2 (by omega)) h3 ⟨.int _,H,I.tok _,⟨_,rfl⟩,q⟩
def Qak(lo hi:Option Int)(n:Nat):strSliceIndices lo hi 1 n=(List.range (HT.sIx n n hi-HT.sIx n 0 lo)).map (HT.sIx n 0 lo + ·):=by
 have cl:∀(v:Option Int) (d:Nat),(match v with|none=>((d:Nat):Int)|some i=>max 0 (min (if i<0 then i+(n:Int)else i) (n:Int)))=((HT.sIx n d v:Nat):Int):=λv d=>by
  cases v with
  |none=>rfl
  |some i=>
   rw[<-HT.clip_eq i n d];simp only;split<;>omega
 have e1:(match lo with|none=>(0:Int)|some i=>max 0 (min (if i<0 then i+(n:Int)else i) (n:Int)))=((HT.sIx n 0 lo:Nat):Int):=by
  rw[<-cl lo 0];cases lo<;>rfl
 have c2:=cl hi n
 have key:∀L U:Int,L=((HT.sIx n 0 lo:Nat):Int)->U=((HT.sIx n n hi:Nat):Int)->sliceRange L U 1=(List.range (HT.sIx n n hi-HT.sIx n 0 lo)).map (HT.sIx n 0 lo + ·):=by
  rintro L U rfl rfl;unfold sliceRange
  have e2:(if(1:Int) > 0 then(if((HT.sIx n 0 lo:Nat):Int) < ((HT.sIx n n hi:Nat):Int)then(((HT.sIx n n hi:Nat):Int) - ((HT.sIx n 0 lo:Nat):Int)+1-1) / 1 else 0)else(if((HT.sIx n 0 lo:Nat):Int) > ((HT.sIx n n hi:Nat):Int)then(((HT.sIx n 0 lo:Nat):Int) - ((HT.sIx n n hi:Nat):Int) - 1-1) / (-1)else 0)).toNat=HT.sIx n n hi-HT.sIx n 0 lo:=by
   rw[if_pos (by decide)]
   split<;>omega
  simp only[e2];refine List.map_congr_left λk z=>?_;omega
 exact key _ _ e1 c2
def QcX(x:Str)(lo hi:Option Int):(Txt.slice x lo hi).cps.toList=(x.cps.toList.drop (HT.sIx x.length 0 lo)).take (HT.sIx x.length x.length hi-HT.sIx x.length 0 lo):=by
 have hl:x.cps.toList.length=x.length:=by simp[Str.length]
 unfold Txt.slice;split
 ·rename_i h;rw[Xe]at h;have h:=eq_of_beq h.2;rw[Qak,Xy,List.length_range]at h;have a:=HT.sIx_le (n:=x.length) (d:=x.length) (Xm _) hi
  have e1:HT.sIx x.length 0 lo=0:=by
   by_cases hx:x.length=0
   ·have:=HT.sIx_le (n:=x.length) (d:=0) (Vq _) lo;omega
   ·omega
  rw[e1,List.drop_zero,V2 (by omega)]
 ·rw[Qak,List.filterMap_map];show(List.filterMap (λm=>x.cps[HT.sIx x.length 0 lo+m]?) _)=_
  have e:(λm=>x.cps[HT.sIx x.length 0 lo+m]?)=λm=>x.cps.toList[HT.sIx x.length 0 lo+m]?:=by
   funext m
   exact Array.getElem?_toList.symm
  rw[e];exact Iv.pickL _ _ _
def Qnu:V->Option Int->Option Int->Hp->VK->Prop:=λx lo hi H Q=>∃y,x=.str y/\y.length<=sizeLine/\Q (.str (Txt.slice y lo hi)) H
def Qi8:SlR X Qnu:=by
 intro pins s Y H x v vl vu lo hi sl Q I rx hs pl pu h;obtain⟨y,rfl,hz,q⟩:=h;obtain⟨t,rfl⟩:=rx;refine⟨"str",_,F.slot_str_getitem.lookup,U8 _ _ _,?_⟩
 have fin:∀(l u:Option (Int×Tok)),l.map (·.1)=lo->u.map (·.1)=hi->s.heap.IsSlice sl l u none->wpAny (model X.prog X.w) X.A (getItem (.str y t) (.ref sl)) (EP X pins Y Q) X.xe s:=by
  rintro l u rfl rfl his;refine wpAny_getItem_str_slice (l:=l) (u:=u) (st:=none) his rfl ?_;exact post_val_or_str ⟨X1 (Txt.slice_le y _ _) hz,λt' k=>⟨.str _,H,I.kept (t':=k) λz z e=>e,⟨_,rfl⟩,q⟩⟩
 cases pl with
 |none=>cases pu with
  |none=>exact fin none none rfl rfl hs
  |int j tj=>exact fin none (some (j,tj)) rfl rfl hs
 |int i ti=>cases pu with
  |none=>exact fin (some (i,ti)) none rfl rfl hs
  |int j tj=>exact fin (some (i,ti)) (some (j,tj)) rfl rfl hs
end
end L2
namespace L2
open PySem PySem.Spec PyProof.Rows
section
section
variable {X:Cx}
theorem QaQ:∀{bs:List Bool} {us:List Value},Vals (bs.map V.bl) us->∀(i:Nat) v,us[i]?=some v->∃b,bs[i]?=some b/\v=.bool b
 |[],us,r,i,v,e=>by rw[Tu]at r;cases r;simp at e
 |b::bs,us,r,i,v,e=>by
  rw[Ws]at r
  cases r with
  |cons h t=>
   cases(show _=Value.bool b from h)
   cases i with
   |zero=>simp at e;exact⟨b,rfl,e.symm⟩
   |succ i=>simpa using QaQ t i v (by simpa using e)
def Qpu(bs:List Bool):((List.range bs.length).all λi=>(bs[i]?).getD true)=bs.all id:=LSm.range_all bs
def Qd8(hc:X.calm=true): CallR X (.builtin "all") (λxs H Q=>∃(a:Addr) (bs:List Bool),xs=[.ref a]/\SqL X.K H a (bs.map V.bl)/\Q (.bl (bs.all id)) H):= by
 intro pins s Y H xs us Q I r h;obtain⟨a,bs,rfl,hq,q⟩:=h;obtain⟨u,rfl,rx⟩:=JD r;cases rx;obtain⟨its,rr,pl,hz⟩:=I.list hq;have hl:=pl.isList
 have hlt:a<s.heap.objs.size:=by obtain⟨_,e,_⟩:=hl;exact Xk e
 have hlen:=rr.length;rw[Xy]at hlen;refine call_all_walk (Ua hl ?_)
 refine⟨s.heap.objs.size,[s.heap.objs.size,a],[s.heap.objs.size],its.toArray.size,_,_,λi=>(bs[i]?).getD true,rfl,Walks.list (A:=X.A.in1) (I.ok.hd hc) _ a (X4 hlt) its.toArray,
  ⟨⟨_,X0 _ rfl,rfl,rfl⟩,hl.push _⟩,λi v s' Q' E' hP hQ=>?_,λh' tk hk=>?_⟩
 ·obtain⟨b,e,rfl⟩:=QaQ rr i v (by simpa using hP)
  simp only[e,Vz]at hQ;exact Vl hQ
 ·have e:((List.range its.toArray.size).all λi=>(bs[i]?).getD true)=bs.all id:=by
   rw[Xv,<-hlen];exact Qpu bs
  rw[e];exact⟨.bl _,H,I.kept (t':=tk) (LSm.kept_iter hk),rfl,q⟩
end
end
end L2
namespace L2
open PySem PySem.Spec PySem.W PyProof.Rows
section
noncomputable def Qns{α:Type}(lt:Nat->Nat->Bool):KasT α->α
 |.ret a=>a
 |.ask i j k=>Qns lt (k (lt i j))
noncomputable def QnE:List Int->List Int->Bool
 |[],[]=>false
 |[],_::_=>true
 |_::_,[]=>false
 |x::xs,y::ys=>if x=y then QnE xs ys else decide (x<y)
noncomputable def ltK(ks:List (List Int))(i j:Nat):Bool:=QnE (ks.getD i []) (ks.getD j [])
noncomputable def permK(ks:List (List Int))(n:Nat):List Nat:=if n<2 then List.range n else(Qns (ltK ks) (kas_sort n)).toList
end
end L2
namespace L2
open PySem
variable {env:Env}{scope:Scope}
noncomputable def Qbt(cells:List (Str×Addr)):List (Str×NameKind)->List (Str×Addr)->List (Str×Addr)
 |[],cs=>cs
 | (n,k)::r,cs=>Qbt cells r (if(k==.free)=true then(match cells.lookup n with|some c=>(n,c)::cs|none=>cs)else cs)
def ZQ(h:∀y∈scope.names,y.2=.free->∃c,env.cells.lookup y.1=some c):closureFor scope env=pure (Qbt env.cells scope.names []):=by
 have all:∀(l:List (Str×NameKind)) (cs:List (Str×Addr)),(∀y∈l,y.2=.free->∃c,env.cells.lookup y.1=some c) ->
   (forIn l cs λ(x:Str×NameKind) (r:List (Str×Addr))=>match x with|(name,kind)=>if(kind==NameKind.free)=true then(do let y <-cellOf env name;pure (ForInStep.yield ((name,y)::r)))else(pure (ForInStep.yield r):Sem _))=(pure (Qbt env.cells l cs):Sem _):=by
  intro l
  induction l with
  |nil=>intro cs _;simp only[List.forIn_nil];rfl
  |cons p r ih=>
   obtain⟨n,k⟩:=p;intro cs hy;rw[List.forIn_cons];by_cases hk:(k==NameKind.free)=true
   ·obtain⟨c,hc⟩:=hy (n,k) Xh (by simpa using hk)
    have hc:env.cells.lookup n=some c:=hc
    have e:cellOf env n=pure c:=by unfold cellOf;rw[hc]
    simp only[hk,Wt,e,pure_bind];rw[ih _ λy m=>hy y (Xg _ m)];simp only[Qbt,hk,Wt,hc]
   ·simp only[hk,W9,Uv,pure_bind];rw[ih _ λy m=>hy y (Xg _ m)];simp only[Qbt,hk,W9,Uv]
 have:=all scope.names [] h;unfold closureFor;simp only[bind_pure_comp]at this ⊢;rw[this];rfl
theorem QaK{cells:List (Str×Addr)}{x:Str}{c:Addr}:∀{l:List (Str×NameKind)} {cs:List (Str×Addr)},(Qbt cells l cs).lookup x=some c->cs.lookup x=some c\/cells.lookup x=some c
 |[],_,h=>.inl h
 | (n,k)::r,cs,h=>by
  have h:(Qbt cells r (if(k==NameKind.free)=true then(match cells.lookup n with|some c=>(n,c)::cs|none=>cs)else cs)).lookup x=some c:=h
  rcases QaK h with h1|h1
  ·clear h;by_cases hk:(k==NameKind.free)=true
   ·rw[if_pos hk]at h1
    cases hc:cells.lookup n with
    |none=>rw[hc]at h1;exact .inl h1
    |some c'=>
     rw[hc]at h1;have h2:List.lookup x ((n,c')::cs)=some c:=h1;clear h1;rw[Vi]at h2
     cases hx:x==n with
     |true=>
      rw[hx]at h2;have e:=eq_of_beq hx;subst e;exact .inr (hc.trans h2)
     |false=>rw[hx]at h2;exact .inl h2
   ·rw[if_neg hk]at h1;exact .inl h1
  ·exact .inr h1
theorem JY{cells:List (Str×Addr)}{x:Str}{c:Addr}(hc:cells.lookup x=some c):∀{l:List (Str×NameKind)} {cs:List (Str×Addr)},((x,NameKind.free)∈l\/cs.lookup x=some c)->(Qbt cells l cs).lookup x=some c
 |[],_,h=>by
  rcases h with h|h
  ·cases h
  ·exact h
 | (n,k)::r,cs,h=>by
  show(Qbt cells r (if(k==NameKind.free)=true then(match cells.lookup n with|some c=>(n,c)::cs|none=>cs)else cs)).lookup x=some c
  refine JY (l:=r) hc ?_
  rcases h with h|h
  ·rcases Xo.mp h with e|h
   ·cases e;refine .inr ?_
    rw[if_pos (by decide),hc]
    simp[Vi]
   ·exact .inl h
  ·refine .inr ?_;split
   ·split
    ·rename_i c' h';rw[Vi];split
     ·rename_i e;have e:=eq_of_beq e;subst e;exact h'.symm.trans hc
     ·exact h
    ·exact h
   ·exact h
noncomputable def mang(x:Str):Str:=⟨x.cps.push 33⟩
noncomputable def hideN(xs N:List Str):List Str:=N.map λy=>if xs.contains y then mang y else y
def Yh{xs N:List Str}:(hideN xs N).length=N.length:=by unfold hideN;rw[Xy]
def Qfc{xs N:List Str}{i:Nat}{y:Str}(h:(hideN xs N)[i]?=some y):∃z,N[i]?=some z/\((z∈xs/\y=mang z)\/(z∉xs/\y=z)):=by
 unfold hideN at h;rw[Vm,Xc]at h;obtain⟨z,h1,h2⟩:=h;refine⟨z,h1,?_⟩;by_cases c:xs.contains z=true
 ·rw[if_pos c]at h2;exact .inl ⟨W8.mp c,h2.symm⟩
 ·rw[if_neg c]at h2;exact .inr ⟨λm=>c (W8.mpr m),h2.symm⟩
noncomputable def relN(outer:List (Str×NameKind))(names:List (Str×NameKind)):List (Str×NameKind):=names.map λ(n,k)=>if(k==.free&&outer.lookup n==some .cell)=true then(n,.cell)else(n,k)
def QZ(h:env.scope.kind=.function):(relabel scope env).names=relN env.scope.names scope.names:=by
 unfold relabel relN;refine List.map_congr_left λp z=>?_;obtain⟨n,k⟩:=p;simp only[h,Tj,Bool.and_true];rfl
theorem ZG{outer:List (Str×NameKind)}{x:Str}:∀{l:List (Str×NameKind)},(relN outer l).lookup x=(l.lookup x).map λk=>if(k==.free&&outer.lookup x==some .cell)=true then .cell else k
 |[]=>rfl
 | (n,k)::r=>by
  have ih:=@ZG outer x r;show List.lookup x ((if(k==NameKind.free&&outer.lookup n==some .cell)=true then(n,NameKind.cell)else(n,k))::relN outer r)=_;rw[Vi (as:=r)]
  cases hx:x==n with
  |true=>
   have e:=eq_of_beq hx;subst e;simp only[Tp,Uj];by_cases z:(k==NameKind.free&&outer.lookup x==some .cell)=true
   ·rw[if_pos z,if_pos z,Tp]
   ·rw[if_neg z,if_neg z,Tp]
  |false=>
   split
   ·simp[Vi,hx,ih]
   ·simp[Vi,hx,ih]
def ZP{κ β:Type}[BEq κ][LawfulBEq κ]{l:List (κ×β)}{k:κ}{b:β}(h:l.lookup k=some b):(k,b)∈l:=by
 induction l with
 |nil=>simp at h
 |cons p r ih=>
  obtain⟨a,c⟩:=p;rw[Vi]at h;split at h
  ·rename_i e;have e:=eq_of_beq e;subst e;cases h;exact Xh
  ·exact Xg _ (ih h)
section
variable {prog:Program}{w:World}{A:Around}{R:Result->Shared->Prop}{s:Shared}
def Qbz{E:Value->Shared->Prop}{tl:Option Expr}{Q:Bool->Shared->Prop}(h:match tl with|none=>Q true s|some c=>wpAny (model prog w) A (isTrue c env (eval c env)) Q E s):
  wpAny (model prog w) A (forIn tl.toList true λc r=>if r=true then do let ok <-isTrue c env (eval c env);pure (ForInStep.yield ok)else pure (ForInStep.yield r)) Q E s:=by
 cases tl with
 |none=>exact wpAny_tests_nil h
 |some c=>exact wpAny_tests_one h
def Y8{elt target iter:Expr}{tl:Option Expr}{pos:Pos}{it acc:Value}(I:Nat->Shared->Prop)
  (turn:∀n s,I n s->wpAny (model prog w) A (pyNext it) (λr s₁=>match r with
   |none=>R (.ok .next) s₁
   |some v=>wpAny (model prog w) A (letOwnedTupleGo target it v) (λz s₁'=>wpAny (model prog w) A (assign target env v) (λz s₂=>
     wpAny (model prog w) A (forIn tl.toList true λc r=>if r=true then do let ok <-isTrue c env (eval c env);pure (ForInStep.yield ok)else pure (ForInStep.yield r)) (λok s₃=>if ok=true then
      wpAny (model prog w) A (eval elt env) (λx s₄=>
       wpAny (model prog w) A (call (.builtin "list.append") [acc,x]) (λz s₅=>∃m,m<n/\I m s₅) (notedBy (model prog w) A env λe s'=>R (.error e) s') s₄) (notedBy (model prog w) A env λe s'=>R (.error e) s') s₃
      else ∃m,m<n/\I m s₃) (notedBy (model prog w) A env λe s'=>R (.error e) s') s₂)
        (notedBy (model prog w) A env λe s'=>R (.error e) s') s₁') (notedBy (model prog w) A env λe s'=>R (.error e) s') s₁) (notedBy (model prog w) A env λe s'=>R (.error e) s') s)
  (n:Nat) (h:I n s):codeAny (model prog w) A (.compLoop (.ListComp elt [⟨target,iter,tl.toList,0⟩] scope pos) 0 it acc env) R s:=by
 refine codeAny_loop rfl I (λn s hI=>?_) n h
 show wpAny _ A ((compTurn (.ListComp elt [⟨target,iter,tl.toList,0⟩] scope pos) 0 it acc env).onRaise (λx=>do noteFrame x env;theTreesLotGoes x)) _ _ s
 refine wpAny_noted ?_;rw[compTurn_list];refine Xa (V8 (Xa (Xj (turn n s hI) (λr s₁ h₁=>?_) λz z h'=>h')))
 cases r with
 |none=>exact Xl h₁
 |some v=>
  refine Xa (Xj h₁ (λz s₁' h₁'=>?_) λz z h'=>h');refine Xa (Xj h₁' (λz s₂ h₂=>Xa (Xj h₂ (λok s₃ h₃=>?_) λz z h'=>h')) λz z h'=>h')
  cases ok with
  |true=>
   rw[if_pos rfl]at h₃;exact Xa (Xa (Xj h₃ (λx s₄ h₄=>Xa (Xj h₄ (λz s₅ h₅=>Xl (Xl ⟨rfl,h₅⟩)) λz z h'=>h')) λz z h'=>h'))
  |false=>
   rw[if_neg Xi]at h₃;exact Xa (Xl (Xl ⟨rfl,h₃⟩))
end
end L2
namespace L2
open PySem PySem.Spec PySem.W PyProof.Rows
variable {env:Env}{α:Type}{e:Value}
noncomputable def cx2(o:Obj):Option Value:=match o.data with
 |.fields vs=>vs[2]?
 |_=>none
def KD{α:Type}:Sem α->Prop
 |.pure _=>True
 |.raise _=>True
 |.unsupported _=>True
 |.rule _ k=>KD (k ())
 |.at _ k=>KD (k ())
 |.load _ _ k=>∀o,KD (k o)
 |.loadIfAlive _ k=>∀o,KD (k o)
 |.update _ _ f k=>(∀o:Obj,((f o).dict=o.dict/\cx2 (f o)=cx2 o/\(f o).cls=o.cls)/\(o.isFreed=false->(f o).isFreed=false))/\KD (k ())
 |.point _ k=>KD (k ())
 |.alloc _ k=>∀a,KD (k a)
 |.fresh k=>∀a,KD (k a)
 |.ask k=>∀a,KD (k a)
 |.handled _ k=>∀a,KD (k a)
 |.stack k=>∀a,KD (k a)
 |.thread k=>∀a,KD (k a)
 |_=>False
theorem KD.bind{β:Type}{f:α->Sem β}(hf:∀a,KD (f a)):∀{m:Sem α},KD m->KD (m.bind f):=by
 intro m
 induction m with
 |pure a=>exact λz=>hf a
 |raise e=>exact λz=>trivial
 |unsupported w=>exact λz=>trivial
 |rule t k ih=>exact λh=>ih () h
 | «at» t k ih=>exact λh=>ih () h
 |load a p k ih=>exact λh o=>ih o (h o)
 |loadIfAlive a k ih=>exact λh o=>ih o (h o)
 |update a p g k ih=>exact λh=>⟨h.1,ih () h.2⟩
 |point l k ih=>exact λh=>ih () h
 |alloc o k ih=>exact λh a=>ih a (h a)
 |fresh k ih=>exact λh a=>ih a (h a)
 |ask k ih=>exact λh a=>ih a (h a)
 |handled o k ih=>exact λh a=>ih a (h a)
 |stack k ih=>exact λh a=>ih a (h a)
 |thread k ih=>exact λh a=>ih a (h a)
 |_=>exact λh=>False.elim h
def DK(h h':Heap):Prop:=∀b o,h.get? b=some o->∃o',h'.get? b=some o'/\o'.dict=o.dict/\cx2 o'=cx2 o/\o'.cls=o.cls
def DK.refl(h:Heap):DK h h:=λz o e=>⟨o,e,rfl,rfl,rfl⟩
theorem DK.trans{h h1 h2:Heap}(a:DK h h1)(b:DK h1 h2):DK h h2:=λx o e=>by
 obtain⟨o1,e1,d1,c1,k1⟩:=a x o e;obtain⟨o2,e2,d2,c2,k2⟩:=b x o1 e1;exact⟨o2,e2,d2.trans d1,c2.trans c1,k2.trans k1⟩
def DK.kept{h h':Heap}(k:∀b o,h.get? b=some o->h'.get? b=some o):DK h h':=λb o e=>⟨o,k b o e,rfl,rfl,rfl⟩
def QmH{M:Model}{Γ:PySem.Ctx}{Q:α->Pos->Shared->Prop}{E:Value->Pos->Shared->Prop}:∀{t:Sem α} {p:Pos} {s:Shared} {h0:Heap},KD t->DK h0 s.heap->Sem.wp M Γ t Q E p s ->
  Sem.wp M Γ t (λa p' s'=>Q a p' s'/\DK h0 s'.heap) (λe p' s'=>E e p' s'/\DK h0 s'.heap) p s:=by
 intro t
 induction t with
 |pure a=>exact λz d q=>⟨q,d⟩
 |raise e=>exact λz d q=>⟨q,d⟩
 |unsupported w=>exact λz z q=>q
 |rule t k ih=>exact λh d q=>ih () h d q
 | «at» t k ih=>exact λh d q=>ih () h d q
 |load a p k ih=>
  intro p s h0 h d q;obtain⟨o,e,q⟩:=q;exact⟨o,e,ih o (h o) d q⟩
 |loadIfAlive a k ih=>exact λh d q=>ih _ (h _) d q
 |update a p g k ih=>
  intro p s h0 h d q;obtain⟨e,q⟩:=q;refine⟨e,ih () h.2 (d.trans λb o ho=>?_) q⟩;by_cases hb:b=a
  ·subst hb;exact⟨g o,Vs _ ho ((h.1 o).2 (Heap.get?_some_iff.mp ho).2),(h.1 o).1⟩
  ·exact⟨o,(Heap.get?_update_ne _ _ _ _ hb).trans ho,rfl,rfl,rfl⟩
 |point l k ih=>exact λh d q=>ih () h d q
 |alloc o k ih=>exact λh d q=>ih _ (h _) (d.trans (DK.kept λb o e=>Xd _ e)) q
 |fresh k ih=>exact λh d q=>ih _ (h _) d q
 |ask k ih=>exact λh d q=>ih _ (h _) d q
 |handled o k ih=>exact λh d q=>ih _ (h _) d q
 |stack k ih=>exact λh d q=>ih _ (h _) d q
 |thread k ih=>exact λh d q=>ih _ (h _) d q
 |_=>exact λh=>False.elim h
def ZW{M:Model}{A:Around}{t:Sem α}{Q:α->Shared->Prop}{E:Value->Shared->Prop}{s:Shared}(h:KD t)(q:wpAny M A t Q E s):
  wpAny M A t (λa s'=>Q a s'/\DK s.heap s'.heap) (λe s'=>E e s'/\DK s.heap s'.heap) s:=fun Γ p i=>QmH h (DK.refl _) (q Γ p i)
def Qkj{f:Array Value->Array Value}(hf:∀vs,(f vs)[2]?=vs[2]?)(o:Obj):((Obj.mapFields f o).dict=o.dict/\cx2 (Obj.mapFields f o)=cx2 o/\(Obj.mapFields f o).cls=o.cls)/\(o.isFreed=false->(Obj.mapFields f o).isFreed=false):=by
 obtain⟨c,d,dt,sl⟩:=o
 cases dt<;>first|exact⟨⟨rfl,rfl,rfl⟩,λh=>h⟩|exact⟨⟨rfl,hf _,rfl⟩,λh=>h⟩
def KD.b{β:Type}{m:Sem α}{f:α->Sem β}(h:KD m)(hf:∀a,KD (f a)):KD (m >>= f):=KD.bind hf h
def Qbk{a:Addr}:KD (load a):=λz=>trivial
def YJ{i:Nat}:KD (field e i):=by
 unfold field fieldsOf
 refine KD.b ?_ λvs=>by split<;>exact trivial
 split
 ·exact KD.b Qbk λo=>by split<;>exact trivial
 ·exact trivial
def QdA{i:Nat}{x:Value}(hi:i≠2):KD (setField e i x):=by
 unfold setField;split
 ·unfold updateField;refine KD.b Qbk λo=>?_;split
  ·split
   ·exact⟨Qkj λvs=>Array.getElem?_setIfInBounds_ne hi,trivial⟩
   ·exact trivial
  ·exact trivial
 ·exact trivial
def Zp{f:Option Addr}:KD (setFlight e f):=by
 unfold setFlight;refine KD.b YJ λtb=>?_;split
 ·exact QdA (by decide)
 ·exact trivial
theorem QbV:∀l:List Env,KD (readyFrames l)
 |[]=>trivial
 |env::outer=>by
  unfold readyFrames;split
  ·refine KD.b Qbk λo=>?_;split
   ·exact trivial
   ·refine KD.b ?_ λim=>KD.b ?_ λback=>KD.b (show KD (update _ _)from⟨λo=>⟨⟨rfl,(by obtain⟨c,d,dt,sl⟩:=o;cases dt<;>rfl),rfl⟩,by obtain⟨c,d,dt,sl⟩:=o;cases dt<;>exact λh=>h⟩,trivial⟩) λz=>QbV outer
    ·unfold behindIsImport
     repeat (first|exact trivial|exact KD.b YJ λz=>trivial|split|refine KD.b trivial λz=>?_)
    ·unfold keptBack;split
     ·split
      ·exact trivial
      ·unfold underTheClaimsCaller
       repeat (first|exact trivial|exact λz=>trivial|split|refine KD.b ?_ λz=>?_)
     ·exact trivial
  ·exact trivial
def Qe9:KD (PySem.frameOf env):=by
 unfold PySem.frameOf frameEnvs
 refine KD.b ?_ λl=>KD.b ?_ λo=>by split<;>exact trivial
 ·exact KD.b (λz=>trivial) λz=>trivial
 ·unfold frameObject;split
  ·exact trivial
  ·exact KD.b (QbV _) λz=>trivial
def Qbj:KD (noteFrame e env):=by
 have place:∀{f:Addr} {b:Bool},KD (entryPlaceOf f b):=λ{f b}=>by
  unfold entryPlaceOf
  exact KD.b (λz=>trivial) λacts=>by split<;>exact trivial
 have fin:∀{hd:Value} {f:Addr},KD (do setField e 1 (<-EntryCells.newEntry hd (<-PySem.frameOf env) .none (rawInt f) .none (<-entryPlaceOf f (hd != .none)))):=λ{hd f}=>by
  refine KD.b Qe9 λa=>KD.b place λpl=>KD.b ?_ λb=>QdA (by decide)
  unfold EntryCells.newEntry newFields newObj newObjAsIs;dsimp only
  split<;>split<;>first|exact trivial|exact λz=>trivial|exact KD.b trivial λz=>KD.b (λz=>trivial) λz=>trivial
 unfold noteFrame;split
 ·refine KD.b YJ λhd=>?_;split
  ·refine KD.b YJ λfl=>?_;split
   ·exact trivial
   ·exact KD.b (QdA (by decide)) λz=>fin
  ·exact fin
 ·exact trivial
def QbW:KD (leaving env e):=by
 unfold leaving;exact KD.b Qbj λz=>Zp
end L2
namespace L2
open PySem PySem.Spec PySem.W PyProof.Rows PySem.Calls PySem.Builtin PySem.Builtin.ObjectAttr PySem.Builtin.Getset_descriptor
variable {C a:Addr}{M:Model}
structure ErrCls(K:W.Frag)(C:Addr):Prop where
 ga:findIn K (.ref C) "__getattribute__"=some (some (.builtin "BaseException.__getattribute__"))
 gh:findIn K (.ref C) "__getattr__"=some none
 cl:findIn K (.ref C) "__class__"=some (some (.builtin "object.__class__"))
 gg:specialIn K (.builtin "object.__class__") "__get__"=some (some (.builtin "getset_descriptor.__get__"))
 tk:takesIn K (.builtin "object.__class__")=some true
 sb:subIn K (.ref C) (.type "BaseException")=some true
 so:subIn K (.ref C) (.type "object")=some true
 is:(clsIn K C).isSome=true
def YF(a C:Addr)(dd:Option Addr)(h:Heap):Prop:=∃o vs,h.get? a=some o/\o.cls=.ref C/\o.data=.fields vs/\o.dict=dd
section
variable {prog:Program}{w:World}{A:Around}{E:Value->Shared->Prop}{K:W.Frag}{h:Heap}{g:Array GenState}{d:Drawn}{t:Nat}{os:OsState}{dd:Option Addr}
def Y4(p:YF a C dd h):Looks M h (typeOf (.ref a)) (.ref C):=by
 obtain⟨o,vs,h1,h2,_⟩:=p;exact h2▸(Looks.ld h1).andThen .now
def Qfn(Yyy:ErrCls K C)(X:K.In h):Looks M h (find (.ref a) (.ref C) "__class__") (.bind (.builtin "getset_descriptor.__get__") (.builtin "object.__class__")):=by
 have L1:=looks_findIn (M:=M) X Yyy.cl;have L2:Looks M h (getOf (some (.builtin "object.__class__"))) (some (.builtin "getset_descriptor.__get__")):=looks_specialIn X Yyy.gg
 have L3:Looks M h (dataDescriptor? (some (.builtin "object.__class__")) (some (.builtin "getset_descriptor.__get__"))) (some (.builtin "getset_descriptor.__get__",.builtin "object.__class__")):=by
  unfold dataDescriptor?;refine(looks_takesIn X Yyy.tk).andThen ?_;exact .now
 refine L1.andThen (L2.andThen (L3.andThen ?_));exact Looks.tag .now
def Qbp{R:Result->Shared->Prop}(Yyy:ErrCls K C)(X:K.In h)(p:YF a C dd h)(hq:R (.ok (.ret (.ref C))) ⟨h,g,d,t,os⟩):
  codeAny (model prog w) A (.call (.builtin "getset_descriptor.__get__") ⟨[.builtin "object.__class__",.ref a,.ref C],[]⟩) R ⟨h,g,d,t,os⟩:=by
 have L1:=looks_subIn (M:=model prog w) X Yyy.so;have L0:=Y4 (M:=model prog w) p;refine Uw KF.slot_gs.plain KF.entry_gs (KF.slot_gs.check _ _ _ _ _ _ _ _ KF.type_class (KF.args_gs _ _ _) ?_);unfold Builtin.«getset_descriptor.__get__» descrGet;rw[dga_obj];refine Xa (Xl ?_);unfold descrGetter descrCheckInstance descrNameAndClass isInstance;simp only[KF.owner_class]
 repeat lk
 refine⟨Code.quiet_builtin _ (by decide +kernel),codeAny_builtin KF.entry_class ?_⟩
 unfold Builtin.«object.__class__» shownTypeOf
 repeat lk
 exact hq
def QaI{nameV:Value}{Q:Unit->Shared->Prop}(Yyy:ErrCls K C)(X:K.In h)(p:YF a C dd h)(hq:Q () ⟨h,g,d,t,os⟩):wpAny M A (checkBuiltinCall "BaseException.__getattribute__" ⟨[.ref a,nameV],[]⟩) Q E ⟨h,g,d,t,os⟩:=by
 have hk:builtinKind "BaseException.__getattribute__"=some .slot:=by decide +kernel
 have hsplit:splitId "BaseException.__getattribute__"=some ("BaseException","__getattribute__"):=by decide +kernel
 have ha:=PySem.F.args_bexc_ga (.ref a) nameV;have L2:Looks M h (isInstance (.ref a) (.type "BaseException")) true:=(Y4 p).andThen (looks_subIn X Yyy.sb);simp only[checkBuiltinCall,hk,hsplit];refine Xa (L2.at ?_)
 repeat (first|wp_step)
 exact hq
def QdN{tk:Tok}{Q:Fin->Shared->Prop}(Yyy:ErrCls K C)(X:K.In h)(p:YF a C dd h)(hq:Q (.done (.ret (.ref C))) ⟨h,g,d,t,os⟩):
  wpAny (model prog w) A (Builtin.«object.__getattribute__» ⟨[.ref a,.str "__class__" tk],[]⟩) Q E ⟨h,g,d,t,os⟩:=by
 have L0:=Y4 (M:=model prog w) p;have L1:=Qfn (M:=model prog w) (a:=a) Yyy X;unfold Builtin.«object.__getattribute__»;refine Xa (Xl (Xa (Xl (Xa (L0.at (Xa (L1.at ?_)))))));show wpAny _ _ (holding [_] (call (.builtin "getset_descriptor.__get__") [.builtin "object.__class__",.ref a,.ref C]) >>= ret) _ _ _;exact Xa (Wo (Uc (Qbp Yyy X p (Xl hq))))
def QdO{Q:Option Value->Shared->Prop}(Yyy:ErrCls K C)(X:K.In h)(p:YF a C dd h)(hq:Q (some (.ref C)) ⟨h,g,d,t+1,os⟩):
  wpAny (model prog w) A (getAttr? (.ref a) "__class__") Q E ⟨h,g,d,t,os⟩:=by
 have L0:=Y4 (M:=model prog w) p;have L1:=looks_findIn (M:=model prog w) X Yyy.ga;have L2:=looks_findIn (M:=model prog w) X Yyy.gh;unfold getAttr? getAttrBy? getAttrBy;refine Xa (wpAny_mkText (Xa (Uz (Wo (Xa (L0.at (Xa (L1.at ?_))))))));dsimp only
 have hne:¬(onTheHeap (Value.ref C)&&Value.builtin "BaseException.__getattribute__"==Value.builtin "object.__getattribute__")=true:=by
  rw[show(Value.builtin "BaseException.__getattribute__"==Value.builtin "object.__getattribute__")=false from by decide +kernel]
  simp
 rw[if_neg hne];unfold getAttrByItsOwn hookBefore;refine Xa ?_;rw[if_pos (show onTheHeap (Value.ref C)=true from rfl)];refine L2.at ?_;refine Xa (Uz (Wo ?_));have f3:=V5.ga.bind (.ref a);show wpAny _ _ (boundAndCalled (.builtin "BaseException.__getattribute__") (.ref a) _) _ _ _;unfold boundAndCalled;refine Xa (wpAny_of_eq f3 ?_);refine Uc ?_;refine Uw V5.ga.plain PySem.F.entry_bexc_ga (QaI Yyy X p (QdN Yyy X p ?_));show wpAny _ _ (handedOut _) _ _ _;exact Xl (Xl hq)
def Qe6(Yyy:ErrCls K C):KitX K (.ref a) (.ref C) (YF a C dd) where
 ty:=λy y y p=>Y4 p
 it:=λy y X y=>by
  obtain⟨cdD,hcD⟩:=Wz.mp Yyy.is;unfold clsIn at hcD;split at hcD
  ·rename_i c' d' cd' sl' ho;intro A' Q' E' s' k q;unfold isType loadHead;exact Xa (wpAny_loadPart (k _ _ (X _ _ ho)) (Xl q))
  ·cases hcD
 ne:=λh tp dd its n sl X htp=>by
  obtain⟨cdD,hcD⟩:=Wz.mp Yyy.is;refine Bool.eq_false_iff.mpr λq=>?_;have e:C=tp:=Value.ref.inj (Wm.mp q);subst e;unfold clsIn at hcD;split at hcD
  ·rename_i c' d' cd' sl' ho;have z:=(X _ _ ho).symm.trans htp;cases z
  ·cases hcD
 ca:=λ{_ _ _ _ _ s} X p k=>by
  obtain⟨h,g,d,t,os⟩:=s;exact QdO Yyy X p k
end
noncomputable def QcC(a C:Addr)(dd:Option Addr):HO:=.ext (YF a C dd)
def QkH{P:Program}{w:World}{H:Hp}{h:Heap}{dd:Option Addr}(p:YF a C dd h):ObjOk P w H h a (QcC a C dd):=by
 refine⟨p,?_,λh1 h2 q k=>?_⟩
 ·obtain⟨o,_,e,_⟩:=p;exact⟨o,e⟩
 ·obtain⟨o,vs,e,r⟩:=q;exact⟨o,vs,k o e,r⟩
def Qb0{X:Cx}{pins:List (Addr×Obj)}{Y:St}{H:Hp}{s:Shared}{dd:Option Addr}(I:Inv X pins Y H s)(e:H a=some (QcC a C dd)):YF a C dd s.heap :=
 (show ObjOk X.prog X.w H s.heap a (.ext (YF a C dd))from I.hok a _ e).1
def Qd5{X:Cx}: CallR X (.builtin "isinstance") (λxs H Q=>∃a c cv C dd b,xs=[.ref a,c]/\(match c with|.ty n=>some (Value.type n)|.ref r=>some (.ref r)|_=>none)= some cv/\H a=some (QcC a C dd)/\ErrCls X.K C/\W.kitOne X.K (.ref C) cv=some b/\Q (.bl b) H):= by
 intro pins s Y H xs us Q I r h;obtain⟨a,c,cv,C,dd,b,rfl,hc,ha,Yyy,e,q⟩:=h;obtain⟨u,w',rfl,rx,rc⟩:=Qgr r;cases(show u=Value.ref a from rx)
 have ec:w'=cv:=by
  cases c with
  |ty n=>cases(show w'=Value.type n from rc);exact X2 hc
  |ref r0=>cases(show w'=Value.ref r0 from rc);exact X2 hc
  |_=>cases hc
 subst ec;exact Vw (Qe6 Yyy) I.kIn (Qb0 I ha) e (λz=>nomatch z) λtk=>⟨.bl b,H,I.tok tk,rfl,q⟩
end L2
namespace L2
open PySem PySem.Spec PySem.W PyProof.Rows
section
variable {L:Addr}{h':Heap}{H:Hp}{E2:Value->Shared->Prop}
structure Cov(B:Heap)(H:Hp)(s:Shared)(l:List Env):Prop where
 trk:∀b u,H b=some u->∃o,B.get? b=some o
 old:∀b o,s.heap.get? b=some o->b∉frs l->∃o',B.get? b=some o'
noncomputable def chA:List Value:=[.ref 131]
noncomputable def chB(v:Value):Bool:=chA.contains v
def DictAt(h:Heap)(a:Addr)(dd:Option Addr):Prop:=∃o,h.get? a=some o/\o.dict=dd/\(cx2 o=some .none\/chB o.cls=true)
def DictAt.dk{h:Heap}{a:Addr}{dd:Option Addr}(d:DictAt h a dd)(k:DK h h'):DictAt h' a dd:=by
 obtain⟨o,e,q,c⟩:=d;obtain⟨o',e',q',c',k'⟩:=k a o e
 exact⟨o',e',q'.trans q,by rw[c',k'];exact c⟩
noncomputable def CXw(P:Program)(w:World):CXT:=λouter H s E e s'=>∃a C H' B a0 dd,e=.ref a/\s'.os=s.os/\AllBare s'.gens/\Un (frs outer) [] H H' s.heap s'.heap/\HOk P w H' s'.heap /\
 Heap.FlyingW B outer a (.ref C) a0 s'.heap/\Cov B H' s outer/\H' a=none/\s.heap.get? a=none/\DictAt s'.heap a dd/\E (.ref C) dd H'
def ObjOk.there{P:Program}{w:World}{h:Heap}{a:Addr}{o:HO}(x:ObjOk P w H h a o):∃u,h.get? a=some u:=by
 cases o with
 |lst xs=>obtain⟨_,_,_,_,e⟩:=x;exact⟨_,e⟩
 |tup xs=>obtain⟨_,_,_,_,e,_⟩:=x;exact⟨_,e⟩
 |dK kvs=>obtain⟨_,_,_,_,o,_,_,e,_⟩:=x;exact⟨_,e⟩
 |dT kvs=>obtain⟨_,_,_,_,o,_,_,e,_⟩:=x;exact⟨_,e⟩
 |set S n=>obtain⟨o,_,_,_,e,_⟩:=x;exact⟨_,e⟩
 |ins C dx fs=>obtain⟨_,_,_,e,_⟩:=x;exact⟨_,e⟩
 |own y=>obtain⟨_,e⟩:=x;exact⟨_,e⟩
 |xd fs=>obtain⟨_,⟨_,_,_,e,_⟩,_⟩:=x;exact⟨_,e⟩
 |rng lo hi=>obtain⟨_,_,_,e⟩:=x;exact⟨_,e⟩
 |frz ob u=>obtain⟨e,_⟩:=x;exact⟨_,e⟩
 |tbl ps=>exact⟨_,(show h.get? a=some _ from x)⟩
 |met f y=>exact⟨_,(show h.get? a=some _ from x)⟩
 |ext φ=>obtain⟨_,⟨_,e⟩,_⟩:=x;exact⟨_,e⟩
def QbC{P:Program}{w:World}{l:List Env}{H':Hp}{s:Shared}{h1 h2 B base:Heap}(un:Un (frs l) [] H H' s.heap h1)(hok:HOk P w H' h1)(ff:s.heap.FunFrames base l)(fr:∀b∈frs l,H b=none)
  (st1:B.StaysIn h1) (st2:B.StaysIn h2) (up:h1.UpToSlots h2) (cv:Cov B H' s l):Un (frs l) [] H H' s.heap h2/\HOk P w H' h2:=by
 have fsl:∀b o,s.heap.get? b=some o->b∈frs l->∃sl,h2.get? b=some {o with slots:=sl}:=λb o q hb=>by
  obtain⟨sl,e⟩:=un.slot b o q (fr b hb) hb (by simp)
  obtain⟨_,o2,ho2,hd⟩:=ff.mem hb;rw[q]at ho2;cases ho2;obtain⟨sl',e'⟩:=up b _ e hd;exact⟨sl',e'⟩
 refine⟨⟨λb o q n hb hx=>?_,λb o q n hb hx=>fsl b o q hb,un.free,λb o q hx=>?_,un.tups,un.frzs,un.tbls⟩,λa o e=>?_⟩
 ·have e1:=un.keep b o q n hb hx;obtain⟨o',e2⟩:=cv.old b o q hb;have e3:=st1 b o' e2;rw[e1]at e3;cases e3;exact st2 b _ e2
 ·by_cases hb:b∈frs l
  ·obtain⟨sl,e⟩:=fsl b o q hb;exact⟨_,e⟩
  ·obtain⟨o',e2⟩:=cv.old b o q hb;exact⟨o',st2 b _ e2⟩
 ·refine(hok a o e).stay (λb u hb q=>?_) (λy z=>z) λy y z=>z
  have ht:∃x,H' b=some x:=by
   rcases hb with rfl|z
   ·exact⟨_,e⟩
   ·exact⟨_,z⟩
  obtain⟨x,hx⟩:=ht;obtain⟨o',e2⟩:=cv.trk b x hx;have e3:=st1 b o' e2;rw[q]at e3;cases e3;exact st2 b _ e2
section
variable {X:Cx}{pins:List (Addr×Obj)}{Y:St}{H':Hp}{s s':Shared}{e C:Addr}{dd:Option Addr}{B:Heap}{a0:Value}{E:XK}
def Qdy(hst:X.stack=X.env::X.outer)(hf:X.env.frame=some L)(hex:X.ex=[])(J:Inv X pins Y H' s')(fl:Heap.FlyingW B X.stack e (.ref C) a0 s'.heap)(cv:Cov B H' X.s₀ X.outer)
  (hn:H' e=none) (hsz:X.s₀.heap.get? e=none) (da:DictAt s'.heap e dd) (hE:E (.ref C) dd H'):wpAny (model X.prog X.w) X.A (leaving X.env (.ref e)) (λy s''=>CXw X.prog X.w X.outer X.H₀ X.s₀ E (.ref e) s'') E2 s':=by
 rw[hst]at fl;refine Xj (ZW (E:=λy y=>False) QbW (wpAny_leaves_onW (Q:=λy s''=>Heap.FlyingW B X.outer e (.ref C) a0 s''.heap/\s'.heap.UpToSlots s''.heap/\s''.os=s'.os/\s''.gens=s'.gens) (hst▸J.ok.frames) hf fl λh' fl' up=>⟨fl',up,rfl,rfl⟩)) (λy s'' x=>?_) λy y z=>z.1.elim;obtain⟨⟨fl',up,eo,eg⟩,dk⟩:=x;have b:=J.base;rw[hex]at b;obtain⟨un,hok⟩:=QbC b J.hok J.ok.funs J.ok.frf fl.1 fl'.1 up cv;exact⟨e,C,H',B,a0,dd,rfl,eo.trans J.os,eg▸J.bare,un,hok,fl',cv,hn,hsz,da.dk dk,hE⟩
def Y1{oe:Obj}{vs:Array Value}(hst:X.stack=X.env::X.outer)(hf:X.env.frame=some L)(hex:X.ex=[])(I:Inv X pins Y H s)(hn:H e=none)(h0:X.s₀.heap.get? e=none)(hl:e≠X.env.locals)
  (he:s.heap.get? e=some oe) (hc:oe.cls=.ref C) (hd:oe.data=.fields vs) (v0:vs[0]?=some a0) (v1:vs[1]?=some .none) (v2:vs[2]?=some .none\/chB (.ref C)=true) (hE:E (.ref C) oe.dict H):
  wpAny (model X.prog X.w) X.A (leaving X.env (.ref e)) (λy s''=>CXw X.prog X.w X.outer X.H₀ X.s₀ E (.ref e) s'') E2 s:=by
 have nf:e∉frs X.stack:=λz=>by
  rcases Xo.mp (I.stkSub e z)with z|z
  ·exact hl z
  ·obtain⟨_,o,ho,_⟩:=I.ok.funs.mem z;rw[h0]at ho;cases ho
 generalize hB:hideAll s.heap (e::frs X.stack)=B;have stB:B.StaysIn s.heap:=λb o q=>of_hideAll _ (hB▸q);have ff:s.heap.FunFrames B X.stack:=hB▸funFrames_hide I.stack λenv hm a ha=>Xg _ (T1.mpr ⟨env,hm,ha⟩);have eB:B.get? e=none:=hB▸hideAll_none _ (Xh ..)
 have cv:Cov B H X.s₀ X.outer:=by
  refine⟨λb u q=>?_,λb o q hb=>?_⟩
  ·obtain⟨o,ho⟩:=(I.hok b u q).there;refine⟨o,hB▸hideAll_get _ ho λz=>?_⟩
   rcases Xo.mp z with rfl|z
   ·rw[hn]at q;cases q
   ·rw[I.stkFree b z]at q;cases q
  ·obtain⟨o',ho⟩:=I.base.there b o q (by rw[hex];simp)
   refine⟨o',hB▸hideAll_get _ ho λz=>?_⟩
   rcases Xo.mp z with rfl|z
   ·rw[h0]at q;cases q
   ·rcases Xo.mp (I.stkSub b z)with z|z
    ·exact X4 (Xr (Xk q) I.ok.above) z
    ·exact hb z
 refine Xj (ZW (E:=λy y=>False) QbW (wpAny_leaving_firstW (base:=B) (Q:=λy s''=>Heap.FlyingW B X.outer e (.ref C) a0 s''.heap/\s.heap.UpToSlots s''.heap/\s''.os=s.os/\s''.gens=s.gens) (hst▸I.ok.frames) (hst▸ff) hf he stB eB hd v1 v0 λh' x=>by obtain⟨k1,⟨_,_,k2⟩,k3,k4⟩:=x;exact⟨⟨k1,eB,k2,hc▸k3⟩,k4,rfl,rfl⟩)) (λy s'' v=>?_) λy y z=>z.1.elim;obtain⟨⟨fl',up,eo,eg⟩,dk⟩:=v;have b:=I.base;rw[hex]at b;obtain⟨un,hok⟩:=QbC b I.hok I.ok.funs I.ok.frf stB fl'.1 up cv
 exact⟨e,C,H,B,a0,oe.dict,rfl,eo.trans I.os,eg▸I.bare,un,hok,fl',cv,hn,h0,DictAt.dk ⟨oe,he,rfl,by rw[hc];unfold cx2;rw[hd];exact v2⟩ dk,hE⟩
def Qcn{vs:List Value}(hst:X.stack=X.env::X.outer)(hf:X.env.frame=some L)(hex:X.ex=[])(I:Inv X pins Y H s)(hx:Heap.MadeExcOf s.heap h' e (.ref C) vs)(hE:E (.ref C) none H):
  wpAny (model X.prog X.w) X.A (leaving X.env (.ref e)) (λy s''=>CXw X.prog X.w X.outer X.H₀ X.s₀ E (.ref e) s'') E2 {s with heap:=h'}:=by
 have hn:H e=none:=by
  cases q:H e with
  |none=>rfl
  |some u=>
   obtain⟨o,ho⟩:=(I.hok e u q).there;rw[hx.new]at ho;cases ho
 have h0:X.s₀.heap.get? e=none:=by
  cases q:X.s₀.heap.get? e with
  |none=>rfl
  |some o=>
   obtain⟨o',ho⟩:=I.base.there e o q (by rw[hex];simp)
   rw[hx.new]at ho;cases ho
 obtain⟨t,he,_,_⟩:=hx.there;refine Y1 hst hf hex (I.kept (t':=s.toks) hx.keeps) hn h0 (λz=>?_) he rfl rfl rfl rfl (.inl rfl) hE;obtain⟨m,⟨o,_,_,ho,_⟩,_⟩:=I.loc;rw[<-z,hx.new]at ho;cases ho
def Inv.adopt{ho:HO}(I:Inv X pins Y H s)(hn:H e=none)(h0:X.s₀.heap.get? e=none)(hL:e≠X.env.locals)(hC:∀x c,X.env.cells.lookup x=some c->c≠e)(hp:∀p∈X.pn++pins,p.1≠e)
  (new:ObjOk X.prog X.w (upd H e ho) s.heap e ho):Inv X pins Y (upd H e ho) s:=by
 have ne:∀b u,H b=some u->b≠e:=λb u q z=>by rw[z,hn]at q;cases q
 refine⟨I.ok,I.os,I.bare,⟨I.base.keep,I.base.slot,λb o q n hx=>?_,I.base.there,λb xs q=>?_,λb o u q=>?_,λb ps q=>?_⟩,I.loc,I.cell,?_,λx c q=>?_,λp hp'=>?_,λb u q=>?_,I.len⟩
 ·have hb:b≠e:=λz=>by rw[z,h0]at q;cases q
  rw[Qe hb];exact I.base.free b o q n hx
 ·have z:=I.base.tups b xs q;rw[Qe (ne _ _ z)];exact z
 ·have z:=I.base.frzs b o u q;rw[Qe (ne _ _ z)];exact z
 ·obtain⟨m,z⟩:=I.base.tbls b ps q
  exact⟨m,by rw[Qe (ne _ _ z)];exact z⟩
 ·rw[Qe (Ww hL)];exact I.free
 ·rw[Qe (hC x c q)];exact I.freeC x c q
 ·obtain⟨a1,a2,a3⟩:=I.pin p hp'
  exact⟨a1,by rw[Qe (hp p hp')];exact a2,a3⟩
 ·by_cases hb:b=e
  ·subst hb;rw[Ql]at q;cases q;exact new
  ·rw[Qe hb]at q
   exact(I.hok b u q).stay (λc v y r=>r) (λc r=>by rw[Qe (ne _ _ r)];exact r) λc xs r=>by rw[Qe (ne _ _ r)];exact r
def Inv.gone{n:Str}{j t:Nat}{m:Str->Option Value}{v:Option Value}(I:Inv X pins Y H s)(hN:X.N.Nodup)(hj:X.N[j]?=some n)(hk:X.env.scope.names.lookup n=some .local)(hm:s.heap.Ns X.env.locals m)
  (hn:h'.Ns X.env.locals (λx=>if x=n then v else m x)) (hs:Heap.SameBut X.env.locals s.heap h'):Inv X pins (Y.set j none) H {s with heap:=h',toks:=t}:=by
 obtain⟨m0,hm0,hl⟩:=id I.loc;obtain⟨oL,_,_,hoL,_⟩:=id hm
 have em:∀x,m0 x=m x:=λx=>by
  obtain⟨o1,es1,ep1,a1,a2,a3,a4⟩:=hm0;obtain⟨o2,es2,ep2,b1,b2,b3,b4⟩:=hm;rw[a1]at b1;cases b1;rw[a2]at b2;cases b2;rw[<-a4,<-b4]
 refine⟨I.ok,I.os,I.bare,⟨λb o e n hb hx=>?_,λb o e n hb hx=>?_,I.base.free,λb o e hx=>?_,I.base.tups,I.base.frzs,I.base.tbls⟩,⟨_,hn,λi y v' e1 e2 e3=>?_⟩,λy c e=>?_,I.free,I.freeC,λp hp=>?_,λb ob e=>?_,by simpa using I.len⟩
 ·exact(hs.2 b (X4 (Xr (Xk e) I.ok.above))).trans (I.base.keep b o e n hb hx)
 ·obtain⟨sl,e1⟩:=I.base.slot b o e n hb hx;exact⟨sl,(hs.2 b (X4 (Xr (Xk e) I.ok.above))).trans e1⟩
 ·obtain⟨o',e1⟩:=I.base.there b o e hx;exact⟨o',(hs.2 b (X4 (Xr (Xk e) I.ok.above))).trans e1⟩
 ·have hij:i≠j:=λz=>by
   subst z
   have l:i < Y.length:=by rw[I.len];exact(Xf.mp hj).1
   rw[Wh l]at e2;cases e2
  rw[Xz (Ww hij)]at e2;obtain⟨u',r',q⟩:=hl i y v' e1 e2 e3;refine⟨u',r',?_⟩
  rcases q with⟨k,e⟩|⟨k,c,e,z⟩
  ·refine .inl ⟨k,?_⟩;have:y≠n:=λe=>hij (JS hN e1 (e▸hj));simp[this,<-em,e]
  ·exact .inr ⟨k,c,e,z.sameBut hs (I.cne y c e)⟩
 ·obtain⟨w',z⟩:=I.cell y c e;exact⟨w',z.sameBut hs (I.cne y c e)⟩
 ·obtain⟨e,n,ne,nf,d⟩:=I.pin p hp;exact⟨(hs.2 p.1 ne).trans e,n,ne,nf,d⟩
 ·refine(I.hok b ob e).stay (λc w' hc q=>(hs.2 c ?_).trans q) (λw q=>q) λw w q=>q;rintro rfl
  rcases hc with hc|hc
  ·rw[<-hc,I.free]at e;cases e
  ·rw[I.free]at hc;cases hc
end
end
section
variable {C:Addr}{body:List Stmt}
def Qbn{K:W.Frag}{h:Heap}{bmB:List Value}{newId:String}(X:K.In h)(q:excIn K C bmB newId=true):
  ∃bm N nm q bs hdct sn sub ab col dd k0 k1 k2 k3 k5 mN,h.get? C=some (excClassObj nm q C N bs bm hdct sn sub ab col dd k0 k1 k2 k3 k5 newId)/\h.Ns N mN/\mN "__init__"=none/\OwnTail h bmB bm:=by
 unfold excIn at q;split at q
 ·rename_i dd cd sl ho;split at q
  ·rename_i C' bm k0 k1 k2 k3 n k5 hm hs;simp only[Xe,Wm,Vn]at q;obtain⟨⟨⟨⟨⟨rfl,rfl⟩,hdel⟩,ht⟩,hok⟩,hni⟩:=q;obtain⟨nm,bs,mro,ns,qn,hd,sn,sub,ab,col,del⟩:=cd;dsimp only at hm hdel hok hni;subst hm hdel
   have hsl:sl=#[k0,k1,k2,k3,some (.builtin n),k5]:=by
    obtain⟨l⟩:=sl;simp only at hs;rw[hs]
   subst hsl;exact⟨bm,ns,nm,qn,bs,hd,sn,sub,ab,col,dd,k0,k1,k2,k3,k5,_,X _ _ ho,.of_isNs (isNs_of_in X hok),nsMap_none_of_in X hok hni,tail_of_in X ht⟩
  ·cases q
 ·cases q
noncomputable def Qad:List Value:=[.type "ValueError",.type "Exception",.type "BaseException",.type "object"]
section
variable {X:Cx}{x:Str}{np cpos pos:Pos}{t:TA}{W:Hp->Prop}
def Qjo(t:TA)(W:Hp->Prop):TS:=λz Y H=>t Y H λvs H1=>vs.length<=sizeLine/\W H1
def QeO{e₀:Expr}{rest:List Expr}(q:excIn X.K C Qad "ValueError.__new__"=true)(hg:Gl X x)(hm:X.mg x=some (.ref C))(hc:X.calm=true)(ha:PA X (e₀::rest) t)
  (hw:∀pins Y H s h' e vs,Inv X pins Y H s->Heap.MadeExcOf s.heap h' e (.ref C) vs->W H->X.xe (.ref e) {s with heap:=h'})
  (he:starEach (e₀::rest) X.env=(false,eval e₀ X.env)::starEach rest X.env) (hpl:(backTo cpos (starEach rest X.env)).any (·.1)=false) (hdb:(x==("__debug__":Str))=false):
  PS X (.Raise (some (.Call (.Name x np) (e₀::rest) [] cpos)) none pos) (Qjo t W):=by
 intro pins s Y H D I h;obtain⟨tl,N,nm,qn,bs,hdct,sn,sub,ab,col,dd,k0,k1,k2,k3,k5,mN,hC,hN,hni,T⟩:=Qbn I.ok.mod.kin q
 refine wpAny_Raise_call_subT (C:=C) (nm:=nm) (q:=qn) (N:=N) (bs:=bs) (bm:=tl) (hdct:=hdct) (sn:=sn) (sub:=sub) (ab:=ab) (col:=col) (dd:=dd) (k0:=k0) (k1:=k1) (k2:=k2) (k3:=k3) (k5:=k5)
  W4 (mN:=mN) (T.hasType W4.hasBase) (I.ok.hd hc) (by rw[he];show(false||(backTo cpos (starEach rest X.env)).any (·.1))=false;rw[hpl];rfl) hni (QR I hg hm ⟨rfl,?_⟩ hdb)
 have h':=ha cpos pins s Y H _ I h;rw[he]at h' ⊢;refine Calls.evalArgs_plain (Xj h' (λus s₂ z=>?_) λv v y=>y);obtain⟨vs,H1,I1,r,l,w⟩:=z
 exact⟨rfl,by rw[<-r.length];exact l,I1.bk _ _ hC,hN.keeps I1.bk,T.keeps I1.bk,λh' e mx=>hw pins Y H1 s₂ h' e us I1 mx w⟩
def Qc9(q:excIn X.K C Qad "ValueError.__new__"=true)(hg:Gl X x)(hm:X.mg x=some (.ref C))(hc:X.calm=true)
  (hw:∀pins Y H s h' e vs,Inv X pins Y H s->Heap.MadeExcOf s.heap h' e (.ref C) vs->W H->X.xe (.ref e) {s with heap:=h'}) (hdb:(x==("__debug__":Str))=false):
  PS X (.Raise (some (.Call (.Name x np) [] [] cpos)) none pos) (λz z H=>W H):=by
 intro pins s Y H D I h;obtain⟨tl,N,nm,qn,bs,hdct,sn,sub,ab,col,dd,k0,k1,k2,k3,k5,mN,hC,hN,hni,T⟩:=Qbn I.ok.mod.kin q
 refine wpAny_Raise_call_subT (C:=C) (nm:=nm) (q:=qn) (N:=N) (bs:=bs) (bm:=tl) (hdct:=hdct) (sn:=sn) (sub:=sub) (ab:=ab) (col:=col) (dd:=dd) (k0:=k0) (k1:=k1) (k2:=k2) (k3:=k3) (k5:=k5)
  W4 (mN:=mN) (T.hasType W4.hasBase) (I.ok.hd hc) rfl hni (QR I hg hm ⟨rfl,?_⟩ hdb)
 exact evalArgs_empty ⟨rfl,Vq _,I.bk _ _ hC,hN.keeps I.bk,T.keeps I.bk,λh' e mx=>hw pins Y H s h' e [] I mx h⟩
end
section
variable {X:Cx}{pins:List (Addr×Obj)}{Y:St}{H H':Hp}{s s':Shared}{e C':Addr}{dd:Option Addr}{B:Heap}{a0:Value}{x n y:Str}{j:Nat}{np pn pos:Pos}{Q:Flow->Shared->Prop}{E:Value->Shared->Prop}
noncomputable def Cx.hd(X:Cx)(v:Value):Cx:={X with A:=X.A.mark (some v),calm:=false}
theorem Inv.hd{v:Value}(I:Inv X pins Y H s):Inv (X.hd v) pins Y H s :=
 ⟨⟨I.ok.mod,I.ok.kind,I.ok.glob,I.ok.blt,I.ok.above,I.ok.inj,I.ok.has,I.ok.cab,(λz=>nomatch z),I.ok.frames,I.ok.stk,I.ok.exf,I.ok.bs,I.ok.bsz,I.ok.noex,I.ok.exfs,I.ok.funs,I.ok.frf⟩,I.os,I.bare,I.base,I.loc,I.cell,I.free,I.freeC,I.pin,I.hok,I.len⟩
def Inv.unhd{v:Value}(ok:X.Ok)(I:Inv (X.hd v) pins Y H s):Inv X pins Y H s:=⟨ok,I.os,I.bare,I.base,I.loc,I.cell,I.free,I.freeC,I.pin,I.hok,I.len⟩
structure Met(X:Cx)(pins:List (Addr×Obj))(Y:St)(H H':Hp)(s s':Shared)(e C:Addr)(dd:Option Addr)(B:Heap)(a0:Value):Prop where
 I:Inv X pins Y H s
 os:s'.os=s.os
 bare:AllBare s'.gens
 un:Un (frs X.stack) [] H H' s.heap s'.heap
 hok:HOk X.prog X.w H' s'.heap
 fl:Heap.FlyingW B X.stack e (.ref C) a0 s'.heap
 cv:Cov B H' s X.stack
 hn:H' e=none
 hs0:s.heap.get? e=none
 h00:X.s₀.heap.get? e=none
 da:DictAt s'.heap e dd
def Met.at(M:Met X pins Y H H' s s' e C dd B a0){h2:Heap}(f2:Heap.FlyingW B X.stack e (.ref C) a0 h2)(up:s'.heap.UpToSlots h2)(tk:Nat):Inv X pins Y H' {s' with heap:=h2,toks:=tk}:=by
 obtain⟨un2,hok2⟩:=QbC M.un M.hok M.I.stack M.I.stkFree M.fl.1 f2.1 up M.cv
 exact M.I.call' (s':={s' with heap:=h2,toks:=tk}) (ch:=[]) M.os un2 hok2 M.bare (λb z=>absurd z (by simp))
def QdP{h:Heap}{l:List Env}(f:Heap.FlyingW B l e (.ref C) a0 h)(d:DictAt h e dd):YF e C dd h:=by
 obtain⟨_,_,_,oe,vs,T,oT,ts,he,hc,hd,_⟩:=f;obtain⟨o,e1,e2,_⟩:=d;cases he.symm.trans e1;exact⟨oe,vs,he,hc.1,hd,e2⟩
def JT{nm:Option Str}(hst:X.stack=X.env::X.outer)(hf:X.env.frame=some X.env.locals)(M:Met X pins Y H H' s s' e C dd B a0)
  (hg:Gl X x) (hm:X.mg x=some (.ref C')) (hx:exmOne X.K (.ref C) (.ref C')=some true) (hdb:(x==("__debug__":Str))=false)
  (k:∀h₅,Heap.FlyingW B (X.env::X.outer) e (.ref C) a0 h₅->s'.heap.UpToSlots h₅->DictAt h₅ e dd->codeAny (model X.prog X.w) (X.A.mark (some (.ref e))) (.handlers (.ref e) [.ExceptHandler none nm body pos] X.env) (λr s₂=>match r with
     |.ok f=>(match nm with
      |none=>Q f s₂
      |some n=>wpAny (model X.prog X.w) X.A (do bindName X.env n .none;unbindBehindTheSuite X.env n pos) (λv s₃=>Q f s₃) E s₂)
     |.error y=>cameBackBy (model X.prog X.w) X.A X.env E y s₂) {s' with heap:=h₅}):
  wpAny (model X.prog X.w) X.A (noteFrame (.ref e) X.env) (λv s₂=>wpAny (model X.prog X.w) X.A (setFlight (.ref e) none) (λv s₃=>
   wpAny (model X.prog X.w) X.A (handleBy (.ref e) X.env [.ExceptHandler (some (.Name x np)) nm body pos]) Q E s₃) E s₂) E s':=by
 have fl:=M.fl;rw[hst]at fl;refine Xj (ZW (E:=λv v=>False) Qbj (wpAny_looks_onW (Q:=λv s''=>∃h₄,s''={s' with heap:=h₄}/\Heap.HeldW B (X.env::X.outer) e (.ref C) a0 X.env.locals h₄/\s'.heap.UpToSlots h₄) (hst▸M.I.ok.frames) hf fl λh₄ x y=>⟨h₄,rfl,x,y⟩)) (λv s4 u=>?_) λv v z=>z.1.elim;obtain⟨⟨h₄,e4,hl₄,up₄⟩,dk₄⟩:=u;subst e4;refine Xj (ZW (E:=λv v=>False) Zp (wpAny_landsW (s:={s' with heap:=h₄}) (Q:=λv s''=>∃h₅,s''={s' with heap:=h₅}/\Heap.FlyingW B (X.env::X.outer) e (.ref C) a0 h₅/\h₄.UpToSlots h₅) hl₄ λh₅ x y=>⟨h₅,rfl,x,y⟩)) (λv s5 t=>?_) λv v z=>z.1.elim;obtain⟨⟨h₅,e5,fl₅,up₅'⟩,dk₅⟩:=t;subst e5;have da₅:=(M.da.dk dk₄).dk dk₅;have up₅:=up₄.trans up₅';have J5:=M.at (hst▸fl₅) up₅ s'.toks
 refine wpAny_handleBy_cons (codeAny_handlers_test ?_) (by intro z;cases z)
 refine Uy M.I.ok.kind hg (Calls.loadGlobal_global (by rw[M.I.ok.glob];exact J5.mod.glob.keeps J5.bk) hm ?_) hdb
 refine(exm_one (M:=model X.prog X.w) J5.kIn (Y4 (QdP fl₅ da₅)) hx).here ?_;exact k h₅ fl₅ up₅ da₅
def Qib{b₀:Stmt}{W:St->Hp->Prop}(hst:X.stack=X.env::X.outer)(hf:X.env.frame=some X.env.locals)(M:Met X pins Y H H' s s' e C dd B a0)
  (hg:Gl X x) (hm:X.mg x=some (.ref C')) (hx:exmOne X.K (.ref C) (.ref C')=some true) (hdb:(x==("__debug__":Str))=false)
  (hS:∀s7,Inv (X.hd (.ref e)) pins Y H' s7->wpAny (model X.prog X.w) (X.hd (.ref e)).A (execs (b₀::body) X.env) (λf s8=>f=.next/\∃σ8 H8,Inv (X.hd (.ref e)) pins σ8 H8 s8/\W σ8 H8) (λv v=>False) s7)
  (k:∀σ8 H8 s'',W σ8 H8->Inv X pins σ8 H8 s''->Q .next s''):
  wpAny (model X.prog X.w) X.A (noteFrame (.ref e) X.env) (λv s₂=>wpAny (model X.prog X.w) X.A (setFlight (.ref e) none) (λv s₃=>
   wpAny (model X.prog X.w) X.A (handleBy (.ref e) X.env [.ExceptHandler (some (.Name x np)) none (b₀::body) pos]) Q E s₃) E s₂) E s':=by
 refine JT hst hf M hg hm hx hdb λh₅ fl₅ up₅ da₅=>?_;refine codeAny_handlers_suite ?_;refine Xj (ZW (E:=λv v=>False) Zp (lands_againW (s:={s' with heap:=h₅}) (Q:=λv s''=>∃h₆,s''={s' with heap:=h₆}/\Heap.FlyingW B (X.env::X.outer) e (.ref C) a0 h₆/\h₅.UpToSlots h₆) fl₅ λh₆ x y=>⟨h₆,rfl,x,y⟩)) (λv s6 u=>?_) λv v z=>z.1.elim;obtain⟨⟨h₆,e6,fl₆,up₆⟩,dk₆⟩:=u;subst e6;have da₆:=da₅.dk dk₆;have J6:=M.at (hst▸fl₆) (up₅.trans up₆) s'.toks;refine Xj (hS _ J6.hd) (λf s8 t=>?_) λv v z=>z.elim;obtain⟨ef,σ8,H8,J8,w⟩:=t;subst ef;exact k σ8 H8 s8 w (J8.unhd M.I.ok)
def Qid{b₀:Stmt}{W:St->Hp->Prop}(hst:X.stack=X.env::X.outer)(hf:X.env.frame=some X.env.locals)(hN:X.N.Nodup)(M:Met X pins Y H H' s s' e C dd B a0)
  (hg:Gl X x) (hm:X.mg x=some (.ref C')) (hx:exmOne X.K (.ref C) (.ref C')=some true) (hdb:(x==("__debug__":Str))=false)
  (hj:X.N[j]?=some n) (kn:X.env.scope.names.lookup n=some .local)
  (hS:∀s7,Inv (X.hd (.ref e)) pins (Y.set j (some (.ref e))) (upd H' e (QcC e C dd)) s7->wpAny (model X.prog X.w) (X.hd (.ref e)).A (execs (b₀::body) X.env) (λf s8=>f=.next/\∃σ8 H8,Inv (X.hd (.ref e)) pins σ8 H8 s8/\W σ8 H8) (λu u=>False) s7)
  (k:∀σ8 H8 s'',W σ8 H8->Inv X pins (σ8.set j none) H8 s''->Q .next s''):
  wpAny (model X.prog X.w) X.A (noteFrame (.ref e) X.env) (λu s₂=>wpAny (model X.prog X.w) X.A (setFlight (.ref e) none) (λu s₃=>
   wpAny (model X.prog X.w) X.A (handleBy (.ref e) X.env [.ExceptHandler (some (.Name x np)) (some n) (b₀::body) pos]) Q E s₃) E s₂) E s':=by
 refine JT hst hf M hg hm hx hdb λh₅ fl₅ up₅ da₅=>?_;refine codeAny_handlers_suite_as ?_;refine Xj (ZW (E:=λu u=>False) Zp (lands_againW (s:={s' with heap:=h₅}) (Q:=λu s''=>∃h₆,s''={s' with heap:=h₆}/\Heap.FlyingW B (X.env::X.outer) e (.ref C) a0 h₆/\h₅.UpToSlots h₆) fl₅ λh₆ x y=>⟨h₆,rfl,x,y⟩)) (λu s6 r=>?_) λu u z=>z.1.elim;obtain⟨⟨h₆,e6,fl₆,up₆⟩,dk₆⟩:=r;subst e6;have da₆:=da₅.dk dk₆;have J6:=M.at (hst▸fl₆) (up₅.trans up₆) s'.toks;have I:=M.I;have hs0:=M.hs0
 have cne:∀z c,X.env.cells.lookup z=some c->c≠e:=λz c q w=>by
  obtain⟨v,o,ho,_⟩:=I.cell z c q;rw[w,hs0]at ho;cases ho
 have hL:e≠X.env.locals:=λw=>by
  obtain⟨m,⟨o,_,_,ho,_⟩,_⟩:=I.loc;rw[<-w,hs0]at ho;cases ho
 have hp:∀p∈X.pn++pins,p.1≠e:=λp q w=>by
  have:=(I.pin p q).1;rw[w,hs0]at this;cases this
 have J6':Inv X pins Y (upd H' e (QcC e C dd)) {s' with heap:=h₆}:=J6.adopt M.hn M.h00 hL cne hp (QkH (QdP fl₆ da₆));refine JF (v:=.ref e) J6' hN hj (.inl kn) rfl (λs7 J7=>?_) (.inr kn);refine Xj (hS _ J7.hd) (λf s8 l=>?_) λu u z=>z.elim;obtain⟨ef,σ8,H8,J8,w⟩:=l;subst ef;have J8:=J8.unhd I.ok;obtain⟨m8,hn8,_⟩:=J8.loc
 refine wpAny_nameGoes_keeps kn hn8 (by rw[I.ok.kind];rfl) λh' v hv hs=>?_
 exact k σ8 H8 _ w (J8.gone (t:=s8.toks+1) hN hj kn hn8 hv hs)
end
end
section
structure FnOkH(P:Program)(w:World)(K:W.Frag)(mg:Str->Option Value)(base:Heap)(k:Nat)(f:Addr)(fd:FuncData)(ps:List Str)(sp:Sp):Prop where
 len:∀vs H Q E,sp vs H Q E->vs.length=ps.length
 run:∀(A:Around) (v:Value) (outer:List Env) (s:Shared) (H:Hp) (args:Args) (us:List Value) (vs:List V) (Q:VK) (E:XK),Room k A->Env0 P w K mg base A outer s H->BindsTo s fd args (ps.zip us)->Vals vs us->sp vs H Q E ->
  codeAny (model P w) (A.mark (some v)) (.call (.ref f) args) (CR CX0 outer P w H s Q E) s
def QkE{P:Program}{w:World}{K:W.Frag}{mg:Str->Option Value}{base:Heap}{k:Nat}{f:Addr}{name qual:Str}{params:Arguments}{body:List Stmt}{scope:Scope}{dV kV doc pm cdv ct oc:Value}{an od:Option Addr}
  {osl:Array (Option Value)} {N ps:List Str} {sp:Sp} (lk:K.lookup f=some ⟨oc,od,.func (W.fnOf name qual params body scope dV kV doc pm an cdv ct),osl⟩) (hcd:W.codeIn K cdv qual=true) (S:FnScope N ps scope)
  (len:∀vs H Q E,sp vs H Q E->vs.length=ps.length)
  (hbody:∀(A:Around) (v:Value) (outer:List Env) (s:Shared) (H:Hp) (vs:List V) (Q:VK) (E:XK),Room k (A.deeper (envOfC qual scope s.heap.objs.size f cdv))->sp vs H Q E ->
   ∃t,PSs ((QaJ CX0 P w K mg base N qual scope f cdv A outer s H E).hd v).nox body t/\t {nx:=λz H'=>Q .non H',rt:=Q} (start N vs) H):
  FnOkH P w K mg base (k+1) f (W.fnOf name qual params body scope dV kV doc pm an cdv ct) ps sp:=by
 refine⟨len,λA v outer s H args us vs Q E hr e0 hb r hsp=>?_⟩;have hl:=len _ _ _ _ hsp;have KX:K.In s.heap:=e0.mod.kin.keeps λb o e=>(e0.bs b o e).1;have lim:s.heap.NoLimit:=e0.mod.nolimit.keeps λb o e=>(e0.bs b o e).1
 have hkd:∀y∈ps.zip us,scope.names.lookup y.1=some .local\/(scope.names.lookup y.1=some .cell/\((cellsFrom (s.heap.objs.size+1) scope.names []).lookup y.1).isSome=true):=λ⟨n,u⟩ hy=>
  (S.par n (Tt hy).1).imp id λq=>⟨q,W.cellsFrom_some _ _ _ (.inl q)⟩
 refine codeAny_call_function (A:=A.mark (some v)) hr.depth (KX _ _ lk) rfl S.co S.gen rfl (W.codeRec_of KX hcd) (hb _ _ _ _ ?_);refine wpAny_newFunctionEnv_cells S.kind hkd λenv he s1 x=>?_;subst he;refine⟨lim.keeps x.toInCall.keep,codeAny_func ?_⟩;obtain⟨t,ht,hq⟩:=hbody A v outer s H vs Q E (hr.deeper _) hsp;have I:Inv (QaJ CX0 P w K mg base N qual scope f cdv A outer s H E) [] (start N vs) H s1:=QaD S hr.hd e0 hl r x;refine Xj (ht [] s1 (start N vs) H _ (I.hd.wish _) hq) (λfl s' hs=>?_) λe s' hs=>hs.elim
 have fin:∀{Y':St} {H':Hp} {y:V} {u:Value},Inv ((QaJ CX0 P w K mg base N qual scope f cdv A outer s H E).hd v).nox [] Y' H' s'->RelV y u->Q y H'->CE outer P w H s Q u s' :=
  λ{Y' H' y u} J ry q=>⟨y,H',J.os,J.bare,J.base,J.hok,ry,q⟩
 cases fl with
 |ret u=>
  obtain⟨y,Y',H',J,ry,q⟩:=hs;exact fin J ry q
 |next=>
  obtain⟨Y',H',J,q⟩:=hs;exact fin (y:=V.non) (u:=Value.none) J rfl q
 |brk=>
  obtain⟨_,_,_,q⟩:=hs;exact False.elim q
 |cont=>
  obtain⟨_,_,_,q⟩:=hs;exact False.elim q
end
section
section
open Builtin Builtin.ObjectAttr
end
end
end L2
namespace L2
open PySem PySem.Spec PySem.W PyProof.Rows PySem.Calls PySem.Builtin PySem.Builtin.ObjectAttr
section
variable {prog:Program}{w:World}{A:Around}{E:Value->Shared->Prop}{K:W.Frag}{h:Heap}{g:Array GenState}{d:Drawn}{t:Nat}{os:OsState}{a C dx:Addr}{name:Str}{v:Value}{mA:Str->Option Value}
def QhY{expr:Bool}{Q:Value->Shared->Prop}(Yyy:ErrCls K C)(X:K.In h)(hh:hasDictIn K C=true)(ha:findIn K (.ref C) name=some none)(p:YF a C (some dx) h)(hn:h.Ns1 dx mA)(hv:mA name=some v)(hv':handedIn v=true)
  (hq:Q v ⟨h,g,d,t+1,os⟩):wpAny (model prog w) A (getAttr (.ref a) name expr) Q E ⟨h,g,d,t,os⟩:=by
 obtain⟨od,ho,hl⟩:=Qav hn;have L0:=Y4 (M:=model prog w) p;have L1:=looks_findIn (M:=model prog w) X Yyy.ga;have L2:=looks_findIn (M:=model prog w) X Yyy.gh
 have J:∃ox,InstAt h a ox C (some od):=by
  obtain⟨o,vs,e1,e2,e3,e4⟩:=p
  exact⟨o,e1,e2,by unfold notCls;rw[e3],by rw[e4];exact ho⟩
 obtain⟨ox,J⟩:=J
 have LF:=looks_find (M:=model prog w) X J (findObj_own hh ha rfl (by rw[hl,hv]))
 unfold getAttr getAttrBy;refine Xa (wpAny_mkText (Wo (Xa (L0.at (Xa (L1.at ?_))))));dsimp only
 have hne:¬(onTheHeap (Value.ref C)&&Value.builtin "BaseException.__getattribute__"==Value.builtin "object.__getattribute__")=true:=by
  rw[show(Value.builtin "BaseException.__getattribute__"==Value.builtin "object.__getattribute__")=false from by decide +kernel]
  simp
 rw[if_neg hne];unfold getAttrByItsOwn hookBefore;refine Xa ?_;rw[if_pos (show onTheHeap (Value.ref C)=true from rfl)];refine L2.at ?_;refine Xa (Uz (Wo ?_));unfold callGetattribute
 rw[show(expr&&onTheHeap (Value.builtin "BaseException.__getattribute__"))=false from Bool.and_false _,if_neg (by decide)]
 have f3:=V5.ga.bind (.ref a);unfold boundAndCalled;refine Xa (wpAny_of_eq f3 ?_);refine Uc ?_;refine Uw V5.ga.plain PySem.F.entry_bexc_ga (QaI Yyy X p ?_);unfold Builtin.«object.__getattribute__»;refine Xa (Xl (Xa (Xl (Xa (L0.at (Xa (LF.at ?_)))))));show wpAny _ _ (ret v) _ _ _;refine Xl ?_;show wpAny _ _ (handedOut v) _ _ _;exact handed_on hv' hq
end
section
variable {X:Cx}{o e:Expr}{f:Str}{pos:Pos}{ta:TE}{pins:List (Addr×Obj)}{Y:St}{H:Hp}{s:Shared}
def QlR(K:W.Frag)(ta:TE)(f:Str):TE:=λY H Q=>ta Y H λx H1=>∃a C d od fs v,x=.ref a/\H1 a=some (QcC a C (some d))/\H1 d=some (.frz od (.xd fs))/\ErrCls K C/\hasDictIn K C=true/\findIn K (.ref C) f=some none/\fs.lookup f=some v/\Q v H1
def Qhe(he:PE X e ta)(hb:attributeBase e f X.env (eval e X.env)=eval e X.env):PE X (.Attribute e f pos) (QlR X.K ta f):=by
 intro pins s Y H Q I h;refine Qeh hb (thn (he pins s Y H _ I h) λu s1 z=>?_);obtain⟨x,H1,I1,rx,a,C,d,od,fs,v,ex,ea,ed,Yyy,hh,hf,l,q⟩:=z;subst ex;obtain rfl:u=Value.ref a:=rx;obtain⟨_,mA,hn,r⟩:=(show ObjOk X.prog X.w H1 s1.heap d (.frz od (.xd fs))from I1.hok d _ ed)
 obtain⟨u,hu,ru⟩:=RelO.some_of (v:=v) (o:=mA f) (by rw[<-l];exact r f)
 obtain⟨hp,g,dw,tk,os⟩:=s1;exact QhY Yyy I1.kIn hh hf (Qb0 I1 ea) hn hu (QaF ru) ⟨v,H1,I1.tok _,ru,q⟩
end
end L2
namespace L2
open PySem PySem.Spec PySem.W PyProof.Rows
section
variable {C:Addr}{Q:Flow->Shared->Prop}
section
variable {prog:Program}{w:World}{A:Around}{E:Value->Shared->Prop}{s:Shared}
def JW:entryFor table "proto.unchain"=some Builtin.«proto.unchain»:=entryFor_of_tree (by kernel_rfl)
def Qa6{α:Type}{e b:Addr}{ob oe:Obj}{vb ve:Array Value}{Q:α->Shared->Prop}(hh:A.handled=some (.ref b))(ne:b≠e)(hb:s.heap.get? b=some ob)(db:ob.data=.fields vb)(v2:vb[2]?=some .none)
  (he:s.heap.get? e=some oe) (de:oe.data=.fields ve) (sz:2<ve.size) (h:E (.ref e) {s with heap:=s.heap.update e (Obj.mapFields (·.setIfInBounds 2 (.ref b)))}):wpAny (model prog w) A (raiseNew (.ref e):Sem α) Q E s:=by
 unfold raiseNew;refine Xa (wpAny_handled ?_);rw[hh];dsimp only
 rw[if_pos (show(Value.ref b != Value.ref e)=true from by simp[ne])]
 refine Xa (Wo (wpAny_runValue (codeAny_builtin JW ?_)));show wpAny _ _ (Builtin.«proto.unchain» _) _ _ _;unfold Builtin.«proto.unchain»;dsimp only;refine Xa (Wv hb db v2 ?_);rw[if_pos (show(Value.none==Value.none)=true from rfl)];refine Xa (Xl ?_);exact Xl (Xa (show wpAny _ _ (setField (.ref e) 2 (.ref b)) _ _ _ from wpAny_setField he de sz (wpAny_throw h)))
def Qce{N b:Addr}{nm q:Str}{bs bm:List Value}{hdct:Bool}{sn:List Str}{sub:List Value}{ab:Bool}{col:Option Bool}{dd:Option Addr}{k0 k1 k2 k3 k5:Option Value}{newId:String}{env:Env}{x c:Sem Value}
  (hb:bm.contains (.type "BaseException")= true) (hh:A.handled=some (.ref b)) (hc:∀s,wpAny (model prog w) A c (λv s'=>v=.none/\s'=s) E s)
  (h:wpAny (model prog w) A x (λv s₁=>∃e t ob vb,v=.ref e/\b≠e/\s₁.heap.get? C=some (excClassObj nm q C N bs bm hdct sn sub ab col dd k0 k1 k2 k3 k5 newId) /\
   s₁.heap.get? e=some {cls:=.ref C,data:=.fields #[.ref t,.none,.none,.none,.bool false,.none]}/\s₁.heap.get? b=some ob/\ob.data=.fields vb/\vb[2]?=some .none /\
   ∀h',(∀a,a≠e->h'.get? a=s₁.heap.get? a)->h'.get? e=some {cls:=.ref C,data:=.fields #[.ref t,.none,.ref b,.none,.bool true,.none]}->E (.ref e) {s₁ with heap:=h'}) E s):
  wpAny (model prog w) A (raiseStmt env (some x) (some c)) Q E s:=by
 have cB:(Value.ref C::bm).contains (.type "BaseException")=true:=by rw[List.contains_cons,hb,Bool.or_true]
 unfold raiseStmt;refine Xa (Xj h (λv s₁ h₁=>?_) λy y x=>x);obtain⟨e,t,ob,vb,rfl,ne,hC,he,hbb,db,v2,hE⟩:=h₁;refine Xa (Wo (Xj (hc s₁) (λv s' u=>?_) λy y z=>z));obtain⟨e1,e2⟩:=u;subst e1 e2;refine Xa (Xl ?_);dsimp only;obtain⟨hp,g,d,tk,os⟩:=s'
 repeat (first|with_reducible refine Tc he ?_|with_reducible refine Tc hC ?_|(with_reducible refine wpAny_isSubtype_exc hC ?_;rw[cB])|wp_step)
 have nC:e≠C:=λz=>by
  subst z;rw[he]at hC;have:=congrArg (λo=>(Obj.data <$> o)) hC;simp[excClassObj]at this
 obtain⟨h2,e2⟩:∃h2,h2=(hp.update e (Obj.mapFields λx=>x.setIfInBounds 3 Value.none)).update e (Obj.mapFields λx=>x.setIfInBounds 4 (Value.bool true)):=⟨_,rfl⟩
 have other:∀a,a≠e->h2.get? a=hp.get? a:=λa na=>by rw[e2,V1 _ _ (Ww na),V1 _ _ (Ww na)]
 have he2:h2.get? e=some {cls:=.ref C,data:=.fields #[.ref t,.none,.none,.none,.bool true,.none]}:=by
  rw[e2];exact Vs _ (Vs _ he rfl) rfl
 have hC2:=(other C (Ww nC)).trans hC;rw[<-e2];show wpAny _ _ (loadPart C (some headPart)) _ _ _
 repeat (first|with_reducible refine Tc he2 ?_|with_reducible refine Tc hC2 ?_|(with_reducible refine wpAny_isSubtype_exc hC2 ?_;rw[cB])|with_reducible refine Wv he2 rfl rfl ?_|wp_step)
 exact Qa6 hh ne ((other b ne).trans hbb) db v2 he2 rfl (show 2<6 from by decide) (hE _ (λa na=>(V1 _ _ (Ww na)).trans (other a na)) (Vs _ he2 rfl))
variable {nm q:Str}{N b:Addr}{bs bm bmB:List Value}{hdct:Bool}{sn:List Str}{sub:List Value}{ab:Bool}{col:Option Bool}{dd:Option Addr}{k0 k1 k2 k3 k5:Option Value}{B newId initId:String}{env:Env}
def YV(F:ExcBaseFacts B newId initId bmB){mN:Str->Option Value}{x:Str}{np cpos pos cp:Pos}{kk:Nat}{args:List Expr}
  (hbase:bm.contains (.type "BaseException")=true) (hh:A.handled=some (.ref b)) (hplain:(backTo cpos (starEach args env)).any (·.1)=false) (hni:mN "__init__"=none)
  (h:wpAny (model prog w) A (eval (.Name x np) env) (λf s₁=>f=.ref C/\wpAny (model prog w) A (evalArgs (.ref C) true (backTo cpos (starEach args env)) [])
   (λa s₂=>a.kw=[]/\a.pos.length<=sizeLine/\s₂.heap.get? C=some (excClassObj nm q C N bs bm hdct sn sub ab col dd k0 k1 k2 k3 k5 newId)/\s₂.heap.Ns N mN/\OwnTail s₂.heap bmB bm /\
    (∃ob vb,s₂.heap.get? b=some ob/\ob.data=.fields vb/\vb[2]?=some .none) /\
    ∀h' e t,(∀a o,s₂.heap.get? a=some o->h'.get? a=some o)->s₂.heap.get? e=none->h'.get? e=some {cls:=.ref C,data:=.fields #[.ref t,.none,.ref b,.none,.bool true,.none]}->E (.ref e) {s₂ with heap:=h'}) E s₁) E s):
  wpAny (model prog w) A (exec (.Raise (some (.Call (.Name x np) args [] cpos)) (some (.Constant .none kk cp)) pos) env) Q E s:=by
 rw[arm_exec_Raise];refine Xa (V8 ?_);simp only[evalOpt,Option.map];refine Qce (C:=C) (nm:=nm) (q:=q) (N:=N) (bs:=bs) (bm:=bm) (hdct:=hdct) (sn:=sn) (sub:=sub) (ab:=ab) (col:=col) (dd:=dd) (k0:=k0) (k1:=k1) (k2:=k2) (k3:=k3) (k5:=k5) (newId:=newId) (b:=b) hbase hh (λs=>?_) ?_
 ·rw[arm_eval_Constant];unfold constValue;refine Xa (Xl (Xa (V8 (Xl ⟨rfl,rfl⟩))))
 ·refine Xa (Xj (wpAny_Call_ofName (Xj h (λf s₁ h₁=>?_) λy y x=>x)) (λv s₃ h₃=>Xa (V8 (Xl h₃))) λy y x=>x);obtain⟨rfl,h₁⟩:=h₁;unfold callWith;refine Xa (Wo (Xj h₁ (λa s₂ h₂=>Xa (V8 ?_)) λy y x=>x));obtain⟨apos,akw⟩:=a;obtain⟨hkw,hlen,hC,hn,T,⟨ob,vb,b1,b2,b3⟩,h₂⟩:=h₂;obtain rfl:akw=[]:=hkw;obtain⟨hp,g,d,tk,os⟩:=s₂;simp only[hplain];refine Xa (wpAny_keeperOf_exc hC ?_);refine Xa (wpAny_call_exc_subT (hrest:=hlen) F T hC hn hni λh' e hm=>Xa (Wo (wpAny_point (Xl ?_))));obtain⟨t,ht,_,_⟩:=hm.there
  have ne:b≠e:=λz=>by rw[z,hm.new]at b1;cases b1
  exact⟨e,t,ob,vb,rfl,ne,hm.keeps _ _ hC,ht,hm.keeps _ _ b1,b2,b3,λh'' o1 o2=>h₂ h'' e t (λa o q=>(o1 a (λz=>by rw[z,hm.new]at q;cases q)).trans (hm.keeps _ _ q)) hm.new o2⟩
end
section
variable {X:Cx}{pins:List (Addr×Obj)}{Y:St}{H H':Hp}{s s':Shared}{e C':Addr}{dd:Option Addr}{B:Heap}{a0:Value}{x:Str}{np pos:Pos}
def Qic{b₀:Stmt}{body:List Stmt}(hst:X.stack=X.env::X.outer)(hf:X.env.frame=some X.env.locals)(M:Met X pins Y H H' s s' e C dd B a0)
  (hg:Gl X x) (hm:X.mg x=some (.ref C')) (hx:exmOne X.K (.ref C) (.ref C')=some true) (hdb:(x==("__debug__":Str))=false)
  (hpa:∀v,PassesOwnAt (model X.prog X.w) (X.A.mark v) X.A X.env X.xe) (hc:chB (.ref C)=false)
  (hS:∀s7,Inv (X.hd (.ref e)) pins Y H' s7->(∃ob vb,s7.heap.get? e=some ob/\ob.data=.fields vb/\vb[2]?=some .none)->wpAny (model X.prog X.w) (X.hd (.ref e)).A (execs (b₀::body) X.env) Q X.xe s7):
  wpAny (model X.prog X.w) X.A (noteFrame (.ref e) X.env) (λu s₂=>wpAny (model X.prog X.w) X.A (setFlight (.ref e) none) (λu s₃=>
   wpAny (model X.prog X.w) X.A (handleBy (.ref e) X.env [.ExceptHandler (some (.Name x np)) none (b₀::body) pos]) Q X.xe s₃) X.xe s₂) X.xe s':=by
 refine JT hst hf M hg hm hx hdb λh₅ fl₅ up₅ da₅=>?_;refine codeAny_handlers_suite ?_;refine Xj (ZW (E:=λu u=>False) Zp (lands_againW (s:={s' with heap:=h₅}) (Q:=λu s''=>∃h₆,s''={s' with heap:=h₆}/\Heap.FlyingW B (X.env::X.outer) e (.ref C) a0 h₆/\h₅.UpToSlots h₆) fl₅ λh₆ x y=>⟨h₆,rfl,x,y⟩)) (λu s6 t=>?_) λu u z=>z.1.elim;obtain⟨⟨h₆,e6,fl₆,up₆⟩,dk₆⟩:=t;subst e6;have da₆:=da₅.dk dk₆;have J6:=M.at (hst▸fl₆) (up₅.trans up₆) s'.toks;refine Xj (hS _ J6.hd ?_) (λf s8 q=>q) (hpa _);obtain⟨o,vs,e1,e2,e3,_⟩:=QdP fl₆ da₆;obtain⟨o',e4,_,e5⟩:=da₆;cases e1.symm.trans e4;rw[e2,hc]at e5;refine⟨o,vs,e1,e3,?_⟩
 rcases e5 with e5|e5
 ·unfold cx2 at e5;rw[e3]at e5;exact e5
 ·cases e5
end
end
end L2
namespace L2
open PySem PySem.Spec PySem.W PyProof.Rows PySem.Calls PySem.Builtin
end L2
namespace L2
open PySem PySem.Spec PySem.W PyProof.Rows
end L2
namespace L2
open PySem
open Sem (wp)
open AutoSeq1 (wpAny_loadPart')
end L2
namespace L2
open PySem PySem.Spec PyProof.Rows
section
open Sem (wp)
section
variable {X:Cx}
noncomputable def Its(x:PySem.Str):It:=⟨λi z=>i<x.cps.size,λi H y H'=>H'=H/\∃c,x.cps[i]?=some c/\y=.str ⟨#[c]⟩,λi z=>x.cps.size<=i⟩
def Qet{P:Program}{w:World}{K:W.Frag}{tg:Expr}(x:PySem.Str)(tk:Tok)(it:Addr)(n:String)(hn:n="str_ascii_iterator"\/n="str_iterator"): Turn P w K tg (Its x) [it] it (λi h=>h.IsStrIter it n x tk i) where
 mem:=by simp
 obj:=λi h st b hb=>by
  have e:b=it:=by simpa using hb
  subst e;obtain⟨o,e,c,d⟩:=st
  exact⟨o,e,λv z=>by rw[d]at z;cases z⟩
 keep:=λi h h' st k=>by
  obtain⟨o,e,r⟩:=st
  exact⟨o,k it (by simp) o e,r⟩
 item:=by
  intro X hP hw hK hc i pins s Y H E I hf st hg;subst hP hw hK
  obtain⟨f0,f1,f2,f3,f4,f5⟩:=hf it (by simp)
  have hg:i<x.cps.size:=hg;have hx:x.cps[i]?=some x.cps[i]:=Array.getElem?_eq_getElem hg
  have fin:∀h',h'.IsStrIter it n x tk (i+1)->Heap.SameBut it s.heap h'->∃u,some (Value.str ⟨#[x.cps[i]]⟩ s.toks)=some u /\
    wpAny (model X.prog X.w) X.A (letOwnedTupleGo tg (.ref it) u) (λt s2=>∃y H',Inv X pins Y H' s2/\RelV y u/\(Its x).yld i H y H'/\s2.heap.IsStrIter it n x tk (i+1)/\∀b∈[it],H' b=none) E {s with heap:=h',toks:=s.toks+1}:=by
   intro h' st' sb;have I1:Inv X pins Y H {s with heap:=h',toks:=s.toks+1}:=I.turned (t':=s.toks+1) (λb o hb e=>(sb.2 b hb).trans e) f0 f1 f3 f4 f5;obtain⟨o,e,c,d⟩:=id st'
   exact⟨_,rfl,Qfi (s:={s with heap:=h',toks:=s.toks+1}) e c d (by rcases hn with rfl|rfl<;>decide) ⟨.str ⟨#[x.cps[i]]⟩,H,I1,⟨_,rfl⟩,⟨rfl,_,hx,rfl⟩,st',λb hb=>(hf b hb).1⟩⟩
  rcases hn with rfl|rfl
  ·exact wpAny_pyNext_ascii_item st hx fin
  ·exact wpAny_pyNext_wide_item st hx fin
 done:=by
  intro X hP hw hK hc i pins s Y H E I hf st hg;subst hP hw hK;have hg:x.cps.size<=i:=hg;have hx:x.cps[i]?=none:=Array.getElem?_eq_none hg
  obtain⟨f0,f1,f2,f3,f4,f5⟩:=hf it (by simp)
  rcases hn with rfl|rfl
  ·exact wpAny_pyNext_ascii_end (I.ok.hd hc) st hx λh' eb=>⟨rfl,I.turned (t':=s.toks) (λb o hb e=>eb b o hb e) f0 f1 f3 f4 f5⟩
  ·exact wpAny_pyNext_wide_end (I.ok.hd hc) st hx λh' eb=>⟨rfl,I.turned (t':=s.toks) (λb o hb e=>eb b o hb e) f0 f1 f3 f4 f5⟩
 self:=λt t t t t st h=>by
  rcases hn with rfl|rfl
  ·exact wpAny_pyIter_striter_ascii st h
  ·exact wpAny_pyIter_striter_wide st h
def QoL(te:TE):TI:=λY H R=>te Y H λx H1=>∃t,x=.str t/\R (Its t) H1
def QjF{tg e:Expr}{te:TE}(he:PE X e te):PI X tg e (QoL te):=by
 intro pins s Y H R I h;refine thn (he pins s Y H _ I h) λu s1 z=>?_;obtain⟨x,H1,I1,rx,q1⟩:=z;obtain⟨t,rfl,q⟩:=q1;obtain⟨tk,rfl⟩:=rx
 have fin:∀(n:String) (o:Obj),n="str_ascii_iterator"\/n="str_iterator"->o={cls:=.type n,data:=.fields #[.str t tk,.int 0 0]}->PIE X pins Y tg R (.ref s1.heap.objs.size) {s1 with heap:=s1.heap.push o}:= by
  intro n o hn ho;subst ho;refine⟨s1.heap.objs.size,[s1.heap.objs.size],_,_,H1,rfl,I1.kept (t':=s1.toks) λb o e=>Xd _ e,Qet t tk _ n hn,⟨_,X0 _ rfl,rfl,rfl⟩,λb hb=>?_,q⟩
  have e:b=s1.heap.objs.size:=by simpa using hb
  subst e;exact I1.fpOk (Xm _) (I1.hok.fresh (Xm _))
 cases ha:t.cps.all (· < 128)
 ·exact wpAny_pyIter_wide ha (fin _ _ (.inr rfl) rfl)
 ·exact wpAny_pyIter_ascii ha (fin _ _ (.inl rfl) rfl)
end
end
end L2
namespace Iv
open PySem
section
inductive U where
 |non|bl (b:Bool)|int (i:Int) (m:Nat)|str (x:List Nat)|ref (n:Nat)|con (k:Nat)|scr
 deriving DecidableEq,Inhabited
noncomputable abbrev Er:=Nat×U
inductive O where
 |lst (xs:List U)|tup (xs:List U)|ins (C:Nat) (fs:List (Nat×U))|dic (kvs:List (U×U))|dct (kvs:List (List U×U))|fzd (kvs:List (U×U))|fzt (kvs:List (List U×U))|err (c:Nat) (u:U)
 deriving DecidableEq,Inhabited
abbrev Hs:=List O
abbrev Rho:=List (Option U)
inductive Bi where
 |len|int|str|tuple|list|sum|any|all|max|min|abs|sorted|dict|dictS
 deriving DecidableEq,Inhabited
inductive Bm where
 |append|pop|clear|reverse|extend|setdef|get|update|join|split|find|insert|index|count|starts
 deriving DecidableEq,Inhabited
inductive Ty where
 |non|bool|int|str|list|tuple|dict|cls (c:Nat)|vale
 deriving DecidableEq,Inhabited
mutual
inductive E where
 |c (u:U)|var (i:Nat)|con (k:Nat)
 |op (o:Operator) (a b:E)|neg (a:E)|cmp (o:CmpOp) (a b:E)
 |and (a b:E)|or (a b:E)|not (a:E)|ife (t a b:E)
 |tup (es:List E)|lst (es:List E)|dis (kvs:List (U×U)) (b:E)
 |ix (a b:E)|tab (k:Nat) (b:E)|sl (a:E) (lo hi:Option E)|rev (a:E)|tupR (es:List E)|lstR (es:List E)
 |fld (a:E) (f:Nat)
 |call (f:Nat) (es:List E)|meth (m:Nat) (o:E) (es:List E)|make (k:Nat) (es:List E)
 |bi (b:Bi) (es:List E)|isi (a:E) (t:Ty)|bm (b:Bm) (o:E) (es:List E)
 |comp (s:Src) (b:Bool) (t:Option E) (el:E)|dnew|dnewT|zap (e:E)|isiT (i:Nat) (cs:List Nat)|isiS (i:Nat)|dsp (ks:List U) (es:List E)|thw (a e:E)|chain (o o':CmpOp) (a b c:E)|maxd (a b:E)
inductive Src where
 |seq (e:E)|rng (a:E)|rng2 (a b:E)|rngA (es:List E)|zip (a b:E)|revd (e:E)|enm (e:E)|rngR (a:E)|key (e:E)
inductive Tg where
 |name (i:Nat)|pair (i j:Nat)
end
inductive EX where
 |no|call (f:Nat) (es:List E)|arg (e:E) (x:EX)|alt (x y:EX)|ife (t:E) (x y:EX)|comp (s:Src) (b:Bool) (el:E) (x:EX)|tryR (f:Nat) (es:List E) (c d:Nat) (bs:List E)
inductive S where
 |pass|expr (e:E)|set (i:Nat) (e:E)|fld (o:E) (f:Nat) (e:E)|ret (e:E)|retN
 |ite (t:E) (a b:List S)|loop (t:Tg) (s:Src) (body:List S)|loopC (i:Nat) (e:E) (body:List S)|loopK (i:Nat) (e:E) (body:List S)|loopD (i:Nat) (e:E) (body:List S)|while (t:E) (body:List S)
 |brk|cont
 |aug (i:Nat) (o:Operator) (e:E)|bad
 |put (o i e:E)|unp (i j:Nat) (e:E)|par (i j:Nat) (a b:E)|unpN (is:List Nat) (e:E)
 |tryN (body:List S)|loopZ (is:List Nat) (es:List E) (body:List S)
 |rse (c:Nat) (es:List E)|tryS (j:Option Nat) (f:Nat) (es:List E) (c:Nat) (body:List S)|cal (n:S) (f:Nat) (es:List E)|xal (n:S) (x:EX)
inductive Fl where
 |next|brk|cont|ret (u:U)
structure Fn where
 name:Str
 qual:Str
 st:Stmt
 ps:List Str
 N:List Str
 np:Nat
 nN:Nat
 lc:Bool
 body:List S
structure Cl where
 name:Str
 init:Option Nat
 meths:List (Nat×Nat)
 subs:List Nat
inductive Co where
 |tup (xs:List U)|lst (xs:List U)|tab (kvs:List (U×U))
 deriving Inhabited
structure Df where
 ps:List Str
 np:Nat
 last:Str
 ds:List U
structure Tbl where
 fns:List Fn
 cls:List Cl
 cons:List Co
 fns':List Str
 mns:List Str
 scr:List U
 isi:List ((Ty×Ty)×Bool)
 dfl:List (Nat×Df)
 dts:List Str:=[]
 zps:List Str:=[]
 ld:Bool:=false
 ers:List Nat:=[]
 esb:List (Nat×Nat):=[]
 pss:List Nat:=[]
 efl:List (Nat×Nat):=[]
 dks:List Str:=[]
 efi:List Nat:=[]
 xl:Bool:=false
 hfs:List Nat:=[]
 chs:List Nat:=[]
 xf:Nat->List U->Hs->Option (Er×Hs):=λ_ _ _=>none
noncomputable def bd{α β:Type}(o:Option (α×Hs))(f:α->Hs->Option β):Option β:=match o with
 |none=>none
 |some (a,h)=>f a h
def Qb{α β:Type}{o:Option (α×Hs)}{f:α->Hs->Option β}{r:β}(h:bd o f=some r):∃a h',o=some (a,h')/\f a h'=some r:=by
 unfold bd at h
 cases o with
 |none=>cases h
 |some p=>exact⟨p.1,p.2,rfl,h⟩
noncomputable def gz:Nat->Nat->Nat
 |0,n=>n
 |m+1,n=>Nat.gcd (m+1) n
noncomputable def Qy(i:Int):Bool:=decide (-(2 ^ 64) < i)&&decide (i<2 ^ 64)
noncomputable def Qef(i:Int):Bool:=decide (i.natAbs<2 ^ 4096)
noncomputable def Qno:U->U->Option U
 |.int i m,.int j n=>some (.int (i-j) (gz m n))
 |_,_=>none
noncomputable def Qj8:U->U->Option U
 |.int i 0,.int j 0=>if Qy i||Qy j||(Qef i&&Qef j)then some (.int (i*j) 0)else none
 |.int i (m+1),.int j 0=>if Qy j then some (.int (i*j) ((m+1)*j.natAbs))else none
 |_,_=>none
noncomputable def QkM:U->U->Option U
 |.int i 0,.int j 0=>if 0<j&&decide (j<1606938044258990275541962092341162602522202993782792835301376)then some (.int (i / j) 0)else none
 |.int i (m+1),.int j 0=>if 0<j&&decide (j<1606938044258990275541962092341162602522202993782792835301376)&&decide ((m+1) % j.toNat=0)then some (.int (i / j) ((m+1) / j.toNat))else none
 |_,_=>none
noncomputable def Qj9:U->U->Option U
 |.int i 0,.int j 0=>if 0<j then some (.int (i % j) 0)else none
 |.int i (m+1),.int j 0=>if 0<j&&decide ((m+1) % j.toNat=0)then some (.int (i % j) 0)else none
 |_,_=>none
noncomputable def Qlm:U->U->Option U
 |.int i 0,.int j 0=>if 0<=j&&decide (j<=1000)&&Qy i then some (.int (i ^ j.toNat) 0)else none
 |_,_=>none
noncomputable def Qm3(a b:Nat)(x y:O)(hs:Hs):Option (U×Hs):=match x,y with
 |.lst xs,.lst ys=>if xs.length+ys.length<=1000000 then some (.ref hs.length,hs++[.lst (xs++ys)])else none
 |_,_=>none
noncomputable def ZX(u w:U)(hs:Hs):Option (U×Hs):=match u,w with
 |.int i m,.int j n=>some (.int (i+j) (gz m n),hs)
 |.str x,.str y=>if x.length+y.length<=1000000 then some (.str (x++y),hs)else none
 |.ref a,.ref b=>match hs[a]?,hs[b]? with
  |some x,some y=>Qm3 a b x y hs
  |_,_=>none
 |_,_=>none
noncomputable def Qnt(a:Nat)(w:U)(hs:Hs):Option (U×Hs):=match hs[a]?,w with
 |some (.lst xs),.int k 0=>if -9223372036854775808<=k/\k<9223372036854775808/\xs.length*k.toNat<=1000000 then some (.ref hs.length,hs++[.lst (List.replicate k.toNat xs).flatten])else none
 |_,_=>none
noncomputable def opU(o:Operator)(u w:U)(hs:Hs):Option (U×Hs):=match o with
 |.Add=>ZX u w hs
 |.Sub=>(Qno u w).map λr=>(r,hs)
 |.Mult=>(match u with
  |.ref a=>Qnt a w hs
  |u=>(Qj8 u w).map λr=>(r,hs))
 |.FloorDiv=>(QkM u w).map λr=>(r,hs)
 |.Mod=>(Qj9 u w).map λr=>(r,hs)
 |.Pow=>(Qlm u w).map λr=>(r,hs)
 |_=>none
noncomputable def eqS:U->U->Option Bool
 |.int i 0,.int j 0=>some (decide (i=j))
 |.str x,.str y=>some (decide (x=y))
 |.bl a,.bl b=>some (decide (a=b))
 |.non,.non=>some true
 |.non,.int _ _=>some false|.int _ _,.non=>some false|.non,.bl _=>some false|.bl _,.non=>some false|.non,.str _=>some false|.str _,.non=>some false
 |.int _ _,.str _=>some false|.str _,.int _ _=>some false|.bl _,.str _=>some false|.str _,.bl _=>some false
 |_,_=>none
noncomputable def ZN(T:Tbl)(u:U)(hs:Hs):Option (List U):=match u with
 |.ref n=>match hs[n]? with
  |some (.lst xs)=>some xs
  |some (.tup xs)=>some xs
  |_=>none
 |.con k=>match T.cons[k]? with
  |some (.lst xs)=>some xs
  |some (.tup xs)=>some xs
  |_=>none
 |.scr=>some T.scr
 |_=>none
noncomputable def QaH:U->Bool
 |.int _ 0=>true
 |.str _=>true
 |.non=>true
 |.bl _=>true
 |_=>false
noncomputable def eqF:U->U->Bool
 |.int i _,.int j _=>decide (i=j)
 |.str x,.str y=>decide (x=y)
 |.non,.non=>true
 |.bl a,.bl b=>a==b
 |.bl a,.int j _=>(if a then 1 else 0)==j
 |.int i _,.bl b=>i==(if b then 1 else 0)
 |_,_=>false
noncomputable def inU(x:U)(ys:List U):Option Bool:=if QaH x&&ys.all QaH then some (ys.any λy=>eqF y x)else none
noncomputable def Q2(T:Tbl)(u:U)(hs:Hs):Option (List U):=match u with
 |.ref n=>match hs[n]? with
  |some (.lst xs)=>some xs
  |_=>none
 |.con k=>match T.cons[k]? with
  |some (.lst xs)=>some xs
  |_=>none
 |.scr=>some T.scr
 |_=>none
noncomputable def ZZ(T:Tbl)(u:U)(hs:Hs):Option (List U):=match u with
 |.ref n=>match hs[n]? with
  |some (.tup xs)=>some xs
  |_=>none
 |.con k=>match T.cons[k]? with
  |some (.tup xs)=>some xs
  |_=>none
 |_=>none
noncomputable def okW(T:Tbl):Nat->U->Hs->Bool
 |0,_,_=>false
 |n+1,u,hs=>match Q2 T u hs with
  |some xs=>xs.all λx=>okW T n x hs
  |none=>match ZZ T u hs with
   |some xs=>xs.all λx=>okW T n x hs
   |none=>match u with
    |.non=>true
    |.bl _=>true
    |.int _ m=>m==0
    |.str x=>x.all λc=>decide (c<128)
    |_=>false
noncomputable def eqB:U->U->Bool
 |.non,.non=>true
 |.bl a,.bl b=>a==b
 |.bl a,.int j _=>(if a then 1 else 0)==j
 |.int i _,.bl b=>i==(if b then 1 else 0)
 |.int i _,.int j _=>i==j
 |.str x,.str y=>x==y
 |_,_=>false
noncomputable def eqW(T:Tbl):Nat->U->U->Hs->Bool
 |0,_,_,_=>false
 |n+1,u,w,hs=>match Q2 T u hs with
  |some xs=>(match Q2 T w hs with
   |some ys=>(xs.length==ys.length)&&(xs.zip ys).all λp=>eqW T n p.1 p.2 hs
   |none=>false)
  |none=>match ZZ T u hs with
   |some xs=>(match Q2 T w hs with
    |some _=>false
    |none=>match ZZ T w hs with
     |some ys=>(xs.length==ys.length)&&(xs.zip ys).all λp=>eqW T n p.1 p.2 hs
     |none=>false)
   |none=>(match Q2 T w hs with
    |some _=>false
    |none=>match ZZ T w hs with
     |some _=>false
     |none=>eqB u w)
noncomputable def Qax(T:Tbl)(u w:U)(hs:Hs):Bool:=match Q2 T u hs,Q2 T w hs with
 |some xs,some ys=>decide (xs.length≠ys.length)
 |_,_=>false
noncomputable def Qc0(T:Tbl)(u w:U)(hs:Hs):Bool:=match Q2 T u hs,Q2 T w hs with
 |some xs,some ys=>decide (xs=ys)&&xs.all λx=>match x with|.ref _=>true|_=>false
 |_,_=>false
noncomputable def eqA(T:Tbl)(u w:U)(hs:Hs):Option Bool:=match eqS u w with
 |some b=>some b
 |none=>if Qax T u w hs=true then some false else if Qc0 T u w hs=true then some true else if okW T 20 u hs&&okW T 20 w hs then some (eqW T 20 u w hs)else none
noncomputable def Qbg(kvs:List (U×U))(k:U):Option U:=match kvs with
 |[]=>none
 | (x,v)::r=>if x=k then some v else Qbg r k
noncomputable def Qlp:U->Bool
 |.int _ 0=>true
 |.str _=>true
 |_=>false
noncomputable def Qlh(T:Tbl)(w u:U):Option Bool:=match w with
 |.con k=>(match T.cons[k]? with
  |some (.tab kvs)=>if Qlp u=true then some (Qbg kvs u).isSome else none
  |_=>none)
 |_=>none
noncomputable def QhO:List U->Option (List Int)
 |[]=>some []
 |.int i 0::r=>(QhO r).map (i::·)
 |_=>none
noncomputable def itU(hs:Hs)(u:U):Option (List Int):=match u with
 |.ref m=>(match hs[m]? with
  |some (.tup (k::ks))=>QhO (k::ks)
  |_=>none)
 |_=>none
noncomputable def QoH(hs:Hs):List U->Option (List (List Int))
 |[]=>some []
 |u::us=>(itU hs u).bind λk=>(QoH hs us).map λks=>k::ks
noncomputable def isU(u w:U):Option Bool:=match w with
 |.non=>some (decide (u=.non))
 |.bl b=>(match u with
  |.bl a=>some (a==b)
  |_=>none)
 |_=>none
noncomputable def Zg(T:Tbl)(o:CmpOp)(u w:U)(hs:Hs):Option Bool:=match o with
 |.Eq=>eqA T u w hs
 |.NotEq=>(eqA T u w hs).map (!·)
 |.Lt=>match u,w with|.int i 0,.int j 0=>some (decide (i<j))|_,_=>none
 |.LtE=>match u,w with|.int i 0,.int j 0=>some (decide (i<=j))|_,_=>none
 |.Gt=>match u,w with|.int i 0,.int j 0=>some (decide (j<i))|_,_=>none
 |.GtE=>match u,w with|.int i 0,.int j 0=>some (decide (j<=i))|_,_=>none
 |.In=>match ZN T w hs with|some xs=>inU u xs|none=>Qlh T w u
 |.NotIn=>match ZN T w hs with|some xs=>(inU u xs).map (!·)|none=>(Qlh T w u).map (!·)
 |.Is=>isU u w
 |.IsNot=>(isU u w).map (!·)
noncomputable def Zl(T:Tbl)(u:U)(hs:Hs):Option Bool:=match u with
 |.non=>some false
 |.bl b=>some b
 |.int i 0=>some (decide (i≠0))
 |.str x=>if x.length<=1000000 then some (!x.isEmpty)else none
 |u=>(ZN T u hs).map λxs=>!xs.isEmpty
noncomputable def ixU(n:Nat)(i:Int):Option Nat:=if 0<=i then(if i<n then some i.toNat else none)else if -(n:Int)<=i then some (i+n).toNat else none
noncomputable def atU{α:Type}(xs:List α)(i:Int):Option α:=match ixU xs.length i with
 |some j=>xs[j]?
 |none=>none
noncomputable def Q5(T:Tbl)(u w:U)(hs:Hs):Option U:=match u,w with
 |.str x,.int i 0=>if x.length<=1000000 then(atU x i).map λc=>.str [c]else none
 |.ref n,w=>match hs[n]?,w with
  |some (.lst xs),.int i 0=>atU xs i
  |some (.tup xs),.int i 0=>atU xs i
  |_,_=>none
 |u,.int i 0=>match ZN T u hs with
  |some xs=>atU xs i
  |none=>none
 |_,_=>none
noncomputable def Qez(T:Tbl)(k:Nat)(w:U):Option U:=match T.cons[k]? with
 |some (.tab kvs)=>if Qlp w then Qbg kvs w else none
 |_=>none
noncomputable def ZL(n d:Nat):Option Int->Nat
 |none=>d
 |some v=>if v<0 then(v+(n:Int)).toNat else min v.toNat n
noncomputable def Y5{α:Type}(xs:List α)(lo hi:Option Int):List α:=(xs.drop (ZL xs.length 0 lo)).take (ZL xs.length xs.length hi-ZL xs.length 0 lo)
noncomputable def slU(T:Tbl)(u:U)(lo hi:Option Int)(hs:Hs):Option (U×Hs):=match u with
 |.scr=>some (.ref hs.length,hs++[.lst (Y5 T.scr lo hi)])
 |.ref n=>match hs[n]? with
  |some (.lst xs)=>some (.ref hs.length,hs++[.lst (Y5 xs lo hi)])
  |_=>none
 |.str x=>if x.length<=1000000 then some (.str (Y5 x lo hi),hs)else none
 |_=>none
noncomputable def Jw(n:Nat):List Nat:=(Nat.toDigits 10 n).map Char.toNat
noncomputable def Qls(x:List Nat):Bool:=x.all (λc=>decide (48<=c)&&decide (c<=57))&&!x.isEmpty&&decide (x.length<=640)
noncomputable def Jk(x:List Nat):Nat:=x.foldl (λacc c=>acc*10+(c-48)) 0
noncomputable def Ja:List U->Option (List Bool)
 |[]=>some []
 |.bl b::r=>(Ja r).map (b::·)
 |_=>none
noncomputable def QnD:List Int->Int->Int
 |[],z=>z
 |a::r,z=>QnD r (if a>z then a else z)
noncomputable def QoF:List Int->Option Int
 |[]=>none
 |z::r=>some (QnD r z)
noncomputable def Qok(ks:List (List Int))(xs:List U):List U:=(L2.permK ks xs.length).map λi=>xs.getD i .non
noncomputable def biL(T:Tbl)(b:Bi)(us:List U)(hs:Hs):Option (U×Hs):=match b,us with
 |.all,[u]=>(Q2 T u hs).bind λxs=>(Ja xs).map λbs=>(.bl (bs.all id),hs)
 |_,_=>none
noncomputable def biU(T:Tbl)(b:Bi)(us:List U)(hs:Hs):Option (U×Hs):=match b,us with
 |.len,[.str x]=>if x.length<=1000000 then some (.int x.length 0,hs)else none
 |.len,[u]=>match ZN T u hs with
  |some xs=>some (.int xs.length 0,hs)
  |none=>none
 |.int,[.int i m]=>some (.int i m,hs)
 |.int,[.bl b]=>some (.int (if b then 1 else 0) 0,hs)
 |.int,[.str x]=>if Qls x then some (.int (Jk x:Nat) 0,hs)else none
 |.str,[.int i 0]=>if 0<=i&&decide (i.natAbs.log2<1920)then some (.str (Jw i.toNat),hs)else none
 |.tuple,[.ref n]=>match hs[n]? with
  |some (.lst xs)=>some (.ref hs.length,hs++[.tup xs])
  |some (.tup _)=>some (.ref n,hs)
  |_=>none
 |.list,[u]=>match ZN T u hs with
  |some xs=>some (.ref hs.length,hs++[.lst xs])
  |none=>none
 |.len,_=>none
 |.int,_=>none
 |.str,_=>none
 |.tuple,_=>none
 |.list,_=>none
 |b,us=>biL T b us hs
noncomputable def YD(u:U)(hs:Hs):Option Ty:=match u with
 |.non=>some .non
 |.bl _=>some .bool
 |.int _ _=>some .int
 |.str _=>some .str
 |.ref n=>match hs[n]? with
  |some (.lst _)=>some .list
  |some (.tup _)=>some .tuple
  |some (.dic _)=>some .dict
  |some (.ins c _)=>some (.cls c)
  |some (.err c _)=>some (.cls c)
  |_=>none
 |_=>none
noncomputable def QmI(k t:Ty):Option Bool:=match k,t with
 |.cls _,_=>none
 |_,.cls _=>none
 |.bool,.int=>some true
 |k,t=>some (decide (k=t))
noncomputable def YE(T:Tbl)(u:U)(hs:Hs):Option Ty:=match u with
 |.con n=>(match T.cons[n]? with
  |some (.tup _)=>some .tuple
  |_=>none)
 |u=>YD u hs
noncomputable def Z4(T:Tbl)(t:Ty)(u:U)(hs:Hs):Option Bool:=match YE T u hs with
 |none=>none
 |some k=>match QmI k t with
  |some b=>some b
  |none=>T.isi.lookup (k,t)
noncomputable def Qa1:List U->Option (List (List Nat))
 |[]=>some []
 |.str x::r=>(Qa1 r).map (x::·)
 |_=>none
noncomputable def bmL(T:Tbl)(b:Bm)(n:Nat)(xs:List U)(us:List U)(hs:Hs):Option (U×Hs):=match b,us with
 |.append,[u]=>if xs.length<1000000 then some (.non,hs.set n (.lst (xs++[u])))else none
 |.reverse,[]=>some (.non,hs.set n (.lst xs.reverse))
 |.count,[w]=>if(xs.all λx=>okW T 20 x hs)&&okW T 20 w hs then some (.int (xs.countP λx=>eqW T 20 x w hs:Nat) 0,hs)else none
 |_,_=>none
noncomputable def bmS(T:Tbl)(b:Bm)(x:List Nat)(us:List U)(hs:Hs):Option (U×Hs):=match b,us with
 |.join,[w]=>match Q2 T w hs with
  |some ys=>match Qa1 ys with
   |some ts=>if ts.length*x.length+(ts.map List.length).sum<=1000000 then some (.str (ZI x ts),hs)else none
   |none=>none
  |none=>none
 |.split,[.str [c]]=>if x.length<=1000000 then some (.ref hs.length,hs++[.lst ((Qx c x).map .str)])else none
 |.starts,[.str y]=>some (.bl (PySem.Txt.startswith ⟨x.toArray⟩ ⟨y.toArray⟩),hs)
 |_,_=>none
noncomputable def bmD(b:Bm)(n:Nat)(kvs:List (U×U))(us:List U)(hs:Hs):Option (U×Hs):=none
noncomputable def bmU(T:Tbl)(b:Bm)(o:U)(us:List U)(hs:Hs):Option (U×Hs):=match o with
 |.ref n=>match hs[n]? with
  |some (.lst xs)=>bmL T b n xs us hs
  |some (.dic kvs)=>bmD b n kvs us hs
  |_=>none
 |.str x=>bmS T b x us hs
 |_=>none
noncomputable def bL:Bm->Bool
 |.setdef=>false|.get=>false|.update=>false|.join=>false|.split=>false|.find=>false|.index=>false|.starts=>false|_=>true
noncomputable def bS:Bm->Bool
 |.join=>true|.split=>true|.find=>true|.index=>true|.starts=>true|_=>false
noncomputable def bD:Bm->Bool
 |.setdef=>true|.get=>true|.update=>true|_=>false
noncomputable def QcA(b:Bm)(u:U)(hs:Hs):Bool:=match u with
 |.ref n=>match hs[n]? with
  |some (.lst _)=>bL b
  |some (.dic _)=>bD b
  |_=>false
 |.str _=>bS b
 |_=>false
noncomputable def QcB(f:Nat)(u:U):List (Nat×U)->List (Nat×U)
 |[]=>[(f,u)]
 | (g,x)::r=>if g=f then(g,u)::r else(g,x)::QcB f u r
inductive Wk where
 |seqL (u:U)|seqT (u:U)|rng (lo:Int) (n:Nat)|zipB (b c:Bool) (x y:U)|revL (u:U) (n:Nat)|rngC (lo c:Int) (n:Nat)|enmL (u:U)|strW (x:List Nat)|keyD (n:Nat)
inductive Im where
 |one (u:U)|two (u w:U)
noncomputable def sqU(T:Tbl)(b:Bool)(u:U)(hs:Hs):Option (List U):=if b then Q2 T u hs else ZZ T u hs
noncomputable def two(xs ys:List U)(i:Nat):Option Im:=match xs[i]?,ys[i]? with
 |some x,some y=>some (.two x y)
 |_,_=>none
noncomputable def itm(T:Tbl)(k:Wk)(i:Nat)(hs:Hs):Option (Option Im):=match k with
 |.seqL u=>(Q2 T u hs).map λxs=>(xs[i]?).map .one
 |.seqT u=>(ZZ T u hs).map λxs=>(xs[i]?).map .one
 |.rng lo n=>some (if i<n then some (.one (.int (lo+i) 0))else none)
 |.zipB b c x y=>match sqU T b x hs,sqU T c y hs with
  |some xs,some ys=>some (two xs ys i)
  |_,_=>none
 |.revL _ _=>none
 |.rngC _ _ _=>none
 |.enmL _=>none
 |.strW x=>some ((x[i]?).map λc=>.one (.str [c]))
 |.keyD _=>none
noncomputable def Qot(a b c:Int):Nat:=if a<b then((b-a-1) / c+1).toNat else 0
noncomputable def Zs(T:Tbl)(k:Wk)(hs:Hs):Nat:=match k with
 |.seqL u=>((Q2 T u hs).getD []).length+1
 |.seqT u=>((ZZ T u hs).getD []).length+1
 |.rng _ n=>n+1
 |.zipB b _ x _=>((sqU T b x hs).getD []).length+1
 |.revL _ _=>0
 |.rngC _ _ _=>0
 |.enmL _=>0
 |.strW x=>x.length+1
 |.keyD _=>0
noncomputable def tgt(t:Tg)(x:Im)(Z:Rho)(hs:Hs):Option Rho:=match t,x with
 |.name i,.one u=>some (Z.set i (some u))
 |.pair i j,.two u w=>some ((Z.set i (some u)).set j (some w))
 |.pair i j,.one (.ref n)=>match hs[n]? with
  |some (.tup [u,w])=>some ((Z.set i (some u)).set j (some w))
  |_=>none
 |_,_=>none
abbrev Cf:=Nat->List U->Hs->Option (U×Hs)
abbrev Ev:=E->Rho->Hs->Option (U×Hs)
noncomputable def evs(f:Ev)(Z:Rho):List E->Hs->Option (List U×Hs)
 |[],hs=>some ([],hs)
 |e::es,hs=>bd (f e Z hs) λu h1=>bd (evs f Z es h1) λus h2=>some (u::us,h2)
noncomputable def evO(f:Ev)(Z:Rho):Option E->Hs->Option (Option Int×Hs)
 |none,hs=>some (none,hs)
 |some e,hs=>bd (f e Z hs) λu h1=>match u with|.int i 0=>some (some i,h1)|_=>none
noncomputable def wkS(T:Tbl)(u:U)(hs:Hs):Option Wk:=match Q2 T u hs with
 |some _=>some (.seqL u)
 |none=>match ZZ T u hs with
  |some _=>some (.seqT u)
  |none=>match u with
   |.str x=>some (.strW x)
   |_=>none
noncomputable def wkZ(T:Tbl)(u w:U)(hs:Hs):Option Wk :=
 let b:=(Q2 T u hs).isSome;let c:=(Q2 T w hs).isSome
 if(sqU T b u hs).isSome&&(sqU T c w hs).isSome then some (.zipB b c u w)else none
noncomputable def Zy(T:Tbl)(f:Ev)(Z:Rho):Src->Hs->Option (Wk×Hs)
 |.seq e,hs=>bd (f e Z hs) λu h1=>(wkS T u h1).map λk=>(k,h1)
 |.rng a,hs=>bd (f a Z hs) λu h1=>match u with|.int i 0=>if Qy (i*4)then some (.rng 0 i.toNat,h1)else none|_=>none
 |.rng2 a b,hs=>bd (f a Z hs) λu h1=>bd (f b Z h1) λw h2=>match u,w with|.int i 0,.int j 0=>if Qy (i*4)&&Qy (j*4)then some (.rng i (j-i).toNat,h2)else none|_,_=>none
 |.rngA _,_=>none
 |.zip a b,hs=>bd (f a Z hs) λu h1=>bd (f b Z h1) λw h2=>(wkZ T u w h2).map λk=>(k,h2)
 |.revd _,_=>none
 |.enm _,_=>none
 |.rngR _,_=>none
 |.key _,_=>none
noncomputable def Qf0(T:Tbl)(f n:Nat):List U:=match T.dfl.lookup f with
 |none=>[]
 |some D=>D.ds.drop (D.ds.length-(D.np-n))
noncomputable def Z1(T:Tbl)(cf:Cf)(c:Nat)(us:List U)(hs:Hs):Option (U×Hs):=match T.cls[c]? with
 |none=>none
 |some C=>match C.init with
  |none=>if us=[]then some (.ref hs.length,hs++[.ins c []])else none
  |some f=>match cf f (.ref hs.length::(us++Qf0 T f (us.length+1))) (hs++[.ins c []])with
   |some (.non,h2)=>some (.ref hs.length,h2)
   |_=>none
noncomputable def Qau(T:Tbl)(m:Nat)(o:U)(hs:Hs):Option Nat:=match o with
 |.ref n=>match hs[n]? with
  |some (.ins c _)=>match T.cls[c]? with
   |some C=>C.meths.lookup m
   |none=>none
  |_=>none
 |_=>none
noncomputable def tgN(b:Bool)(n:Nat):Tg:=if b then .pair n (n+1)else .name n
noncomputable def Qcf(b:Bool):Rho:=if b then [none,none]else [none]
noncomputable def ZU(T:Tbl)(f:Ev)(ft:Rho->Hs->Option (Bool×Hs))(w:Wk)(b:Bool)(el:E)(Z:Rho):Nat->Nat->List U->Hs->Option (List U×Hs)
 |0,_,_,_=>none
 |k+1,i,acc,hs=>match itm T w i hs with
  |none=>none
  |some none=>some (acc,hs)
  |some (some x)=>match tgt (tgN b Z.length) x (Z++Qcf b) hs with
   |none=>none
   |some ρ'=>if acc.length<1000000 then bd (ft ρ' hs) λc h1=>if c=true then bd (f el ρ' h1) λu h2=>ZU T f ft w b el Z k (i+1) (acc++[u]) h2 else ZU T f ft w b el Z k (i+1) acc h1 else none
noncomputable def Qbo(ft:E->Rho->Hs->Option (Bool×Hs))(t:Option E)(Z:Rho)(hs:Hs):Option (Bool×Hs):=match t with
 |none=>some (true,hs)
 |some e=>ft e Z hs
noncomputable def Ql8(a b c:Int):Option (List U):=if Qy (a*4)&&Qy (b*4)&&(decide (c=1)||decide (c=-1))then
  (let n:=if c=1 then(b-a).toNat else(a-b).toNat
    if n<=1000000 then some ((List.range n).map λi:Nat=>.int (a+(i:Int)*c) 0)else none)else none
noncomputable def Qos:List U->Option (List U)
 |[.int b 0]=>Ql8 0 b 1
 |[.int a 0,.int b 0]=>Ql8 a b 1
 |[.int a 0,.int b 0,.int c 0]=>Ql8 a b c
 |_=>none
noncomputable def QoD(T:Tbl)(u w:U)(hs:Hs):Option (U×Hs):=match w with
 |.int d 0=>(match Q2 T u hs with
  |some xs=>(QhO xs).map λns=>(.int ((QoF ns).getD d) 0,hs)
  |none=>none)
 |_=>none
mutual
noncomputable def ev(T:Tbl)(cf:Cf):Nat->Ev
 |0,_,_,_=>none
 |d+1,e,Z,hs=>match e with
  |.c u=>some (u,hs)
  |.con k=>some (.con k,hs)
  |.var i=>match Z[i]? with
   |some (some u)=>some (u,hs)
   |_=>none
  |.op o a b=>bd (ev T cf d a Z hs) λu h1=>bd (ev T cf d b Z h1) λw h2=>opU o u w h2
  |.neg a=>bd (ev T cf d a Z hs) λu h1=>match u with|.int i m=>some (.int (-i) m,h1)|_=>none
  |.cmp o a b=>bd (ev T cf d a Z hs) λu h1=>bd (ev T cf d b Z h1) λw h2=>(Zg T o u w h2).map λc=>(.bl c,h2)
  |.and a b=>bd (ev T cf d a Z hs) λu h1=>match u with|.bl true=>ev T cf d b Z h1|.bl false=>some (.bl false,h1)|_=>none
  |.or a b=>bd (ev T cf d a Z hs) λu h1=>match u with|.bl true=>some (.bl true,h1)|.bl false=>ev T cf d b Z h1|_=>none
  |.not a=>bd (ev T cf d a Z hs) λu h1=>(Zl T u h1).map λc=>(.bl (!c),h1)
  |.ife t a b=>bd (evT T cf d t Z hs) λc h1=>if c=true then ev T cf d a Z h1 else ev T cf d b Z h1
  |.tup es=>bd (evs (ev T cf d) Z es hs) λus h1=>some (.ref h1.length,h1++[.tup us])
  |.lst es=>bd (evs (ev T cf d) Z es hs) λus h1=>some (.ref h1.length,h1++[.lst us])
  |.dis _ _=>none
  |.ix a b=>bd (ev T cf d a Z hs) λu h1=>bd (ev T cf d b Z h1) λw h2=>(Q5 T u w h2).map λx=>(x,h2)
  |.tab k b=>bd (ev T cf d b Z hs) λw h1=>(Qez T k w).map λx=>(x,h1)
  |.sl a lo hi=>bd (ev T cf d a Z hs) λu h1=>bd (evO (ev T cf d) Z lo h1) λl h2=>bd (evO (ev T cf d) Z hi h2) λr h3=>slU T u l r h3
  |.rev _=>none
  |.tupR es=>bd (evs (ev T cf d) Z es hs) λus h1=>match Qos us with|some xs=>some (.ref h1.length,h1++[.tup xs])|none=>none
  |.lstR _=>none
  |.fld a f=>bd (ev T cf d a Z hs) λu h1=>match u with
   |.ref n=>match h1[n]? with
    |some (.ins _ fs)=>(fs.lookup f).map λx=>(x,h1)
    |some (.err c w)=>if T.efl.contains (c,f)=true then some (w,h1)else none
    |_=>none
   |_=>none
  |.call f es=>bd (evs (ev T cf d) Z es hs) λus h1=>cf f us h1
  |.meth m o es=>bd (ev T cf d o Z hs) λu h1=>match Qau T m u h1 with
   |some f=>bd (evs (ev T cf d) Z es h1) λus h2=>cf f (u::(us++Qf0 T f (us.length+1))) h2
   |none=>none
  |.make c es=>bd (evs (ev T cf d) Z es hs) λus h1=>Z1 T cf c us h1
  |.bi b es=>bd (evs (ev T cf d) Z es hs) λus h1=>biU T b us h1
  |.isi a t=>bd (ev T cf d a Z hs) λu h1=>(Z4 T t u h1).map λb=>(.bl b,h1)
  |.isiT _ _=>none
  |.isiS _=>none
  |.bm b o es=>bd (ev T cf d o Z hs) λu h1=>if QcA b u h1=true then bd (evs (ev T cf d) Z es h1) λus h2=>bmU T b u us h2 else none
  |.comp s b t el=>bd (Zy T (ev T cf d) Z s hs) λw h1=>bd (ZU T (ev T cf d) (Qbo (evT T cf d) t) w b el Z (Zs T w h1) 0 [] h1) λus h2=>some (.ref h2.length,h2++[.lst us])
  |.maxd a b=>bd (ev T cf d a Z hs) λu h1=>bd (ev T cf d b Z h1) λw h2=>QoD T u w h2
  |.dnew=>some (.ref hs.length,hs++[.dic []])
  |.dnewT=>none
  |.zap _=>none
  |.thw _ _=>none
  |.dsp _ _=>none
  |.chain o o' a b c=>bd (ev T cf d a Z hs) λu h1=>bd (ev T cf d b Z h1) λw h2=>match Zg T o u w h2 with
   |some true=>bd (ev T cf d c Z h2) λx h3=>(Zg T o' w x h3).map λk=>(.bl k,h3)
   |some false=>some (.bl false,h2)
   |none=>none
noncomputable def evT(T:Tbl)(cf:Cf):Nat->E->Rho->Hs->Option (Bool×Hs)
 |0,_,_,_=>none
 |d+1,e,Z,hs=>match e with
  |.not a=>bd (evT T cf d a Z hs) λc h1=>some (!c,h1)
  |.and a b=>bd (evT T cf d a Z hs) λc h1=>if c=true then evT T cf d b Z h1 else some (false,h1)
  |.or a b=>bd (evT T cf d a Z hs) λc h1=>if c=true then some (true,h1)else evT T cf d b Z h1
  |e=>bd (ev T cf d e Z hs) λu h1=>(Zl T u h1).map λb=>(b,h1)
end
abbrev Ex:=Rho->Hs->Option (Fl×Rho×Hs)
noncomputable def Qcs(T:Tbl)(w:Wk)(t:Tg)(body:Ex):Nat->Nat->Ex
 |0,_,_,_=>none
 |k+1,i,Z,hs=>match itm T w i hs with
  |none=>none
  |some none=>some (.next,Z,hs)
  |some (some x)=>match tgt t x Z hs with
   |none=>none
   |some ρ'=>match body ρ' hs with
    |some (.next,ρ2,h2)=>Qcs T w t body k (i+1) ρ2 h2
    |some (.cont,ρ2,h2)=>Qcs T w t body k (i+1) ρ2 h2
    |some (.brk,ρ2,h2)=>some (.next,ρ2,h2)
    |r=>r
noncomputable def QpB(o:Operator)(u w:U):Option U:=match o with
 |.Add=>(match u,w with|.int i 0,.int j 0=>some (.int (i+j) 0)|_,_=>none)
 |.Sub=>(match u,w with|.int i 0,.int j 0=>some (.int (i-j) 0)|_,_=>none)
 |_=>none
noncomputable def Qox(x k u:U)(hs:Hs):Option Hs:=match x with
 |.ref n=>(match hs[n]? with
  |some (.lst xs)=>(match k with
   |.int j 0=>(ixU xs.length j).map λp=>hs.set n (.lst (xs.set p u))
   |_=>none)
  |_=>none)
 |_=>none
noncomputable def Qon(j:Option Nat)(u:U)(Z:Rho):Rho:=match j with
 |some j=>Z.set j (some u)
 |none=>Z
noncomputable def QkD(j:Option Nat)(Z:Rho):Rho:=match j with
 |some j=>Z.set j none
 |none=>Z
noncomputable def QoV(j:Option Nat)(c:Er)(hs:Hs):Hs:=match j with
 |some _=>hs++[.err c.1 c.2]
 |none=>hs
mutual
noncomputable def ex(T:Tbl)(cf:Cf):Nat->S->Ex
 |0,_,_,_=>none
 |d+1,s,Z,hs=>match s with
  |.pass=>some (.next,Z,hs)
  |.bad=>none
  |.aug _ _ _=>none
  |.brk=>some (.brk,Z,hs)
  |.cont=>some (.cont,Z,hs)
  |.expr e=>bd (ev T cf d e Z hs) λz h1=>some (.next,Z,h1)
  |.set i e=>bd (ev T cf d e Z hs) λu h1=>some (.next,Z.set i (some u),h1)
  |.fld o f e=>bd (ev T cf d e Z hs) λu h1=>bd (ev T cf d o Z h1) λx h2=>match x with
   |.ref n=>match h2[n]? with
    |some (.ins c fs)=>if fs.length<500 then some (.next,Z,h2.set n (.ins c (QcB f u fs)))else none
    |_=>none
   |_=>none
  |.ret e=>bd (ev T cf d e Z hs) λu h1=>some (.ret u,Z,h1)
  |.retN=>some (.ret .non,Z,hs)
  |.ite t a b=>match evT T cf d t Z hs with
   |some (true,h1)=>exs T cf d a Z h1
   |some (false,h1)=>exs T cf d b Z h1
   |none=>none
  |.loop t s body=>bd (Zy T (ev T cf d) Z s hs) λw h1=>Qcs T w t (exs T cf d body) (Zs T w h1) 0 Z h1
  |.loopC _ _ _=>none
  |.loopD _ _ _=>none
  |.loopK _ _ _=>none
  |.while _ _=>none
  |.put o i e=>bd (ev T cf d e Z hs) λu h1=>bd (ev T cf d o Z h1) λx h2=>bd (ev T cf d i Z h2) λk h3=>(Qox x k u h3).map λh4=>(.next,Z,h4)
  |.unp i j e=>bd (ev T cf d e Z hs) λu h1=>(tgt (.pair i j) (.one u) Z h1).map λρ'=>(.next,ρ',h1)
  |.par _ _ _ _=>none
  |.unpN _ _=>none
  |.tryN body=>exs T cf d body Z hs
  |.loopZ _ _ _=>none
  |.rse _ _=>none
  |.tryS j f es c body=>bd (evs (ev T cf d) Z es hs) λus h1=>match cf f us h1 with
   |some (_,h2)=>some (.next,Z,h2)
   |none=>match T.xf f us h1 with
    |some (c',h2)=>if T.ers.contains c'.1=true/\T.esb.contains (c'.1,c)=true/\(match T.fns[f]? with|some F=>decide (us.length=F.np)|none=>false)=true then(match exs T cf d body (Qon j (.ref h2.length) Z) (QoV j c' h2)with
     |some (.next,ρ2,h3)=>some (.next,QkD j ρ2,h3)
     |_=>none)else none
    |none=>none
  |.cal _ _ _=>none
  |.xal n _=>ex T cf d n Z hs
noncomputable def exs(T:Tbl)(cf:Cf):Nat->List S->Ex
 |0,_,_,_=>none
 |d+1,ss,Z,hs=>match ss with
  |[]=>some (.next,Z,hs)
  |s::r=>match ex T cf d s Z hs with
   |some (.next,ρ1,h1)=>exs T cf d r ρ1 h1
   |x=>x
end
noncomputable def dd:Nat:=100
noncomputable def fin:Option (Fl×Rho×Hs)->Option (U×Hs)
 |some (.ret u,_,h)=>some (u,h)
 |some (.next,_,h)=>some (.non,h)
 |_=>none
noncomputable def QgU(us:List U)(n:Nat):Rho:=us.map some++List.replicate (n-us.length) none
noncomputable def Qa(T:Tbl):Nat->Cf
 |0,_,_,_=>none
 |n+1,f,us,hs=>match T.fns[f]? with
  |none=>none
  |some F=>if us.length=F.np then fin (exs T (Qa T n) dd F.body (QgU us F.nN) hs)else none
noncomputable def rsv(T:Tbl)(c:Nat)(us:List U):Option U:=some .non
noncomputable def Qh1(T:Tbl)(w:Wk)(t:Tg)(body:Ex)(bx:Rho->Hs->Option (Er×Hs)):Nat->Nat->Rho->Hs->Option (Er×Hs)
 |0,_,_,_=>none
 |k+1,i,Z,hs=>match itm T w i hs with
  |none=>none
  |some none=>none
  |some (some x)=>match tgt t x Z hs with
   |none=>none
   |some ρ'=>match body ρ' hs with
    |some (.next,ρ2,h2)=>Qh1 T w t body bx k (i+1) ρ2 h2
    |some (.cont,ρ2,h2)=>Qh1 T w t body bx k (i+1) ρ2 h2
    |some _=>none
    |none=>bx ρ' hs
noncomputable def Qix(T:Tbl)(f:Rho->Hs->Option (U×Hs))(fx:Rho->Hs->Option (Er×Hs))(w:Wk)(b:Bool)(Z:Rho):Nat->Nat->Hs->Option (Er×Hs)
 |0,_,_=>none
 |k+1,i,hs=>match itm T w i hs with
  |none=>none
  |some none=>none
  |some (some x)=>match tgt (tgN b Z.length) x (Z++Qcf b) hs with
   |none=>none
   |some ρ'=>if i<1000000 then(match f ρ' hs with
    |some (_,h2)=>Qix T f fx w b Z k (i+1) h2
    |none=>fx ρ' hs)else none
noncomputable def evX(T:Tbl)(cf:Cf):EX->Nat->Rho->Hs->Option (Er×Hs)
 |.no,_,_,_=>none
 |.call f es,d,Z,hs=>bd (evs (ev T cf d) Z es hs) λus h1=>if(match T.fns[f]? with|some F=>decide (us.length=F.np)|none=>false)=true then T.xf f us h1 else none
 |.arg e x,d,Z,hs=>bd (ev T cf d e Z hs) λz h1=>evX T cf x d Z h1
 |.alt x y,d,Z,hs=>match evX T cf x d Z hs with
  |some r=>some r
  |none=>evX T cf y d Z hs
 |.ife t x y,d,Z,hs=>match evT T cf d t Z hs with
  |some (true,h1)=>evX T cf x d Z h1
  |some (false,h1)=>evX T cf y d Z h1
  |none=>none
 |.comp s b el x,d,Z,hs=>bd (Zy T (ev T cf d) Z s hs) λw h1=>Qix T (ev T cf d el) (evX T cf x d) w b Z (Zs T w h1) 0 h1
 |.tryR f es c c2 bs,d,Z,hs=>bd (evs (ev T cf d) Z es hs) λus h1=>match T.xf f us h1 with
  |some (c',h2)=>if T.ers.contains c'.1=true/\T.esb.contains (c'.1,c)=true/\T.chs.contains c'.1=false/\(T.efl.any λp=>p.1==c2)=false/\bs.length<=1000/\(match T.fns[f]? with|some F=>decide (us.length=F.np)|none=>false)=true then bd (evs (ev T cf d) Z bs h2) λz h3=>some ((c2,.non),h3)else none
  |none=>none
mutual
noncomputable def exX(T:Tbl)(cf:Cf):Nat->S->Rho->Hs->Option (Er×Hs)
 |0,_,_,_=>none
 |d+1,s,Z,hs=>match s with
  |.rse c es=>bd (evs (ev T cf d) Z es hs) λus h1=>if T.ers.contains c=true/\es.length<=1000 then(rsv T c us).map λu=>((c,u),h1)else none
  |.ite t a b=>match evT T cf d t Z hs with
   |some (true,h1)=>exsX T cf d a Z h1
   |some (false,h1)=>exsX T cf d b Z h1
   |none=>none
  |.loop t s body=>bd (Zy T (ev T cf d) Z s hs) λw h1=>Qh1 T w t (exs T cf d body) (exsX T cf d body) (Zs T w h1) 0 Z h1
  |.xal _ x=>evX T cf x d Z hs
  |_=>none
noncomputable def exsX(T:Tbl)(cf:Cf):Nat->List S->Rho->Hs->Option (Er×Hs)
 |0,_,_,_=>none
 |d+1,ss,Z,hs=>match ss with
  |[]=>none
  |s::r=>match ex T cf d s Z hs with
   |some (.next,ρ1,h1)=>exsX T cf d r ρ1 h1
   |some _=>none
   |none=>exX T cf d s Z hs
end
noncomputable def QN(T:Tbl):Nat->Nat->List U->Hs->Option (Er×Hs)
 |0,_,_,_=>none
 |n+1,f,us,hs=>match T.fns[f]? with
  |none=>none
  |some F=>if us.length=F.np then exsX T (Qa T n) dd F.body (QgU us F.nN) hs else none
end
section
variable {m:Nat}
inductive G where
 |fn (i:Nat)|cls (i:Nat)|con (k:Nat)|txt (u:U)
structure Ctx where
 T:Tbl
 N:List Str
 names:List (Str×NameKind)
 gl:List (Str×G)
 bl:List Str
 lc:Bool:=false
noncomputable def idx(x:Str):List Str->Option Nat
 |[]=>none
 |y::r=>if y=x then some 0 else(idx x r).map (· + 1)
noncomputable def Qfb(C:Ctx)(x:Str):Bool:=match C.names.lookup x with
 |some .local=>true|some .cell=>true|some .free=>true|_=>false
noncomputable def QaC(C:Ctx)(x:Str):Bool:=match C.names.lookup x with
 |some .local=>true|some .cell=>true|_=>false
noncomputable def ZT(C:Ctx)(x:Str):Bool:=match C.names.lookup x with
 |some .globalImplicit=>true|_=>false
noncomputable def Zu:Expr->Bool
 |.Call (.Name _ _) [] [] _=>false
 |_=>true
noncomputable def YI:Expr->Bool
 |.Slice ..=>false
 |_=>true
noncomputable def QiO(C:Ctx)(x:Str):Option Ty:=match C.gl.lookup x with
 |some (.cls i)=>some (.cls i)
 |some _=>none
 |none=>if C.bl.contains x=false then none else if x="int" then some .int else if x="str" then some .str else if x="bool" then some .bool else if x="list" then some .list else if x="tuple" then some .tuple else if x="dict" then some .dict else if x="ValueError" then some .vale else none
noncomputable def Qna(b:Bool)(x:Str):Option Bi:=none
noncomputable def Qlw(C:Ctx)(x:Str):Option Bi:=match C.gl.lookup x with
 |some _=>none
 |none=>if C.bl.contains x=false then none else if x="len" then some .len else if x="int" then some .int else if x="str" then some .str else if x="tuple" then some .tuple else if x="list" then some .list else if x="all" then some .all else Qna C.T.dts.isEmpty x
noncomputable def QkX(x:Str):Option Bm:=none
noncomputable def Qlu(x:Str):Option Bm:=if x="append" then some .append else if x="reverse" then some .reverse else if x="join" then some .join else if x="split" then some .split else if x="startswith" then some .starts else QkX x
noncomputable def Qdg:E->Bool
 |.and _ _=>false
 |.or _ _=>false
 |.not _=>false
 |_=>true
noncomputable def okT:Expr->E->Bool
 |.BoolOp ..,_=>true
 |.UnaryOp .Not ..,_=>true
 |.Compare ..,_=>true
 |_,ir=>Qdg ir
noncomputable def Qc6(C:Ctx)(f:Str)(args:List Expr):Option (List Expr):=none
noncomputable def QkP:Expr->Option U
 |.Constant (.int i) _ _=>some (.int i 0)
 |.Constant (.str x) _ _=>some (.str x.cps.toList)
 |_=>none
noncomputable def QmT:List (Option Expr)->List Expr->Option (List (U×U))
 |[],[]=>some []
 |some k::ks,v::vs=>(QkP k).bind λk'=>(QkP v).bind λv'=>(QmT ks vs).bind λr=>if r.any (λp=>decide (p.1=k'))then none else some ((k',v')::r)
 |_,_=>none
noncomputable def Ctx.inner(C:Ctx)(xs:List Str)(scope:Scope):Ctx:={C with N:=L2.hideN xs C.N++xs,names:=L2.relN C.names scope.names,lc:=false}
noncomputable def hdC(C:Ctx):Bool:=decide (C.bl.head?=some ("isinstance":Str))
noncomputable def Y7(C:Ctx)(xs:List Str)(scope:Scope):Bool:=(scope.kind==.function)&&xs.all (λx=>(scope.names.lookup x==some .local)&&(scope.names.lookup (L2.mang x)==none))&&decide (L2.hideN xs C.N++xs).Nodup&&scope.names.all (λy=>match y.2 with
  |.local=>(xs.contains y.1||decide (y.1=".0"))&&(scope.names.lookup y.1==some .local)
  |.free=>(C.names.lookup y.1==some .cell)||(C.names.lookup y.1==some .free)
  |.cell=>false
  |_=>true)&&!(C.N.contains ".0")
noncomputable def Qlq:Src->Bool
 |.zip _ _=>true
 |.enm _=>true
 |_=>false
noncomputable def Qar:Src->Tg->Bool
 |.zip _ _,.name _=>false
 |.enm _,.name _=>false
 |.revd _,.pair _ _=>false
 |_,_=>true
noncomputable def QlL:Expr->Option (Bool×List Str)
 |.Name x _=>some (false,[x])
 |.Tuple es _ _=>(match es with
  |[a,b]=>(match a,b with
   |.Name x _,.Name y _=>some (true,[x,y])
   |_,_=>none)
  |_=>none)
 |_=>none
noncomputable def QnG:List Expr->Option (Option Expr)
 |[]=>some none
 |[t]=>some (some t)
 |_=>none
structure Gn where
 b:Bool
 xs:List Str
 iter:Expr
 tl:Option Expr
noncomputable def QdF:List Comprehension->Option Gn
 |[g]=>if g.is_async=0 then(QlL g.target).bind λt=>(QnG g.ifs).map λtl=>⟨t.1,t.2,g.iter,tl⟩else none
 |_=>none
def Qly(tg:Expr)(b:Bool)(xs:List Str):Prop:=(b=false/\∃x p,tg=.Name x p/\xs=[x])\/(b=true/\∃x p y q k pt,tg=.Tuple [.Name x p,.Name y q] k pt/\xs=[x,y])
def Qgv{tg:Expr}{b:Bool}{xs:List Str}(h:QlL tg=some (b,xs)):Qly tg b xs:=by
 unfold QlL at h;split at h
 ·cases h;exact .inl ⟨rfl,_,_,rfl,rfl⟩
 ·split at h
  ·split at h
   ·cases h;exact .inr ⟨rfl,_,_,_,_,_,_,rfl,rfl⟩
   ·cases h
  ·cases h
 ·cases h
def Jv{gens:List Comprehension}{g:Gn}(h:QdF gens=some g):∃tg,gens=[⟨tg,g.iter,g.tl.toList,0⟩]/\Qly tg g.b g.xs:=by
 unfold QdF at h;split at h
 ·rename_i c;split at h
  ·rename_i e;simp only[Xb,Xc]at h;obtain⟨⟨b,xs⟩,h1,tl,h2,rfl⟩:=h;obtain⟨tg,iter,ifs,ia⟩:=c;simp only at e h1 h2;subst e;refine⟨tg,?_,Qgv h1⟩
   have:ifs=tl.toList:=by
    unfold QnG at h2;split at h2<;>cases h2<;>rfl
   rw[this]
  ·cases h
 ·cases h
inductive Sl where
 |cut (lo hi:Option Expr)|rev|bad
noncomputable def Qis:Expr->Option Sl
 |.Slice lo hi st _=>(match st with
  |none=>some (.cut lo hi)
  |some e=>some .bad)
 |_=>none
inductive He where
 |tab (ks:List (Option Expr)) (vs:List Expr)|nm (x:Str)|any
noncomputable def QkB:Expr->He
 |.Name x _=>.nm x
 |_=>.any
noncomputable def Qgx(C:Ctx)(x:Str):Option Nat:=if ZT C x&&decide (x≠"__debug__")then(match C.gl.lookup x with
 |some (.con k)=>(match C.T.cons[k]? with|some (.tab _)=>some k|_=>none)
 |_=>none)else none
noncomputable def Qln(C:Ctx)(i:Nat)(es:List E):Option E:=match C.T.dfl.lookup i with
 |none=>some (.call i es)
 |some _=>none
mutual
noncomputable def Qd:Nat->Ctx->Expr->Option E
 |0,_,_=>none
 |m+1,C,e=>match e with
  |.Constant (.int i) _ _=>some (.c (.int i 0))
  |.Constant (.bool b) _ _=>some (.c (.bl b))
  |.Constant .none _ _=>some (.c .non)
  |.Constant (.str x) _ _=>some (.c (.str x.cps.toList))
  |.Name x _=>if x="__debug__"\/x="__classdict__" then none else if Qfb C x then(idx x C.N).map .var else if ZT C x then(match C.gl.lookup x with|some (.con k)=> some (.con k)|some (.txt t)=> some (.c t)|_=>none)else none
  |.BinOp a o b _=>(Qd m C a).bind λa'=>(Qd m C b).bind λb'=>some (.op o a' b')
  |.UnaryOp .USub a _=>(Qd m C a).bind λa'=>some (.neg a')
  |.UnaryOp .Not a _=>(compT m C a).bind λa'=>some (.not a')
  |.BoolOp .And (a::r) p=>compAnd m C a r p
  |.BoolOp .Or (a::r) p=>compOr m C a r p
  |.Compare a [o] [b] _=>(Qd m C a).bind λa'=>(Qd m C b).bind λb'=>some (.cmp o a' b')
  |.Compare a [o,o'] [b,c] _=>(Qd m C a).bind λa'=>(Qd m C b).bind λb'=>(Qd m C c).bind λc'=>some (.chain o o' a' b' c')
  |.IfExp t a b _=>(compT m C t).bind λt'=>(Qd m C a).bind λa'=>(Qd m C b).bind λb'=>some (.ife t' a' b')
  |.Tuple es _ _=>if es.length<=1000000 then(compA m C es).bind λes'=>some (.tup es')else none
  |.List es _=>if es.length<=1000000 then(compA m C es).bind λes'=>some (.lst es')else none
  |.Subscript a b _=>match Qis b with
   |some (.cut lo hi)=>(Qd m C a).bind λa'=>(compO m C lo).bind λl=>(compO m C hi).bind λh=>some (.sl a' l h)
   |some .rev=>(Qd m C a).bind λa'=>some (.rev a')
   |some .bad=>none
   |none=>(Qd m C b).bind λb'=>match QkB a with
    |.tab ks vs=>if decide (ks.length<=15)&&!ks.isEmpty then(QmT ks vs).bind λkvs=>some (.dis kvs b')else none
    |.nm x=>(match Qgx C x with|some k=>some (.tab k b')|none=>(Qd m C a).bind λa'=>some (.ix a' b'))
    |.any=>(Qd m C a).bind λa'=>some (.ix a' b')
  |.Attribute a f _=>if Zu a then(Qd m C a).bind λa'=>(idx f C.T.fns').bind λk=>some (.fld a' k)else none
  |.Call (.Name f _) args [] _=>if f="__debug__"\/f="__name__"\/ZT C f=false then none else match C.gl.lookup f with
   |some (.fn i)=>if hdC C=true then none else(compA m C args).bind λes=>Qln C i es
   |some (.cls i)=>if hdC C=true then none else(compA m C args).bind λes=>some (.make i es)
   |some (.con _)=>none
   |some (.txt _)=>none
   |none=>if C.bl.contains f=false then none else if f="isinstance" then(match args with
     |[a,.Name t _]=> if ZT C t/\t≠"__debug__"/\t≠"__name__" then(Qd m C a).bind λa'=>(QiO C t).bind λty=>some (.isi a' ty)else none
     |_=>none)
    else if hdC C=true then none else match Qc6 C f args with
     |some ra=>(compA m C ra).bind λes=>some (.tupR es)
     |none=>(Qlw C f).bind λb=>(compA m C args).bind λes=>some (.bi b es)
  |.Call (.Attribute o x p) args [] q=>if Zu o&&(p.endLine==q.line)&&decide (args.length<29)then match idx x C.T.mns with
   |some k=>if hdC C=true then none else(Qd m C o).bind λo'=>(compA m C args).bind λes=>some (.meth k o' es)
   |none=>(Qlu x).bind λb=>(Qd m C o).bind λo'=>(compA m C args).bind λes=>some (.bm b o' es)else none
  |.ListComp elt gens scope _=>(match QdF gens with
   |some g=>if Y7 C g.xs scope&&!hdC C then(compSrc m C g.iter).bind λsrc=>if Qar src (tgN g.b 0)then(compTO m (C.inner g.xs scope) g.tl).bind λt=>(Qd m (C.inner g.xs scope) elt).bind λel=>some (.comp src g.b t el)else none else none
   |none=>none)
  |.Dict [] [] _=>some .dnew
  |_=>none
noncomputable def compT:Nat->Ctx->Expr->Option E
 |0,_,_=>none
 |m+1,C,e=>match e with
  |.IfExp ..=>none
  |.NamedExpr ..=>none
  |e=>(Qd m C e).bind λir=>if okT e ir then some ir else none
noncomputable def compTO:Nat->Ctx->Option Expr->Option (Option E)
 |0,_,_=>none
 |m+1,C,none=>some none
 |m+1,C,some e=>(compT m C e).bind λe'=>some (some e')
noncomputable def compAnd:Nat->Ctx->Expr->List Expr->Pos->Option E
 |0,_,_,_,_=>none
 |m+1,C,a,r,p=>match r with
  |[]=>compT m C a
  |b::r=>(compT m C a).bind λa'=>(compAnd m C b r p).bind λb'=>some (.and a' b')
noncomputable def compOr:Nat->Ctx->Expr->List Expr->Pos->Option E
 |0,_,_,_,_=>none
 |m+1,C,a,r,p=>match r with
  |[]=>compT m C a
  |b::r=>(compT m C a).bind λa'=>(compOr m C b r p).bind λb'=>some (.or a' b')
noncomputable def compA:Nat->Ctx->List Expr->Option (List E)
 |0,_,_=>none
 |m+1,C,es=>match es with
  |[]=>some []
  |e::r=>(Qd m C e).bind λe'=>(compA m C r).bind λr'=>some (e'::r')
noncomputable def compO:Nat->Ctx->Option Expr->Option (Option E)
 |0,_,_=>none
 |m+1,C,none=>some none
 |m+1,C,some e=>(Qd m C e).bind λe'=>some (some e')
noncomputable def compSrc:Nat->Ctx->Expr->Option Src
 |0,_,_=>none
 |m+1,C,e=>match e with
  |.Call (.Name f p) args [] q=>if ZT C f then(match C.gl.lookup f with
   |some _=>(Qd m C (.Call (.Name f p) args [] q)).map .seq
   |none=>if C.bl.contains f=false then none else if f="range" then(match args with
     |[a]=>(Qd m C a).map .rng
     |[a,b]=>(Qd m C a).bind λa'=>(Qd m C b).map λb'=>.rng2 a' b'
     |_=>none)
    else if f="zip" then(match args with
     |[a,b]=>(Qd m C a).bind λa'=>(Qd m C b).map λb'=>.zip a' b'
     |_=>none)
    else(Qd m C (.Call (.Name f p) args [] q)).map .seq)else none
  |e=>(Qd m C e).map .seq
end
def cE4{C:Ctx}{x w1}: Qd (m+1) C (.Name x w1)= (if x="__debug__"\/x="__classdict__" then none else if Qfb C x then(idx x C.N).map .var else if ZT C x then(match C.gl.lookup x with|some (.con k)=> some (.con k)|some (.txt t)=> some (.c t)|_=>none)else none):= rfl
def cE5{C:Ctx}{a o b w1}:Qd (m+1) C (.BinOp a o b w1)=((Qd m C a).bind λa'=>(Qd m C b).bind λb'=>some (.op o a' b')):=rfl
def cE6{C:Ctx}{a w1}:Qd (m+1) C (.UnaryOp .USub a w1)=((Qd m C a).bind λa'=>some (.neg a')):=rfl
def cE7{C:Ctx}{a w1}:Qd (m+1) C (.UnaryOp .Not a w1)=((compT m C a).bind λa'=>some (.not a')):=rfl
def Qpt{C:Ctx}{a o b w1}:Qd (m+1) C (.Compare a [o] [b] w1)=((Qd m C a).bind λa'=>(Qd m C b).bind λb'=>some (.cmp o a' b')):=rfl
def Qps{C:Ctx}{a o b c w1}:Qd (m+1) C (.Compare a [o,o'] [b,c] w1)=((Qd m C a).bind λa'=>(Qd m C b).bind λb'=>(Qd m C c).bind λc'=>some (.chain o o' a' b' c')):=rfl
def Qpr{C:Ctx}{t a b w1}:Qd (m+1) C (.IfExp t a b w1)=((compT m C t).bind λt'=>(Qd m C a).bind λa'=>(Qd m C b).bind λb'=>some (.ife t' a' b')):=rfl
def Qpq{C:Ctx}{es w1 w2}:Qd (m+1) C (.Tuple es w1 w2)=(if es.length<=1000000 then(compA m C es).bind λes'=>some (.tup es')else none):=rfl
def Qpp{C:Ctx}{es w1}:Qd (m+1) C (.List es w1)=(if es.length<=1000000 then(compA m C es).bind λes'=>some (.lst es')else none):=rfl
def Qpo{C:Ctx}{a b w1}:Qd (m+1) C (.Subscript a b w1)=(match Qis b with
   |some (.cut lo hi)=>(Qd m C a).bind λa'=>(compO m C lo).bind λl=>(compO m C hi).bind λh=>some (.sl a' l h)
   |some .rev=>(Qd m C a).bind λa'=>some (.rev a')
   |some .bad=>none
   |none=>(Qd m C b).bind λb'=>match QkB a with
    |.tab ks vs=>if decide (ks.length<=15)&&!ks.isEmpty then(QmT ks vs).bind λkvs=>some (.dis kvs b')else none
    |.nm x=>(match Qgx C x with|some k=>some (.tab k b')|none=>(Qd m C a).bind λa'=>some (.ix a' b'))
    |.any=>(Qd m C a).bind λa'=>some (.ix a' b')):=rfl
def Qpn{C:Ctx}{a f w1}:Qd (m+1) C (.Attribute a f w1)=(if Zu a then(Qd m C a).bind λa'=>(idx f C.T.fns').bind λk=>some (.fld a' k)else none):=rfl
def Qpm{C:Ctx}{f w1 args w2}: Qd (m+1) C (.Call (.Name f w1) args [] w2)= (if f="__debug__"\/f="__name__"\/ZT C f=false then none else match C.gl.lookup f with
   |some (.fn i)=>if hdC C=true then none else(compA m C args).bind λes=>Qln C i es
   |some (.cls i)=>if hdC C=true then none else(compA m C args).bind λes=>some (.make i es)
   |some (.con _)=>none
   |some (.txt _)=>none
   |none=>if C.bl.contains f=false then none else if f="isinstance" then(match args with
     |[a,.Name t _]=> if ZT C t/\t≠"__debug__"/\t≠"__name__" then(Qd m C a).bind λa'=>(QiO C t).bind λty=>some (.isi a' ty)else none
     |_=>none)
    else if hdC C=true then none else match Qc6 C f args with
     |some ra=>(compA m C ra).bind λes=>some (.tupR es)
     |none=>(Qlw C f).bind λb=>(compA m C args).bind λes=>some (.bi b es)):=rfl
def Qpl{C:Ctx}{o x p args q}:Qd (m+1) C (.Call (.Attribute o x p) args [] q)=(if Zu o&&(p.endLine==q.line)&&decide (args.length<29)then match idx x C.T.mns with
   |some k=>if hdC C=true then none else(Qd m C o).bind λo'=>(compA m C args).bind λes=>some (.meth k o' es)
   |none=>(Qlu x).bind λb=>(Qd m C o).bind λo'=>(compA m C args).bind λes=>some (.bm b o' es)else none):=rfl
def QnS{C:Ctx}{elt gens scope w1}:Qd (m+1) C (.ListComp elt gens scope w1)=((match QdF gens with
   |some g=>if Y7 C g.xs scope&&!hdC C then(compSrc m C g.iter).bind λsrc=>if Qar src (tgN g.b 0)then(compTO m (C.inner g.xs scope) g.tl).bind λt=>(Qd m (C.inner g.xs scope) elt).bind λel=>some (.comp src g.b t el)else none else none
   |none=>none)):=rfl
def Qpk{C:Ctx}{w1}:Qd (m+1) C (.Dict [] [] w1)=(some .dnew):=rfl
noncomputable def Yy(C:Ctx):Expr->Option Tg
 |.Name x _=>if QaC C x then(idx x C.N).map .name else none
 |.Tuple [.Name x _,.Name y _] _ _=>if QaC C x&&QaC C y&&decide (x≠y)then(idx x C.N).bind λi=>(idx y C.N).map λj=>.pair i j else none
 |_=>none
noncomputable def QmQ:Expr->Option Bool
 |.Constant c _ _=>(match c with|.str _=>some true|_=>none)
 |.ListComp ..=>some false
 |_=>none
inductive As where
 |nm (x:Str)|at (o:Expr) (f:Str)|sub (o i:Expr)|two (x:Str) (p:Pos) (y:Str) (q:Pos)|many (es:List Expr)
noncomputable def Qer:Expr->Expr->Option As
 |.Name x p,.Name y q=>some (.two x p y q)
 |_,_=>none
noncomputable def as1:Expr->Option As
 |.Name x _=>some (.nm x)
 |.Attribute o f _=>some (.at o f)
 |.Subscript o i _=>some (.sub o i)
 |.Tuple es _ _=>(match es with|[a,b]=>Qer a b|[a,b,c]=>some (.many [a,b,c])|[a,b,c,d]=>some (.many [a,b,c,d])|_=>none)
 |_=>none
noncomputable def Qgk:List Expr->Option As
 |[t]=>as1 t
 |_=>none
noncomputable def Yx(C:Ctx)(x:Str):Bool:=match C.names.lookup x with
 |some .local=>true|_=>false
noncomputable def QfZ:Expr->Option (Expr×Expr)
 |.Tuple es _ _=>(match es with|[a,b]=>some (a,b)|_=>none)
 |_=>none
noncomputable def Qf4:Expr->Bool
 |.Tuple ..=>false
 |_=>true
noncomputable def Qmy:Expr->Bool
 |.ListComp ..=>false
 |_=>true
noncomputable def QeJ(C:Ctx)(e f:Option Expr):Option (Nat×List Expr):=match e,f with
 |some (.Call (.Name x _) args [] _),none=>if ZT C x&&decide (x≠"__debug__")then(match C.gl.lookup x with
  |some (.cls c)=>if C.T.ers.contains c then some (c,args)else none
  |_=>none)else none
 |_,_=>none
structure Tr where
 j:Option Nat
 f:Nat
 args:List Expr
 c:Nat
 body:List Stmt
noncomputable def Qew(C:Ctx)(n:Option Str):Option (Option Nat):=match n with
 |none=>some none
 |some n=>if Yx C n&&decide (n≠"__debug__")then(idx n C.N).map some else none
noncomputable def Qaf(C:Ctx)(x:Str):Option Nat:=if ZT C x&&decide (x≠"__debug__")then(match C.gl.lookup x with|some (.cls c)=>some c|_=>none)else none
noncomputable def Ji(C:Ctx)(x:Str):Option Nat:=if ZT C x&&decide (x≠"__debug__")then(match C.gl.lookup x with|some (.fn i)=>some i|_=>none)else none
noncomputable def QcO(C:Ctx)(b:List Stmt)(hs:List ExceptHandler)(o fn:List Stmt):Option Tr:=match b,hs,o,fn with
 |[.Expr (.Call (.Name f _) (a::args) [] _) _],[.ExceptHandler (some (.Name x _)) n (b0::body) _],[],[]=>
   (Qew C n).bind λj=>(Qaf C x).bind λc=>(Ji C f).bind λk=>some ⟨j,k,a::args,c,b0::body⟩
 |_,_,_,_=>none
noncomputable def hdX(C:Ctx):Ctx:={C with bl:=("isinstance":Str)::C.bl.filter λx=>decide (x="ValueError")}
noncomputable def Qfx(C:Ctx):Stmt->Option (Nat×Expr)
 |.Assign ts e _=>(match Qgk ts with
  |some (.nm y)=>if Yx C y then(idx y C.N).map λi=>(i,e)else none
  |_=>none)
 |_=>none
noncomputable def QnI(C:Ctx)(e:Expr):Option (Nat×List Expr):=match e with
 |.Call g as ks _=>(match g with
  |.Name f _=>(match as with
   |[]=>none
   |a::r=>(match ks with
    |[]=>(Ji C f).bind λk=>if C.T.hfs.contains k&&(C.T.fns[k]?).isSome then some (k,a::r)else none
    |_::_=>none))
  |_=>none)
 |_=>none
noncomputable def hcE(m:Nat)(C:Ctx)(e:Expr):Option E:=match QnI C e with
 |some t=>(compA m (hdX C) t.2).map (.call t.1)
 |none=>Qd m (hdX C) e
noncomputable def Qd2(m:Nat)(C:Ctx):List Stmt->Option (List S)
 |[]=>some []
 |s::r=>(Qfx C s).bind λp=>(hcE m C p.2).bind λe'=>(Qd2 m C r).bind λr'=>some (.set p.1 e'::r')
noncomputable def orX:Option EX->Option EX->Option EX
 |some x,some y=>some (.alt x y)
 |some x,none=>some x
 |none,y=>y
noncomputable def noX:Option EX->EX
 |some x=>x
 |none=>.no
noncomputable def ifX(t:E)(x y:Option EX):Option EX:=match x with
 |some x=>some (.ife t x (noX y))
 |none=>y.map λy=>.ife t .no y
noncomputable def QmB:Expr->Bool
 |.Starred ..=>false
 |_=>true
noncomputable def Qhy(es:List Expr):Bool:=es.all QmB
noncomputable def Qmn(m:Nat)(C:Ctx)(k:Nat)(as:List Expr):Option EX:=if C.T.pss.contains k then(compA m C as).map (.call k)else none
noncomputable def xFn(C:Ctx)(g:Expr)(ks:List Keyword):Option Nat:=match g with
 |.Name f _=>(match ks with
  |[]=>if hdC C=true then none else(Ji C f).bind λk=>if(C.T.fns[k]?).isSome then some k else none
  |_::_=>none)
 |_=>none
mutual
noncomputable def xE:Nat->Ctx->Expr->Option EX
 |0,_,_=>none
 |m+1,C,e=>match e with
  |.Call g as ks _=>(match as with
   |[]=>none
   |a::r=>if Qhy (a::r)=false then none else(xFn C g ks).bind λk=>orX (Qmn m C k (a::r)) (xA m C (a::r)))
  |.Tuple es _ _=>xA m C es
  |.IfExp t a b _=>(compT m C t).bind λt'=>ifX t' (xE m C a) (xE m C b)
  |.ListComp elt gens scope _=>(match QdF gens with
   |some g=>if Y7 C g.xs scope&&!hdC C&&g.tl.isNone then(compSrc m C g.iter).bind λsrc=>if Qar src (tgN g.b 0)then(Qd m (C.inner g.xs scope) elt).bind λel=>(xE m (C.inner g.xs scope) elt).map (.comp src g.b el)else none else none
   |none=>none)
  |_=>none
noncomputable def xA:Nat->Ctx->List Expr->Option EX
 |0,_,_=>none
 |m+1,C,es=>match es with
  |[]=>none
  |e::r=>orX (xE m C e) ((Qd m C e).bind λe'=>(xA m C r).map (.arg e'))
end
noncomputable def Qlg(m:Nat)(C:Ctx)(b:List Stmt)(hs:List ExceptHandler)(o fn:List Stmt):Option EX:=match b,hs,o,fn with
 |[.Return (some (.Call (.Name f _) (a::args) [] _)) _],[.ExceptHandler (some (.Name x _)) none [.Raise (some (.Call (.Name y _) (a1::as) [] _)) (some (.Constant .none _ _)) _] _],[],[]=>
   if C.bl.contains ("isinstance":Str)then(Qaf C x).bind λc=>(Ji C f).bind λk=>(Qaf C y).bind λd=>if C.T.ers.contains d&&C.T.chs.contains d then(compA m C (a::args)).bind λes=>(compA m (hdX C) (a1::as)).map λbs=>.tryR k es c d bs else none else none
 |_,_,_,_=>none
noncomputable def xS(m:Nat)(C:Ctx)(s:Stmt):Option EX:=match s with
 |.Try b hs o fn _=>Qlg m C b hs o fn
 |.Assign ts e _=>(match Qgk ts with
  |some (.nm x)=>if QaC C x&&(idx x C.N).isSome then xE m C e else none
  |_=>none)
 |.Return v _=>v.bind (xE m C)
 |.Expr e _=>if Qmy e then xE m C e else none
 |_=>none
noncomputable def QlA(m:Nat)(C:Ctx)(s:Stmt)(s0:S):S:=match xS m C s with
 |some x=>.xal s0 x
 |none=>s0
noncomputable def QnN(m:Nat)(C:Ctx)(s:Stmt)(s0:S):Option S:=some (QlA m C s s0)
mutual
noncomputable def Y9:Nat->Ctx->List Stmt->Option (List S)
 |0,_,_=>none
 |m+1,C,ss=>match ss with
  |[]=>some []
  |s::r=>(hdSt m C s).bind λs'=>(Y9 m C r).map (s'::·)
noncomputable def hdSt:Nat->Ctx->Stmt->Option S
 |0,_,_=>none
 |m+1,C,s=>match s with
  |.Return v _=>v.bind λe=>(Qd m C e).map .ret
  |.If t a b _=>(compT m C t).bind λt'=>(Y9 m C a).bind λa'=>(Y9 m C b).map (.ite t' a')
  |s=>(Qfx C s).bind λp=>(Qd m C p.2).map (.set p.1)
end
noncomputable def Qd1(m:Nat)(C:Ctx)(ss:List Stmt):Option (List S):=if C.bl.contains ("isinstance":Str)then Y9 m (hdX C) ss else none
noncomputable def Qk0:Option S->S
 |some s=>s
 |none=>.bad
mutual
noncomputable def QJ:Nat->Ctx->Stmt->Option S
 |0,_,_=>none
 |m+1,C,s=>match s with
  |.Pass _=>some .pass
  |.Break _=>some .brk
  |.Continue _=>some .cont
  |.Expr e _=>(match QmQ e with
   |some true=>some .pass
   |some false=>none
   |none=>(Qd m C e).map .expr)
  |.Return v _=>(match v with
   |none=>some .retN
   |some e=>(Qd m C e).map .ret)
  |.Assign ts e _=>(match Qgk ts with
   |some (.nm x)=>if QaC C x then(idx x C.N).bind λi=>(Qd m C e).bind λe'=>some (.set i e')else none
   |some (.at o f)=>if Zu o then(Qd m C e).bind λe'=>(Qd m C o).bind λo'=>(idx f C.T.fns').bind λk=>some (.fld o' k e')else none
   |some (.sub _ _)=>none
   |some (.two x p y q)=>if Yx C x&&Yx C y&&decide (x≠y)then(idx x C.N).bind λi=>(idx y C.N).bind λj=>(match QfZ e with
     |some _=>none
     |none=>if Qf4 e then(Qd m C e).map (.unp i j)else none)else none
   |some (.many _)=>none
   |none=>none)
  |.Raise e f _=>(match QeJ C e f with
   |some (c,args)=>(compA m C args).bind λes=>some (.rse c es)
   |none=>some .bad)
  |.Try b hs o fn _=>(match QcO C b hs o fn with
   |some t=>if C.bl.contains ("isinstance":Str)then(compA m C t.args).bind λes=>(Qd2 m C t.body).bind λbd=>some (.tryS t.j t.f es t.c bd)else none
   |none=>if o.isEmpty&&fn.isEmpty&&!hs.isEmpty then(compSs m C b).map .tryN else none)
  |.If t a b _=>(compT m C t).bind λt'=>(compSs m C a).bind λa'=>(compSs m C b).bind λb'=>some (.ite t' a' b')
  |.For tg it a [] _=>(Yy C tg).bind λtg'=>(compSrc m C it).bind λit'=>if Qar it' tg' then(compSs m C a).bind λa'=>some (.loop tg' it' a')else none
  |_=>none
noncomputable def compSs:Nat->Ctx->List Stmt->Option (List S)
 |0,_,_=>none
 |m+1,C,ss=>match ss with
  |[]=>some []
  |s::r=>(QnN m C s (Qk0 (QJ m C s))).bind λs'=>(compSs m C r).bind λr'=>some (s'::r')
end
end
end Iv
namespace L2
open PySem PySem.Spec PyProof.Rows
section
variable {X:Cx}
structure Mk0(K:W.Frag)(C:Addr):Prop where
 makes:W.makesIn K C=true
 init:W.findIn K (.ref C) "__init__"=some (some (.builtin "object.__init__"))
 kp:W.keepIn K (.ref C)=true
def QgA(C:Addr):TE:=λz H Q=>∀x dx,H x=none->H dx=none->dx≠x->Q (.ref x) (upd (upd H dx (.own x)) x (.ins C dx []))
def Qcd{pins:List (Addr×Obj)}{Y:St}{H:Hp}{s:Shared}{Q:VK}{C:Addr}(M:Mk0 X.K C)(I:Inv X pins Y H s)
  (h:∀x dx,H x=none->H dx=none->dx≠x->Q (.ref x) (upd (upd H dx (.own x)) x (.ins C dx []))):
  wpAny (model X.prog X.w) X.A (call (.ref C) []) (EP X pins Y Q) X.xe s:=by
 have hq:=h (s.heap.objs.size+1) s.heap.objs.size (I.hok.fresh (Ul _)) (I.hok.fresh (Xm _)) (X4 (W3 _));have I2:=Inv.made (C:=C) I;have Yyy:=W.makes_of (M:=model X.prog X.w) I.kIn M.makes
 have hob:((s.heap.push W.emptyDict).push (W.instObj C s.heap.objs.size)).get? (s.heap.objs.size+1)=some (W.instObj C s.heap.objs.size):=by
  have e:(s.heap.push W.emptyDict).objs.size=s.heap.objs.size+1:=W5 ..;rw[<-e];exact X0 _ rfl
 have t1:W.Looks (model X.prog X.w) ((s.heap.push W.emptyDict).push (W.instObj C s.heap.objs.size)) (typeOf (.ref (s.heap.objs.size+1))) (.ref C):=(W.Looks.ld hob).andThen .now
 have t2:W.Looks (model X.prog X.w) ((s.heap.push W.emptyDict).push (W.instObj C s.heap.objs.size)) (isInstance (.ref (s.heap.objs.size+1)) (.type "object")) true :=
  t1.andThen (Yyy.top.keeps λb o e=>Xd _ (Xd _ e))
 refine Uc (Qdw I.kIn M.makes M.init (λself=>W.Looks.of_pure (W.oi_bind self)) ?_);obtain⟨hh,g,d,t,os⟩:=s;refine Uw W.oi_plain W.entry_oi (@W.check_slot (model X.prog X.w) _ _ _ "object.__init__" "object" "__init__" (.ref (hh.objs.size+1)) [] [] _ W.oi_kind W.oi_split t2 (W.oi_args (.ref (hh.objs.size+1))) ?_);rw[W.oi_run];exact Xl (And.intro rfl ⟨V.ref (hh.objs.size+1),_,I2,rfl,hq⟩)
def Qdk{C:Addr}{x:Str}{p pos:Pos}(M:Mk0 X.K C)(hg:Gl X x)(hm:X.mg x=some (.ref C))(hdb:(x==("__debug__":Str))=false:=by decide):PE X (.Call (.Name x p) [] [] pos) (QgA C):=by
 intro pins s Y H Q I h;refine Wl (QR I hg hm ?_ hdb);exact W.callWith_K0 I.kIn M.kp (Qcd M I h)
noncomputable def Qm0:V->Option Value
 |.ty n=>some (.type n)
 |.ref a=>some (.ref a)
 |_=>none
def TyE(K:W.Frag)(H:Hp)(x:V)(t:Value): Prop:=TyOf K H x t\/(∃a C dd,x=.ref a/\t=.ref C/\H a=some (QcC a C dd)/\ErrCls K C)\/∃a vs,x=.ref a/\t=.type "tuple"/\SqT K H a vs
def Qfs:CallR X (.builtin "isinstance") (λxs H Q=>∃x c cv t b,xs=[x,c]/\Qm0 c=some cv/\TyE X.K H x t/\W.kitOne X.K t cv=some b/\Q (.bl b) H):= by
 intro pins s Y H xs us Q I r h;obtain⟨x,c,cv,t,b,rfl,hc,ty,e,q⟩:=h
 have ty:(TyOf X.K H x t\/∃a vs,x=.ref a/\t=.type "tuple"/\SqT X.K H a vs)\/∃a C dd,x=.ref a/\t=.ref C/\H a=some (QcC a C dd)/\ErrCls X.K C:=by rcases ty with h|h|h<;>simp only[h,or_true,true_or]
 rcases ty with ty|⟨a,C,dd,rfl,rfl,ha,Yyy⟩
 case inr=>exact Qd5 pins s Y H _ us Q I r ⟨a,c,cv,C,dd,b,rfl,by unfold Qm0 at hc;exact hc,ha,Yyy,e,q⟩
 obtain⟨u,w',rfl,rx,rc⟩:=Qgr r
 have ec:w'=cv:=by
  cases c with
  |ty n=>cases(show w'=Value.type n from rc);exact X2 hc
  |ref a=>cases(show w'=Value.ref a from rc);exact X2 hc
  |_=>cases hc
 subst ec
 rcases ty with ty|sq
 ·exact QdB I rx ty e λtk=>⟨.bl b,H,I.tok tk,rfl,q⟩
 obtain⟨a,vs,rfl,rfl,sq⟩:=sq;cases(show u=Value.ref a from rx);obtain⟨its,_,pl,_⟩:=I.tuple sq;obtain⟨o,ho,hc,_⟩:=id pl;exact Vw W.kitx_tuple I.kIn ⟨o,ho,hc⟩ e (λz=>nomatch z) λtk=>⟨.bl b,H,I.tok tk,rfl,q⟩
end
end L2
namespace Iv
open PySem PySem.Spec PyProof.Rows L2
section
variable {a p:Addr}{e:Expr}{ho:HO}{H:Hp}{n:Nat}{o:O}{T:Tbl}
abbrev St:=L2.St
structure Adr where
 f:Nat->Addr
 c:Nat->Addr
 k:Nat->Addr
 s:Addr
def Cg(i r:Int)(m:Nat):Prop:=∃q:Int,i=r+m*q
def Cg.exact{i r:Int}(h:Cg i r 0):i=r:=by obtain⟨q,e⟩:=h;simpa using e
def Cg.refl(i:Int)(m:Nat):Cg i i m:=⟨0,by simp⟩
def RU(A:Adr)(α:List Addr):U->V->Prop
 |.non,v=>v=.non
 |.bl b,v=>v=.bl b
 |.int r m,v=>∃i,v=.int i/\Cg i r m
 |.str x,v=>v=.str ⟨x.toArray⟩
 |.ref n,v=>∃a,α[n]?=some a/\v=.ref a
 |.con k,v=>v=.ref (A.k k)
 |.scr,v=>v=.ref A.s
abbrev RUs(A:Adr)(α:List Addr):List U->List V->Prop:=Paired (RU A α)
def RF(T:Tbl)(A:Adr)(α:List Addr):List (Nat×U)->List (Str×V)->Prop:=Paired λp q=>T.fns'[p.1]?=some q.1/\RU A α p.2 q.2
def RK:U->Key->Prop
 |.int i m,k=>m=0/\k=Sum.inl i
 |.str x,k=>k=Sum.inr ⟨x.toArray⟩
 |_,_=>False
def RD(A:Adr)(α:List Addr):List (U×U)->List (Key×V)->Prop:=Paired λp q=>RK p.1 q.1/\RU A α p.2 q.2
abbrev RKs:List U->List Key->Prop:=Paired RK
def RT(A:Adr)(α:List Addr):List (List U×U)->List (List Key×V)->Prop:=Paired λp q=>RKs p.1 q.1/\RU A α p.2 q.2
def EF(T:Tbl)(H:Hp)(c:Er)(dd:Option Addr):Prop:=∀f,T.efl.contains (c.1,f)=true->∃d od x v,dd=some d/\T.fns'[f]?=some x/\H d=some (.frz od (.xd [(x,v)]))/\∀A,RU A [] c.2 v
def EF.fz{H':Hp}{c:Er}{dd:Option Addr}(h:EF T H c dd)(k:∀b o fs,H b=some (.frz o (.xd fs))->H' b=some (.frz o (.xd fs))):EF T H' c dd:=λf q=>by
 obtain⟨d,od,x,v,e1,e2,e3,e4⟩:=h f q;exact⟨d,od,x,v,e1,e2,k _ _ _ e3,e4⟩
def RO(T:Tbl)(A:Adr)(α:List Addr)(H:Hp)(a:Addr):O->Prop
 |.lst xs=>∃vs,H a=some (.lst vs)/\RUs A α xs vs
 |.tup xs=>∃vs,H a=some (.tup vs)/\RUs A α xs vs
 |.ins c fs=>∃dx fv,H a=some (.ins (A.c c) dx fv)/\RF T A α fs fv/\c<T.cls.length
 |.dic kvs=>∃kv,H a=some (.dK kv)/\RD A α kvs kv
 |.dct kvs=>∃kv,H a=some (.dT kv)/\RT A α kvs kv
 |.fzd kvs=>∃kv ob,H a=some (.frz ob (.dK kv))/\RD A α kvs kv
 |.fzt kvs=>∃kv ob,H a=some (.frz ob (.dT kv))/\RT A α kvs kv
 |.err c w=>∃dd,H a=some (QcC a (A.c c) dd)/\T.ers.contains c=true/\EF T H (c,w) dd
structure RH(T:Tbl)(A:Adr)(α:List Addr)(hs:Hs)(H:Hp):Prop where
 len:α.length=hs.length
 nd:∀(i j:Nat) a,α[i]?=some a->α[j]?=some a->i=j\/∃vs,H a=some (.tup vs)
 ob:∀(n:Nat) a o,α[n]?=some a->hs[n]?=some o->RO T A α H a o
def Qnd(K:W.Frag)(H:Hp)(a:Addr)(xs:List V):Prop:=(∃o,H a=some (.frz o (.lst xs))) \/
 ∃(o:Obj) (its:Array Value) (n:Nat),K.lookup a=some o/\o.cls=.type "list"/\o.dict=none/\o.data=.seq its n/\its.size<=sizeLine/\Vals xs its.toList
def Scr(T:Tbl)(A:Adr)(K:W.Frag)(H:Hp):Prop:=∃vs,RUs A [] T.scr vs/\Qnd K H A.s vs
structure Rep(T:Tbl)(A:Adr)(K:W.Frag)(α:List Addr)(hs:Hs)(H:Hp):Prop where
 h:RH T A α hs H
 s:Scr T A K H
structure Ext(α α':List Addr)(H H':Hp):Prop where
 pre:∀(n:Nat) a,α[n]?=some a->α'[n]?=some a
 new:∀(n:Nat) a,α'[n]?=some a->α.length<=n->H a=none\/∃vs,H a=some (.tup vs)
 keep:∀b o,H b=some o->b∉α->H' b=some o
 fz:∀b o u,H b=some (.frz o u)->H' b=some (.frz o u)
 tr:∀b o,H b=some o->∃o',H' b=some o'/\∀vs,o=.tup vs↔o'=.tup vs
structure RS(A:Adr)(α:List Addr)(Z:Rho)(Y:St):Prop where
 len:Z.length=Y.length
 val:∀(i:Nat) u,Z[i]?=some (some u)->∃v,Y[i]?=some (some v)/\RU A α u v
section
variable {A:Adr}{K:W.Frag}{α α' α1 α2:List Addr}{hs h2:Hs}{H' H1 H2:Hp}{u:U}{v:V}{us:List U}{vs:List V}{Z:Rho}{Y:St}
def RU.mono(p:∀(n:Nat) a,α[n]?=some a->α'[n]?=some a)(h:RU A α u v):RU A α' u v:=by
 cases u with
 |ref n=>obtain⟨a,e,r⟩:=h;exact⟨a,p _ _ e,r⟩
 |_=>exact h
theorem RUs.mono(p:∀(n:Nat) a,α[n]?=some a->α'[n]?=some a)(h:RUs A α us vs):RUs A α' us vs:=Paired.mapP h λz z r=>RU.mono p r
theorem RF.mono{fs:List (Nat×U)}{fv:List (Str×V)}(p:∀(n:Nat) a,α[n]?=some a->α'[n]?=some a)(h:RF T A α fs fv):RF T A α' fs fv:=Paired.mapP h λz z r=>⟨r.1,r.2.mono p⟩
theorem RD.mono{fs:List (U×U)}{fv:List (Key×V)}(p:∀(n:Nat) a,α[n]?=some a->α'[n]?=some a)(h:RD A α fs fv):RD A α' fs fv:=Paired.mapP h λz z r=>⟨r.1,r.2.mono p⟩
theorem RT.mono{fs:List (List U×U)}{fv:List (List Key×V)}(p:∀(n:Nat) a,α[n]?=some a->α'[n]?=some a)(h:RT A α fs fv):RT A α' fs fv:=Paired.mapP h λz z r=>⟨r.1,r.2.mono p⟩
theorem RS.mono(p:∀(n:Nat) a,α[n]?=some a->α'[n]?=some a)(h:RS A α Z Y):RS A α' Z Y:=⟨h.len,λi u e=>by obtain⟨v,e1,r⟩:=h.val i u e;exact⟨v,e1,r.mono p⟩⟩
def Ext.refl:Ext α α H H:=⟨λz z e=>e,λn a e l=>by
 have:=(Xf.mp e).1
 omega,λz z e z=>e,λz z z e=>e,λz o e=>⟨o,e,λz=>Iff.rfl⟩⟩
def getElem?_lt(e:α[n]?=some a):n < α.length:=(Xf.mp e).1
theorem Ext.trans(a:Ext α α1 H H1)(b:Ext α1 α2 H1 H2)(R:RH T A α2 h2 H2):Ext α α2 H H2 where
 fz:=λc o kv e=>b.fz c o kv (a.fz c o kv e)
 pre:=λn x e=>b.pre n x (a.pre n x e)
 tr:=λc o e=>by
  obtain⟨o1,e1,q1⟩:=a.tr c o e;obtain⟨o2,e2,q2⟩:=b.tr c o1 e1;exact⟨o2,e2,λvs=>(q1 vs).trans (q2 vs)⟩
 new:=λn x e l=>by
  by_cases hn:n < α1.length
  ·have e1:α1[n]?=some α1[n]:=Xn hn;have e2:=b.pre n _ e1;rw[e]at e2;cases e2;exact a.new n _ e1 l
  ·cases q:H x with
   |none=>exact .inl rfl
   |some o=>
    obtain⟨o1,e1,q1⟩:=a.tr x o q
    rcases b.new n x e (by omega)with z|⟨vs,z⟩
    ·rw[e1]at z;cases z
    ·rw[e1]at z;cases z;exact .inr ⟨vs,congrArg some ((q1 vs).mpr rfl)⟩
 keep:=λc o e hc=>by
  by_cases hm:c∈α1
  ·obtain⟨n,hn⟩:=Ud hm;by_cases l:n < α.length
   ·have e1:α[n]?=some α[n]:=Xn l;have:=a.pre n _ e1;rw[hn]at this;cases this;exact absurd (Uf l) hc
   ·rcases a.new n c hn (by omega)with z|⟨vs,z⟩
    ·rw[z]at e;cases e
    ·rw[e]at z;cases z;obtain⟨o1,e1,q1⟩:=a.tr c _ e;obtain⟨o2,e2,q2⟩:=b.tr c o1 e1;rw[e2,((q1 vs).trans (q2 vs)).mp rfl]
  ·exact b.keep c o (a.keep c o e hc) hm
def RO.trk(h:RO T A α H a o):∃x,H a=some x/\(∀ob u,x≠.frz ob (.lst u))/\∀ob u,x≠.frz ob (.xd u):=by
 cases o with
 |lst xs=>obtain⟨vs,e,_⟩:=h;exact⟨_,e,(λy y z=>nomatch z),λy y z=>nomatch z⟩
 |tup xs=>obtain⟨vs,e,_⟩:=h;exact⟨_,e,(λy y z=>nomatch z),λy y z=>nomatch z⟩
 |ins c fs=>obtain⟨dx,fv,e,_⟩:=h;exact⟨_,e,(λy y z=>nomatch z),λy y z=>nomatch z⟩
 |dic _=>obtain⟨kv,e,_⟩:=h;exact⟨_,e,(λy y z=>nomatch z),λy y z=>nomatch z⟩
 |dct _=>obtain⟨kv,e,_⟩:=h;exact⟨_,e,(λy y z=>nomatch z),λy y z=>nomatch z⟩
 |fzd _=>obtain⟨kv,ob,e,_⟩:=h;exact⟨_,e,(λy y z=>nomatch z),λy y z=>nomatch z⟩
 |fzt _=>obtain⟨kv,ob,e,_⟩:=h;exact⟨_,e,(λy y z=>nomatch z),λy y z=>nomatch z⟩
 |err _ _=>obtain⟨dd,e,_⟩:=h;exact⟨_,e,(λy y z=>nomatch z),λy y z=>nomatch z⟩
def RH.trk(R:RH T A α hs H)(e:α[n]?=some a):∃o,hs[n]?=some o/\RO T A α H a o:=by
 have l:=getElem?_lt e;rw[R.len]at l;exact⟨hs[n],Xn l,R.ob n a _ e (Xn l)⟩
def RH.notIn(R:RH T A α hs H)(h:H p=none):p∉α:=λm=>by
 obtain⟨n,e⟩:=Ud m;obtain⟨o,_,r⟩:=R.trk e;obtain⟨x,e,_⟩:=r.trk;rw[h]at e;cases e
def RH.nd_keep(R:RH T A α hs H)(k:∀b x,b∈α->H b=some x->H' b=some x):∀(i j:Nat) a,α[i]?=some a->α[j]?=some a->i=j\/∃vs,H' a=some (.tup vs):=λi j a e1 e2=>
 (R.nd i j a e1 e2).imp id λz=>by obtain⟨vs,q⟩:=z;exact⟨vs,k a _ (X7 e1) q⟩
def Qds(h:∀(i j:Nat) a,α[i]?=some a->α[j]?=some a->i=j\/∃vs,H a=some (.tup vs))(n:p∉α):∀(i j:Nat) a,(α++[p])[i]?=some a->(α++[p])[j]?=some a->i=j\/∃vs,H a=some (.tup vs):=λi j a e1 e2=>by
 have cs:∀{k:Nat},(α++[p])[k]?=some a->α[k]?=some a\/(k=α.length/\a=p):=λ{k} e=>by
  by_cases l:k < α.length
  ·rw[Wg l]at e;exact .inl e
  ·rw[Wi (by omega)]at e
   have:=(Xf.mp e).1;simp at this
   have hk:k=α.length:=by omega
   subst hk;simp at e;exact .inr ⟨rfl,e.symm⟩
 rcases cs e1 with q1|⟨q1,w1⟩
 ·rcases cs e2 with q2|⟨q2,w2⟩
  ·exact h i j a q1 q2
  ·exact absurd (w2▸X7 q1) n
 ·rcases cs e2 with q2|⟨q2,w2⟩
  ·exact absurd (w1▸X7 q2) n
  ·exact .inl (q1.trans q2.symm)
def RO.keep(h:RO T A α H a o)(p:∀(n:Nat) a,α[n]?=some a->α'[n]?=some a)(k:∀b x,H b=some x->(b=a\/∃o fs,x=.frz o (.xd fs))->H' b=some x):RO T A α' H' a o:=by
 have kx:=k;have k:=λx e=>kx a x e (.inl rfl)
 cases o with
 |lst xs=>obtain⟨vs,e,r⟩:=h;exact⟨vs,k _ e,RUs.mono p r⟩
 |tup xs=>obtain⟨vs,e,r⟩:=h;exact⟨vs,k _ e,RUs.mono p r⟩
 |ins c fs=>obtain⟨dx,fv,e,r,l⟩:=h;exact⟨dx,fv,k _ e,RF.mono p r,l⟩
 |dic _=>obtain⟨kv,e,r⟩:=h;exact⟨kv,k _ e,RD.mono p r⟩
 |dct _=>obtain⟨kv,e,r⟩:=h;exact⟨kv,k _ e,RT.mono p r⟩
 |fzd _=>obtain⟨kv,ob,e,r⟩:=h;exact⟨kv,ob,k _ e,RD.mono p r⟩
 |fzt _=>obtain⟨kv,ob,e,r⟩:=h;exact⟨kv,ob,k _ e,RT.mono p r⟩
 |err _ _=>obtain⟨dd,e,l,q⟩:=h;exact⟨dd,k _ e,l,q.fz λb o fs e=>kx b _ e (.inr ⟨o,fs,rfl⟩)⟩
def Scr.keep(h:Scr T A K H)(k:∀x,H A.s=some x->(∃o u,x=.frz o (.lst u))->H' A.s=some x):Scr T A K H':=by
 obtain⟨vs,r,q|q⟩:=h
 ·obtain⟨o,e⟩:=q;exact⟨vs,r,.inl ⟨o,k _ e ⟨_,_,rfl⟩⟩⟩
 ·exact⟨vs,r,.inr q⟩
def Scr.sq(h:Scr T A K H):∃vs,RUs A α T.scr vs/\SqL K H A.s vs:=by
 obtain⟨vs,r,q⟩:=h
 refine⟨vs,RUs.mono (λn a e=>by simp at e) r,?_⟩
 rcases q with⟨o,e⟩|q
 ·exact .inl (.inr ⟨o,e⟩)
 ·exact .inr q
def QY:(α++[p])[α.length]?=some p:=by simp
def QH:∀(n:Nat) a,α[n]?=some a->(α++[p])[n]?=some a:=λn a e=>by
 rw[Wg (getElem?_lt e)];exact e
def QI{β:Type}{l:List β}{p a:β}(e:(l++[p])[n]?=some a):l[n]?=some a\/(n=l.length/\a=p):=by
 by_cases h:n<l.length
 ·rw[Wg h]at e;exact .inl e
 ·rw[Wi (by omega)]at e
  have:n-l.length=0:=by
   cases q:n-l.length with
   |zero=>rfl
   |succ k=>rw[q]at e;simp at e
  rw[this]at e;simp at e
  exact .inr ⟨by omega,e.symm⟩
def Rep.new(R:Rep T A K α hs H)(hp:H p=none)(r:RO T A (α++[p]) (upd H p ho) p o):Rep T A K (α++[p]) (hs++[o]) (upd H p ho)/\Ext α (α++[p]) H (upd H p ho):=by
 have ne:∀b x,H b=some x->b≠p:=λb x e z=>by rw[z,hp]at e;cases e
 refine⟨⟨⟨by simp[R.h.len],Qds (R.h.nd_keep λb x y e=>by rw[Qe (ne _ _ e)];exact e) (R.h.notIn hp),λn a ob e1 e2=>?_⟩,R.s.keep λx e y=>by rw[Qe (ne _ _ e)];exact e⟩,⟨QH,λn a e l=>?_,λb x e y=>by rw[Qe (ne _ _ e)];exact e,λb x kv e=>by rw[Qe (ne _ _ e)];exact e,λb x e=>⟨x,by rw[Qe (ne _ _ e)];exact e,λy=>Iff.rfl⟩⟩⟩
 ·rcases QI e1 with q|⟨q1,q2⟩
  ·rcases QI e2 with z|⟨z,_⟩
   ·exact RO.keep (R.h.ob n a ob q z) QH λy x e y=>by rw[Qe (ne _ _ e)];exact e
   ·have:=getElem?_lt q;rw[R.h.len]at this;omega
  ·subst q2
   rcases QI e2 with z|⟨_,z⟩
   ·have:=(Xf.mp z).1;rw[<-R.h.len]at this;omega
   ·subst z;exact r
 ·rcases QI e with q|⟨_,q⟩
  ·have:=getElem?_lt q;omega
  ·rw[q];exact .inl hp
def Rep.put0(R:Rep T A K α hs H)(ha:α[n]?=some a)(r:RO T A α (upd H a ho) a o)(ht:∀vs,H a≠some (.tup vs):=by intro _ z;simp only[*,Wy,reduceCtorEq]at z):Rep T A K α (hs.set n o) (upd H a ho):=by
 have ta:=R.h.trk ha;obtain⟨o0,_,r0⟩:=ta;obtain⟨x0,e0,nf,nx⟩:=r0.trk
 have nd:∀(i j:Nat) c,α[i]?=some c->α[j]?=some c->i=j\/∃vs,upd H a ho c=some (.tup vs):=λi j c e1 e2=>by
  rcases R.h.nd i j c e1 e2 with q|⟨vs,q⟩
  ·exact .inl q
  ·exact .inr ⟨vs,by rw[Qe (λ(z:c=a)=>ht vs (z▸q))];exact q⟩
 refine⟨⟨by simp[R.h.len],nd,λm b ob e1 e2=>?_⟩,R.s.keep λx e z=>?_⟩
 ·by_cases hm:m=n
  ·subst hm;rw[ha]at e1;cases e1
   have l:m<hs.length:=by rw[<-R.h.len];exact getElem?_lt ha
   rw[Wh l]at e2;cases e2;exact r
  ·rw[Xz (Ww hm)]at e2
   have hb:b≠a:=λz=>by
    rcases R.h.nd m n a (z▸e1) ha with q|⟨vs,q⟩
    ·exact hm q
    ·exact ht vs q
   refine RO.keep (R.h.ob m b ob e1 e2) (λy y e=>e) λc x e w=>?_
   rcases w with rfl|⟨oz,fs,rfl⟩
   ·rw[Qe hb];exact e
   ·rw[Qe (λz=>by rw[z,e0]at e;cases e;exact nx _ _ rfl)];exact e
 ·obtain⟨ob,u,z⟩:=z
  have hb:A.s≠a:=λq=>by rw[q,e0]at e;cases e;exact nf _ _ z
  rw[Qe hb];exact e
def Rep.put(R:Rep T A K α hs H)(ha:α[n]?=some a)(r:RO T A α (upd H a ho) a o)(hz:∀ob u,H a≠some (.frz ob u):=by intro _ _ z;simp only[*,Wy,reduceCtorEq]at z)(ht:∀vs,H a≠some (.tup vs):=by intro _ z;simp only[*,Wy,reduceCtorEq]at z)(hh:∀vs,ho≠.tup vs:=by intro _ z;cases z):Rep T A K α (hs.set n o) (upd H a ho)/\Ext α α H (upd H a ho):=by
 refine⟨R.put0 ha r ht,⟨λy y e=>e,λm b e l=>by have:=getElem?_lt e;omega,λb x e hb=>?_,λb ob kv e=>?_,λb x e=>?_⟩⟩
 ·have hb':b≠a:=λz=>hb (z▸X7 ha);rw[Qe hb'];exact e
 ·have hb':b≠a:=λz=>hz ob kv (z▸e);rw[Qe hb'];exact e
 ·by_cases hb':b=a
  ·subst hb';exact⟨ho,Ql,λvs=>⟨λz=>absurd (z▸e) (ht vs),λz=>absurd z (hh vs)⟩⟩
  ·exact⟨x,by rw[Qe hb'];exact e,λy=>Iff.rfl⟩
def RS.get(R:RS A α Z Y){i:Nat}{u:U}(e:Z[i]?=some (some u)):∃v,Y[i]?=some (some v)/\RU A α u v:=R.val i u e
theorem RS.set(R:RS A α Z Y)(i:Nat)(r:RU A α u v):RS A α (Z.set i (some u)) (Y.set i (some v)):=by
 refine⟨by simp[R.len],λj w e=>?_⟩
 by_cases h:j=i
 ·subst h
  have l:j < Z.length:=by
   have:=(Xf.mp e).1;simpa using this
  rw[Wh l]at e;cases e
  exact⟨v,Wh (by rw[<-R.len];exact l),r⟩
 ·rw[Xz (Ww h)]at e;rw[Xz (Ww h)];exact R.val j w e
end
def flE(A:Adr)(α:List Addr)(D:Ends)(Y:St)(H:Hp):Fl->Prop
 |.next=>D.nx Y H
 |.brk=>D.bk Y H
 |.cont=>D.ct Y H
 |.ret u=>∀v,RU A α u v->D.rt v H
section
variable (T:Tbl)(A:Adr)(K:W.Frag)
def TI(f:Rho->Hs->Option (U×Hs)):TE:=λY H Q=>∃α Z hs u hs',RS A α Z Y/\Rep T A K α hs H/\f Z hs=some (u,hs') /\
 ∀α' v H',Ext α α' H H'->Rep T A K α' hs' H'->RU A α' u v->Q v H'
def TIT(f:Rho->Hs->Option (Bool×Hs)):TT:=λY H Q=>∃α Z hs u hs',RS A α Z Y/\Rep T A K α hs H/\f Z hs=some (u,hs') /\
 ∀α' H',Ext α α' H H'->Rep T A K α' hs' H'->Q u H'
def TIA(f:Rho->Hs->Option (List U×Hs)):TA:=λY H Q=>∃α Z hs us hs',RS A α Z Y/\Rep T A K α hs H/\f Z hs=some (us,hs') /\
 ∀α' vs H',Ext α α' H H'->Rep T A K α' hs' H'->RUs A α' us vs->Q vs H'
def TIS(f:Ex):TS:=λD Y H=>∃α Z hs fl ρ' hs',RS A α Z Y/\Rep T A K α hs H/\f Z hs=some (fl,ρ',hs') /\
 ∀α' Y' H',Ext α α' H H'->Rep T A K α' hs' H'->RS A α' ρ' Y'->flE A α' D Y' H' fl
end
section
variable {A:Adr}{K:W.Frag}{α:List Addr}{Z:Rho}{Y:St}{hs h1:Hs}
def TI.run{f:Rho->Hs->Option (U×Hs)}{u:U}{Q:VK}(rs:RS A α Z Y)(rp:Rep T A K α hs H)(h:f Z hs=some (u,h1))
  (k:∀α1 v H1,Ext α α1 H H1->Rep T A K α1 h1 H1->RU A α1 u v->RS A α1 Z Y->Q v H1):TI T A K f Y H Q :=
 ⟨α,Z,hs,u,h1,rs,rp,h,λα1 v H1 e r q=>k α1 v H1 e r q (rs.mono e.pre)⟩
def TIT.run{f:Rho->Hs->Option (Bool×Hs)}{u:Bool}{Q:Bool->Hp->Prop}(rs:RS A α Z Y)(rp:Rep T A K α hs H)(h:f Z hs=some (u,h1))
  (k:∀α1 H1,Ext α α1 H H1->Rep T A K α1 h1 H1->RS A α1 Z Y->Q u H1):TIT T A K f Y H Q :=
 ⟨α,Z,hs,u,h1,rs,rp,h,λα1 H1 e r=>k α1 H1 e r (rs.mono e.pre)⟩
def TIA.run{f:Rho->Hs->Option (List U×Hs)}{us:List U}{Q:List V->Hp->Prop}(rs:RS A α Z Y)(rp:Rep T A K α hs H)(h:f Z hs=some (us,h1))
  (k:∀α1 vs H1,Ext α α1 H H1->Rep T A K α1 h1 H1->RUs A α1 us vs->RS A α1 Z Y->Q vs H1):TIA T A K f Y H Q :=
 ⟨α,Z,hs,us,h1,rs,rp,h,λα1 v H1 e r q=>k α1 v H1 e r q (rs.mono e.pre)⟩
end
section
variable {X:Cx}
def QT{t t':TE}(h:PE X e t)(i:∀Y H Q,t' Y H Q->t Y H Q):PE X e t':=λpins s Y H Q I q=>h pins s Y H Q I (i Y H Q q)
def Qfz{t t':TT}(h:PT X e t)(i:∀Y H Q,t' Y H Q->t Y H Q):PT X e t':=λpins s Y H Q I q=>h pins s Y H Q I (i Y H Q q)
def Qk7{t t':TT}(h:PW X e t)(i:∀Y H Q,t' Y H Q->t Y H Q):PW X e t':=λwh pins s Y H Q I q=>h wh pins s Y H Q I (i Y H Q q)
def Qld{es:List Expr}{t t':TA}(h:PA X es t)(i:∀Y H Q,t' Y H Q->t Y H Q):PA X es t':=λpos pins s Y H Q I q=>h pos pins s Y H Q I (i Y H Q q)
def Zr{st:Stmt}{t t':TS}(h:PS X st t)(i:∀D Y H,t' D Y H->t D Y H):PS X st t':=λpins s Y H D I q=>h pins s Y H D I (i D Y H q)
def JB{st:List Stmt}{t t':TS}(h:PSs X st t)(i:∀D Y H,t' D Y H->t D Y H):PSs X st t':=λpins s Y H D I q=>h pins s Y H D I (i D Y H q)
end
end
section
variable {f:Addr}{A:Adr}{C:Ctx}{X:Cx}{fd:FuncData}{us:List U}{vs:List V}{st:Stmt}{x:Str}{mg:Str->Option Value}{T:Tbl}
noncomputable def tyV:Ty->String
 |.non=>"NoneType"|.bool=>"bool"|.int=>"int"|.str=>"str"|.list=>"list"|.tuple=>"tuple"|.dict=>"dict"|.cls _=>"object"|.vale=>"ValueError"
noncomputable def tyW(A:Adr):Ty->Value
 |.cls c=>.ref (A.c c)
 |t=>.type (tyV t)
structure ClOk(T:Tbl)(A:Adr)(K:W.Frag)(i:Nat)(C:Cl):Prop where
 cls:Cls K (A.c i)
 nf:∀x∈T.fns',NoAttr K (A.c i) x
 me:∀m f,C.meths.lookup m=some f->∃x,T.mns[m]?=some x/\Meth K (A.c i) x (A.f f)
 mks:W.makesIn K (A.c i)=true
 kp:W.keepIn K (.ref (A.c i))=true
 ini:match C.init with
  |some f=>W.findIn K (.ref (A.c i)) "__init__"=some (some (.ref (A.f f)))/\W.isFn K (.ref (A.f f))= true
  |none=>W.findIn K (.ref (A.c i)) "__init__"=some (some (.builtin "object.__init__"))
 ty:∀(H:Hp) (a dx:Addr) (fs:List (Str×V)),H a=some (.ins (A.c i) dx fs)->TyOf K H (.ref a) (.ref (A.c i))
structure FunD(K:W.Frag)(x qual:Str)(st:Stmt)(f:Addr)(fd:FuncData):Prop where
 ex:∃(oc:Value) (od:Option Addr) (dV kV doc pm:Value) (an:Option Addr) (cdv ct:Value) (osl:Array (Option Value)),
  fd=W.fnOf x qual (Qbr st) (Zi st) (Qh st) dV kV doc pm an cdv ct/\K.lookup f=some ⟨oc,od,.func fd,osl⟩/\W.codeIn K cdv qual=true
 kp:W.keepIn K (.ref f)=true
def FunD.ok{P:Program}{w:World}{K:W.Frag}{base:Heap}{qual:Str}{N ps:List Str}{k:Nat}{sp:Sp}(F:FunD K x qual st f fd)(S:FnScope N ps (Qh st))(len:∀vs H Q E,sp vs H Q E->vs.length=ps.length)
  (hbody:∀(cdv:Value) (A:Around) (outer:List Env) (s:Shared) (H:Hp) (vs:List V) (Q:VK) (E:XK),Room k (A.deeper (envOfC qual (Qh st) s.heap.objs.size f cdv))->sp vs H Q E ->
   ∃t,PSs (QaJ CX0 P w K mg base N qual (Qh st) f cdv A outer s H E).nox (Zi st) t/\t {nx:=λz H'=>Q .non H',rt:=Q} (start N vs) H):FnOk P w K mg base CX0 (k+1) f fd ps sp:=by
 obtain⟨oc,od,dV,kV,doc,pm,an,cdv,ct,osl,rfl,lk,hcd⟩:=F.ex;refine QkF lk hcd S len λA outer s H vs Q E hr hsp=>?_;obtain⟨t,h,q⟩:=hbody cdv A outer s H vs Q E hr hsp;exact⟨t,h.nox,q⟩
def FunD.okH{P:Program}{w:World}{K:W.Frag}{base:Heap}{qual:Str}{N ps:List Str}{k:Nat}{sp:Sp}(F:FunD K x qual st f fd)(S:FnScope N ps (Qh st))(len:∀vs H Q E,sp vs H Q E->vs.length=ps.length)
  (hbody:∀(cdv:Value) (A:Around) (v:Value) (outer:List Env) (s:Shared) (H:Hp) (vs:List V) (Q:VK) (E:XK),Room k (A.deeper (envOfC qual (Qh st) s.heap.objs.size f cdv))->sp vs H Q E ->
   ∃t,PSs ((QaJ CX0 P w K mg base N qual (Qh st) f cdv A outer s H E).hd v).nox (Zi st) t/\t {nx:=λz H'=>Q .non H',rt:=Q} (start N vs) H):FnOkH P w K mg base (k+1) f fd ps sp:=by
 obtain⟨oc,od,dV,kV,doc,pm,an,cdv,ct,osl,rfl,lk,hcd⟩:=F.ex;exact QkE lk hcd S len λA v outer s H vs Q E hr hsp=>hbody cdv A v outer s H vs Q E hr hsp
def FunD.same{K:W.Frag}{y q q':Str}{st':Stmt}{fd':FuncData}(a:FunD K x q st f fd)(b:FunD K y q' st' f fd'):fd=fd':=by
 obtain⟨_,_,_,_,_,_,_,_,_,_,_,l1,_⟩:=a.ex;obtain⟨_,_,_,_,_,_,_,_,_,_,_,l2,_⟩:=b.ex;rw[l1]at l2;cases l2;rfl
def Qiz(A:Adr)(K:W.Frag)(fd:FuncData)(D:Df):Prop:=∃(ds:List Value) (dvs:List V),RUs A [] D.ds dvs/\Vals dvs ds/\(∀n,Binds K fd D.ps (ds.drop n))
structure Txt(T:Tbl)(A:Adr)(K:W.Frag)(mg:Str->Option Value):Prop where
 fn:∀i F,T.fns[i]?=some F->∃fd,FunD K F.name F.qual F.st (A.f i) fd/\Binds K fd F.ps []/\FnScope F.N F.ps (Qh F.st)/\F.ps.length=F.np/\F.N.length=F.nN
 df:∀i D,T.dfl.lookup i=some D->∃fd x q st,FunD K x q st (A.f i) fd/\Qiz A K fd D/\∀F,T.fns[i]?=some F->F.ps=D.ps/\F.np=D.np
 cl:∀i C,T.cls[i]?=some C->ClOk T A K i C
 fm:∀x∈T.fns',x∉T.mns
 fd:T.fns'.Nodup
 isi:∀k t b,T.isi.lookup (k,t)=some b->W.kitOne K (tyW A k) (tyW A t)=some b
 co:∀k c,T.cons[k]?=some c->match c with
  |Co.tup xs=>∃vs,RUs A [] xs vs/\∀H,SqT K H (A.k k) vs
  |Co.lst xs=>∃vs,RUs A [] xs vs/\∀H,SqL K H (A.k k) vs
  |Co.tab _=>True
 er:∀c,T.ers.contains c=true->ErrCls K (A.c c)/\((∀f,T.efl.contains (c,f)= false)/\W.excIn K (A.c c) Qad "ValueError.__new__"=true)
 es:∀c c',T.esb.contains (c,c')=true->W.exmOne K (.ref (A.c c)) (.ref (A.c c'))=some true
 ch:∀c,T.ers.contains c=true->chB (.ref (A.c c))=T.chs.contains c
def Qe8:U->Key->Prop
 |.int i 0,k=>k=.inl i
 |.str x,k=>k=.inr ⟨x.toArray⟩
 |_,_=>False
def Je(P:Program)(w:World)(T:Tbl)(A:Adr)(K:W.Frag):Prop:=∀k kvs,T.cons[k]?=some (.tab kvs) ->
 ∃vs:List (Key×Value),(A.k k==sysModules)=false/\(∀h:Heap,K.In h->h.DictOf (ZC P w) (A.k k) vs)/\Paired (λ(p:U×U) (q:Key×Value)=>Qe8 p.1 q.1/\∃v,RU A [] p.2 v/\RelV v q.2) kvs vs
structure GX(T:Tbl)(A:Adr)(C:Ctx)(X:Cx):Prop where
 CT:C.T=T
 N:X.N=C.N
 nd:X.N.Nodup
 sc:X.env.scope.names=C.names
 calm:hdC C=false->X.calm=true
 kind:X.env.scope.kind=.function
 xe:X.xe=λ_ _=>False
 gfn:∀x i,C.gl.lookup x=some (.fn i)->X.mg x=some (.ref (A.f i))
 gcl:∀x i,C.gl.lookup x=some (.cls i)->X.mg x=some (.ref (A.c i))
 gco:∀x k,C.gl.lookup x=some (.con k)->X.mg x=some (.ref (A.k k))
 gtx:∀x t,C.gl.lookup x=some (.txt t)->∃v w,X.mg x=some w/\RelV v w/\∀α,RU A α t v
 blt:∀x,¬C.bl.contains x=false->X.mg x=none
 txt:Txt T A X.K X.mg
 tab:Je X.prog X.w T A X.K
def spC(T:Tbl)(A:Adr)(K:W.Frag)(cf:Cf)(f:Nat):Sp:=λvs H Q z=>∃α us hs u hs',RUs A α us vs/\Rep T A K α hs H/\cf f us hs=some (u,hs')/\(∃F,T.fns[f]?=some F/\us.length=F.np) /\
 ∀α' v H',Ext α α' H H'->Rep T A K α' hs' H'->RU A α' u v->Q v H'
def spX(T:Tbl)(A:Adr)(K:W.Frag)(xf:Nat->List U->Hs->Option (Er×Hs))(f:Nat):Sp:=λvs H z E=>∃α us hs c hs',RUs A α us vs/\Rep T A K α hs H/\xf f us hs=some (c,hs')/\(∃F,T.fns[f]?=some F/\us.length=F.np) /\
 ∀α' H' dd,Ext α α' H H'->Rep T A K α' hs' H'->EF T H' c dd->E (.ref (A.c c.1)) dd H'
theorem Q3{x:Str}:∀{N:List Str} {i:Nat},idx x N=some i->N[i]?=some x
 |[],_,h=>by simp[idx]at h
 |y::r,i,h=>by
  unfold idx at h;split at h
  ·rename_i e;cases h;simp[e]
  ·cases q:idx x r with
   |none=>rw[q]at h;cases h
   |some j=>
    rw[q]at h;cases h;simpa using Q3 q
def QiH(g:GX T A C X)(h:Qfb C x=true):Vis X.env.scope x:=by
 unfold Qfb at h;unfold Vis;rw[g.sc];split at h<;>simp_all
def Qaw(g:GX T A C X)(h:QaC C x=true):L2.Loc X.env.scope x:=by
 unfold QaC at h;unfold L2.Loc;rw[g.sc];split at h<;>simp_all
def QS(g:GX T A C X)(h:ZT C x=true):Gl X x:=by
 unfold ZT at h;show X.env.scope.names.lookup x=some .globalImplicit;rw[g.sc];split at h
 ·assumption
 ·cases h
def Qz{y:Str}(h:x≠y):(x==y)=false:=by simpa using h
def Ze{o:Expr}{f:Str}{env:Env}{w:Sem Value}(h:Zu o=true):attributeBase o f env w=w:=by
 unfold attributeBase;split
 ·cases h
 ·rfl
def Jp{b:Expr}(h:YI b=true):Qei b:=by
 intro o i
 cases b<;>first|rfl|cases h
def Qf{e:Expr}{es:List Expr}{env:Env}(h:∀x p,e≠.Starred x p):starEach (e::es) env=(false,eval e env)::starEach es env:=by
 cases e<;>first|rfl|exact absurd rfl (h _ _)
def Yz(es:List Expr):Prop:=∀e∈es,∀x p,e≠.Starred x p
theorem QG{env:Env}{pos:Pos}:∀{es:List Expr},Yz es->(backTo pos (starEach es env)).any (·.1)=false
 |[],_=>rfl
 |e::r,h=>by
  rw[Qf (h e (Xh ..))];have ih:=QG (env:=env) (pos:=pos) (es:=r) λx hx=>h x (Xg _ hx);unfold backTo at ih ⊢;rw[Ws,T2,ih];rfl
def Qt{m:Nat}{e:Expr}{ir:E}(h:Qd m C e=some ir):∀x p,e≠.Starred x p:=by
 rintro x p rfl
 cases m<;>first|exact Znn h|simp[Qd]at h
theorem Qi{C:Ctx}:∀{m:Nat} {es:List Expr} {irs:List E},compA m C es=some irs->Yz es
 |0,_,_,h=>by simp[compA]at h
 |m+1,[],_,_=>λz h=>nomatch h
 |m+1,e::r,irs,h=>by
  simp only[compA,Xb]at h;obtain⟨e',he,r',hr,_⟩:=h;intro x hx
  rcases Xo.mp hx with rfl|hx
  ·exact Qt he
  ·exact Qi hr x hx
section
variable {K:W.Frag}{α:List Addr}{hs:Hs}{H:Hp}{u:U}{v:V}
theorem RUs.length(r:RUs A α us vs):us.length=vs.length:=Paired.length r
def RUs.get{i:Nat}{u:U}(h:RUs A α us vs)(e:us[i]?=some u):∃v,vs[i]?=some v/\RU A α u v:=Jo h e
def RUs.append{ws:List U}{ys:List V}(h:RUs A α us vs)(h':RUs A α ws ys):RUs A α (us++ws) (vs++ys):=Qde h h'
def Yo{xs:List U}{K':W.Frag}(tx:Txt T A K mg)(R:Rep T A K α hs H)(h:ZN T u hs=some xs)(r:RU A α u v):∃a vs,v=.ref a/\RUs A α xs vs/\(SqL K H a vs\/SqT K H a vs):=by
 cases u with
 |ref n=>
  obtain⟨a,ha,rfl⟩:=r;simp only[ZN]at h;split at h
  ·rename_i ys e;cases h;obtain⟨vs,q,rr⟩:=R.h.ob n a _ ha e;exact⟨a,vs,rfl,rr,.inl (SqL.of q)⟩
  ·rename_i ys e;cases h;obtain⟨vs,q,rr⟩:=R.h.ob n a _ ha e;exact⟨a,vs,rfl,rr,.inr (SqT.of q)⟩
  ·cases h
 |con k=>
  simp only[ZN]at h;split at h
  ·rename_i ys e;cases h;obtain⟨vs,rr,q⟩:=tx.co k _ e
   exact⟨_,vs,r,RUs.mono (λn a e=>by simp at e) rr,.inl (q H)⟩
  ·rename_i ys e;cases h;obtain⟨vs,rr,q⟩:=tx.co k _ e
   exact⟨_,vs,r,RUs.mono (λn a e=>by simp at e) rr,.inr (q H)⟩
  ·cases h
 |scr=>
  simp only[ZN]at h;cases h;obtain⟨vs,rr,q⟩:=R.s.sq (α:=α);exact⟨_,vs,r,rr,.inl q⟩
 |_=>simp[ZN]at h
def Zq(x:List Nat):({cps:=x.toArray}:Str).length=x.length:=by simp[Str.length]
def big:(1000000:Nat)<=sizeLine:=by decide
def QcP{b:Bool}(tx:Txt T A K mg)(R:Rep T A K α hs H)(h:Zl T u hs=some b)(r:RU A α u v):Qk6 K v H b:=by
 have sq:∀{xs:List U},ZN T u hs=some xs->b=!xs.isEmpty->Qk6 K v H b:=λ{xs} e1 e2=>by
  obtain⟨a,vs,rfl,rr,q⟩:=Yo (K':=K) tx R e1 r
  have e3:b=!vs.isEmpty:=by
   rw[e2];cases rr<;>rfl
  rcases q with q|q
  ·exact .inl ⟨vs,q,e3⟩
  ·exact .inr (.inl ⟨vs,q,e3⟩)
 cases u with
 |non=>simp only[Zl]at h;cases h;cases r;rfl
 |bl c=>simp only[Zl]at h;cases h;cases r;rfl
 |int i m=>
  cases m with
  |zero=>
   simp only[Zl]at h;cases h;obtain⟨j,rfl,c⟩:=r;cases c.exact;show decide (i≠0)=(i != 0);by_cases q:i=0<;>simp[q]
  |succ m=>simp[Zl,ZN]at h
 |str x=>
  simp only[Zl]at h;split at h
  ·rename_i l;cases h;cases(show v=.str ⟨x.toArray⟩from r)
   refine⟨by rw[Zq];exact X1 l big,?_⟩
   rw[Zq];cases x<;>simp;omega
  ·cases h
 |ref n=>
  simp only[Zl,Xc]at h;obtain⟨xs,e1,e2⟩:=h;exact sq e1 e2.symm
 |con n=>
  simp only[Zl,Xc]at h;obtain⟨xs,e1,e2⟩:=h;exact sq e1 e2.symm
 |scr=>
  simp only[Zl,Xc]at h;obtain⟨xs,e1,e2⟩:=h;exact sq e1 e2.symm
end
end
section
variable {i i' j:Int}{m:Nat}
def Qgf{j':Int}{n:Nat}(a:Cg i' i m)(b:Cg j' j n):Cg (i'+j') (i+j) (gz m n):=by
 obtain⟨p,rfl⟩:=a;obtain⟨q,rfl⟩:=b
 cases m with
 |zero=>exact⟨q,by simp[gz];omega⟩
 |succ m=>
  obtain⟨x,hx⟩:=Nat.gcd_dvd_left (m+1) n;obtain⟨y,hy⟩:=Nat.gcd_dvd_right (m+1) n;refine⟨x*p+y*q,?_⟩
  have e1:((m+1:Nat):Int)=(Nat.gcd (m+1) n:Int)*(x:Int):=by
   have:=congrArg (λz:Nat=>(z:Int)) hx;simpa using this
  have e2:(n:Int)=(Nat.gcd (m+1) n:Int)*(y:Int):=by
   have:=congrArg (λz:Nat=>(z:Int)) hy;simpa using this
  show i+((m+1:Nat):Int)*p+(j+(n:Int)*q)=i+j+(Nat.gcd (m+1) n:Int)*(x*p+y*q);rw[Int.mul_add,<-T3,<-T3,<-e1,<-e2];omega
def Qge(a:Cg i' i m):Cg (-i') (-i) m:=by
 obtain⟨p,rfl⟩:=a
 exact⟨-p,by rw[Int.mul_neg];omega⟩
def QkQ{j':Int}{n:Nat}(a:Cg i' i m)(b:Cg j' j n):Cg (i'-j') (i-j) (gz m n):=by
 have:=Qgf a (Qge b);rw[Int.sub_eq_add_neg,Int.sub_eq_add_neg];exact this
def QkR(a:Cg i' i m):Cg (i'*j) (i*j) (m*j.natAbs):=by
 obtain⟨p,rfl⟩:=a
 rcases Int.natAbs_eq j with e|e
 ·refine⟨p,?_⟩;rw[Int.add_mul,Tv,<-e,Int.mul_right_comm]
 ·refine⟨-p,?_⟩
  have e':(j.natAbs:Int)=-j:=by omega
  rw[Int.add_mul,Tv,e',Int.mul_neg,Int.mul_neg,Int.neg_mul,Int.neg_neg,Int.mul_right_comm]
def QkT(a:Cg i' i m)(hj:0<j)(hd:m % j.toNat=0):Cg (i' / j) (i / j) (m / j.toNat):=by
 obtain⟨p,rfl⟩:=a
 have e:(m:Int)=j*((m / j.toNat:Nat):Int):=by
  have h:=Nat.div_add_mod m j.toNat;rw[hd,Nat.add_zero]at h;have h2:=congrArg (λz:Nat=>(z:Int)) h
  have h3:((j.toNat:Nat):Int)=j:=by omega
  simp only[Tv,h3]at h2;exact h2.symm
 refine⟨p,?_⟩
 rw[e,T3,Int.add_mul_ediv_left _ _ (by omega)]
def QkS(a:Cg i' i m)(hj:0<j)(hd:m % j.toNat=0):i' % j=i % j:=by
 obtain⟨p,rfl⟩:=a
 have e:(m:Int)=j*((m / j.toNat:Nat):Int):=by
  have h:=Nat.div_add_mod m j.toNat;rw[hd,Nat.add_zero]at h;have h2:=congrArg (λz:Nat=>(z:Int)) h
  have h3:((j.toNat:Nat):Int)=j:=by omega
  simp only[Tv,h3]at h2;exact h2.symm
 rw[e,T3,Int.add_mul_emod_self_left]
def Zv(h:Qy i=true):-(2 ^ 64) < i/\i<2 ^ 64:=by
 unfold Qy at h;rw[Xe,Xw,Xw]at h;exact h
def QgH(x y:List Nat):({cps:=x.toArray}:Str)++({cps:=y.toArray}:Str)={cps:=(x++y).toArray}:=by
 show Str.append _ _=_;simp[Str.append]
def OpS(X:Cx)(T:Tbl)(A:Adr)(o:Operator):Prop:=∃r,OpR X (binaryOp o) r/\∀{α:List Addr} {u w u':U} {hs hs':Hs} {v y:V} {H:Hp} {Q:VK},opU o u w hs=some (u',hs')->RU A α u v->RU A α w y->Rep T A X.K α hs H ->
 (∀α' v' H',Ext α α' H H'->Rep T A X.K α' hs' H'->RU A α' u' v'->Q v' H')->r v y H Q
section
variable {X:Cx}{T:Tbl}{A:Adr}
def QeX{o:Operator}(h:∀u w hs,opU o u w hs=none):OpS X T A o:=⟨λz z z z=>False,λz z z z z z z z z z z z h=>h.elim,λe=>by rw[h]at e;cases e⟩
def QbR{o:Operator}{f:U->U->Option U}{r:R2}(ho:OpR X (binaryOp o) r)(hf:∀u w hs,opU o u w hs=(f u w).map λz=>(z,hs))
  (h:∀{α:List Addr} {u w z:U} {v y:V} {H:Hp} {Q:VK},f u w=some z->RU A α u v->RU A α w y->(∀v',RU A α z v'->Q v' H)->r v y H Q):OpS X T A o:=by
 refine⟨r,ho,?_⟩;intro α u w u' hs hs' v y H Q e ru rw R k;rw[hf,Xc]at e;obtain⟨z,e,q⟩:=e;cases q;exact h e ru rw λv' r'=>k α v' H Ext.refl R r'
def Zw{α:List Addr}{v:V}(r:RU A α (.int i 0) v):v=.int i:=by
 obtain⟨j,rfl,c⟩:=r;cases c.exact;rfl
def Qhn:OpS X T A .Sub:=QbR QjQ (λx x x=>rfl) λ{α u w z v y H Q} h ru rw k=>by
 unfold Qno at h;split at h
 ·cases h;obtain⟨i',rfl,a⟩:=ru;obtain⟨j',rfl,b⟩:=rw;exact⟨i',j',rfl,rfl,k _ ⟨_,rfl,QkQ a b⟩⟩
 ·cases h
def Qhm:OpR X (binaryOp .Mult) (rI IntMulOk λi j=>.int (i*j)):=opI λz z z z z z z hc q=>mul_int q hc
def Qee(h:Qef i=true):Builtin.Int.intBits i<=4096:=by
 have h:=Wr h;unfold Builtin.Int.intBits;split
 ·omega
 ·rename_i z
  have n0:i.natAbs≠0:=by simpa using z
  exact Nat.succ_le_of_lt ((Nat.log2_lt n0).mpr h)
def Qj7(h:(Qy i||Qy j||(Qef i&&Qef j))=true):IntMulOk i j:=by
 rw[U5,U5,Xe]at h
 rcases h with(h|h)|h
 ·exact CMul.ok (.inl (Zv h))
 ·exact CMul.ok (.inr (Zv h))
 ·have h1:=Qee h.1;have h2:=Qee h.2;unfold IntMulOk
  have:Builtin.Int.intTooBig (Builtin.Int.intBits i+Builtin.Int.intBits j)=false:=by
   unfold Builtin.Int.intTooBig;rw[bitsLine_eq]
   exact Xu (by omega)
  rw[this];simp
theorem RUs.rep{α:List Addr}{us:List U}{vs:List V}(r:RUs A α us vs):∀n:Nat,RUs A α (List.replicate n us).flatten (List.replicate n vs).flatten
 |0=>.nil
 |n+1=>by
  rw[Vo,Vo,Ub,Ub];exact RUs.append r (RUs.rep r n)
def Qhp:OpS X T A .Mult:=by
 refine⟨_,OpR.or Qhm QjR,?_⟩;intro α u w u' hs hs' v y H Q e ru rw R k;by_cases isr:∃a,u=.ref a
 ·obtain⟨a,rfl⟩:=isr;simp only[opU]at e;unfold Qnt at e;split at e
  ·rename_i xs j e1;split at e
   ·rename_i c;cases e;cases Zw rw;obtain⟨pa,ha,rfl⟩:=ru;obtain⟨vs,q1,r1⟩:=R.h.ob _ pa _ ha e1;refine .inr ⟨pa,j,vs,rfl,rfl,q1,c.1,c.2.1,?_,λp hp=>?_⟩
    ·rw[<-r1.length];exact X1 c.2.2 big
    ·obtain⟨R',E'⟩:=R.new (o:=.lst (List.replicate j.toNat xs).flatten) hp ⟨_,Ql,RUs.mono QH (r1.rep j.toNat)⟩
     exact k _ _ _ E' R' ⟨p,by rw[<-R.h.len];exact QY,rfl⟩
   ·cases e
  ·cases e
 have e:(Qj8 u w).map (λr=>(r,hs))=some (u',hs'):=by
  cases u with
  |ref a=>exact absurd ⟨a,rfl⟩ isr
  |_=>exact e
 rw[Xc]at e;obtain⟨z,h,q⟩:=e;cases q;refine .inl ?_;have k:∀v',RU A α u' v'->Q v' H:=λv' r'=>k α v' H Ext.refl R r';unfold Qj8 at h;split at h
 ·split at h
  ·rename_i c;cases h;cases Zw ru;cases Zw rw;exact⟨_,_,rfl,rfl,Qj7 c,k _ ⟨_,rfl,Cg.refl _ _⟩⟩
  ·cases h
 ·split at h
  ·rename_i c;cases h;obtain⟨i',rfl,a⟩:=ru;cases Zw rw;exact⟨i',_,rfl,rfl,CMul.ok (.inr (Zv c)),k _ ⟨_,rfl,QkR a⟩⟩
  ·cases h
 ·cases h
def Qnj(i j:Int):Prop:=0<j/\j<1606938044258990275541962092341162602522202993782792835301376
def QeW{X:Cx}:OpR X (binaryOp .FloorDiv) (rI Qnj λi j=>.int (i / j)):=opI λi j y y y y y hc q=>by
 have h1:(0:Int) < j:=hc.1;have h2:j<1606938044258990275541962092341162602522202993782792835301376:=hc.2
 have h3:j.natAbs.log2<9000:=by
  have h4:j.natAbs<2 ^ 9000:=Xr (show j.natAbs<2 ^ 200 by omega) (Nat.pow_le_pow_right (by decide) (by decide))
  rcases Nat.eq_zero_or_pos j.natAbs with z|z
  ·rw[z];decide
  ·exact(Nat.log2_lt (by omega)).mpr h4
 exact floordiv_int (by omega) (by rw[Int.fdiv_eq_ediv_of_nonneg i (by omega)];exact q) (.inl (PyProof.noPylong_of_log2 h3))
def QeY:OpS X T A .FloorDiv:=QbR QeW (λx x x=>rfl) λ{α u w z v y H Q} h ru rw k=>by
 unfold QkM at h;split at h
 ·split at h
  ·rename_i c;cases h;cases Zw ru;cases Zw rw;simp only[Xe,Xw]at c;exact⟨_,_,rfl,rfl,c,k _ ⟨_,rfl,Cg.refl _ _⟩⟩
  ·cases h
 ·split at h
  ·rename_i c;cases h;obtain⟨i',rfl,a⟩:=ru;cases Zw rw;simp only[Xe,Xw]at c;exact⟨i',_,rfl,rfl,c.1,k _ ⟨_,rfl,QkT a c.1.1 c.2⟩⟩
  ·cases h
 ·cases h
def Qhq:OpS X T A .Mod:=QbR QjX (λx x x=>rfl) λ{α u w z v y H Q} h ru rw k=>by
 unfold Qj9 at h;split at h
 ·split at h
  ·rename_i c;cases h;cases Zw ru;cases Zw rw;exact⟨_,_,rfl,rfl,c,k _ ⟨_,rfl,Cg.refl _ _⟩⟩
  ·cases h
 ·split at h
  ·rename_i c;cases h;obtain⟨i',rfl,a⟩:=ru;cases Zw rw;simp only[Xe,Xw]at c
   exact⟨i',_,rfl,rfl,c.1,k _ ⟨_,rfl,by rw[QkS a c.1 c.2];exact Cg.refl _ _⟩⟩
  ·cases h
 ·cases h
def Qho:OpS X T A .Pow:=QbR QjS (λx x x=>rfl) λ{α u w z v y H Q} h ru rw k=>by
 unfold Qlm at h;split at h
 ·split at h
  ·rename_i i j c;cases h;cases Zw ru;cases Zw rw;simp only[Xe,Xw]at c;obtain⟨h1,h2⟩:=Zv c.2
   exact⟨_,_,rfl,rfl,⟨c.1.1,by omega,by omega⟩,k _ ⟨_,rfl,Cg.refl _ _⟩⟩
  ·cases h
 ·cases h
def Qhr:OpS X T A .Add:=by
 refine⟨_,OpR.or Qj4 (OpR.or Qcg Qj3),?_⟩;intro α u w u' hs hs' v y H Q h ru rw R k;have h:ZX u w hs=some (u',hs'):=h;unfold ZX at h;split at h
 ·cases h;obtain⟨i',rfl,a⟩:=ru;obtain⟨j',rfl,b⟩:=rw;exact .inl ⟨i',j',rfl,rfl,k α _ H Ext.refl R ⟨_,rfl,Qgf a b⟩⟩
 ·split at h
  ·rename_i c;cases h;cases(show v=_ from ru);cases(show y=_ from rw);refine .inr (.inl ⟨_,_,rfl,rfl,?_,k α _ H Ext.refl R ?_⟩)
   ·rw[Zq,Zq];exact X1 c big
   ·rw[QgH];rfl
  ·cases h
 ·rename_i a b;obtain⟨pa,ha,rfl⟩:=ru;obtain⟨pb,hb,rfl⟩:=rw;split at h
  ·rename_i ox oy e1 e2;have o1:=R.h.ob _ pa _ ha e1;have o2:=R.h.ob _ pb _ hb e2;unfold Qm3 at h;split at h
   ·rename_i xs ys;split at h
    ·rename_i c;cases h;obtain⟨vs,q1,r1⟩:=o1;obtain⟨ws,q2,r2⟩:=o2;refine .inr (.inr ⟨pa,pb,vs,ws,rfl,rfl,q1,q2,?_,λp hp=>?_⟩)
     ·rw[<-r1.length,<-r2.length];exact X1 c big
     ·obtain⟨R',E'⟩:=R.new (o:=.lst (xs++ys)) hp ⟨_,Ql,RUs.mono QH (r1.append r2)⟩
      exact k _ _ _ E' R' ⟨p,by rw[<-R.h.len];exact QY,rfl⟩
    ·cases h
   ·cases h
  ·cases h
 ·cases h
def opS(o:Operator):OpS X T A o:=by
 cases o with
 |Add=>exact Qhr
 |Sub=>exact Qhn
 |Mult=>exact Qhp
 |FloorDiv=>exact QeY
 |Mod=>exact Qhq
 |Pow=>exact Qho
 |_=>exact QeX λu w hs=>rfl
end
end
section
variable {xs:List U}
section
variable {X:Cx}{T:Tbl}{A:Adr}{α:List Addr}{hs:Hs}{H:Hp}{u w:U}{v y:V}
def Zo(tx:Txt T A X.K X.mg)(R:Rep T A X.K α hs H)(h:Q2 T u hs=some xs)(r:RU A α u v):∃a vs,v=.ref a/\RUs A α xs vs/\SqL X.K H a vs:=by
 cases u with
 |ref n=>
  obtain⟨a,ha,rfl⟩:=r;simp only[Q2]at h;split at h
  ·rename_i ys e;cases h;obtain⟨vs,q,rr⟩:=R.h.ob n a _ ha e;exact⟨a,vs,rfl,rr,SqL.of q⟩
  ·cases h
 |con k=>
  simp only[Q2]at h;split at h
  ·rename_i ys e;cases h;obtain⟨vs,rr,q⟩:=tx.co k _ e
   exact⟨_,vs,r,RUs.mono (λn a e=>by simp at e) rr,q H⟩
  ·cases h
 |scr=>
  simp only[Q2]at h;cases h;obtain⟨vs,rr,q⟩:=R.s.sq (α:=α);exact⟨_,vs,r,rr,q⟩
 |_=>simp[Q2]at h
def YO(tx:Txt T A X.K X.mg)(R:Rep T A X.K α hs H)(h:ZZ T u hs=some xs)(r:RU A α u v):∃a vs,v=.ref a/\RUs A α xs vs/\SqT X.K H a vs:=by
 cases u with
 |ref n=>
  obtain⟨a,ha,rfl⟩:=r;simp only[ZZ]at h;split at h
  ·rename_i ys e;cases h;obtain⟨vs,q,rr⟩:=R.h.ob n a _ ha e;exact⟨a,vs,rfl,rr,SqT.of q⟩
  ·cases h
 |con k=>
  simp only[ZZ]at h;split at h
  ·rename_i ys e;cases h;obtain⟨vs,rr,q⟩:=tx.co k _ e
   exact⟨_,vs,r,RUs.mono (λn a e=>by simp at e) rr,q H⟩
  ·cases h
 |_=>simp[ZZ]at h
noncomputable def scP:U->PyData
 |.bl b=>.bool b
 |.int i _=>.int i
 |.str x=>.str ⟨x.toArray⟩
 |_=>.none
noncomputable def toP(T:Tbl):Nat->U->Hs->PyData
 |0,_,_=>.none
 |n+1,u,hs=>match Q2 T u hs with
  |some xs=>.list (xs.map λx=>toP T n x hs)
  |none=>match ZZ T u hs with
   |some xs=>.tuple (xs.map λx=>toP T n x hs)
   |none=>scP u
def Qam{h:Heap}{f:U->PyData}{vs:List V}{its:List Value}(r:RUs A α xs vs)(q:Vals vs its)(k:∀x∈xs,∀v u,RU A α x v->RelV v u->∃as,Reads h u (f x) as):∃as,ReadsAll h its (xs.map f) as:=by
 induction r generalizing its with
 |nil=>cases q;exact⟨[],.nil⟩
 |cons r _ ih=>
  cases q with
  |cons q p=>
   obtain⟨as,h1⟩:=k _ Xh _ _ r q;obtain⟨bs,h2⟩:=ih p λx m=>k x (Xg _ m);exact⟨as++bs,.cons h1 h2⟩
theorem Z9{pins:List (Addr×Obj)}{s:Shared}{Y:L2.St}(tx:Txt T A X.K X.mg)(I:Inv X pins Y H s)(R:Rep T A X.K α hs H):∀(n:Nat) {u:U} {v:V} {z:Value},okW T n u hs=true->RU A α u v->RelV v z->∃as,Reads s.heap z (toP T n u hs) as
 |0,_,_,_,h,_,_=>by cases h
 |n+1,u,v,z,h,r,q=>by
  have ih:=λ{u:U} {v:V} {z:Value}=>Z9 tx I R n (u:=u) (v:=v) (z:=z);simp only[okW,toP]at h ⊢
  cases el:Q2 T u hs with
  |some xs=>
   rw[el]at h;have h:=Xs.mp h;obtain⟨a,vs,rfl,rr,sq⟩:=Zo tx R el r;cases q;obtain⟨its,rv,pl,_⟩:=I.list sq;obtain⟨o,ho,hc,m,hd⟩:=pl.isList;obtain⟨as,ra⟩:=Qam (h:=s.heap) (f:=λx=>toP T n x hs) rr rv λx m v u h1 h2=>ih (h x m) h1 h2;exact⟨_,.list ho hc hd ra⟩
  |none=>
   rw[el]at h
   cases et:ZZ T u hs with
   |some xs=>
    rw[et]at h;have h:=Xs.mp h;obtain⟨a,vs,rfl,rr,sq⟩:=YO tx R et r;cases q;obtain⟨its,rv,pl,_⟩:=I.tuple sq;obtain⟨o,ho,hc,m,hd⟩:=pl;obtain⟨as,ra⟩:=Qam (h:=s.heap) (f:=λx=>toP T n x hs) rr rv λx m v u h1 h2=>ih (h x m) h1 h2;exact⟨_,.tuple ho hc hd ra⟩
   |none=>
    rw[et]at h
    cases u with
    |non=>cases(show v=_ from r);cases q;exact⟨[],.none⟩
    |bl b=>cases(show v=_ from r);cases q;exact⟨[],.bool b⟩
    |int i m=>
     have h:(m==0)=true:=h;have h:=eq_of_beq h;subst h;cases Zw r;obtain⟨t,rfl⟩:=q;exact⟨[],.int i t⟩
    |str x=>cases(show v=_ from r);obtain⟨t,rfl⟩:=q;exact⟨[],.str _ t⟩
    |_=>cases h
theorem Qbh{f:U->PyData}{n:Nat}:∀{xs:List U},(∀x∈xs,(f x).canLay0=true/\(f x).depth<=n)->PyData.canLayAll0 (xs.map f)=true/\PyData.depthAll (xs.map f)<=n
 |[],_=>⟨rfl,Vq _⟩
 |x::r,h=>by
  obtain⟨h1,h2⟩:=h x Xh;obtain⟨h3,h4⟩:=Qbh (xs:=r) λy m=>h y (Xg _ m);refine⟨?_,?_⟩
  ·show((f x).canLay0&&PyData.canLayAll0 (r.map f))=true;rw[h1,h3];rfl
  ·show max (f x).depth (PyData.depthAll (r.map f))<=n;omega
theorem Qay:∀(n:Nat) {u:U},okW T n u hs=true->(toP T n u hs).canLay0=true/\(toP T n u hs).depth<=n
 |0,_,h=>by cases h
 |n+1,u,h=>by
  have ih:=λ(u:U)=>Qay n (u:=u);simp only[okW,toP]at h ⊢
  cases el:Q2 T u hs with
  |some xs=>
   rw[el]at h;obtain⟨h1,h2⟩:=Qbh (f:=λx=>toP T n x hs) (n:=n) λx m=>ih x (Xs.mp h x m);exact⟨h1,Nat.succ_le_succ h2⟩
  |none=>
   rw[el]at h
   cases et:ZZ T u hs with
   |some xs=>
    rw[et]at h;obtain⟨h1,h2⟩:=Qbh (f:=λx=>toP T n x hs) (n:=n) λx m=>ih x (Xs.mp h x m);exact⟨h1,Nat.succ_le_succ h2⟩
   |none=>
    rw[et]at h
    cases u with
    |str x=>
     refine⟨?_,Vq _⟩;show PyData.strOk ⟨x.toArray⟩=true;unfold PyData.strOk;have h:=Xs.mp h;rw[Array.all_eq_true'];intro c hc
     have:=Wr (h c (by simpa using hc))
     exact X3 (by omega)
    |non=>exact⟨rfl,Vq _⟩
    |bl b=>exact⟨rfl,Vq _⟩
    |int i m=>exact⟨rfl,Vq _⟩
    |_=>cases h
theorem Qbq{f:U->PyData}{g:U->U->Bool}:∀{xs ys:List U},(∀x∈xs,∀y∈ys,PyData.eqv (f x) (f y)=g x y)->PyData.eqvAll (xs.map f) (ys.map f)=((xs.length==ys.length)&&(xs.zip ys).all λp=>g p.1 p.2)
 |[],[],_=>rfl
 |[],_::_,_=>rfl
 |_::_,[],_=>rfl
 |x::r,y::t,h=>by
  have h1:=h x Xh y Xh;have h2:=Qbq (xs:=r) (ys:=t) λa ma b mb=>h a (Xg _ ma) b (Xg _ mb);show(PyData.eqv (f x) (f y)&&PyData.eqvAll (r.map f) (t.map f))=_;rw[h1,h2];simp only[X8,List.zip_cons_cons,Vx]
  have e:(r.length+1==t.length+1)=(r.length==t.length):=by simp
  rw[e];cases g x y<;>cases(r.length==t.length)<;>simp
def QgG{x y:List Nat}:((⟨x.toArray⟩:Str)==⟨y.toArray⟩)=(x==y):=by
 by_cases h:x=y
 ·subst h;simp
 ·have:(⟨x.toArray⟩:Str)≠⟨y.toArray⟩:=λz=>h (by
   have:=congrArg (λs:Str=>s.cps.toList) z
   simpa using this)
  rw[Wq.mpr this,Wq.mpr h]
theorem QdQ:∀(n:Nat) {u w:U},okW T n u hs=true->okW T n w hs=true->PyData.eqv (toP T n u hs) (toP T n w hs)=eqW T n u w hs
 |0,_,_,h,_=>by cases h
 |n+1,u,w,h,h'=>by
  have ih:=λ(u w:U)=>QdQ n (u:=u) (w:=w);simp only[okW,toP,eqW]at h h' ⊢
  cases el:Q2 T u hs with
  |some xs=>
   rw[el]at h
   cases el':Q2 T w hs with
   |some ys=>
    rw[el']at h';exact Qbq (g:=λa b=>eqW T n a b hs) λx mx y my=>ih x y (Xs.mp h x mx) (Xs.mp h' y my)
   |none=>
    rw[el']at h'
    cases et':ZZ T w hs with
    |some ys=>rfl
    |none=>rw[et']at h';cases w<;>first|rfl|(cases h';done)
  |none=>
   rw[el]at h
   cases et:ZZ T u hs with
   |some xs=>
    rw[et]at h
    cases el':Q2 T w hs with
    |some ys=>rfl
    |none=>
     rw[el']at h'
     cases et':ZZ T w hs with
     |some ys=>
      rw[et']at h';exact Qbq (g:=λa b=>eqW T n a b hs) λx mx y my=>ih x y (Xs.mp h x mx) (Xs.mp h' y my)
     |none=>rw[et']at h';cases w<;>first|rfl|(cases h';done)
   |none=>
    rw[et]at h
    cases el':Q2 T w hs with
    |some ys=>cases u<;>first|rfl|(cases h;done)
    |none=>
     rw[el']at h'
     cases et':ZZ T w hs with
     |some ys=>cases u<;>first|rfl|(cases h;done)
     |none=>
      rw[et']at h'
      cases u<;>first|(cases h;done)|(cases w<;>first|(cases h';done)|rfl|exact QgG)
def QnA(T:Tbl)(A:Adr)(K:W.Frag)(neg:Bool):R2:=λx y H Q=>∃α u w hs,RU A α u x/\RU A α w y/\Rep T A K α hs H/\okW T 20 u hs=true/\okW T 20 w hs=true/\Q (.bl (if neg then !(eqW T 20 u w hs)else eqW T 20 u w hs)) H
def Z8{d:PyData}{n:Nat}(h:d.canLay0=true/\d.depth<=n)(hn:n<=64):SeqAt.shaped d=true:=by
 unfold SeqAt.shaped;rw[h.1,Bool.true_and];exact X3 (X1 h.2 hn)
def Qj2(tx:Txt T A X.K X.mg)(hu:X.A.units+64<cLine):OpR X (compareOp .Eq) (QnA T A X.K false):=by
 intro pins s Y H x y v u Q I rx ry h;obtain⟨α,u1,w1,hs,r1,r2,R,o1,o2,q⟩:=h;obtain⟨as,ra⟩:=Z9 tx I R 20 o1 r1 rx;obtain⟨bs,rb⟩:=Z9 tx I R 20 o2 r2 ry
 refine eq_dataH ra rb (Z8 (Qay 20 o1) (by decide)) (Z8 (Qay 20 o2) (by decide)) hu ?_
 rw[QdQ 20 o1 o2];exact⟨.bl _,H,I,rfl,q⟩
def Qnw(T:Tbl)(A:Adr)(K:W.Frag)(b:Bool):R2:=λx y H Q=>∃α u w hs,RU A α u x/\RU A α w y/\Rep T A K α hs H/\Qax T u w hs=true/\Q (.bl b) H
def QbU{pins:List (Addr×Obj)}{s:Shared}{Y:L2.St}{H:Hp}{α:List Addr}{hs:Hs}{u w:U}{x y:V}{v z:Value}(tx:Txt T A X.K X.mg)(I:Inv X pins Y H s)(R:Rep T A X.K α hs H)(h:Qax T u w hs=true)(r1:RU A α u x)(r2:RU A α w y)(rx:RelV x v)(ry:RelV y z):
  ∃(a b:Addr) (i1 i2:List Value),v=.ref a/\z=.ref b/\s.heap.IsList a i1.toArray/\s.heap.IsList b i2.toArray/\(i1.toArray.size != i2.toArray.size)=true:=by
 unfold Qax at h;split at h
 ·rename_i xs ys e1 e2;obtain⟨a,vs,rfl,rr,sq⟩:=Zo tx R e1 r1;obtain⟨b,ws,rfl,rr',sq'⟩:=Zo tx R e2 r2;obtain⟨i1,q1,p1,_⟩:=I.list sq;obtain⟨i2,q2,p2,_⟩:=I.list sq';cases rx;cases ry;have l1:=rr.length;have l2:=rr'.length;have l3:=q1.length;have l4:=q2.length;have h:=Wr h;refine⟨a,b,i1,i2,rfl,rfl,p1.isList,p2.isList,?_⟩;simp only[Xv,bne_iff_ne,ne_eq];omega
 ·cases h
def Qj1(tx:Txt T A X.K X.mg)(hu:X.A.units+64<cLine):OpR X (compareOp .Eq) (Qnw T A X.K false):=by
 intro pins s Y H x y v u Q I rx ry h;obtain⟨α,u1,w1,hs,r1,r2,R,o1,q⟩:=h;obtain⟨a,b,i1,i2,rfl,rfl,p1,p2,z⟩:=QbU tx I R o1 r1 r2 rx ry
 exact SeqAt.RcAt.lists_lengths p1 p2 z (by omega) _ _ _ _ ⟨.bl _,H,I,rfl,q⟩
def QjV(tx:Txt T A X.K X.mg)(hu:X.A.units+64<cLine):OpR X (compareOp .NotEq) (Qnw T A X.K true):=by
 intro pins s Y H x y v u Q I rx ry h;obtain⟨α,u1,w1,hs,r1,r2,R,o1,q⟩:=h;obtain⟨a,b,i1,i2,rfl,rfl,p1,p2,z⟩:=QbU tx I R o1 r1 r2 rx ry
 exact SeqAt.RcNeAt.lists_lengths p1 p2 z (by omega) _ _ _ _ ⟨.bl _,H,I,rfl,q⟩
def Qju(T:Tbl)(A:Adr)(K:W.Frag)(b:Bool):R2:=λx y H Q=>∃α u w hs,RU A α u x/\RU A α w y/\Rep T A K α hs H/\Qc0 T u w hs=true/\Q (.bl b) H
def QcH{α:List Addr}{vs ws:List V}{i1 i2:List Value}(h:(xs.all λx=>match x with|.ref _=>true|_=>false)=true)(r1:RUs A α xs vs)(r2:RUs A α xs ws)(q1:Vals vs i1)(q2:Vals ws i2):i1=i2:=by
 induction xs generalizing vs ws i1 i2 with
 |nil=>cases r1;cases r2;cases q1;cases q2;rfl
 |cons x xs ih=>
  rw[Vx,Xe]at h
  cases r1 with
  |cons a r1=>
   cases r2 with
   |cons b r2=>
    cases q1 with
    |cons c q1=>
     cases q2 with
     |cons d q2=>
      rw[ih h.2 r1 r2 q1 q2]
      cases x with
      |ref n=>
       obtain⟨p,hp,rfl⟩:=a;obtain⟨p',hp',rfl⟩:=b;rw[hp]at hp';cases hp';cases c;cases d;rfl
      |_=>exact absurd h.1 (by simp)
def QbJ{pins:List (Addr×Obj)}{s:Shared}{Y:L2.St}{H:Hp}{α:List Addr}{hs:Hs}{u w:U}{x y:V}{v z:Value}(tx:Txt T A X.K X.mg)(I:Inv X pins Y H s)(R:Rep T A X.K α hs H)(h:Qc0 T u w hs=true)(r1:RU A α u x)(r2:RU A α w y)(rx:RelV x v)(ry:RelV y z):
  ∃(a b:Addr) (i1:List Value),v=.ref a/\z=.ref b/\s.heap.IsList a i1.toArray/\s.heap.IsList b i1.toArray:=by
 unfold Qc0 at h;split at h
 ·rename_i xs ys e1 e2;rw[Xe]at h;obtain⟨h0,h⟩:=h;have h0:=Wr h0;subst h0;obtain⟨a,vs,rfl,rr,sq⟩:=Zo tx R e1 r1;obtain⟨b,ws,rfl,rr',sq'⟩:=Zo tx R e2 r2;obtain⟨i1,q1,p1,_⟩:=I.list sq;obtain⟨i2,q2,p2,_⟩:=I.list sq';cases rx;cases ry;cases QcH h rr rr' q1 q2;exact⟨a,b,i1,rfl,rfl,p1.isList,p2.isList⟩
 ·cases h
def Qj0(tx:Txt T A X.K X.mg)(hu:X.A.units+64<cLine):OpR X (compareOp .Eq) (Qju T A X.K true):=by
 intro pins s Y H x y v u Q I rx ry h;obtain⟨α,u1,w1,hs,r1,r2,R,o1,q⟩:=h;obtain⟨a,b,i1,rfl,rfl,p1,p2⟩:=QbJ tx I R o1 r1 r2 rx ry
 have rc:=SeqAt.RcAt.lists (A:=X.A) (e:=λz=>true) p1 p2 rfl (by omega) λj h1 h2=>SeqAt.EqAt.same _
 have al:(List.range i1.toArray.size).all (λz=>true)=true:=by simp
 rw[al]at rc;exact rc _ _ _ _ ⟨.bl _,H,I,rfl,q⟩
def QjU(tx:Txt T A X.K X.mg)(hu:X.A.units+64<cLine):OpR X (compareOp .NotEq) (Qju T A X.K false):=by
 intro pins s Y H x y v u Q I rx ry h;obtain⟨α,u1,w1,hs,r1,r2,R,o1,q⟩:=h;obtain⟨a,b,i1,rfl,rfl,p1,p2⟩:=QbJ tx I R o1 r1 r2 rx ry
 have rc:=SeqAt.RcNeAt.lists (A:=X.A) (e:=λz=>true) p1 p2 rfl (by omega) λj h1 h2=>SeqAt.EqAt.same _
 have al:(!(List.range i1.toArray.size).all (λz=>true))=false:=by simp
 rw[al]at rc;exact rc _ _ _ _ ⟨.bl _,H,I,rfl,q⟩
def QjW(tx:Txt T A X.K X.mg)(hu:X.A.units+64<cLine):OpR X (compareOp .NotEq) (QnA T A X.K true):=by
 intro pins s Y H x y v u Q I rx ry h;obtain⟨α,u1,w1,hs,r1,r2,R,o1,o2,q⟩:=h;obtain⟨as,ra⟩:=Z9 tx I R 20 o1 r1 rx;obtain⟨bs,rb⟩:=Z9 tx I R 20 o2 r2 ry
 refine ne_dataH ra rb (Z8 (Qay 20 o1) (by decide)) (Z8 (Qay 20 o2) (by decide)) hu ?_
 rw[QdQ 20 o1 o2];exact⟨.bl _,H,I,rfl,q⟩
end
end
section
section
variable {κ κ':Type}[DecidableEq κ][DecidableEq κ']{P:κ->κ'->Prop}{A:Adr}{α:List Addr}
abbrev RG(P:κ->κ'->Prop)(A:Adr)(α:List Addr):List (κ×U)->List (κ'×V)->Prop:=Paired λp q=>P p.1 q.1/\RU A α p.2 q.2
end
section
variable {X:Cx}{A:Adr}{hs:Hs}{H:Hp}{y:V}
def Qmb:R2:=λz z z z=>False
def QhL(hu:X.A.units+1<cLine):IxR X Qmb:=by
 intro value slice pins s Y H x y v u Q I rx ry h hs;exact h.elim
end
end
section
variable {c:Bool}{H:Hp}{i:Int}{α:List Addr}{us:List U}{vs:List V}{u w x:U}{v y:V}{Q:VK}
section
variable {X:Cx}{T:Tbl}{A:Adr}
def QmV{j:Int}:decide (V.int i=V.int j)=decide (i=j):=by
 by_cases e:i=j
 ·subst e;simp
 ·have:¬V.int i=V.int j:=λq=>e (V.int.inj q);rw[Xu this,Xu e]
def QmU{x y:List Nat}:decide (V.str ⟨x.toArray⟩=V.str ⟨y.toArray⟩)=decide (x=y):=by
 by_cases e:x=y
 ·subst e;simp
 ·have:¬V.str ⟨x.toArray⟩=V.str ⟨y.toArray⟩:=λq=>e (by
   have q1:=V.str.inj q;have q2:=congrArg (λs:Str=>s.cps.toList) q1
   simpa using q2)
  rw[Xu this,Xu e]
def QmW{x y:Bool}:decide (V.bl x=V.bl y)=decide (x=y):=by cases x<;>cases y<;>rfl
def Qgc(h:eqS u w=some c)(ru:RU A α u v)(rw':RU A α w y):Ql1 v y=true/\decide (v=y)=c:=by
 cases u with
 |non=>
  cases(show v=_ from ru)
  cases w with
  |non=>cases(show y=_ from rw');cases h;exact⟨rfl,rfl⟩
  |bl b=>cases(show y=_ from rw');cases h;exact⟨rfl,rfl⟩
  |int j n=>obtain⟨_,rfl,_⟩:=rw';cases h;exact⟨rfl,rfl⟩
  |str x=>cases(show y=_ from rw');cases h;exact⟨rfl,rfl⟩
  |_=>exact Znn h
 |bl b=>
  cases(show v=_ from ru)
  cases w with
  |non=>cases(show y=_ from rw');cases h;exact⟨rfl,rfl⟩
  |bl b=>cases(show y=_ from rw');cases h;exact⟨rfl,QmW⟩
  |str x=>cases(show y=_ from rw');cases h;exact⟨rfl,rfl⟩
  |_=>exact Znn h
 |str x=>
  cases(show v=_ from ru)
  cases w with
  |non=>cases(show y=_ from rw');cases h;exact⟨rfl,rfl⟩
  |bl b=>cases(show y=_ from rw');cases h;exact⟨rfl,rfl⟩
  |int j n=>obtain⟨_,rfl,_⟩:=rw';cases h;exact⟨rfl,rfl⟩
  |str z=>cases(show y=_ from rw');cases h;exact⟨rfl,QmU⟩
  |_=>exact Znn h
 |int i m=>
  obtain⟨i',rfl,a⟩:=ru
  cases w with
  |non=>cases(show y=_ from rw');cases m<;>cases h<;>exact⟨rfl,rfl⟩
  |str x=>cases(show y=_ from rw');cases m<;>cases h<;>exact⟨rfl,rfl⟩
  |int j n=>
   obtain⟨j',rfl,b⟩:=rw'
   cases m with
   |succ m=>exact Znn h
   |zero=>
    cases n with
    |succ n=>exact Znn h
    |zero=>cases a.exact;cases b.exact;cases h;exact⟨rfl,QmV⟩
  |_=>cases m<;>exact Znn h
 |_=>cases w<;>exact Znn h
def Qbm(h:QaH x=true)(r:RU A α x v):Jj v=true:=by
 cases x with
 |non=>cases(show v=_ from r);rfl
 |int i m=>obtain⟨_,rfl,_⟩:=r;rfl
 |str z=>cases(show v=_ from r);rfl
 |bl b=>cases(show v=_ from r);rfl
 |_=>cases h
def QkK{y:U}{w:V}(hx:QaH x=true)(hy:QaH y=true)(rx:RU A α x v)(ry:RU A α y w):eqV w v=eqF y x:=by
 cases y with
 |non=>
  cases(show w=_ from ry)
  cases x with
  |non=>cases(show v=_ from rx);rfl
  |int i m=>obtain⟨_,rfl,_⟩:=rx;rfl
  |str z=>cases(show v=_ from rx);rfl
  |bl b=>cases(show v=_ from rx);rfl
  |_=>cases hx
 |bl c=>
  cases(show w=_ from ry)
  cases x with
  |non=>cases(show v=_ from rx);rfl
  |str z=>cases(show v=_ from rx);rfl
  |bl b=>cases(show v=_ from rx);rfl
  |int i m=>
   obtain⟨i',rfl,a⟩:=rx
   cases m with
   |succ m=>cases hx
   |zero=>cases a.exact;rfl
  |_=>cases hx
 |str z=>
  cases(show w=_ from ry)
  cases x with
  |non=>cases(show v=_ from rx);rfl
  |int i m=>obtain⟨_,rfl,_⟩:=rx;rfl
  |str z'=>
   cases(show v=_ from rx);show(({cps:=z.toArray}:Str)=={cps:=z'.toArray})=decide (z=z');by_cases e:z=z'
   ·subst e;simp
   ·rw[Xu e,Wq];intro q;have q2:=congrArg (λs:Str=>s.cps.toList) q
    exact e (by simpa using q2)
  |bl b=>cases(show v=_ from rx);rfl
  |_=>cases hx
 |int j n=>
  obtain⟨j',rfl,b⟩:=ry
  cases n with
  |succ n=>cases hy
  |zero=>
   cases b.exact
   cases x with
   |non=>cases(show v=_ from rx);rfl
   |str z=>cases(show v=_ from rx);rfl
   |bl b=>cases(show v=_ from rx);rfl
   |int i m=>
    obtain⟨i',rfl,a⟩:=rx
    cases m with
    |succ m=>cases hx
    |zero=>
     cases a.exact;show(j==i)=decide (j=i);by_cases e:j=i<;>simp[e]
   |_=>cases hx
 |_=>cases hy
theorem QdC{α:List Addr}{x:U}{v:V}(hx:QaH x=true)(rx:RU A α x v):∀{ys:List U} {ws:List V},RUs A α ys ws->ys.all QaH=true->ws.all Jj=true/\inV v ws=ys.any λy=>eqF y x
 |_,_,.nil,_=>⟨rfl,rfl⟩
 |_,_,.cons (a:=y) (b:=w) r t,h=>by
  rw[Vx,Xe]at h;obtain⟨h1,h2⟩:=QdC hx rx t h.2
  refine⟨by rw[Vx,h1,Qbm h.1 r];rfl,?_⟩
  show(eqV w v||inV v _)=(eqF y x||_);rw[h2,QkK hx h.1 rx r]
def Qgw{vs:List (Key×Value)}{y:U}{yv:V}(ky:Qlp y=true)(ry:RU A α y yv):∀{kvs:List (U×U)},Paired (λ(p:U×U) (q:Key×Value)=>Qe8 p.1 q.1/\∃v,RU A [] p.2 v/\RelV v q.2) kvs vs ->
  ∃key,yv=kV key/\(valueAt vs key).isSome=(Qbg kvs y).isSome:=by
 obtain⟨key,hy,hk⟩:∃key,yv=kV key/\Qe8 y key:=by
  cases y with
  |int i m=>
   cases m with
   |zero=>obtain⟨j,rfl,c⟩:=ry;cases c.exact;exact⟨.inl i,rfl,rfl⟩
   |succ m=>cases ky
  |str z=>cases(show yv=_ from ry);exact⟨.inr ⟨z.toArray⟩,rfl,rfl⟩
  |_=>cases ky
 have inj:∀{p:U} {q:Key},Qe8 p q->(p=y↔q=key):=by
  intro p q hp
  cases y with
  |int i m=>
   cases m with
   |succ m=>cases ky
   |zero=>
    cases(show key=_ from hk)
    cases p with
    |int j n=>
     cases n with
     |succ n=>exact(show False from hp).elim
     |zero=>cases(show q=_ from hp);exact⟨λe=>(by cases e;rfl),λe=>(by cases e;rfl)⟩
    |str z=>cases(show q=_ from hp);exact⟨λe=>(by cases e),λe=>(by cases e)⟩
    |_=>exact(show False from hp).elim
  |str z=>
   cases(show key=_ from hk)
   cases p with
   |int j n=>
    cases n with
    |succ n=>exact(show False from hp).elim
    |zero=>cases(show q=_ from hp);exact⟨λe=>(by cases e),λe=>(by cases e)⟩
   |str z'=>
    cases(show q=_ from hp)
    refine⟨λe=>(by cases e;rfl),λe=>?_⟩
    have e1:=Sum.inr.inj e;have e2:=congrArg (λs:Str=>s.cps.toList) e1
    have e3:z'=z:=by simpa using e2
    rw[e3]
   |_=>exact(show False from hp).elim
  |_=>cases ky
 intro kvs r;refine⟨key,hy,?_⟩
 induction r with
 |nil=>rfl
 | @cons p q ps qs hpq t ih=>
  obtain⟨pk,pv⟩:=p;obtain⟨qk,qv⟩:=q;obtain⟨h1,v,h2,h3⟩:=hpq;simp only[Qbg];by_cases e:pk=y
  ·have e2:qk=key:=(inj h1).mp e;rw[if_pos e];simp[valueAt,e2]
  ·have e2:¬qk=key:=λz=>e ((inj h1).mpr z);rw[if_neg e,<-ih];simp only[valueAt,List.find?_cons];rw[Xu e2]
def Ql9(P:Program)(w:World)(K:W.Frag)(neg:Bool):R2:=λx y H Q=>∃a vs key,y=.ref a/\(a==sysModules)=false/\x=kV key/\(∀h:Heap,K.In h->h.DictOf (ZC P w) a vs)/\Q (.bl (if neg then !(valueAt vs key).isSome else(valueAt vs key).isSome)) H
def Qdn:OpR X (compareOp .In) (Ql9 X.prog X.w X.K false):=by
 intro pins s Y H x y v u Q I rx ry h;obtain⟨a,vs,key,rfl,ns,rfl,hd,q⟩:=h;cases ry;exact wpAny_in_of (QhJ rx) ns (hd s.heap I.kIn).mapOf ⟨.bl _,H,I.tok _,rfl,q⟩
def Qap:OpR X (compareOp .NotIn) (Ql9 X.prog X.w X.K true):=by
 intro pins s Y H x y v u Q I rx ry h;obtain⟨a,vs,key,rfl,ns,rfl,hd,q⟩:=h;cases ry;exact wpAny_notIn_of (QhJ rx) ns (hd s.heap I.kIn).mapOf ⟨.bl _,H,I.tok _,rfl,q⟩
def QjT{f:Value->Value->Sem Value}{r r':R2}(h:OpR X f r)(h':OpR X f r'):OpR X f (λx y H Q=>r x y H Q\/r' x y H Q):=λpins s Y H x y v u Q I rx ry q=>q.elim (h pins s Y H x y v u Q I rx ry) (h' pins s Y H x y v u Q I rx ry)
def QcQ{neg:Bool}(tab:Je X.prog X.w T A X.K)(h:Qlh T w u=some c)(ru:RU A α u v)(rw':RU A α w y)(q:Q (.bl (if neg then !c else c)) H):Ql9 X.prog X.w X.K neg v y H Q:=by
 unfold Qlh at h;split at h
 case h_2=>cases h
 rename_i k;split at h
 case h_2=>cases h
 rename_i kvs ec;split at h
 case isFalse=>cases h
 rename_i ky;cases h;obtain⟨vs,ns,hd,hp⟩:=tab k kvs ec;obtain⟨key,ev,e⟩:=Qgw ky ru hp;cases(show y=_ from rw')
 exact⟨_,vs,key,rfl,ns,ev,hd,by rw[e];exact q⟩
def QnW(X:Cx)(T:Tbl)(A:Adr)(o:CmpOp):Prop:=∃r,OpR X (compareOp o) r/\∀{α:List Addr} {u w:U} {hs:Hs} {v y:V} {H:Hp} {Q:VK} {c:Bool},Zg T o u w hs=some c->RU A α u v->RU A α w y->Rep T A X.K α hs H->Q (.bl c) H->r v y H Q
def Qb2{o:CmpOp}{p:Int->Int->Bool}(ho:OpR X (compareOp o) (rI0 λi j=>.bl (p i j)))(hc:∀u w hs,Zg T o u w hs=match u,w with|.int i 0,.int j 0=>some (p i j)|_,_=>none):QnW X T A o:=by
 refine⟨_,ho,?_⟩;intro α u w hs v y H Q c h ru rw' R q;rw[hc]at h;split at h
 ·cases h;obtain⟨i',rfl,a⟩:=ru;obtain⟨j',rfl,b⟩:=rw';cases a.exact;cases b.exact;exact⟨_,_,rfl,rfl,q⟩
 ·cases h
def Qn(r:RUs A α (u::us) vs):∃v ws,vs=v::ws/\RU A α u v/\RUs A α us ws:=by cases r with|cons a b=>exact⟨_,_,rfl,a,b⟩
def QA(r:RUs A α [] vs):vs=[]:=by cases r;rfl
def QjZ:OpR X (compareOp .Is) (λx y H Q=>∃a b,x=.bl a/\y=.bl b/\Q (.bl (a==b)) H):=by
 intro pins s Y H x y v u Q I rx ry h;obtain⟨a,b,rfl,rfl,q⟩:=h;cases rx;cases ry
 exact wpAny_is_plain rfl ⟨.bl _,H,I,rfl,by cases a<;>cases b<;>exact q⟩
def Qhl:OpR X (compareOp .IsNot) (λx y H Q=>∃a b,x=.bl a/\y=.bl b/\Q (.bl (!(a==b))) H):=by
 intro pins s Y H x y v u Q I rx ry h;obtain⟨a,b,rfl,rfl,q⟩:=h;cases rx;cases ry
 exact wpAny_isNot_plain rfl ⟨.bl _,H,I,rfl,by cases a<;>cases b<;>exact q⟩
def Qf8(h:isU u w=some c)(ru:RU A α u v)(rw':RU A α w y):(y=.non/\decide (v=.non)=c)\/∃a b,v=.bl a/\y=.bl b/\(a==b)=c:=by
 unfold isU at h;split at h
 ·cases h;refine .inl ⟨rw',?_⟩
  cases u with
  |non=>cases(show v=_ from ru);rfl
  |bl b=>cases(show v=_ from ru);rfl
  |int i m=>obtain⟨_,rfl,_⟩:=ru;rfl
  |str x=>cases(show v=_ from ru);rfl
  |ref n=>obtain⟨_,_,rfl⟩:=ru;rfl
  |con k=>cases(show v=_ from ru);rfl
  |scr=>cases(show v=_ from ru);rfl
 ·split at h
  ·cases h;exact .inr ⟨_,_,ru,rw',rfl⟩
  ·cases h
 ·cases h
def QmZ(tx:Txt T A X.K X.mg)(tab:Je X.prog X.w T A X.K)(hu:X.A.units+64<cLine)(o:CmpOp):QnW X T A o:=by
 cases o with
 |Eq=>
  refine⟨_,OpR.or Qmt (OpR.or (Qj1 tx hu) (OpR.or (Qj0 tx hu) (Qj2 tx hu))),?_⟩;intro α u w hs v y H Q c h ru rw' R q;simp only[Zg,eqA]at h;split at h
  ·rename_i b e;cases h;obtain⟨h1,h2⟩:=Qgc e ru rw'
   exact .inl ⟨h1,by rw[h2];exact q⟩
  ·split at h
   ·rename_i c;cases h;exact .inr (.inl ⟨α,u,w,hs,ru,rw',R,c,q⟩)
   ·split at h
    ·rename_i c;cases h;exact .inr (.inr (.inl ⟨α,u,w,hs,ru,rw',R,c,q⟩))
    ·split at h
     ·rename_i c;cases h;rw[Xe]at c;exact .inr (.inr (.inr ⟨α,u,w,hs,ru,rw',R,c.1,c.2,q⟩))
     ·cases h
 |NotEq=>
  refine⟨_,OpR.or Qmo (OpR.or (QjV tx hu) (OpR.or (QjU tx hu) (QjW tx hu))),?_⟩;intro α u w hs v y H Q c h ru rw' R q;simp only[Zg,Xc,eqA]at h;obtain⟨d,h,e⟩:=h;split at h
  ·rename_i b eb;cases h;obtain⟨h1,h2⟩:=Qgc eb ru rw'
   exact .inl ⟨h1,by rw[h2,e];exact q⟩
  ·split at h
   ·rename_i cc;cases h;refine .inr (.inl ⟨α,u,w,hs,ru,rw',R,cc,?_⟩);rw[show(true:Bool)=c from e];exact q
   ·split at h
    ·rename_i cc;cases h;refine .inr (.inr (.inl ⟨α,u,w,hs,ru,rw',R,cc,?_⟩));rw[show(false:Bool)=c from e];exact q
    ·split at h
     ·rename_i cc;cases h;rw[Xe]at cc;refine .inr (.inr (.inr ⟨α,u,w,hs,ru,rw',R,cc.1,cc.2,?_⟩));rw[if_pos rfl,e];exact q
     ·cases h
 |Lt=>exact Qb2 Qmp λz z z=>rfl
 |LtE=>exact Qb2 Qmq λz z z=>rfl
 |Gt=>exact Qb2 Qmr λz z z=>rfl
 |GtE=>exact Qb2 Qms λz z z=>rfl
 |Is=>
  refine⟨_,OpR.or QjY QjZ,?_⟩;intro α u w hs v y H Q c h ru rw' R q
  rcases Qf8 h ru rw' with⟨h1,h2⟩|⟨a,b,h1,h2,h3⟩
  ·exact .inl ⟨h1,by rw[h2];exact q⟩
  ·exact .inr ⟨a,b,h1,h2,by rw[h3];exact q⟩
 |IsNot=>
  refine⟨_,OpR.or Qhk Qhl,?_⟩;intro α u w hs v y H Q c h ru rw' R q;simp only[Zg,Xc]at h;obtain⟨d,h,e⟩:=h
  rcases Qf8 h ru rw' with⟨h1,h2⟩|⟨a,b,h1,h2,h3⟩
  ·exact .inl ⟨h1,by rw[h2,e];exact q⟩
  ·exact .inr ⟨a,b,h1,h2,by rw[h3,e];exact q⟩
 |In=>
  refine⟨_,QjT Qdo Qdn,?_⟩;intro α u w hs v y H Q c h ru rw' R q;simp only[Zg]at h;split at h
  ·rename_i xs e;obtain⟨a,vs,rfl,rr,sq⟩:=Yo (K':=X.K) tx R e rw';unfold inU at h;split at h
   ·rename_i f;cases h;rw[Xe]at f;obtain⟨h1,h2⟩:=QdC f.1 ru rr f.2
    exact .inl ⟨a,vs,rfl,sq,Qbm f.1 ru,h1,by rw[h2];exact q⟩
   ·cases h
  ·exact .inr (QcQ (neg:=false) tab h ru rw' q)
 |NotIn=>
  refine⟨_,QjT Qaq Qap,?_⟩;intro α u w hs v y H Q c h ru rw' R q;simp only[Zg]at h;split at h
  ·rename_i xs e;obtain⟨a,vs,rfl,rr,sq⟩:=Yo (K':=X.K) tx R e rw';simp only[Xc]at h;obtain⟨d,h,e2⟩:=h;unfold inU at h;split at h
   ·rename_i f;cases h;rw[Xe]at f;obtain⟨h1,h2⟩:=QdC f.1 ru rr f.2
    exact .inl ⟨a,vs,rfl,sq,Qbm f.1 ru,h1,by rw[h2];simp only[Wt];rw[e2];exact q⟩
   ·cases h
  ·simp only[Xc]at h;obtain⟨d,h,e2⟩:=h
   have q':Q (.bl (if true=true then !d else d)) H:=by simp only[Wt];rw[e2];exact q
   exact .inr (QcQ (neg:=true) tab h ru rw' q')
def Qk1(r:RUs A α us vs)(h:atU us i=some u):∃v,atI vs i=some v/\RU A α u v:=by
 unfold atU at h;split at h
 ·rename_i j e;obtain⟨v,h1,h2⟩:=r.get h;refine⟨v,?_,h2⟩
  have e':ixN vs.length i=some j:=by rw[<-r.length];exact e
  unfold atI;rw[e'];exact h1
 ·cases h
def Qnc{xs:List Nat}{c:Nat}(h:atU xs i=some c):atI xs i=some c:=by
 unfold atU at h;split at h
 ·rename_i j e;have e':ixN xs.length i=some j:=e;unfold atI;rw[e'];exact h
 ·cases h
def QgE{hs:Hs}(tx:Txt T A X.K X.mg)(h:Q5 T u w hs=some x)(ru:RU A α u v)(rw':RU A α w y)(R:Rep T A X.K α hs H)(k:∀z,RU A α x z->Q z H):rIx X.K v y H Q\/Qmb v y H Q:=by
 have seq:∀{xs:List U} {i:Int},ZN T u hs=some xs->w=.int i 0->atU xs i=some x->rIx X.K v y H Q\/Qmb v y H Q:=λ{xs i} e1 e2 e3=>by
  subst e2;obtain⟨j,rfl,c⟩:=rw';cases c.exact;obtain⟨a,vs,rfl,rr,sq⟩:=Yo (K':=X.K) tx R e1 ru;obtain⟨z,h1,h2⟩:=Qk1 rr e3
  rcases sq with sq|sq
  ·exact .inl (.inl ⟨a,vs,i,z,rfl,rfl,sq,h1,k z h2⟩)
  ·exact .inl (.inr (.inl ⟨a,vs,i,z,rfl,rfl,sq,h1,k z h2⟩))
 cases u with
 |str z=>
  cases w with
  |int i m=>
   cases m with
   |succ m=>simp[Q5,ZN]at h
   |zero=>
    simp only[Q5]at h;split at h
    ·rename_i l;simp only[Xc]at h;obtain⟨c,e,rfl⟩:=h;cases(show v=_ from ru);obtain⟨j,rfl,q⟩:=rw';cases q.exact
     exact .inl (.inr (.inr ⟨_,i,c,rfl,rfl,by rw[Zq];exact X1 l big,by simpa using Qnc e,k _ (by show _=_;rfl)⟩))
    ·cases h
  |_=>simp[Q5,ZN]at h
 |ref n=>
  simp only[Q5]at h;split at h
  ·rename_i xs i e
   exact seq (by simp only[ZN,e]) rfl h
  ·rename_i xs i e
   exact seq (by simp only[ZN,e]) rfl h
  ·cases h
 |con n=>
  cases w with
  |int i m=>
   cases m with
   |succ m=>simp[Q5]at h
   |zero=>
    simp only[Q5]at h;split at h
    ·rename_i xs e;exact seq e rfl h
    ·cases h
  |_=>simp[Q5]at h
 |scr=>
  cases w with
  |int i m=>
   cases m with
   |succ m=>simp[Q5]at h
   |zero=>
    simp only[Q5]at h;split at h
    ·rename_i xs e;exact seq e rfl h
    ·cases h
  |_=>simp[Q5]at h
 |_=>
  cases w with
  |int i m=>cases m<;>simp[Q5,ZN]at h
  |_=>simp[Q5]at h
theorem RUs.drop(n:Nat)(h:RUs A α us vs):RUs A α (us.drop n) (vs.drop n):=Qdd h n
theorem RUs.take(n:Nat)(h:RUs A α us vs):RUs A α (us.take n) (vs.take n):=Qdb h n
def JX(n d:Nat)(o:Option Int):ZL n d o=HT.sIx n d o:=by cases o<;>rfl
def RUs.cut(r:RUs A α us vs)(lo hi:Option Int):RUs A α (Y5 us lo hi) (Qiw vs lo hi):=by
 unfold Y5 Qiw;rw[JX,JX,r.length];exact RUs.take _ (RUs.drop _ r)
def Qfq(x:List Nat)(lo hi:Option Int):(Txt.slice ⟨x.toArray⟩ lo hi)=⟨(Y5 x lo hi).toArray⟩:=by
 have h:=QcX ⟨x.toArray⟩ lo hi
 have e:(⟨x.toArray⟩:Str).length=x.length:=by simp[Str.length]
 rw[e]at h;apply Str.ext';apply Tk.mp;rw[h];simp only[Y5,JX]
def Qi9{hs hs':Hs}{lo hi:Option Int}(h:slU T u lo hi hs=some (x,hs'))(ru:RU A α u v)(R:Rep T A X.K α hs H)(k:∀α' z H',Ext α α' H H'->Rep T A X.K α' hs' H'->RU A α' x z->Q z H'):Qnv X.K v lo hi H Q\/Qnu v lo hi H Q:=by
 cases u with
 |scr=>
  simp only[slU]at h;cases h;obtain⟨vs,rr,q⟩:=R.s.sq (α:=α);refine .inl ⟨_,vs,ru,q,λp hp=>?_⟩;obtain⟨R',E'⟩:=R.new (o:=.lst (Y5 T.scr lo hi)) hp ⟨_,Ql,RUs.mono QH (rr.cut lo hi)⟩
  exact k _ _ _ E' R' ⟨p,by rw[<-R.h.len];exact QY,rfl⟩
 |ref n=>
  simp only[slU]at h;split at h
  ·rename_i xs e;cases h;obtain⟨a,ha,rfl⟩:=ru;obtain⟨vs,q,rr⟩:=R.h.ob n a _ ha e;refine .inl ⟨_,vs,rfl,SqL.of q,λp hp=>?_⟩;obtain⟨R',E'⟩:=R.new (o:=.lst (Y5 xs lo hi)) hp ⟨_,Ql,RUs.mono QH (rr.cut lo hi)⟩
   exact k _ _ _ E' R' ⟨p,by rw[<-R.h.len];exact QY,rfl⟩
  ·cases h
 |str y=>
  simp only[slU]at h;split at h
  ·rename_i l;cases h;cases(show v=_ from ru)
   refine .inr ⟨_,rfl,by rw[Zq];exact X1 l big,?_⟩
   rw[Qfq];exact k α _ H Ext.refl R rfl
  ·cases h
 |_=>simp[slU]at h
end
end
section
variable {H:Hp}{hs:Hs}{α:List Addr}{k:Ty}{u:U}{v:V}
section
variable {X:Cx}{T:Tbl}{A:Adr}
def Yu{e:Expr}{t:TE}(h:∀Y H Q,¬t Y H Q):PE X e t:=λz z Y H Q z q=>(h Y H Q q).elim
def QmF(K:W.Frag){t:Ty}{b:Bool}(h:QmI k t=some b)(A:Adr):W.kitOne K (tyW A k) (tyW A t)=some b:=by
 cases k<;>cases t<;>simp only[QmI]at h<;>first|(cases h;done)|(cases h;rfl)|(cases h;kernel_rfl)
def QhI(tx:Txt T A X.K X.mg)(h:YD u hs=some k)(r:RU A α u v)(R:Rep T A X.K α hs H):TyE X.K H v (tyW A k):=by
 cases u with
 |non=>cases h;cases(show v=_ from r);exact .inl .non
 |bl b=>cases h;cases(show v=_ from r);exact .inl (.bl b)
 |int i m=>cases h;obtain⟨j,rfl,_⟩:=r;exact .inl (.int j)
 |str x=>cases h;cases(show v=_ from r);exact .inl (.str _)
 |ref n=>
  obtain⟨a,ha,rfl⟩:=r;simp only[YD]at h;split at h
  ·rename_i xs e;cases h;obtain⟨vs,q,_⟩:=R.h.ob n a _ ha e;exact .inl (.lst q)
  ·rename_i xs e;cases h;obtain⟨vs,q,_⟩:=R.h.ob n a _ ha e;exact .inl (.tup q)
  ·rename_i kvs e;cases h;obtain⟨kv,q,_⟩:=R.h.ob n a _ ha e;exact .inl (.dK q)
  ·rename_i c fs e;cases h;obtain⟨dx,fv,q,_,l⟩:=R.h.ob n a _ ha e;exact .inl ((tx.cl c _ (Xn l)).ty H a dx fv q)
  ·rename_i c w e;cases h;obtain⟨dd,q,l,_⟩:=R.h.ob n a _ ha e;exact .inr (.inl ⟨a,A.c c,dd,rfl,rfl,q,(tx.er c l).1⟩)
  ·cases h
 |_=>simp[YD]at h
def Qe7(tx:Txt T A X.K X.mg)(h:YE T u hs=some k)(r:RU A α u v)(R:Rep T A X.K α hs H):TyE X.K H v (tyW A k):=by
 unfold YE at h;split at h
 ·rename_i n;split at h
  ·rename_i xs e;cases h;obtain⟨vs,_,q⟩:=tx.co n _ e;exact .inr (.inr ⟨_,vs,r,rfl,q H⟩)
  ·cases h
 ·exact QhI tx h r R
def Qkm{t:Ty}{b:Bool}(tx:Txt T A X.K X.mg)(h:Z4 T t u hs=some b)(r:RU A α u v)(R:Rep T A X.K α hs H):∃tv,TyE X.K H v tv/\W.kitOne X.K tv (tyW A t)=some b:=by
 unfold Z4 at h;split at h
 ·cases h
 ·rename_i k e;refine⟨tyW A k,Qe7 tx e r R,?_⟩;split at h
  ·rename_i b' e';cases h;exact QmF X.K e' A
  ·exact tx.isi k t b h
def Qfp(n:Nat):((toString (n:Int):String):Str)=⟨(Jw n).toArray⟩:=by
 apply Str.ext';apply Tk.mp;exact W.KIN.signs_num n
def Qd6:CallR X (.type "int") (λxs H Q=>((∃i,xs=[.int i]/\Q (.int i) H)\/∃k,xs=[.bl k]/\Q (.int (if k then 1 else 0)) H)\/∃x,xs=[.str x]/\NumText.AllDigits x.cps.toList/\x.cps.toList≠[]/\x.length<=640/\Q (.int ((NumText.digitsVal x.cps.toList:Nat): Int)) H):= by
 intro pins s Y H xs us Q I r h
 rcases h with h|h
 ·exact Qd7 pins s Y H xs us Q I r h
 ·exact J0 pins s Y H xs us Q I r h
def BiS(X:Cx)(T:Tbl)(A:Adr)(b:Bi)(f:Value):Prop:=∃r,CallR X f r/\∀{α:List Addr} {us:List U} {u':U} {hs hs':Hs} {vs:List V} {H:Hp} {Q:VK},biU T b us hs=some (u',hs')->RUs A α us vs->Rep T A X.K α hs H ->
 (∀α' v' H',Ext α α' H H'->Rep T A X.K α' hs' H'->RU A α' u' v'->Q v' H')->r vs H Q
def QkU{f:Value}:CallR X f (λz z z=>False):=λpins s Y H xs us Q I r h=>h.elim
def Qii(tx:Txt T A X.K X.mg):BiS X T A .len (.builtin "len"):=by
 refine⟨_,CallR.or (CallR.or QaO QaN) QkU,?_⟩;intro α us u' hs hs' vs H Q h r R k
 have seq:∀{u:U} {xs:List U},us=[u]->ZN T u hs=some xs->(u',hs')=(U.int xs.length 0,hs)->(∃p ys,vs=[V.ref p]/\(SqL X.K H p ys\/SqT X.K H p ys)/\Q (.int ys.length) H):=λ{u xs} e1 e2 e3=>by
  subst e1;cases e3;obtain⟨v,ws,rfl,ru,rn⟩:=Qn r;cases QA rn;obtain⟨a,ys,rfl,rr,sq⟩:=Yo (K':=X.K) tx R e2 ru
  exact⟨a,ys,rfl,sq,k α _ H Ext.refl R ⟨_,rfl,by rw[rr.length];exact Cg.refl _ _⟩⟩
 cases us with
 |nil=>first|exact Znn h|simp[biU]at h
 |cons u t=>
  cases t with
  |cons _ _=>cases u<;>first|exact Znn h|simp[biU]at h
  |nil=>
   cases u with
   |str x=>
    unfold biU at h;try dsimp only at h;split at h
    ·rename_i l;cases h;obtain⟨v,ws,rfl,ru,rn⟩:=Qn r;cases QA rn;cases(show v=_ from ru)
     refine .inl (.inr ⟨_,rfl,by rw[Zq];exact X1 l big,k α _ H Ext.refl R ⟨_,rfl,?_⟩⟩)
     rw[Zq];exact Cg.refl _ _
    ·cases h
   |ref n=>
    unfold biU at h;try dsimp only at h;split at h
    ·rename_i xs e;exact .inl (.inl (seq rfl e (X2 h).symm))
    ·cases h
   |con n=>
    unfold biU at h;try dsimp only at h;split at h
    ·rename_i xs e;exact .inl (.inl (seq rfl e (X2 h).symm))
    ·cases h
   |scr=>
    unfold biU at h;try dsimp only at h;split at h
    ·rename_i xs e;exact .inl (.inl (seq rfl e (X2 h).symm))
    ·cases h
   |_=>unfold biU at h;simp[ZN]at h
def Qij:BiS X T A .int (.type "int"):=by
 refine⟨_,Qd6,?_⟩;intro α us u' hs hs' vs H Q h r R k
 cases us with
 |nil=>first|exact Znn h|simp[biU]at h
 |cons u t=>
  cases t with
  |cons _ _=>cases u<;>first|exact Znn h|simp[biU]at h
  |nil=>
   obtain⟨v,ws,rfl,ru,rn⟩:=Qn r;cases QA rn
   cases u with
   |int i m=>
    cases h;obtain⟨j,rfl,c⟩:=ru;exact .inl (.inl ⟨j,rfl,k α _ H Ext.refl R ⟨_,rfl,c⟩⟩)
   |bl b=>
    cases h;cases(show v=_ from ru);refine .inl (.inr ⟨b,rfl,k α _ H Ext.refl R ⟨_,rfl,?_⟩⟩);cases b<;>exact Cg.refl _ _
   |str x=>
    unfold biU at h;try dsimp only at h;split at h
    case isFalse=>cases h
    rename_i c;cases h;cases(show v=_ from ru);unfold Qls at c;simp only[Xe,Xs,Xw,Vn,List.isEmpty_eq_false_iff]at c;obtain⟨⟨c1,c2⟩,c3⟩:=c
    exact .inr ⟨_,rfl,c1,c2,by rw[Zq];exact c3,k α _ H Ext.refl R ⟨_,rfl,Cg.refl _ _⟩⟩
   |_=>first|exact Znn h|simp[biU]at h
def Qih:BiS X T A .str (.type "str"):=by
 refine⟨_,QaL,?_⟩;intro α us u' hs hs' vs H Q h r R k
 cases us with
 |nil=>simp[biU]at h
 |cons u t=>
  cases t with
  |cons _ _=>cases u<;>simp[biU]at h
  |nil=>
   obtain⟨v,ws,rfl,ru,rn⟩:=Qn r;cases QA rn
   cases u with
   |int i m=>
    cases m with
    |succ m=>simp[biU]at h
    |zero=>
     simp only[biU]at h;split at h
     ·rename_i c;cases h;obtain⟨j,rfl,q⟩:=ru;cases q.exact;simp only[Xe,Xw]at c;obtain⟨n,rfl⟩:=Int.eq_ofNat_of_zero_le c.1;exact⟨(n:Int),rfl,c.2,k α _ H Ext.refl R (congrArg V.str (Qfp n))⟩
     ·cases h
   |_=>simp[biU]at h
def Qeg:BiS X T A .tuple (.type "tuple"):=by
 refine⟨_,JZ,?_⟩;intro α us u' hs hs' vs H Q h r R k
 cases us with
 |nil=>first|exact Znn h|simp[biU]at h
 |cons u t=>
  cases t with
  |cons _ _=>cases u<;>first|exact Znn h|simp[biU]at h
  |nil=>
   obtain⟨v,ws,rfl,ru,rn⟩:=Qn r;cases QA rn
   cases u with
   |ref n=>
    obtain⟨a,ha,rfl⟩:=ru;unfold biU at h;try dsimp only at h;split at h
    ·rename_i xs e;cases h;obtain⟨ys,q,rr⟩:=R.h.ob n a _ ha e;refine⟨a,ys,rfl,.inl ⟨SqL.of q,λp hp=>?_⟩⟩;obtain⟨R',E'⟩:=R.new (o:=.tup xs) hp ⟨_,Ql,RUs.mono QH rr⟩
     exact k _ _ _ E' R' ⟨p,by rw[<-R.h.len];exact QY,rfl⟩
    ·rename_i xs e;cases h;obtain⟨ys,q,rr⟩:=R.h.ob n a _ ha e;exact⟨a,ys,rfl,.inr ⟨SqT.of q,k α _ H Ext.refl R ⟨a,ha,rfl⟩⟩⟩
    ·cases h
   |_=>first|exact Znn h|simp[biU]at h
def Qfw(tx:Txt T A X.K X.mg)(hc:X.calm=true):BiS X T A .list (.type "list"):=by
 refine⟨_,QaM,?_⟩;intro α us u' hs hs' vs H Q h r R k
 cases us with
 |nil=>first|exact Znn h|simp[biU]at h
 |cons u t=>
  cases t with
  |cons _ _=>cases u<;>first|exact Znn h|simp[biU]at h
  |nil=>
   obtain⟨v,ws,rfl,ru,rn⟩:=Qn r;cases QA rn
   have h:(match ZN T u hs with
    |some xs=>some (U.ref hs.length,hs++[O.lst xs])
    |none=>none)=some (u',hs'):=by
    cases u<;>exact h
   split at h
   ·rename_i xs e;cases h;obtain⟨a,ys,rfl,rr,sq⟩:=Yo (K':=X.K) tx R e ru;refine⟨a,ys,rfl,sq,λp hp=>?_⟩;obtain⟨R',E'⟩:=R.new (o:=.lst xs) hp ⟨_,Ql,RUs.mono QH rr⟩
    exact k _ _ _ E' R' ⟨p,by rw[<-R.h.len];exact QY,rfl⟩
   ·cases h
theorem QaR{α:List Addr}:∀{ys:List U} {bs:List Bool} {vs:List V},Ja ys=some bs->RUs A α ys vs->vs=bs.map V.bl
 |[],_,_,h,r=>by cases h;cases QA r;rfl
 |u::ys,bs,vs,h,r=>by
  cases u with
  |bl b=>
   simp only[Ja,Xc]at h;obtain⟨bs',h,rfl⟩:=h;obtain⟨v,ws,rfl,ru,rn⟩:=Qn r;cases(show v=_ from ru);rw[QaR h rn];rfl
  |_=>simp[Ja]at h
def Qik(tx:Txt T A X.K X.mg)(hc:X.calm=true):BiS X T A .all (.builtin "all"):=by
 refine⟨_,Qd8 hc,?_⟩;intro α us u' hs hs' vs H Q h r R k;have h:biL T .all us hs=some (u',hs'):=h;unfold biL at h;split at h<;>try contradiction
 ·simp only[Xb,Xc]at h;obtain⟨xs,el,ns,en,h⟩:=h;cases h;obtain⟨v,ws,rfl,ru,rn⟩:=Qn r;cases QA rn;obtain⟨a,vs,rfl,rr,sq⟩:=Zo tx R el ru;cases QaR en rr;exact⟨a,ns,rfl,sq,k α _ H Ext.refl R rfl⟩
def BmS(X:Cx)(T:Tbl)(A:Adr)(b:Bm)(id:String):Prop:=∃r,MtR X id r/\∀{α:List Addr} {o u':U} {us:List U} {hs hs':Hs} {x:V} {vs:List V} {H:Hp} {Q:VK},bmU T b o us hs=some (u',hs')->RU A α o x->RUs A α us vs->Rep T A X.K α hs H ->
 (∀α' v' H',Ext α α' H H'->Rep T A X.K α' hs' H'->RU A α' u' v'->Q v' H')->r x vs H Q
def Qec{b:Bm}{o u':U}{us:List U}{hs':Hs}(h:bmU T b o us hs=some (u',hs'))(hb:∀x,bmS T b x us hs=none)(hd:∀n kvs,bmD b n kvs us hs=none):∃n xs,o=.ref n/\hs[n]?=some (.lst xs):=by
 cases o with
 |ref n=>
  simp only[bmU]at h;split at h
  ·rename_i xs e;exact⟨n,xs,rfl,e⟩
  ·rw[hd]at h;cases h
  ·cases h
 |str x=>
  simp only[bmU]at h;rw[hb]at h;cases h
 |_=>simp[bmU]at h
def Qcz:BmS X T A .append "list.append":=by
 refine⟨_,YY,?_⟩;intro α o u' us hs hs' x vs H Q h ro r R k;obtain⟨n,xs,rfl,e⟩:=Qec h (λz=>rfl) (λz z=>rfl);obtain⟨a,ha,rfl⟩:=ro
 cases us with
 |nil=>simp[bmU,bmL,e]at h
 |cons u t=>
  cases t with
  |cons _ _=>simp[bmU,bmL,e]at h
  |nil=>
   simp only[bmU,bmL,e]at h;split at h
   ·rename_i l;cases h;obtain⟨v,ws,rfl,ru,rn⟩:=Qn r;cases QA rn;obtain⟨ys,q,rr⟩:=R.h.ob n a _ ha e;refine⟨a,ys,v,rfl,rfl,q,?_,?_⟩
    ·rw[<-rr.length];exact Xr l big
    ·obtain⟨R',E'⟩:=R.put (o:=.lst (xs++[u])) ha ⟨_,Ql,rr.append (.cons ru .nil)⟩;exact k _ _ _ E' R' rfl
   ·cases h
theorem RUs.reverse{us:List U}{vs:List V}(h:RUs A α us vs):RUs A α us.reverse vs.reverse:=QfV h
def Qbu:BmS X T A .reverse "list.reverse":=by
 refine⟨_,Qci,?_⟩;intro α o u' us hs hs' x vs H Q h ro r R k;obtain⟨n,xs,rfl,e⟩:=Qec h (λz=>rfl) (λz z=>rfl);obtain⟨a,ha,rfl⟩:=ro
 cases us with
 |cons u t=>simp[bmU,bmL,e]at h
 |nil=>
  simp only[bmU,bmL,e]at h;cases h;cases QA r;obtain⟨ys,q,rr⟩:=R.h.ob n a _ ha e;refine⟨a,ys,rfl,rfl,q,?_⟩;obtain⟨R',E'⟩:=R.put (o:=.lst xs.reverse) ha ⟨_,Ql,rr.reverse⟩;exact k _ _ _ E' R' rfl
theorem QbF{α:List Addr}:∀{ys:List U} {ts:List (List Nat)} {vs:List V},Qa1 ys=some ts->RUs A α ys vs->vs=(ts.map λt=>(⟨t.toArray⟩:Str)).map V.str
 |[],_,_,h,r=>by cases h;cases QA r;rfl
 |u::ys,ts,vs,h,r=>by
  cases u with
  |str x=>
   simp only[Qa1,Xc]at h;obtain⟨ts',h,rfl⟩:=h;obtain⟨v,ws,rfl,ru,rn⟩:=Qn r;cases(show v=_ from ru);rw[QbF h rn];rfl
  |_=>simp[Qa1]at h
theorem Qai(k:Nat):∀(ts:List (List Nat)) (a:Nat),(ts.map λt=>(⟨t.toArray⟩:Str)).foldl (· + ·.length+k) a=a+ts.length*k+(ts.map List.length).sum
 |[],a=>by simp
 |t::r,a=>by
  rw[Ws,List.foldl_cons,Qai k r]
  have:(⟨t.toArray⟩:Str).length=t.length:=by simp[Str.length]
  rw[this];simp only[X8,Ws,List.sum_cons,Nat.succ_mul];omega
def Qfa(x:List Nat)(ts:List (List Nat)):Txt.join ⟨x.toArray⟩ (ts.map λt=>(⟨t.toArray⟩:Str))=⟨(ZI x ts).toArray⟩:=by
 apply Str.ext';apply Tk.mp;show(Builtin.Str.glued _ _).cps.toList=_;rw[StrLaws.glued_eq_join,JU,Uq]
 have:((λt:Str=>t.cps.toList)∘λt:List Nat=>(⟨t.toArray⟩:Str))=id:=by funext t;simp
 rw[this,List.map_id]
def Qfu(tx:Txt T A X.K X.mg):BmS X T A .join "str.join":=by
 refine⟨_,QhB,?_⟩;intro α o u' us hs hs' x vs H Q h ro r R k
 cases o with
 |ref n=>
  simp only[bmU]at h;split at h
  ·simp[bmL]at h
  ·simp[bmD]at h
  ·cases h
 |str z=>
  cases(show x=_ from ro);simp only[bmU]at h
  match us,h with
  |[],h=>simp[bmS]at h
  |_::_::_,h=>simp[bmS]at h
  |[w],h=>
   simp only[bmS]at h;split at h
   case h_2=>cases h
   rename_i ys el;split at h
   case h_2=>cases h
   rename_i ts es;split at h
   case isFalse=>cases h
   rename_i c;cases h;obtain⟨v,ws,rfl,ru,rn⟩:=Qn r;cases QA rn;obtain⟨a,vs,rfl,rr,sq⟩:=Zo tx R el ru;have ev:=QbF es rr;subst ev;refine⟨_,a,_,rfl,rfl,sq,?_,?_⟩
   ·unfold JoinOk;rw[List.foldl_toArray,Zq,Qai];unfold Builtin.Str.tooLong;simp only[Vn,decide_eq_false_iff_not];have:=big;omega
   ·rw[Qfa];exact k α _ H Ext.refl R rfl
 |_=>simp[bmU]at h
def QcV(c:Nat)(z:List Nat):RUs A α ((Qx c z).map .str) ((Txt.split ⟨z.toArray⟩ ⟨#[c]⟩).map V.str):=by
 have e:=split_is ⟨z.toArray⟩ c
 have e':Qx c z=(Txt.split ⟨z.toArray⟩ ⟨#[c]⟩).map (·.cps.toList):=by rw[e]
 rw[e',Uq];generalize Txt.split ⟨z.toArray⟩ ⟨#[c]⟩=l
 induction l with
 |nil=>exact .nil
 |cons t r ih=>exact .cons (show V.str t=V.str ⟨t.cps.toList.toArray⟩ by simp) ih
def Qeb:BmS X T A .split "str.split":=by
 refine⟨_,Qdu,?_⟩;intro α o u' us hs hs' x vs H Q h ro r R k
 cases o with
 |ref n=>
  simp only[bmU]at h;split at h
  ·simp[bmL]at h
  ·simp[bmD]at h
  ·cases h
 |str z=>
  cases(show x=_ from ro);simp only[bmU]at h;unfold bmS at h;split at h
  ·rename_i e;cases e
  ·rename_i c e;split at h
   case isFalse=>cases h
   rename_i l;cases h;obtain⟨v,ws,rfl,ru,rn⟩:=Qn r;cases QA rn;cases(show v=_ from ru);refine⟨_,c,rfl,rfl,?_,λp hp=>?_⟩
   ·rw[Zq];have:(1000002:Nat)<=sizeLine:=by decide
    omega
   obtain⟨R',E'⟩:=R.new (o:=.lst ((Qx c z).map .str)) hp ⟨_,Ql,QcV c z⟩
   exact k _ _ _ E' R' ⟨p,by rw[<-R.h.len];exact QY,rfl⟩
  all_goals first|(rename_i e;cases e;done)|cases h
 |_=>simp[bmU]at h
def QgV:V->List V->Hp->VK->Prop:=λx vs H Q=>∃y z,x=.str y/\vs=[.str z]/\Q (.bl (PySem.Txt.startswith y z)) H
def Qdt:MtR X "str.startswith" QgV:=by
 intro pins s Y H x vs v us Q I rx rv h;obtain⟨y,z,rfl,rfl,q⟩:=h;obtain⟨t,rfl⟩:=rx;obtain⟨u,rfl,ru⟩:=rv.one;obtain⟨u',rfl⟩:=ru;exact call_gives F.slot_str_startswith (U8 _ _ _) F.entry_str_startswith (F.args_str_startswith_2 _ _) (gives_str_startswith y z t u') ⟨.bl (PySem.Txt.startswith y z),H,I,rfl,q⟩
def Qcy:BmS X T A .starts "str.startswith":=by
 refine⟨_,Qdt,?_⟩;intro α o u' us hs hs' x vs H Q h ro r R k
 cases o with
 |ref n=>
  simp only[bmU]at h;split at h
  ·simp[bmL]at h
  ·simp[bmD]at h
  ·cases h
 |str z=>
  cases(show x=_ from ro)
  cases us with
  |nil=>simp[bmU,bmS]at h
  |cons u t=>
   cases t with
   |cons _ _=>cases u<;>simp[bmU,bmS]at h
   |nil=>
    cases u with
    |str y=>
     cases h;obtain⟨v,ws,rfl,ru,rn⟩:=Qn r;cases QA rn;cases(show v=_ from ru);exact⟨_,_,rfl,rfl,k α _ H Ext.refl R rfl⟩
    |_=>simp[bmU,bmS]at h
 |_=>simp[bmU]at h
end
end
section
variable {ir:E}{a e:Expr}{d:Nat}{p:Pos}
def TIO(T:Tbl)(A:Adr)(K:W.Frag)(f:Rho->Hs->Option (Option Int×Hs)):TO:=λY H Q=>∃α Z hs u hs',RS A α Z Y/\Rep T A K α hs H/\f Z hs=some (u,hs') /\
 ∀α' H',Ext α α' H H'->Rep T A K α' hs' H'->Q u H'
structure Fc(X:Cx)(T:Tbl)(A:Adr)(cf:Cf)(k:Nat):Prop where
 ok:∀f F,T.fns[f]?=some F->∃fd,FnOk X.prog X.w X.K X.mg X.base CX0 k (A.f f) fd F.ps (spC T A X.K cf f)/\Binds X.K fd F.ps []/\W.keepIn X.K (.ref (A.f f))=true
 some:∀f us hs r,cf f us hs=some r->∃F,T.fns[f]?=some F/\us.length=F.np
 df:∀i D F,T.dfl.lookup i=Option.some D->T.fns[i]?=Option.some F->∃fd,FnOk X.prog X.w X.K X.mg X.base CX0 k (A.f i) fd D.ps (spC T A X.K cf i)/\W.keepIn X.K (.ref (A.f i))=true/\Qiz A X.K fd D
 xf:∀f F,T.fns[f]?=Option.some F->∃fd,FnOk X.prog X.w X.K X.mg X.base (CXw X.prog X.w) k (A.f f) fd F.ps (spX T A X.K T.xf f)/\Binds X.K fd F.ps []/\W.keepIn X.K (.ref (A.f f))=true
 hk:∀f F,T.fns[f]?=Option.some F->T.hfs.contains f=true->∃fd,FnOkH X.prog X.w X.K X.mg X.base k (A.f f) fd F.ps (spC T A X.K cf f)/\Binds X.K fd F.ps []/\W.keepIn X.K (.ref (A.f f))=true
structure Snd(T:Tbl)(A:Adr)(C:Ctx)(X:Cx)(cf:Cf)(m:Nat):Prop where
 e:∀d e ir,Qd m C e=some ir->PE X e (TI T A X.K (ev T cf d ir))
 t:∀d e ir,compT m C e=some ir->PT X e (TIT T A X.K (evT T cf d ir))/\PE X e (TI T A X.K (ev T cf d ir))
 an:∀d a r p ir,compAnd m C a r p=some ir->PW X (.BoolOp .And (a::r) p) (TIT T A X.K (evT T cf d ir))/\PE X (.BoolOp .And (a::r) p) (TI T A X.K (ev T cf d ir))
 orr:∀d a r p ir,compOr m C a r p=some ir->PW X (.BoolOp .Or (a::r) p) (TIT T A X.K (evT T cf d ir))/\PE X (.BoolOp .Or (a::r) p) (TI T A X.K (ev T cf d ir))
 a:∀d es irs,compA m C es=some irs->PA X es (TIA T A X.K (λZ hs=>evs (ev T cf d) Z irs hs))
 o:∀d e ir,compO m C e=some ir->PO X e (TIO T A X.K (λZ hs=>evO (ev T cf d) Z ir hs))
section
variable {X:Cx}{T:Tbl}{A:Adr}{C:Ctx}{cf:Cf}{m:Nat}
def Qaa{t:TT}(h:∀Y H Q,¬t Y H Q):PT X e t:=λz z Y H Q z q=>(h Y H Q q).elim
def Qin{t:TT}(h:∀Y H Q,¬t Y H Q):PW X e t:=λz z z Y H Q z q=>(h Y H Q q).elim
def Qio{e:List Expr}{t:TA}(h:∀Y H Q,¬t Y H Q):PA X e t:=λz z z Y H Q z q=>(h Y H Q q).elim
def QmA{K:W.Frag}:∀Y H Q,¬TI T A K (ev T cf 0 ir) Y H Q:=λz z z y=>by obtain⟨_,_,_,_,_,_,_,h,_⟩:=y;exact nomatch h
def Qdr{K:W.Frag}:∀Y H Q,¬TIT T A K (evT T cf 0 ir) Y H Q:=λz z z y=>by obtain⟨_,_,_,_,_,_,_,h,_⟩:=y;exact nomatch h
def Qs(h:∀d',PE X e (TI T A X.K (ev T cf (d'+1) ir))):PE X e (TI T A X.K (ev T cf d ir)):=by
 cases d with
 |zero=>exact Yu QmA
 |succ d=>exact h d
def QgR{c:Const}{k:Nat}(h:Qd (m+1) C (.Constant c k p)=some ir):PE X (.Constant c k p) (TI T A X.K (ev T cf d ir)):=by
 refine Qs λd=>?_
 cases c with
 |int i=>cases h;exact QT QjM λY H Q z=>by obtain⟨α,Z,hs,u,hs',rs,R,e,q⟩:=z;cases e;exact q α _ H Ext.refl R ⟨i,rfl,Cg.refl _ _⟩
 |bool b=>cases h;exact QT Qmm λY H Q y=>by obtain⟨α,Z,hs,u,hs',rs,R,e,q⟩:=y;cases e;exact q α _ H Ext.refl R rfl
 |none=>cases h;exact QT QjK λY H Q w=>by obtain⟨α,Z,hs,u,hs',rs,R,e,q⟩:=w;cases e;exact q α _ H Ext.refl R rfl
 |str x=>cases h;exact QT QjJ λY H Q v=>by obtain⟨α,Z,hs,u,hs',rs,R,e,q⟩:=v;cases e;exact q α _ H Ext.refl R rfl
 |_=>first|exact Znn h|simp[Qd]at h
def Qjh{x:Str}(g:GX T A C X)(h:Qd (m+1) C (.Name x p)=some ir):PE X (.Name x p) (TI T A X.K (ev T cf d ir)):=by
 refine Qs λd=>?_;simp only[cE4]at h;split at h
 ·cases h
 ·rename_i hn;have n1:(x==("__debug__":Str))=false:=Qz λz=>hn (.inl z);have n2:(x==("__classdict__":Str))=false:=Qz λz=>hn (.inr z);split at h
  ·rename_i hv;simp only[Xc]at h;obtain⟨i,hi,rfl⟩:=h
   refine QT (QjI (i:=i) (by rw[g.N];exact Q3 hi) (QiH g hv) n1 n2) ?_
   rintro Y H Q ⟨α,Z,hs,u,hs',rs,R,e,q⟩;simp only[ev]at e;split at e
   ·rename_i w e';cases e;obtain⟨v,h1,h2⟩:=rs.get e';exact⟨v,h1,q α v H Ext.refl R h2⟩
   ·cases e
  ·split at h
   ·rename_i hg;split at h
    ·rename_i k hk;cases h;refine QT (Qbb (QS g hg) (g.gco x k hk) (v:=.ref (A.k k)) rfl n1) ?_;rintro Y H Q ⟨α,Z,hs,u,hs',rs,R,e,q⟩;cases e;exact q α _ H Ext.refl R rfl
    ·rename_i t hk;cases h;obtain⟨v,w,hm,rv,ru⟩:=g.gtx x t hk;refine QT (Qbb (QS g hg) hm rv n1) ?_;rintro Y H Q ⟨α,Z,hs,u,hs',rs,R,e,q⟩;simp only[ev]at e;cases e;exact q α _ H Ext.refl R (ru α)
    ·cases h
   ·cases h
def Ql7{b:Expr}{o:Operator}(S:Snd T A C X cf m)(h:Qd (m+1) C (.BinOp a o b p)=some ir):PE X (.BinOp a o b p) (TI T A X.K (ev T cf d ir)):=by
 refine Qs λd=>?_;simp only[cE5,Xb]at h;obtain⟨a',ha,b',hb,h⟩:=h;cases h;obtain⟨r,ho,hr⟩:=opS (X:=X) (T:=T) (A:=A) o;refine QT (Qmj ho (S.e d a a' ha) (S.e d b b' hb)) ?_;rintro Y H Q ⟨α,Z,hs,u,hs',rs,R,e,q⟩;simp only[ev]at e;obtain⟨u1,h1,e1,e⟩:=Qb e;obtain⟨u2,h2,e2,e⟩:=Qb e;refine TI.run rs R e1 λα1 x H1 E1 R1 r1 rs1=>?_;refine TI.run rs1 R1 e2 λα2 y H2 E2 R2 r2 rs2=>?_;exact hr e (r1.mono E2.pre) r2 R2 λα3 v H3 E3 R3 r3=>q α3 v H3 ((E1.trans E2 R2.h).trans E3 R3.h) R3 r3
def Ql5(S:Snd T A C X cf m)(h:Qd (m+1) C (.UnaryOp .USub a p)=some ir):PE X (.UnaryOp .USub a p) (TI T A X.K (ev T cf d ir)):=by
 refine Qs λd=>?_;simp only[cE6,Xb]at h;obtain⟨a',ha,h⟩:=h;cases h;refine QT (Qmh QiN (S.e d a a' ha)) ?_;rintro Y H Q ⟨α,Z,hs,u,hs',rs,R,e,q⟩;simp only[ev]at e;obtain⟨u1,h1,e1,e⟩:=Qb e;refine TI.run rs R e1 λα1 x H1 E1 R1 r1 rs1=>?_;split at e
 ·cases e;obtain⟨i,rfl,c⟩:=r1;exact⟨i,rfl,q α1 _ H1 E1 R1 ⟨_,rfl,Qge c⟩⟩
 ·cases e
def Qjg(tx:Txt T A X.K X.mg)(S:Snd T A C X cf m)(h:Qd (m+1) C (.UnaryOp .Not a p)=some ir):PE X (.UnaryOp .Not a p) (TI T A X.K (ev T cf d ir))/\PT X (.UnaryOp .Not a p) (TIT T A X.K (evT T cf d ir)):=by
 simp only[cE7,Xb]at h;obtain⟨a',ha,h⟩:=h;cases h;constructor
 ·refine Qs λd=>?_;intro pins s Y H Q I hw;obtain⟨α,Z,hs,u,hs',rs,R,e,q⟩:=hw;simp only[ev]at e;obtain⟨u1,h1,e1,e⟩:=Qb e;simp only[Xc]at e;obtain⟨c,e2,e⟩:=e;cases e;refine UnaryOp_ (thn ((S.t d a a' ha).2 pins s Y H (λv H'=>Qk6 X.K v H' c/\Q (.bl (!c)) H') I ⟨α,Z,hs,u1,_,rs,R,e1,λα' v H' E' R' r'=>⟨QcP tx R' e2 r',q α' _ H' E' R' rfl⟩⟩) λv s1 z=>?_);obtain⟨x,H1,I1,r1,q1,q2⟩:=z
  exact not_of (thn (QfK pins s1 Y H1 x v (λb H'=>b=c/\H'=H1) I1 r1 ⟨c,q1,rfl,rfl⟩) λb s2 y=>by obtain⟨H2,I2,eb,eH⟩:=y;exact⟨.bl (!c),H2,I2,by rw[eb];rfl,by rw[eH];exact q2⟩)
 ·cases d with
  |zero=>exact Qaa Qdr
  |succ d=>
   refine Qfz (Qjz (S.t d a a' ha).1) ?_;rintro Y H Q ⟨α,Z,hs,u,hs',rs,R,e,q⟩;simp only[evT]at e;obtain⟨c,h1,e1,e⟩:=Qb e;cases e;exact TIT.run rs R e1 λα1 H1 E1 R1 rs1=>q α1 H1 E1 R1
end
end
section
variable {o:CmpOp}{ir:E}{a e:Expr}{d:Nat}{p:Pos}
section
variable {X:Cx}{T:Tbl}{A:Adr}{C:Ctx}{cf:Cf}{m:Nat}
def JL(h:∀d',PT X e (TIT T A X.K (evT T cf (d'+1) ir))):PT X e (TIT T A X.K (evT T cf d ir)):=by
 cases d with
 |zero=>exact Qaa Qdr
 |succ d=>exact h d
def QbM(h:∀d',PW X e (TIT T A X.K (evT T cf (d'+1) ir))):PW X e (TIT T A X.K (evT T cf d ir)):=by
 cases d with
 |zero=>exact Qin Qdr
 |succ d=>exact h d
def Qjn(S:Snd T A C X cf m)(d:Nat)(a:Expr)(r:List Expr)(p:Pos)(ir:E)(h:compAnd (m+1) C a r p=some ir):
  PW X (.BoolOp .And (a::r) p) (TIT T A X.K (evT T cf d ir))/\PE X (.BoolOp .And (a::r) p) (TI T A X.K (ev T cf d ir)):=by
 cases r with
 |nil=>exact⟨Qg0 (S.t d a ir h).1,QfY (S.t d a ir h).2⟩
 |cons b r=>
  simp only[compAnd,Xb]at h;obtain⟨a',ha,b',hb,h⟩:=h;cases h;constructor
  ·refine QbM λd=>?_;refine Qk7 (Qjx (S.t d a a' ha).1 (S.an d b r p b' hb).1) ?_;rintro Y H Q ⟨α,Z,hs,u,hs',rs,R,e,q⟩;simp only[evT]at e;obtain⟨c,h1,e1,e⟩:=Qb e;refine TIT.run rs R e1 λα1 H1 E1 R1 rs1=>?_
   cases c with
   |true=>exact TIT.run rs1 R1 e λα2 H2 E2 R2 rs2=>q α2 H2 (E1.trans E2 R2.h) R2
   |false=>cases e;exact q α1 H1 E1 R1
  ·refine Qs λd=>?_;refine QT (QjP (S.t d a a' ha).2 (S.an d b r p b' hb).2) ?_;rintro Y H Q ⟨α,Z,hs,u,hs',rs,R,e,q⟩;simp only[ev]at e;obtain⟨u1,h1,e1,e⟩:=Qb e;refine TI.run rs R e1 λα1 x H1 E1 R1 r1 rs1=>?_;split at e
   ·cases(show x=_ from r1);exact⟨true,rfl,TI.run rs1 R1 e λα2 v H2 E2 R2 r2 rs2=>q α2 v H2 (E1.trans E2 R2.h) R2 r2⟩
   ·cases(show x=_ from r1);cases e;exact⟨false,rfl,q α1 _ H1 E1 R1 rfl⟩
   ·cases e
def Qnr(S:Snd T A C X cf m)(d:Nat)(a:Expr)(r:List Expr)(p:Pos)(ir:E)(h:compOr (m+1) C a r p=some ir):
  PW X (.BoolOp .Or (a::r) p) (TIT T A X.K (evT T cf d ir))/\PE X (.BoolOp .Or (a::r) p) (TI T A X.K (ev T cf d ir)):=by
 cases r with
 |nil=>exact⟨Qjw (S.t d a ir h).1,QfY (S.t d a ir h).2⟩
 |cons b r=>
  simp only[compOr,Xb]at h;obtain⟨a',ha,b',hb,h⟩:=h;cases h;constructor
  ·refine QbM λd=>?_;refine Qk7 (Qme (S.t d a a' ha).1 (S.orr d b r p b' hb).1) ?_;rintro Y H Q ⟨α,Z,hs,u,hs',rs,R,e,q⟩;simp only[evT]at e;obtain⟨c,h1,e1,e⟩:=Qb e;refine TIT.run rs R e1 λα1 H1 E1 R1 rs1=>?_
   cases c with
   |false=>exact TIT.run rs1 R1 e λα2 H2 E2 R2 rs2=>q α2 H2 (E1.trans E2 R2.h) R2
   |true=>cases e;exact q α1 H1 E1 R1
  ·refine Qs λd=>?_;refine QT (Qmi (S.t d a a' ha).2 (S.orr d b r p b' hb).2) ?_;rintro Y H Q ⟨α,Z,hs,u,hs',rs,R,e,q⟩;simp only[ev]at e;obtain⟨u1,h1,e1,e⟩:=Qb e;refine TI.run rs R e1 λα1 x H1 E1 R1 r1 rs1=>?_;split at e
   ·cases(show x=_ from r1);cases e;exact⟨true,rfl,q α1 _ H1 E1 R1 rfl⟩
   ·cases(show x=_ from r1);exact⟨false,rfl,TI.run rs1 R1 e λα2 v H2 E2 R2 r2 rs2=>q α2 v H2 (E1.trans E2 R2.h) R2 r2⟩
   ·cases e
def Qhz{b:Expr}{b':E}(h:Qd m C b=some b'):behindInMarks o b=false:=by
 cases b<;>first|rfl|skip
 cases m<;>first|exact Znn h|simp[Qd]at h
def Qjl{b:Expr}(tx:Txt T A X.K X.mg)(tab:Je X.prog X.w T A X.K)(hu:X.A.units+64<cLine)(S:Snd T A C X cf m)(h:Qd (m+1) C (.Compare a [o] [b] p)=some ir):
  PE X (.Compare a [o] [b] p) (TI T A X.K (ev T cf d ir))/\PT X (.Compare a [o] [b] p) (TIT T A X.K (evT T cf d ir)):=by
 simp only[Qpt,Xb]at h;obtain⟨a',ha,b',hb,h⟩:=h;cases h;obtain⟨r,ho,hr⟩:=QmZ (X:=X) (T:=T) (A:=A) tx tab hu o
 have key:∀(d:Nat) (Y:St) (H:Hp) (Q:VK) (α:List Addr) (Z:Rho) (hs hs':Hs) (u:U),RS A α Z Y->Rep T A X.K α hs H->ev T cf (d+1) (.cmp o a' b') Z hs=some (u,hs') ->
   (∀α' c H',u=.bl c->Ext α α' H H'->Rep T A X.K α' hs' H'->Q (.bl c) H')->tOp r (TI T A X.K (ev T cf d a')) (TI T A X.K (ev T cf d b')) Y H Q:=by
  intro d Y H Q α Z hs hs' u rs R e q;simp only[ev]at e;obtain⟨u1,h1,e1,e⟩:=Qb e;obtain⟨u2,h2,e2,e⟩:=Qb e;simp only[Xc]at e;obtain⟨c,e3,e⟩:=e;cases e;refine TI.run rs R e1 λα1 x H1 E1 R1 r1 rs1=>?_;refine TI.run rs1 R1 e2 λα2 y H2 E2 R2 r2 rs2=>?_;exact hr e3 (r1.mono E2.pre) r2 R2 (q α2 c H2 rfl (E1.trans E2 R2.h) R2)
 constructor
 ·refine Qs λd=>?_;refine QT (Qhf ho (S.e d a a' ha) (S.e d b b' hb) (Qhz hb)) ?_;rintro Y H Q ⟨α,Z,hs,u,hs',rs,R,e,q⟩
  exact key d Y H Q α Z hs hs' u rs R e λα' c H' eu E' R'=>q α' _ H' E' R' (by rw[eu];rfl)
 ·refine JL λd=>?_
  cases d with
  |zero=>exact Qaa λz z z v=>by obtain⟨_,_,_,_,_,_,_,h,_⟩:=v;simp[evT,ev,bd]at h
  |succ d=>
   refine Qfz (Qg1 ho (S.e d a a' ha) (S.e d b b' hb) (Qhz hb)) ?_;rintro Y H Q ⟨α,Z,hs,u,hs',rs,R,e,q⟩;simp only[evT]at e;obtain⟨u1,h1,e1,e⟩:=Qb e;simp only[Xc]at e;obtain⟨c,e3,e⟩:=e;cases e;refine key d Y H _ α Z hs _ u1 rs R e1 λα' c' H' eu E' R'=>⟨c',rfl,?_⟩;rw[eu]at e3;cases e3;exact q α' H' E' R'
def Qc2{b c:Expr}{o':CmpOp}(tx:Txt T A X.K X.mg)(tab:Je X.prog X.w T A X.K)(hu:X.A.units+64<cLine)(S:Snd T A C X cf m)(h:Qd (m+1) C (.Compare a [o,o'] [b,c] p)=some ir):
  PE X (.Compare a [o,o'] [b,c] p) (TI T A X.K (ev T cf d ir))/\PT X (.Compare a [o,o'] [b,c] p) (TIT T A X.K (evT T cf d ir)):=by
 simp only[Qps,Xb]at h;obtain⟨a',ha,b',hb,c',hc,h⟩:=h;cases h;obtain⟨r,ho,hr⟩:=QmZ (X:=X) (T:=T) (A:=A) tx tab hu o;obtain⟨r',ho',hr'⟩:=QmZ (X:=X) (T:=T) (A:=A) tx tab hu o';have hm:lastMarks [o,o'] [b,c]=false:=Qhz hc
 have key:∀(d:Nat) (Y:St) (H:Hp) (Q:VK) (α:List Addr) (Z:Rho) (hs hs':Hs) (u:U),RS A α Z Y->Rep T A X.K α hs H->ev T cf (d+1) (.chain o o' a' b' c') Z hs=some (u,hs') ->
   (∀α' k H',u=.bl k->Ext α α' H H'->Rep T A X.K α' hs' H'->Q (.bl k) H')->QcR r r' (TI T A X.K (ev T cf d a')) (TI T A X.K (ev T cf d b')) (TI T A X.K (ev T cf d c')) Y H Q:=by
  intro d Y H Q α Z hs hs' u rs R e q;simp only[ev]at e;obtain⟨u1,h1,e1,e⟩:=Qb e;obtain⟨u2,h2,e2,e⟩:=Qb e;refine TI.run rs R e1 λα1 x H1 E1 R1 r1 rs1=>?_;refine TI.run rs1 R1 e2 λα2 y H2 E2 R2 r2 rs2=>?_;split at e
  ·rename_i e3;obtain⟨u3,h3,e4,e⟩:=Qb e;simp only[Xc]at e;obtain⟨k,e5,e⟩:=e;cases e;refine hr e3 (r1.mono E2.pre) r2 R2 ⟨true,rfl,?_⟩;rw[if_pos rfl];refine TI.run rs2 R2 e4 λα3 z H3 E3 R3 r3 rs3=>?_;exact hr' e5 (r2.mono E3.pre) r3 R3 (q α3 k H3 rfl ((E1.trans E2 R2.h).trans E3 R3.h) R3)
  ·rename_i e3;cases e;refine hr e3 (r1.mono E2.pre) r2 R2 ⟨false,rfl,?_⟩;rw[if_neg Xi];exact q α2 false H2 rfl (E1.trans E2 R2.h) R2
  ·cases e
 constructor
 ·refine Qs λd=>?_;refine QT (QeU ho ho' (S.e d a a' ha) (S.e d b b' hb) (S.e d c c' hc) hm) ?_;rintro Y H Q ⟨α,Z,hs,u,hs',rs,R,e,q⟩
  exact key d Y H Q α Z hs hs' u rs R e λα' c H' eu E' R'=>q α' _ H' E' R' (by rw[eu];rfl)
 ·refine JL λd=>?_
  cases d with
  |zero=>exact Qaa λv v v t=>by obtain⟨_,_,_,_,_,_,_,h,_⟩:=t;simp[evT,ev,bd]at h
  |succ d=>
   refine Qfz (QeN ho ho' (S.e d a a' ha) (S.e d b b' hb) (S.e d c c' hc) hm) ?_;rintro Y H Q ⟨α,Z,hs,u,hs',rs,R,e,q⟩;simp only[evT]at e;obtain⟨u1,h1,e1,e⟩:=Qb e;simp only[Xc]at e;obtain⟨k,e3,e⟩:=e;cases e;refine key d Y H _ α Z hs _ u1 rs R e1 λα' c' H' eu E' R'=>⟨c',rfl,?_⟩;rw[eu]at e3;cases e3;exact q α' H' E' R'
def QgP{t b:Expr}(S:Snd T A C X cf m)(h:Qd (m+1) C (.IfExp t a b p)=some ir):PE X (.IfExp t a b p) (TI T A X.K (ev T cf d ir)):=by
 refine Qs λd=>?_;simp only[Qpr,Xb]at h;obtain⟨t',ht,a',ha,b',hb,h⟩:=h;cases h;refine QT (QbO (S.t d t t' ht).1 (S.e d a a' ha) (S.e d b b' hb)) ?_;rintro Y H Q ⟨α,Z,hs,u,hs',rs,R,e,q⟩;simp only[ev]at e;obtain⟨c,h1,e1,e⟩:=Qb e;refine TIT.run rs R e1 λα1 H1 E1 R1 rs1=>?_
 cases c with
 |true=>exact TI.run rs1 R1 e λα2 v H2 E2 R2 r2 rs2=>q α2 v H2 (E1.trans E2 R2.h) R2 r2
 |false=>exact TI.run rs1 R1 e λα2 v H2 E2 R2 r2 rs2=>q α2 v H2 (E1.trans E2 R2.h) R2 r2
theorem Z2{f:Ev}{Z:Rho}:∀{es:List E} {hs hs':Hs} {us:List U},evs f Z es hs=some (us,hs')->us.length=es.length
 |[],_,_,_,h=>by cases h;rfl
 |e::r,hs,hs',us,h=>by
  simp only[evs]at h;obtain⟨u,h1,e1,h⟩:=Qb h;obtain⟨ws,h2,e2,h⟩:=Qb h;cases h;simp[Z2 e2]
theorem QF{C:Ctx}:∀{m:Nat} {es:List Expr} {irs:List E},compA m C es=some irs->irs.length=es.length
 |0,_,_,h=>by simp[compA]at h
 |m+1,[],_,h=>by cases h;rfl
 |m+1,e::r,irs,h=>by
  simp only[compA,Xb]at h;obtain⟨e',he,r',hr,h⟩:=h;cases h;simp[QF hr]
def QfO(S:Snd T A C X cf m)(d:Nat)(es:List Expr)(irs:List E)(h:compA (m+1) C es=some irs):PA X es (TIA T A X.K (λZ hs=>evs (ev T cf d) Z irs hs)):=by
 cases es with
 |nil=>
  cases h;refine Qld Qao ?_;rintro Y H Q ⟨α,Z,hs,u,hs',rs,R,e,q⟩;cases e;exact q α [] H Ext.refl R .nil
 |cons e r=>
  simp only[compA,Xb]at h;obtain⟨e',he,r',hr,h⟩:=h;cases h;refine Qld (Zt (S.e d e e' he) (S.a d r r' hr) (Qf (Qt he))) ?_;rintro Y H Q ⟨α,Z,hs,u,hs',rs,R,e,q⟩;simp only[evs]at e;obtain⟨u1,h1,e1,e⟩:=Qb e;obtain⟨us,h2,e2,e⟩:=Qb e;cases e;refine TI.run rs R e1 λα1 x H1 E1 R1 r1 rs1=>?_;exact TIA.run rs1 R1 e2 λα2 xs H2 E2 R2 r2 rs2=>q α2 _ H2 (E1.trans E2 R2.h) R2 (.cons (r1.mono E2.pre) r2)
def Qjf(S:Snd T A C X cf m)(d:Nat)(e:Option Expr)(ir:Option E)(h:compO (m+1) C e=some ir):PO X e (TIO T A X.K (λZ hs=>evO (ev T cf d) Z ir hs)):=by
 cases e with
 |none=>
  cases h;intro pins s Y H Q I hw;refine Qg8 pins s Y H Q I ?_;obtain⟨α,Z,hs,u,hs',rs,R,e,q⟩:=hw;cases e;exact q α H Ext.refl R
 |some e=>
  simp only[compO,Xb]at h;obtain⟨e',he,h⟩:=h;cases h;intro pins s Y H Q I hw;refine Qg7 (S.e d e e' he) pins s Y H Q I ?_;obtain⟨α,Z,hs,u,hs',rs,R,e,q⟩:=hw;simp only[evO]at e;obtain⟨u1,h1,e1,e⟩:=Qb e;refine TI.run rs R e1 λα1 x H1 E1 R1 r1 rs1=>?_;split at e
  ·cases e;obtain⟨i,rfl,c⟩:=r1;cases c.exact;exact⟨_,rfl,q α1 H1 E1 R1⟩
  ·cases e
def TIO.run{T:Tbl}{A:Adr}{K:W.Frag}{α:List Addr}{Z:Rho}{Y:St}{hs h1:Hs}{H:Hp}{f:Rho->Hs->Option (Option Int×Hs)}{u:Option Int}{Q:Option Int->Hp->Prop}(rs:RS A α Z Y)(rp:Rep T A K α hs H)(h:f Z hs=some (u,h1))
  (k:∀α1 H1,Ext α α1 H H1->Rep T A K α1 h1 H1->RS A α1 Z Y->Q u H1):TIO T A K f Y H Q :=
 ⟨α,Z,hs,u,h1,rs,rp,h,λα1 H1 e r=>k α1 H1 e r (rs.mono e.pre)⟩
def QgM{es:List Expr}{k:Nat}(S:Snd T A C X cf m)(h:Qd (m+1) C (.Tuple es k p)=some ir):PE X (.Tuple es k p) (TI T A X.K (ev T cf d ir)):=by
 refine Qs λd=>?_;simp only[Qpq]at h;split at h
 case isFalse=>cases h
 rename_i hz;simp only[Xb]at h;obtain⟨es',he,h⟩:=h;cases h;refine QT (QfX (S.a d es es' he)) ?_;rintro Y H Q ⟨α,Z,hs,u,hs',rs,R,e,q⟩;simp only[ev]at e;obtain⟨us,h1,e1,e⟩:=Qb e;cases e;refine TIA.run rs R e1 λα1 vs H1 E1 R1 r1 rs1=>⟨?_,λp hp=>?_⟩
 ·rw[<-r1.length,Z2 e1,QF he];exact X1 hz big
 ·obtain⟨R',E'⟩:=R1.new (o:=.tup us) hp ⟨_,Ql,RUs.mono QH r1⟩
  exact q _ _ _ (E1.trans E' R'.h) R' ⟨p,by rw[<-R1.h.len];exact QY,rfl⟩
def Qjk{es:List Expr}(S:Snd T A C X cf m)(h:Qd (m+1) C (.List es p)=some ir):PE X (.List es p) (TI T A X.K (ev T cf d ir)):=by
 refine Qs λd=>?_;simp only[Qpp]at h;split at h
 case isFalse=>cases h
 rename_i hz;simp only[Xb]at h;obtain⟨es',he,h⟩:=h;cases h;refine QT (QjL (S.a d es es' he)) ?_;rintro Y H Q ⟨α,Z,hs,u,hs',rs,R,e,q⟩;simp only[ev]at e;obtain⟨us,h1,e1,e⟩:=Qb e;cases e;refine TIA.run rs R e1 λα1 vs H1 E1 R1 r1 rs1=>⟨?_,λp hp=>?_⟩
 ·rw[<-r1.length,Z2 e1,QF he];exact X1 hz big
 ·obtain⟨R',E'⟩:=R1.new (o:=.lst us) hp ⟨_,Ql,RUs.mono QH r1⟩
  exact q _ _ _ (E1.trans E' R'.h) R' ⟨p,by rw[<-R1.h.len];exact QY,rfl⟩
def QgO{lo hi:Option Expr}{p2:Pos}(S:Snd T A C X cf m)(h:((Qd m C a).bind λa'=>(compO m C lo).bind λl=>(compO m C hi).bind λh=>some (E.sl a' l h))=some ir):PE X (.Subscript a (.Slice lo hi none p2) p) (TI T A X.K (ev T cf d ir)):=by
 refine Qs λd=>?_;simp only[Xb]at h;obtain⟨a',ha,l',hl,h',hh,h⟩:=h;cases h;refine QT (QeR (sl_list.or Qi8) (S.e d a a' ha) (S.o d lo l' hl) (S.o d hi h' hh)) ?_;rintro Y H Q ⟨α,Z,hs,u,hs',rs,R,e,q⟩;simp only[ev]at e;obtain⟨u1,h1,e1,e⟩:=Qb e;obtain⟨u2,h2,e2,e⟩:=Qb e;obtain⟨u3,h3,e3,e⟩:=Qb e;refine TI.run rs R e1 λα1 x H1 E1 R1 r1 rs1=>?_;refine TIO.run rs1 R1 e2 λα2 H2 E2 R2 rs2=>?_;refine TIO.run rs2 R2 e3 λα3 H3 E3 R3 rs3=>?_;exact Qi9 e ((r1.mono E2.pre).mono E3.pre) R3 λα4 z H4 E4 R4 r4=>q α4 z H4 (((E1.trans E2 R2.h).trans E3 R3.h).trans E4 R4.h) R4 r4
def QhM{b:Expr}{a' b':E}(hu:X.A.units+1<cLine)(tx:Txt T A X.K X.mg)(ha:PE X a (TI T A X.K (ev T cf d a')))(hb:PE X b (TI T A X.K (ev T cf d b')))(hs:YI b=true):PE X (.Subscript a b p) (TI T A X.K (ev T cf (d+1) (.ix a' b'))):=by
 refine QT (Qmk (ix_seq.or (QhL hu)) ha hb (Jp hs)) ?_;rintro Y H Q ⟨α,Z,hs,u,hs',rs,R,e,q⟩;simp only[ev]at e;obtain⟨u1,h1,e1,e⟩:=Qb e;obtain⟨u2,h2,e2,e⟩:=Qb e;simp only[Xc]at e;obtain⟨x,e3,e⟩:=e;cases e;refine TI.run rs R e1 λα1 x H1 E1 R1 r1 rs1=>?_;refine TI.run rs1 R1 e2 λα2 y H2 E2 R2 r2 rs2=>?_;exact QgE tx e3 (r1.mono E2.pre) r2 R2 λz rz=>q α2 z H2 (E1.trans E2 R2.h) R2 rz
theorem RF.look{α:List Addr}{x:Str}{k:Nat}{u:U}(hk:T.fns'[k]?=some x)(nd:T.fns'.Nodup):∀{fs:List (Nat×U)} {fv:List (Str×V)},RF T A α fs fv->fs.lookup k=some u->∃v,fv.lookup x=some v/\RU A α u v
 |_,_,.nil,h=>by cases h
 |_,_,.cons (a:=p) (b:=q) r t,h=>by
  obtain⟨pk,pu⟩:=p;obtain⟨qx,qv⟩:=q;rw[Vi]at h ⊢;by_cases e:k=pk
  ·subst e;rw[Tj]at h;cases h;have e2:x=qx:=X2 (hk.symm.trans r.1);subst e2;rw[Tj];exact⟨qv,rfl,r.2⟩
  ·have n1:(k==pk)=false:=by simpa using e
   rw[n1]at h
   have n2:(x==qx)=false:=by
    rw[Wq];rintro rfl;obtain⟨l1,q1⟩:=Xf.mp hk;obtain⟨l2,q2⟩:=Xf.mp r.1;exact e ((List.getElem_inj nd).mp (q1.trans q2.symm))
   rw[n2];exact RF.look hk nd t h
def Qpx{t t':TE}(h:PE X e t)(h':PE X e t'):PE X e (λY H Q=>t Y H Q\/t' Y H Q):=λpins s Y H Q I z=>z.elim (h pins s Y H Q I) (h' pins s Y H Q I)
def Qjm{f:Str}(g:GX T A C X)(S:Snd T A C X cf m)(h:Qd (m+1) C (.Attribute a f p)=some ir):PE X (.Attribute a f p) (TI T A X.K (ev T cf d ir)):=by
 refine Qs λd=>?_;simp only[Qpn]at h;split at h
 ·rename_i hn;simp only[Xb]at h;obtain⟨a',ha,k,hk,h⟩:=h;cases h
  have hk':T.fns'[k]?=some f:=by rw[<-g.CT];exact Q3 hk
  refine QT (Qpx (QjN (S.e d a a' ha) (Ze hn)) (Qhe (S.e d a a' ha) (Ze hn))) ?_;rintro Y H Q ⟨α,Z,hs,u,hs',rs,R,e,q⟩;simp only[ev]at e;obtain⟨u1,h1,e1,e⟩:=Qb e;split at e
  ·rename_i n;split at e
   ·rename_i c fs eo;refine .inl (TI.run rs R e1 λα1 x H1 E1 R1 r1 rs1=>?_);obtain⟨pa,hpa,rfl⟩:=r1;simp only[Xc]at e;obtain⟨w,el,e⟩:=e;cases e;obtain⟨dx,fv,q1,rf,lc⟩:=R1.h.ob n pa _ hpa eo;obtain⟨v,l1,rv⟩:=RF.look hk' g.txt.fd rf el;have cl:=g.txt.cl c _ (Xn lc);exact⟨pa,A.c c,dx,fv,v,rfl,q1,cl.cls,cl.nf f (X7 hk'),l1,q α1 v H1 E1 R1 rv⟩
   ·rename_i c w eo;rw[Xp]at e;obtain⟨hc,e⟩:=e;cases e;refine .inr (TI.run rs R e1 λα1 x H1 E1 R1 r1 rs1=>?_);obtain⟨pa,hpa,rfl⟩:=r1;obtain⟨dd,q1,l,ef⟩:=R1.h.ob n pa _ hpa eo;obtain⟨Yyy,z⟩:=g.txt.er c l;obtain⟨z1,od,y,v,rfl,hy,hd,rv⟩:=ef k hc;obtain rfl:y=f:=X2 (hy.symm.trans hk');rw[z.1 k]at hc;cases hc
   ·cases e
  ·cases e
 ·cases h
end
end
section
variable {α:List Addr}{es:List E}{args:List Expr}{us:List U}{vs:List V}{d i:Nat}{p pos:Pos}{x:Str}
section
variable {X:Cx}{T:Tbl}{A:Adr}{C:Ctx}{cf:Cf}{m k:Nat}
def Qey{vs:List (Key×Value)}{y:U}{x:U}{yv:V}(ky:Qlp y=true)(ry:RU A α y yv):∀{kvs:List (U×U)},Paired (λ(p:U×U) (q:Key×Value)=>Qe8 p.1 q.1/\∃v,RU A [] p.2 v/\RelV v q.2) kvs vs->Qbg kvs y=some x ->
  ∃key v u,yv=kV key/\valueAt vs key=some u/\RU A [] x v/\RelV v u:=by
 obtain⟨key,hy,hk⟩:∃key,yv=kV key/\Qe8 y key:=by
  cases y with
  |int i m=>
   cases m with
   |zero=>obtain⟨j,rfl,c⟩:=ry;cases c.exact;exact⟨.inl i,rfl,rfl⟩
   |succ m=>cases ky
  |str z=>cases(show yv=_ from ry);exact⟨.inr ⟨z.toArray⟩,rfl,rfl⟩
  |_=>cases ky
 have inj:∀{p:U} {q:Key},Qe8 p q->(p=y↔q=key):=by
  intro p q hp
  cases y with
  |int i m=>
   cases m with
   |succ m=>cases ky
   |zero=>
    cases(show key=_ from hk)
    cases p with
    |int j n=>
     cases n with
     |succ n=>exact(show False from hp).elim
     |zero=>cases(show q=_ from hp);exact⟨λe=>(by cases e;rfl),λe=>(by cases e;rfl)⟩
    |str z=>cases(show q=_ from hp);exact⟨λe=>(by cases e),λe=>(by cases e)⟩
    |_=>exact(show False from hp).elim
  |str z=>
   cases(show key=_ from hk)
   cases p with
   |int j n=>
    cases n with
    |succ n=>exact(show False from hp).elim
    |zero=>cases(show q=_ from hp);exact⟨λe=>(by cases e),λe=>(by cases e)⟩
   |str z'=>
    cases(show q=_ from hp)
    refine⟨λe=>(by cases e;rfl),λe=>?_⟩
    have e1:=Sum.inr.inj e;have e2:=congrArg (λs:Str=>s.cps.toList) e1
    have e3:z'=z:=by simpa using e2
    rw[e3]
   |_=>exact(show False from hp).elim
  |_=>cases ky
 intro kvs r
 induction r with
 |nil=>intro h;cases h
 | @cons p q ps qs hpq t ih=>
  intro h;obtain⟨pk,pv⟩:=p;obtain⟨qk,qv⟩:=q;obtain⟨h1,v,h2,h3⟩:=hpq;simp only[Qbg]at h;by_cases e:pk=y
  ·rw[if_pos e]at h;cases h;have e2:qk=key:=(inj h1).mp e
   exact⟨key,v,qv,hy,by simp[valueAt,e2],h2,h3⟩
  ·rw[if_neg e]at h;obtain⟨key',v',u',g1,g2,g3,g4⟩:=ih h
   have e1:key'=key:=by
    rw[hy]at g1;cases key<;>cases key'<;>simp_all [kV]
   subst e1;have e2:¬qk=key':=λz=>e ((inj h1).mpr z);refine⟨key',v',u',g1,?_,g3,g4⟩;simp only[valueAt,List.find?_cons];rw[Xu e2];exact g2
def Ql4{b:Expr}{b':E}(g:GX T A C X)(hb:PE X b (TI T A X.K (ev T cf d b')))(hs:YI b=true)(hg:ZT C x=true)(hn:x≠"__debug__")(hx:C.gl.lookup x=some (.con i)):
  PE X (.Subscript (.Name x p) b pos) (TI T A X.K (ev T cf (d+1) (.tab i b'))):=by
 intro pins s Y H Q I h;obtain⟨α,Z,hs',u,hs2,rs,R,e,q⟩:=h;simp only[ev]at e;obtain⟨w,h1,e1,e⟩:=Qb e;simp only[Xc]at e;obtain⟨z,e2,e⟩:=e;cases e;unfold Qez at e2;split at e2
 case h_2=>cases e2
 rename_i kvs ec;split at e2
 case isFalse=>cases e2
 rename_i ky;obtain⟨vs,_,hd,hp⟩:=g.tab i kvs ec;refine QgF PySem.F.slot_dict_getitem.lookup (Jp hs) (QR I (QS g hg) (g.gco x i hx) ?_ (Qz hn));refine thn (hb pins s Y H (λy H1=>∃α1,Ext α α1 H H1/\Rep T A X.K α1 hs2 H1/\RU A α1 w y) I (TI.run rs R e1 λα1 y H1 E1 R1 r1 rs1=>⟨α1,E1,R1,r1⟩)) λiv s1 t=>?_;obtain⟨y,H1,I1,ry,α1,E1,R1,r1⟩:=t;obtain⟨key,v,u',ey,ev',rv,rl⟩:=Qey ky r1 hp e2;have dd:=hd s1.heap I1.kIn;subst ey
 exact⟨dd.typeIs,wpAny_getItem_of (QhJ ry) dd.mapOf ev' ⟨v,H1,I1.tok _,rl,q α1 v H1 E1 R1 (RU.mono (λn a e=>by simp at e) rv)⟩⟩
def QcW{hs hs':Hs}{H:Hp}{u:U}{f:Nat}{Q:VK}{E:XK}(F:Fc X T A cf k)(r:RUs A α us vs)(R:Rep T A X.K α hs H)(e:cf f us hs=some (u,hs'))
  (q:∀α' v H',Ext α α' H H'->Rep T A X.K α' hs' H'->RU A α' u v->Q v H'):spC T A X.K cf f vs H Q E:=⟨α,us,hs,u,hs',r,R,e,F.some f us hs _ e,q⟩
def QfN(g:GX T A C X)(F:Fc X T A cf k)(hr:Room k X.A)(S:Snd T A C X cf m)(hg:ZT C x=true)(hn:x≠"__debug__")(hx:C.gl.lookup x=some (.fn i))(ha:compA m C args=some es):
  PE X (.Call (.Name x p) args [] pos) (TI T A X.K (ev T cf (d+1) (.call i es))):=by
 cases hF:T.fns[i]? with
 |none=>
  refine Yu ?_;rintro Y H Q ⟨α,Z,hs,u,hs',rs,R,e,q⟩;simp only[ev]at e;obtain⟨us,h1,e1,e⟩:=Qb e;obtain⟨F',h,_⟩:=F.some _ _ _ _ e;rw[hF]at h;cases h
 |some Fn=>
  obtain⟨fd,G,b,kp⟩:=F.ok i Fn hF;have pa:=S.a d args es ha
  have key:∀Y H Q,TI T A X.K (ev T cf (d+1) (.call i es)) Y H Q->QgC (spC T A X.K cf i) [] E0 (TIA T A X.K (λZ hs=>evs (ev T cf d) Z es hs)) Y H Q:=by
   rintro Y H Q ⟨α,Z,hs,u,hs',rs,R,e,q⟩;simp only[ev]at e;obtain⟨us,h1,e1,e⟩:=Qb e;refine TIA.run rs R e1 λα1 vs H1 E1 R1 r1 rs1=>?_;rw[Wj];exact QcW F r1 R1 e λα2 v H2 E2 R2 r2=>q α2 v H2 (E1.trans E2 R2.h) R2 r2
  cases args with
  |nil=>
   have ee:es=[]:=by
    have:=QF ha;simpa using this
   subst ee;refine QT (QeV G hr (QS g hg) (g.gfn x i hx) kp b .nil Qdm (Qz hn)) λY H Q h=>?_;have h2:=key Y H Q h;obtain⟨α,Z,hs,us,hs',rs,R,e,q⟩:=h2;cases e;exact q α [] H Ext.refl R .nil
  |cons a r=>exact QT (Qhg G hr (QS g hg) (g.gfn x i hx) kp b .nil Qdm pa (Qz hn) (Qf (Qi ha a (Xh ..))) (QG λz hz=>Qi ha z (Xg _ hz))) key
def RUs.app{ws:List U}{zs:List V}(a:RUs A α us vs)(b:RUs A α ws zs):RUs A α (us++ws) (vs++zs):=a.append b
def Vals.dropN{us:List Value}(r:Vals vs us):∀n,Vals (vs.drop n) (us.drop n):=λn=>by
 induction r generalizing n with
 |nil=>simp;exact .nil
 |cons a t ih=>
  cases n with
  |zero=>exact .cons a t
  |succ n=>exact ih n
def QgS{ir:E}(g:GX T A C X)(F:Fc X T A cf k)(hr:Room k X.A)(S:Snd T A C X cf m)(hg:ZT C x=true)(hn:x≠"__debug__")(hx:C.gl.lookup x=some (.fn i))(ha:compA m C args=some es)(h:Qln C i es=some ir):
  PE X (.Call (.Name x p) args [] pos) (TI T A X.K (ev T cf (d+1) ir)):=by
 unfold Qln at h;rw[g.CT]at h;split at h
 ·cases h;exact QfN g F hr S hg hn hx ha
 cases h
def RUs.nilA(r:RUs A [] us vs):RUs A α us vs:=RUs.mono (λn a e=>by simp at e) r
def Qga(F:Fc X T A cf k){f n:Nat}{Fn:Fn}(hF:T.fns[f]?=some Fn):∃fd ps ds dvs,FnOk X.prog X.w X.K X.mg X.base CX0 k (A.f f) fd ps (spC T A X.K cf f)/\W.keepIn X.K (.ref (A.f f))=true/\Binds X.K fd ps ds/\Vals dvs ds/\RUs A [] (Qf0 T f n) dvs:=by
 unfold Qf0
 cases hD:T.dfl.lookup f with
 |none=>
  obtain⟨fd,G,b,kp⟩:=F.ok f Fn hF;exact⟨fd,_,[],[],G,kp,b,.nil,.nil⟩
 |some D=>
  obtain⟨fd,G,kp,ds,dvs,rd,vd,hb⟩:=F.df f D Fn hD hF;exact⟨fd,_,_,_,G,kp,hb (D.ds.length-(D.np-n)),Vals.dropN vd _,RUs.drop (D.ds.length-(D.np-n)) rd⟩
def Qjj(g:GX T A C X)(F:Fc X T A cf k)(hr:Room (k+1) X.A)(S:Snd T A C X cf m)(hg:ZT C x=true)(hn:x≠"__debug__")(hx:C.gl.lookup x=some (.cls i))(ha:compA m C args=some es):
  PE X (.Call (.Name x p) args [] pos) (TI T A X.K (ev T cf (d+1) (.make i es))):=by
 cases hC:T.cls[i]? with
 |none=>
  refine Yu ?_;rintro Y H Q ⟨α,Z,hs,u,hs',rs,R,e,q⟩;simp only[ev]at e;obtain⟨us,h1,e1,e⟩:=Qb e;simp[Z1,hC]at e
 |some Cl=>
  have cl:=g.txt.cl i Cl hC;have li:i<T.cls.length:=(Xf.mp hC).1;have pa:=S.a d args es ha
  have new:∀{α:List Addr} {hs:Hs} {H:Hp} (R:Rep T A X.K α hs H) (x dx:Addr),H x=none->H dx=none->dx≠x ->
    Rep T A X.K (α++[x]) (hs++[.ins i []]) (upd (upd H dx (.own x)) x (.ins (A.c i) dx []))/\Ext α (α++[x]) H (upd (upd H dx (.own x)) x (.ins (A.c i) dx [])):=by
   intro α hs H R x dx hx hd hne
   have ne:∀b y,H b=some y->b≠dx:=λb y e z=>by rw[z,hd]at e;cases e
   have R0:Rep T A X.K α hs (upd H dx (.own x)):=⟨⟨R.h.len,R.h.nd_keep λb x w e=>by rw[Qe (ne _ _ e)];exact e,λn a o e1 e2=>RO.keep (R.h.ob n a o e1 e2) (λw w e=>e) λw y e w=>by rw[Qe (ne _ _ e)];exact e⟩,R.s.keep λy e w=>by rw[Qe (ne _ _ e)];exact e⟩
   obtain⟨R1,E1⟩:=R0.new (p:=x) (o:=.ins i []) (ho:=.ins (A.c i) dx []) (by rw[Qe (Ww hne)];exact hx) ⟨dx,[],Ql,.nil,li⟩
   refine⟨R1,⟨E1.pre,λn a e l=>?_,λb o e hb=>E1.keep b o (by rw[Qe (ne _ _ e)];exact e) hb,λb o kv e=>E1.fz b o kv (by rw[Qe (ne _ _ e)];exact e),λb o e=>E1.tr b o (by rw[Qe (ne _ _ e)];exact e)⟩⟩
   rcases QI e with z|⟨_,z⟩
   ·have:=getElem?_lt z;omega
   ·rw[z];exact .inl hx
  cases hi:Cl.init with
  |none=>
   have ini:=cl.ini;rw[hi]at ini
   cases args with
   |cons a r=>
    refine Yu ?_;rintro Y H Q ⟨α,Z,hs,u,hs',rs,R,e,q⟩;simp only[ev]at e;obtain⟨us,h1,e1,e⟩:=Qb e;have l1:=Z2 e1;rw[QF ha]at l1;simp only[Z1,hC,hi]at e;split at e
    ·rename_i z;rw[z]at l1;simp at l1
    ·cases e
   |nil=>
    refine QT (Qdk (C:=A.c i) ⟨cl.mks,ini,cl.kp⟩ (QS g hg) (g.gcl x i hx) (Qz hn)) ?_;rintro Y H Q ⟨α,Z,hs,u,hs',rs,R,e,q⟩
    have ee:es=[]:=by
     have:=QF ha;simpa using this
    subst ee;simp only[ev,evs,bd,Z1,hC,hi,Wt]at e;cases e;intro y dx h1 h2 h3;obtain⟨R1,E1⟩:=new R y dx h1 h2 h3
    exact q _ _ _ E1 R1 ⟨y,by rw[<-R.h.len];exact QY,rfl⟩
  |some f=>
   have ini:=cl.ini;rw[hi]at ini
   have key:∀dvs:List V,RUs A [] (Qf0 T f (es.length+1)) dvs->∀Y H Q,TI T A X.K (ev T cf (d+1) (.make i es)) Y H Q->TIA T A X.K (λZ hs=>evs (ev T cf d) Z es hs) Y H λvs H1=>∀x dx,H1 x=none->H1 dx=none->dx≠x ->
     spC T A X.K cf f (.ref x::(vs++dvs)) (upd (upd H1 dx (.own x)) x (.ins (A.c i) dx [])) (λv H2=>v=.non/\Q (.ref x) H2) E0:=by
    rintro dvs rdv Y H Q ⟨α,Z,hs,u,hs',rs,R,e,q⟩;simp only[ev]at e;obtain⟨us,h1,e1,e⟩:=Qb e;simp only[Z1,hC,hi]at e;rw[Z2 e1]at e;split at e
    case h_2=>cases e
    rename_i h2 e2;cases e;refine TIA.run rs R e1 λα1 vs H1 E1 R1 r1 rs1=>?_;intro y dx g1 g2 g3;obtain⟨R2,E2⟩:=new R1 y dx g1 g2 g3
    have at1:(α1++[y])[h1.length]?=some y:=by rw[<-R1.h.len];exact QY
    refine QcW F (us:=.ref h1.length::(us++Qf0 T f (es.length+1))) (.cons ⟨y,at1,rfl⟩ ((RUs.mono E2.pre r1).app (RUs.nilA rdv))) R2 e2 λα3 v H3 E3 R3 r3=>⟨r3,?_⟩;exact q α3 _ H3 (((E1.trans E2 R2.h)).trans E3 R3.h) R3 ⟨y,E3.pre _ _ at1,rfl⟩
   cases hF:T.fns[f]? with
   |none=>
    refine Yu ?_;rintro Y H Q ⟨α,Z,hs,u,hs',rs,R,e,q⟩;simp only[ev]at e;obtain⟨us,h1,e1,e⟩:=Qb e;simp only[Z1,hC,hi]at e;split at e
    case h_2=>cases e
    rename_i h2 e2;obtain⟨F',h,_⟩:=F.some _ _ _ _ e2;rw[hF]at h;cases h
   |some Fn=>
    obtain⟨fd,ps,ds,dvs,G,kp,b,vd,rdv⟩:=Qga F (n:=es.length+1) hF;have M:Mk X.K (A.c i) (A.f f):=⟨cl.mks,ini.1,ini.2,cl.kp⟩
    cases args with
    |nil=>
     have ee:es=[]:=by
      have:=QF ha;simpa using this
     subst ee;refine QT (QeS M G hr (QS g hg) (g.gcl x i hx) b vd Qdm (Qz hn)) λY H Q h=>?_;obtain⟨α,Z,hs,us,hs',rs,R,e,q⟩:=key dvs rdv Y H Q h;cases e;exact q α [] H Ext.refl R .nil
    |cons a r=>exact QT (Qhc M G hr (QS g hg) (g.gcl x i hx) b vd Qdm pa (Qz hn) (Qf (Qi ha a (Xh ..))) (QG λz hz=>Qi ha z (Xg _ hz))) (key dvs rdv)
end
end
section
variable {o':E}{env:Env}{o:Expr}{hs:Hs}{es:List E}{args:List Expr}{d:Nat}{p pos q:Pos}{x:Str}
section
variable {X:Cx}{T:Tbl}{A:Adr}{C:Ctx}{cf:Cf}{m k:Nat}
theorem JH{env:Env}{pos:Pos}:∀{es:List Expr},Yz es->(backTo pos (starEach es env)).all (λx=>!x.1)=true
 |[],_=>rfl
 |e::r,h=>by
  rw[Qf (h e (Xh ..))];have ih:=JH (env:=env) (pos:=pos) (es:=r) λx hx=>h x (Xg _ hx);unfold backTo at ih ⊢;rw[Ws,Vx,ih];rfl
def Qh0(hn:Yz args)(hl:args.length<29):methodCallForm (args.length+([]:List Keyword).length) (backTo pos (starEach args env)) (backToKw pos (keywordEach [] env))=true:=by
 unfold methodCallForm;rw[JH hn]
 have:(args.length+([]:List Keyword).length+(if(backToKw pos (keywordEach [] env)).isEmpty then 0 else 1) < 30):=by
  simp only[W2];split<;>omega
 simp only[X3 this,Bool.and_true,Bool.true_and];rfl
def QhF(h1:Zu o=true)(h2:(p.endLine==q.line)=true)(h3:args.length<29)(h4:Yz args):
  eval (.Call (.Attribute o x p) args [] q) env=(do
   let ov <-eval o env
   standAt p.atName
   let (f,first) <-holding [ov] (getMethod ov x (do return (<-importBound o env).getD true))
   callWith q f first (backTo q (starEach args env)) (backToKw q (keywordEach [] env))):=by
 rw[PySem.arm_eval_Call,Ze h1];unfold methodCall;rw[Qh0 h4 h3];unfold calleeOf methodCallPos;rw[h2];rfl
theorem RF.none_of{α:List Addr}{x:Str}(hx:x∉T.fns'):∀{fs:List (Nat×U)} {fv:List (Str×V)},RF T A α fs fv->fv.lookup x=none
 |_,_,.nil=>rfl
 |_,_,.cons (a:=p) (b:=q) r t=>by
  obtain⟨qx,qv⟩:=q;rw[Vi]
  have n2:(x==qx)=false:=by
   rw[Wq];rintro rfl;exact hx (X7 r.1)
  rw[n2];exact RF.none_of hx t
def Qcj{i f:Nat}{u:U}(h:Qau T i u hs=some f):∃n c fs Cl,u=.ref n/\hs[n]?=some (.ins c fs)/\T.cls[c]?=some Cl/\Cl.meths.lookup i=some f:=by
 cases u with
 |ref n=>
  simp only[Qau]at h;split at h
  ·rename_i c fs e;split at h
   ·rename_i Cl e2;exact⟨n,c,fs,Cl,rfl,e,e2,h⟩
   ·cases h
  ·cases h
 |_=>simp[Qau]at h
def Qji{i:Nat}(g:GX T A C X)(F:Fc X T A cf k)(hr:Room k X.A)(S:Snd T A C X cf m)(h1:Zu o=true)(h2:(p.endLine==q.line)=true)(h3:args.length<29)
  (hx:idx x C.T.mns=some i) (ho:Qd m C o=some o') (ha:compA m C args=some es):PE X (.Call (.Attribute o x p) args [] q) (TI T A X.K (ev T cf (d+1) (.meth i o' es))):=by
 intro pins s Y H Q I hw;obtain⟨α,Z,hs,u,hs',rs,R,e,q'⟩:=hw;simp only[ev]at e;obtain⟨u1,h1',e1,e⟩:=Qb e;split at e
 case h_2=>cases e
 rename_i f hf;obtain⟨us,h2',e2,e⟩:=Qb e
 have hx':T.mns[i]?=some x:=by rw[<-g.CT];exact Q3 hx
 have hns:=Qi ha;refine W.methodCall_KW (thn (S.e d o o' ho pins s Y H (λv H1=>∃α1,Ext α α1 H H1/\Rep T A X.K α1 h1' H1/\RU A α1 u1 v/\RS A α1 Z Y) I (TI.run rs R e1 λα1 v H1 E1 R1 r1 rs1=>⟨α1,E1,R1,r1,rs1⟩)) λov s1 y=>?_) (QhF h1 h2 h3 hns);obtain⟨v,H1,I1,rv,α1,E1,R1,r1,rs1⟩:=y;obtain⟨n,c,fs,Cl,rfl,eo,hC,hf⟩:=Qcj hf;obtain⟨pa',hpa,rfl⟩:=r1;cases(show ov=_ from rv);obtain⟨dx,fv,q1,rf,lc⟩:=R1.h.ob n pa' _ hpa eo;have cl:=g.txt.cl c Cl hC;obtain⟨x',hx2,hm⟩:=cl.me i f hf;have ex:x=x':=X2 (hx'.symm.trans hx2);subst ex;have nx:x∉T.fns':=λz=>g.txt.fm x z (X7 hx');obtain⟨Fn,hF,_⟩:=F.some _ _ _ _ e;obtain⟨fd,ps,ds,dvs,G,kp,b,vd,rdv⟩:=Qga F (n:=us.length+1) hF;refine Qcq I1 q1 cl.cls hm (RF.none_of nx rf) ?_
 have fin:∀(s2:Shared) (H2:Hp) (α2:List Addr) (vs:List V) (ws:List Value),Inv X pins Y H2 s2->Ext α1 α2 H1 H2->Rep T A X.K α2 h2' H2->RUs A α2 us vs->Vals vs ws ->
   wpAny (model X.prog X.w) X.A (call (.ref (A.f f)) (.ref pa'::ws)) (EP X pins Y Q) X.xe s2:=by
  intro s2 H2 α2 vs ws I2 E2 R2 r2 rw';refine Qc3 (us:=.ref pa'::ws) (vs:=.ref pa'::vs) G hr b vd Qdm I2 (.cons rfl rw') ?_;exact QcW F (us:=.ref n::(us++Qf0 T f (us.length+1))) (.cons ⟨pa',E2.pre _ _ hpa,rfl⟩ (r2.app (RUs.nilA rdv))) R2 e λα3 v H3 E3 R3 r3=>q' α3 v H3 ((E1.trans E2 R2.h).trans E3 R3.h) R3 r3
 cases args with
 |nil=>
  have ee:es=[]:=by
   have:=QF ha;simpa using this
  subst ee;cases e2
  exact W.callWith_K0 (first:=[.ref pa']) I1.kIn hm.kp (fin s1 H1 α1 [] [] I1 Ext.refl R1 .nil .nil)
 |cons a r=>
  refine Up (first:=[.ref pa']) (h₀:=X.base) I.ok.mod.kin hm.kp (thn (S.a d (a::r) es ha q pins s1 Y H1 (λvs H2=>∃α2,Ext α1 α2 H1 H2/\Rep T A X.K α2 h2' H2/\RUs A α2 us vs) I1 (TIA.run rs1 R1 e2 λα2 vs H2 E2 R2 r2 rs2=>⟨α2,E2,R2,r2⟩)) λws s2 ⟨vs,H2,I2,rw',α2,E2,R2,r2⟩=>⟨I2.kIn,?_⟩)
   (Qf (hns a (Xh ..))) (QG λz hz=>hns z (Xg _ hz))
  exact fin s2 H2 α2 vs ws I2 E2 R2 r2 rw'
def QkG{e:Expr}{es:List Expr}(hn:Yz (e::es))(hl:(e::es).length<29):((backTo pos (starEach (e::es) env)).all (λx=>!x.1)&&(backToKw pos (keywordEach [] env)).all (λx=>x.1.isSome)
   && decide ((e::es).length+([]:List Keyword).length+(if([]:List Keyword).isEmpty then 0 else 1) < 30))=true:=by
 rw[JH hn]
 have:(e::es).length+([]:List Keyword).length+(if([]:List Keyword).isEmpty then 0 else 1) < 30:=by
  simp only[W2,List.isEmpty_nil,Wt];omega
 rw[X3 this];rfl
def Jc{b:Bm}{id ty:String}(S:Snd T A C X cf m)(B:BmS X T A b id)(pa:PlainAttrs ty)(slot:Slot ty x id)(hty:typeOf (.builtin id)=pure (.type "method_descriptor"))
  (ty:∀{u:U} {hs:Hs} {α:List Addr} {v:V} {H:Hp},QcA b u hs=true->RU A α u v->Rep T A X.K α hs H->L2.tyV X.K ty v H) (h1:Zu o=true) (h2:(p.endLine==q.line)=true) (h3:args.length<29)
  (ho:Qd m C o=some o') (ha:compA m C args=some es):PE X (.Call (.Attribute o x p) args [] q) (TI T A X.K (ev T cf (d+1) (.bm b o' es))):=by
 obtain⟨r,hm,hB⟩:=B;have hns:=Qi ha
 cases args with
 |nil=>
  have ee:es=[]:=by
   have:=QF ha;simpa using this
  subst ee;refine QT (QjO pa slot hty hm (S.e d o o' ho) (Ze h1) h2) ?_;rintro Y H Q ⟨α,Z,hs,u,hs',rs,R,e,q⟩;simp only[ev,evs]at e;obtain⟨u1,h1',e1,e⟩:=Qb e;split at e
  case isFalse=>cases e
  rename_i il;obtain⟨us,h2',e2,e⟩:=Qb e;cases e2;exact TI.run rs R e1 λα1 v H1 E1 R1 r1 rs1=>⟨ty il r1 R1,hB e r1 .nil R1 λα2 v2 H2 E2 R2 r2=>q α2 v2 H2 (E1.trans E2 R2.h) R2 r2⟩
 |cons a t=>
  refine QT (Qml pa slot hty hm (S.e d o o' ho) (S.a d (a::t) es ha) (Ze h1) (QkG hns h3) h2 (Qf (hns a (Xh ..))) (QG λz hz=>hns z (Xg _ hz))) ?_;rintro Y H Q ⟨α,Z,hs,u,hs',rs,R,e,q⟩;simp only[ev]at e;obtain⟨u1,h1',e1,e⟩:=Qb e;split at e
  case isFalse=>cases e
  rename_i il;obtain⟨us,h2',e2,e⟩:=Qb e;exact TI.run rs R e1 λα1 v H1 E1 R1 r1 rs1=>⟨ty il r1 R1,TIA.run rs1 R1 e2 λα2 vs H2 E2 R2 r2 rs2=>hB e (r1.mono E2.pre) r2 R2 λα3 v2 H3 E3 R3 r3=>q α3 v2 H3 ((E1.trans E2 R2.h).trans E3 R3.h) R3 r3⟩
noncomputable def kdB:Bm->String
 |.setdef=>"dict"
 |.get=>"dict"
 |.update=>"dict"
 |.join=>"str"
 |.split=>"str"
 |.find=>"str"
 |.index=>"str"
 |.starts=>"str"
 |_=>"list"
def Qan{b:Bm}{u:U}{α:List Addr}{v:V}{H:Hp}(e:QcA b u hs=true)(r:RU A α u v)(R:Rep T A X.K α hs H):L2.tyV X.K (kdB b) v H:=by
 cases u with
 |ref n=>
  obtain⟨a,ha,rfl⟩:=r;simp only[QcA]at e;split at e
  ·rename_i xs eo;obtain⟨vs,q,_⟩:=R.h.ob n a _ ha eo
   have:kdB b="list":=by cases b<;>first|rfl|cases e
   rw[this];exact .inl ⟨rfl,vs,SqL.of q⟩
  ·rename_i kvs eo;obtain⟨kv,q,_⟩:=R.h.ob n a _ ha eo
   have:kdB b="dict":=by cases b<;>first|rfl|cases e
   rw[this];exact .inr (.inr (.inl ⟨rfl,.inl ⟨kv,q⟩⟩))
  ·cases e
 |str x=>
  cases(show v=_ from r)
  have:kdB b="str":=by cases b<;>first|rfl|cases e
  exact this
 |_=>cases e
def Qop{b:Bm}(hu:X.A.units+64<cLine)(tx:Txt T A X.K X.mg)(S:Snd T A C X cf m)(hb:Qlu x=some b)(h1:Zu o=true)(h2:(p.endLine==q.line)=true)(h3:args.length<29)
  (ho:Qd m C o=some o') (ha:compA m C args=some es):PE X (.Call (.Attribute o x p) args [] q) (TI T A X.K (ev T cf (d+1) (.bm b o' es))):=by
 unfold Qlu at hb;split at hb
 ·rename_i e;subst e;cases hb;exact Jc S Qcz PySem.F.plainAttrs_list PySem.F.slot_list_append PySem.F.type_list_append (λe r R=>Qan e r R) h1 h2 h3 ho ha
 split at hb
 ·rename_i e;subst e;cases hb;exact Jc S Qbu PySem.F.plainAttrs_list PySem.F.slot_list_reverse PySem.F.type_list_reverse (λe r R=>Qan e r R) h1 h2 h3 ho ha
 split at hb
 ·rename_i e;subst e;cases hb;exact Jc S (Qfu tx) Te PySem.F.slot_str_join PySem.F.type_str_join (λe r R=>Qan e r R) h1 h2 h3 ho ha
 split at hb
 ·rename_i e;subst e;cases hb;exact Jc S Qeb Te PySem.F.slot_str_split PySem.F.type_str_split (λe r R=>Qan e r R) h1 h2 h3 ho ha
 split at hb
 ·rename_i e;subst e;cases hb;exact Jc S Qcy Te PySem.F.slot_str_startswith PySem.F.type_str_startswith (λe r R=>Qan e r R) h1 h2 h3 ho ha
 unfold QkX at hb
 ·cases hb
def Ys{args:List Expr}{b:Bi}{fv:Value}{r:List V->Hp->VK->Prop}{e0:Expr}(hB:∀{α:List Addr} {us:List U} {u':U} {hs hs':Hs} {vs:List V} {H:Hp} {Q:VK},biU T b us hs=some (u',hs')->RUs A α us vs->Rep T A X.K α hs H ->
   (∀α' v' H',Ext α α' H H'->Rep T A X.K α' hs' H'->RU A α' u' v'->Q v' H')->r vs H Q)
  (h:PE X e0 (tCB r (TIA T A X.K (λZ hs=>evs (ev T cf d) Z es hs)))):PE X e0 (TI T A X.K (ev T cf (d+1) (.bi b es))):=by
 refine QT h ?_;rintro Y H Q ⟨α,Z,hs,u,hs',rs,R,e,q⟩;simp only[ev]at e;obtain⟨us,h1,e1,e⟩:=Qb e;exact TIA.run rs R e1 λα1 vs H1 E1 R1 r1 rs1=>hB e r1 R1 λα2 v2 H2 E2 R2 r2=>q α2 v2 H2 (E1.trans E2 R2.h) R2 r2
def Qig{b:Bi}:biU T b [] hs=none:=by cases b<;>rfl
def Qoq{b:Bi}(g:GX T A C X)(hh:hdC C=false)(hu:X.A.units+2<cLine)(S:Snd T A C X cf m)(hg:ZT C x=true)(hn:x≠"__debug__")(hn2:x≠"__name__")(hx:Qlw C x=some b)(ha:compA m C args=some es):
  PE X (.Call (.Name x p) args [] pos) (TI T A X.K (ev T cf (d+1) (.bi b es))):=by
 have hns:=Qi ha
 cases args with
 |nil=>
  refine Yu ?_;rintro Y H Q ⟨α,Z,hs,u,hs',rs,R,e,q⟩
  have ee:es=[]:=by
   have:=QF ha;simpa using this
  subst ee;simp[ev,evs,bd,Qig]at e
 |cons a t=>
  unfold Qlw at hx;split at hx
  ·cases hx
  split at hx
  ·cases hx
  rename_i hl;have hm:X.mg x=none:=g.blt x hl;have pa:=S.a d (a::t) es ha;have st:=Qf (env:=X.env) (es:=t) (hns a (Xh ..));have sa:=QG (env:=X.env) (pos:=pos) (es:=t) λz hz=>hns z (Xg _ hz);split at hx
  ·rename_i e;subst e;cases hx;obtain⟨r,hc,hB⟩:=Qii (X:=X) (A:=A) g.txt
   exact Ys (fv:=.builtin "len") (args:=[]) hB (JP hc (QS g hg) hm (by decide +kernel) pa hn2 (Qz hn) st sa)
  split at hx
  ·rename_i e;subst e;cases hx;obtain⟨r,hc,hB⟩:=Qij (X:=X) (A:=A) (T:=T)
   exact Ys (fv:=.none) (args:=[]) hB (Yc hc (QS g hg) hm (by decide +kernel) pa hn2 (Qz hn) st sa)
  split at hx
  ·rename_i e;subst e;cases hx;obtain⟨r,hc,hB⟩:=Qih (X:=X) (A:=A) (T:=T)
   exact Ys (fv:=.none) (args:=[]) hB (Yc hc (QS g hg) hm (by decide +kernel) pa hn2 (Qz hn) st sa)
  split at hx
  ·rename_i e;subst e;cases hx;obtain⟨r,hc,hB⟩:=Qeg (X:=X) (A:=A) (T:=T)
   exact Ys (fv:=.none) (args:=[]) hB (Yc hc (QS g hg) hm (by decide +kernel) pa hn2 (Qz hn) st sa)
  split at hx
  ·rename_i e;subst e;cases hx;obtain⟨r,hc,hB⟩:=Qfw (X:=X) (A:=A) g.txt (g.calm hh)
   exact Ys (fv:=.none) (args:=[]) hB (Yc hc (QS g hg) hm (by decide +kernel) pa hn2 (Qz hn) st sa)
  split at hx
  ·rename_i e;subst e;cases hx;obtain⟨r,hc,hB⟩:=Qik (X:=X) (A:=A) g.txt (g.calm hh)
   exact Ys (fv:=.builtin "all") (args:=[]) hB (JP hc (QS g hg) hm (by decide +kernel) pa hn2 (Qz hn) st sa)
  exact nomatch hx
def Qoo{t:Str}{ty:Ty}(g:GX T A C X)(hg:ZT C t=true)(hn:t≠"__debug__")(hn2:t≠"__name__")(h:QiO C t=some ty): ∃v,PE X (.Name t p) (tC v)/\Qm0 v=some (tyW A ty):= by
 unfold QiO at h;split at h
 ·rename_i i e;cases h;exact⟨.ref (A.c i),Qbb (QS g hg) (g.gcl t i e) rfl (Qz hn),rfl⟩
 ·cases h
 ·split at h
  ·cases h
  rename_i e;have hm:X.mg t=none:=g.blt t e;have fin:∀n:String,bootBuiltins t=some (.type n)->PE X (.Name t p) (tC (.ty n)):=λn hb=>Qhh (QS g hg) hm hb rfl hn2 (Qz hn);split at h
  ·rename_i e;subst e;cases h;exact⟨_,fin "int" (by decide +kernel),rfl⟩
  split at h
  ·rename_i e;subst e;cases h;exact⟨_,fin "str" (by decide +kernel),rfl⟩
  split at h
  ·rename_i e;subst e;cases h;exact⟨_,fin "bool" (by decide +kernel),rfl⟩
  split at h
  ·rename_i e;subst e;cases h;exact⟨_,fin "list" (by decide +kernel),rfl⟩
  split at h
  ·rename_i e;subst e;cases h;exact⟨_,fin "tuple" (by decide +kernel),rfl⟩
  split at h
  ·rename_i e;subst e;cases h;exact⟨_,fin "dict" (by decide +kernel),rfl⟩
  split at h
  ·rename_i e;subst e;cases h;exact⟨_,fin "ValueError" (by decide +kernel),rfl⟩
  ·cases h
def Ql6{a:Expr}{t:Str}{ty:Ty}{a':E}{p1:Pos}(g:GX T A C X)(S:Snd T A C X cf m)(hi:ZT C "isinstance"=true)(hl:¬C.bl.contains ("isinstance":Str)=false)(hg:ZT C t=true)(hn:t≠"__debug__")(hn2:t≠"__name__")(h:QiO C t=some ty)(ha:Qd m C a=some a'):
  PE X (.Call (.Name "isinstance" p) [a,.Name t p1] [] pos) (TI T A X.K (ev T cf (d+1) (.isi a' ty))):=by
 obtain⟨v,hv,hc⟩:=Qoo (p:=p1) g hg hn hn2 h;have s1:starEach [a,.Name t p1] X.env=(false,eval a X.env)::starEach [.Name t p1] X.env:=Qf (Qt ha)
 refine QT (JP Qfs (QS g hi) (g.blt _ hl) (by decide +kernel) (Zt (S.e d a a' ha) (Zt hv Qao) s1) (by decide) (by decide) s1 rfl) ?_
 rintro Y H Q ⟨α,Z,hs,u,hs',rs,R,e,q⟩;simp only[ev]at e;obtain⟨u1,h1,e1,e⟩:=Qb e;simp only[Xc]at e;obtain⟨b,e2,e⟩:=e;cases e;refine TI.run rs R e1 λα1 x H1 E1 R1 r1 rs1=>?_;obtain⟨tv,h1,h2⟩:=Qkm g.txt e2 r1 R1;exact⟨x,v,_,tv,b,rfl,hc,h1,h2,q α1 _ H1 E1 R1 rfl⟩
end
end
end Iv
namespace L2
open PySem PySem.Spec PyProof.Rows
section
open Sem (wp)
variable {xs ys:Array Value}{a x:Value}{Q:Value->Shared->Prop}
structure Nx(prog:Program)(w:World)(it l:Addr)(P:Nat->Heap->Prop)(L:Array Value->Heap->Prop):Prop where
 item:∀(A:Around) (E:Value->Shared->Prop) (s:Shared) (k:Nat) (xs:Array Value) (x:Value) (Q:Value->Shared->Prop),P k s.heap->L xs s.heap->xs[k]?=some x->(∀h',P (k+1) h'->Heap.SameBut it s.heap h'->Q x {s with heap:=h'}) ->
  wpAny (model prog w) A (Builtin.SmallTypes.nextOf (.ref it)) Q E s
 done:∀(A:Around) (E:Value->Shared->Prop) (s:Shared) (k:Nat) (xs:Array Value) (Q:Value->Shared->Prop),A.handled=none->P k s.heap->L xs s.heap->xs[k]?=none ->
  (∀h' e,Heap.ExtBut it s.heap h'->(∃o,h'.get? e=some o/\o.cls=.type "StopIteration")->E (.ref e) {s with heap:=h'})->wpAny (model prog w) A (Builtin.SmallTypes.nextOf (.ref it)) Q E s
 keepP:∀k h h',P k h->(∀o,h.get? it=some o->h'.get? it=some o)->P k h'
 keepL:∀xs h h',L xs h->(∀o,h.get? l=some o->h'.get? l=some o)->L xs h'
 obj:∀k h,P k h->∃o vs,h.get? it=some o/\o.data=.fields vs
def Qhv(prog:Program)(w:World)(it l:Addr):Nx prog w it l (λk h=>h.IsListIter it l k) (λxs h=>h.IsList l xs) where
 item:=λA E s k xs x Q p q e h=>wpAny_nextOf_list_item p q e h
 done:=λA E s k xs Q hh p q e h=>wpAny_nextOf_list_end hh p q e h
 keepP:=λk h h' p f=>p.at λo e=>f o e
 keepL:=λxs h h' p f=>p.at λo e=>f o e
 obj:=λk h z=>by obtain⟨o,e,_,d⟩:=z;exact⟨o,_,e,d⟩
section
variable {prog:Program}{w:World}{A:Around}{E:Value->Shared->Prop}{s:Shared}
def Yq{it t:Addr}{i:Nat}{items:Array Value}(hit:s.heap.IsTupleIter it t i)
  (ht:s.heap.IsTuple t items) (hx:items[i]?=some x) (hQ:∀h',h'.IsTupleIter it t (i+1)->Heap.SameBut it s.heap h'->Q x {s with heap:=h'}):
  wpAny (model prog w) A (Builtin.SmallTypes.nextOf (.ref it)) Q E s:=by
 obtain⟨o,ho,hc,hd⟩:=id hit;obtain⟨ol,hol,_,nl,hdl⟩:=ht;unfold Builtin.SmallTypes.nextOf
 refine Xa (Ui (name:=Str.ofString "__next__") hit.typeIs V9
  (Tl V9 hit.typeIs F.entry_tuple_iterator_next ?_ (F.args_tuple_iterator_next_1 _)))
 show wpAny _ _ (field (.ref it) 0 >>= _) _ _ s;refine Xa (Wv ho hd (x:=.ref t) rfl ?_);show wpAny _ _ (if(Value.ref t==Value.none)=true then _ else _) _ _ s;rw[if_neg (show ¬((Value.ref t==Value.none)=true)from Xi)];show wpAny _ _ (field (.ref it) 1 >>= _) _ _ s;refine Xa (Wv ho hd (x:=.int i 0) rfl ?_);show wpAny _ _ (seqItems? (.ref t) >>= _) _ _ s;refine Xa (V0 hol hdl ?_);simp only[Uo,hx]
 refine Xa (wpAny_setField ho hd (by simp) (Xl ⟨x,rfl,Xl (hQ _ ?_ (Heap.SameBut.update ..))⟩))
 exact⟨_,Vs _ ho (Obj.isFreed_of_fields (U7 hd _)),(Obj.cls_mapFields ..).trans hc,by
  rw[U7 hd];simp[rawInt]⟩
def YC{it t:Addr}{i:Nat}{items:Array Value}(hh:A.handled=none)
  (hit:s.heap.IsTupleIter it t i) (ht:s.heap.IsTuple t items) (hx:items[i]?=none)
  (hE:∀h' e,Heap.ExtBut it s.heap h'->(∃o,h'.get? e=some o/\o.cls=.type "StopIteration")->E (.ref e) {s with heap:=h'}):
  wpAny (model prog w) A (Builtin.SmallTypes.nextOf (.ref it)) Q E s:=by
 obtain⟨o,ho,hc,hd⟩:=id hit;obtain⟨ol,hol,_,nl,hdl⟩:=ht;unfold Builtin.SmallTypes.nextOf
 refine Xa (Ui (name:=Str.ofString "__next__") hit.typeIs V9
  (Tl V9 hit.typeIs F.entry_tuple_iterator_next ?_ (F.args_tuple_iterator_next_1 _)))
 show wpAny _ _ (field (.ref it) 0 >>= _) _ _ s;refine Xa (Wv ho hd (x:=.ref t) rfl ?_);show wpAny _ _ (if(Value.ref t==Value.none)=true then _ else _) _ _ s;rw[if_neg (show ¬((Value.ref t==Value.none)=true)from Xi)];show wpAny _ _ (field (.ref it) 1 >>= _) _ _ s;refine Xa (Wv ho hd (x:=.int i 0) rfl ?_);show wpAny _ _ (seqItems? (.ref t) >>= _) _ _ s;refine Xa (V0 hol hdl ?_);simp only[Uo,hx]
 refine Xa (wpAny_rule (Xa (wpAny_setField ho hd (by simp) ?_)))
 show wpAny _ _ (newExc (.type "StopIteration") [] >>= _) _ _ _;refine Xa ?_;simp only[newExc,newTuple]
 refine Xa (Td ?_ (by size_fits))
 refine Xa (m:=firstArgMember _ _) (wpAny_of_eq (a:=Value.none) (by first|rfl|(simp only[firstArgMember];rfl)) ?_)
 refine Td ?_ (by size_fits)
 simp only[raiseNew];refine Xa (wpAny_handled ?_)
 first|rw[show A.in1.handled=none from hh]|rw[hh]
 refine Xa (Xl (wpAny_throw ?_));exact hE _ _ (((Heap.SameBut.update ..).extBut.push _).push _) ⟨_,X0 _ rfl,rfl⟩
end
def QeZ(prog:Program)(w:World)(it l:Addr):Nx prog w it l (λk h=>h.IsTupleIter it l k) (λxs h=>h.IsTuple l xs) where
 item:=λA E s k xs x Q p q e h=>Yq p q e h
 done:=λA E s k xs Q hh p q e h=>YC hh p q e h
 keepP:=λk h h' p f=>p.at λo e=>f o e
 keepL:=λxs h h' p f=>p.at λo e=>f o e
 obj:=λk h z=>by obtain⟨o,e,_,d⟩:=z;exact⟨o,_,e,d⟩
section
variable {prog:Program}{w:World}{A:Around}{E:Value->Shared->Prop}{s:Shared}{z TI TO i1 i2 l1 l2:Addr}{P1 P2:Nat->Heap->Prop}{L1 L2:Array Value->Heap->Prop}
def QcF{k1 k2:Nat}{y b:Value}(N1:Nx prog w i1 l1 P1 L1)(N2:Nx prog w i2 l2 P2 L2)(D:ZipApart z TI TO i1 i2 l1 l2)
  (hz:IsZip s.heap z TI TO .none) (hTI:IsPair s.heap TI (.ref i1) (.ref i2)) (hTO:IsPair s.heap TO a b)
  (h1:P1 k1 s.heap) (h2:P2 k2 s.heap) (hl1:L1 xs s.heap) (hl2:L2 ys s.heap) (hx:xs[k1]?=some x) (hy:ys[k2]?=some y)
  (hQ:∀h',IsZip h' z TI TO (rawInt s.heap.objs.size)->IsPair h' TO x y->P1 (k1+1) h'->P2 (k2+1) h'->IsPair h' s.heap.objs.size x y->h'.objs.size=s.heap.objs.size+1 ->
   (∀c o,c≠z->c≠TO->c≠i1->c≠i2->s.heap.get? c=some o->h'.get? c=some o)->Q (.ref s.heap.objs.size) {s with heap:=h'}):
  wpAny (model prog w) A (Builtin.«zip.__next__» ⟨[.ref z],[]⟩) (λfin s'=>∃v,fin=.done (.ret v)/\Q v s') E s:=by
 have kP1:∀{k:Nat} {h h':Heap} {c:Addr},P1 k h->Heap.SameBut c h h'->i1≠c->P1 k h':=λ{k h h' c} p sb ne=>N1.keepP k h h' p λo e=>(sb.2 i1 ne).trans e;have kP2:∀{k:Nat} {h h':Heap} {c:Addr},P2 k h->Heap.SameBut c h h'->i2≠c->P2 k h':=λ{k h h' c} p sb ne=>N2.keepP k h h' p λo e=>(sb.2 i2 ne).trans e;have kL1:∀{h h':Heap} {c:Addr},L1 xs h->Heap.SameBut c h h'->l1≠c->L1 xs h':=λ{h h' c} p sb ne=>N1.keepL xs h h' p λo e=>(sb.2 l1 ne).trans e;have kL2:∀{h h':Heap} {c:Addr},L2 ys h->Heap.SameBut c h h'->l2≠c->L2 ys h':=λ{h h' c} p sb ne=>N2.keepL ys h h' p λo e=>(sb.2 l2 ne).trans e;show wpAny _ _ (field (.ref z) 2 >>= _) _ _ _;refine Xa (Wv hz rfl (x:=.bool false) rfl ?_);show wpAny _ _ (field (.ref z) 3 >>= _) _ _ _;refine Xa (Wv hz rfl (x:=.ref TI) rfl ?_);refine Xa (V0 hTI rfl ?_);show wpAny _ _ (Builtin.SmallTypes.ownedTupleIsFree (.ref z) >>= _) _ _ _;refine Xa ?_;unfold Builtin.SmallTypes.ownedTupleIsFree;refine Xa (Wv hz rfl (x:=.none) rfl (Xl ?_));simp only[Wt];refine Xa (wpAny_rule ?_);refine Xa (Wv hz rfl (x:=.ref TO) rfl ?_)
 refine Xa (V6 hz (by simp) λh₁ hz₁ hs₁=>?_)
 replace hz₁:IsZip h₁ z TI TO .ellipsis:=hz₁;refine Xa ?_;simp only[List.zipIdx_cons,List.zipIdx_nil,List.forIn_cons,List.forIn_nil];refine Xa (Xa (wpAny_onRaise ?_));show wpAny _ _ (Builtin.SmallTypes.nextOf (.ref i1) >>= _) _ _ _;refine Xa (N1.item _ _ _ _ _ _ _ (kP1 h1 hs₁ D.i1z) (kL1 hl1 hs₁ D.l1z) hx λh₂ h1₂ hs₂=>Xl ?_);have hTO₂:IsPair h₂ TO a b:=hs₂.extBut _ _ D.TOi1 (hs₁.extBut _ _ D.TOz hTO);refine Xa (V0 hTO₂ rfl ?_);refine Xa (wpAny_updateSeq_pair hTO₂ λh₃ hTO₃ hs₃=>?_);replace hTO₃:IsPair h₃ TO x b:=hTO₃;refine Xa (wpAny_letGo (Xl ?_));refine Xa (Xa (wpAny_onRaise ?_));show wpAny _ _ (Builtin.SmallTypes.nextOf (.ref i2) >>= _) _ _ _;refine Xa (N2.item _ _ _ _ _ _ _ (kP2 (kP2 (kP2 h2 hs₁ D.i2z) hs₂ D.i12.symm) hs₃ D.TOi2.symm) (kL2 (kL2 (kL2 hl2 hs₁ D.l2z) hs₂ D.l2i1) hs₃ D.l2TO) hy λh₄ h2₄ hs₄=>Xl ?_);have hTO₄:IsPair h₄ TO x b:=hs₄.extBut _ _ D.TOi2 hTO₃;refine Xa (V0 hTO₄ rfl ?_);refine Xa (wpAny_updateSeq_pair hTO₄ λh₅ hTO₅ hs₅=>?_);replace hTO₅:IsPair h₅ TO x y:=hTO₅;refine Xa (wpAny_letGo (Xl (Xl ?_)));refine Xa (V0 hTO₅ rfl ?_);refine Xa (wpAny_newTuple ?_)
 have hsz:h₅.objs.size=s.heap.objs.size:=by rw[hs₅.1,hs₄.1,hs₃.1,hs₂.1,hs₁.1]
 have hz₅:IsZip h₅ z TI TO .ellipsis:=hs₅.extBut _ _ D.TOz.symm (hs₄.extBut _ _ D.i2z.symm (hs₃.extBut _ _ D.TOz.symm (hs₂.extBut _ _ D.i1z.symm hz₁)))
 have hk₅:∀c o,c≠z->c≠TO->c≠i1->c≠i2->s.heap.get? c=some o->h₅.get? c=some o:=λc o c1 c2 c3 c4 e=>
  hs₅.extBut _ _ c2 (hs₄.extBut _ _ c4 (hs₃.extBut _ _ c2 (hs₂.extBut _ _ c3 (hs₁.extBut _ _ c1 e))))
 have h1₅:P1 (k1+1) h₅:=kP1 (kP1 (kP1 h1₂ hs₃ D.TOi1.symm) hs₄ D.i12) hs₅ D.TOi1.symm;have h2₅:P2 (k2+1) h₅:=kP2 h2₄ hs₅ D.TOi2.symm;have hzlt:z<h₅.objs.size:=Xk hz₅;show wpAny _ _ (Builtin.SmallTypes.ownedTupleHandOut (.ref z) (.ref h₅.objs.size) >>= _) _ _ _;refine Xa ?_;unfold Builtin.SmallTypes.ownedTupleHandOut;have hz₆:IsZip (h₅.push {cls:=.type "tuple",data:=.seq #[x,y]}) z TI TO .ellipsis:=Xd _ hz₅
 refine Xa (V6 hz₆ (by simp) λh₇ hz₇ hs₇=>?_)
 replace hz₇:IsZip h₇ z TI TO (rawInt h₅.objs.size):=hz₇
 refine V6 hz₇ (by simp) λh₈ hz₈ hs₈=>?_
 replace hz₈:IsZip h₈ z TI TO (rawInt h₅.objs.size):=hz₈;have up:∀c o,c≠z->h₅.get? c=some o->h₈.get? c=some o:=λc o c1 e=>hs₈.extBut _ _ c1 (hs₇.extBut _ _ c1 (Xd _ e));have hT₈:IsPair h₈ h₅.objs.size x y:=hs₈.extBut _ _ (Nat.ne_of_gt hzlt) (hs₇.extBut _ _ (Nat.ne_of_gt hzlt) (X0 _ rfl))
 have hz8:h₈.objs.size=h₅.objs.size+1:=by rw[hs₈.1,hs₇.1,W5]
 rw[hsz]at hz₈ hT₈ hz8;refine Xl ⟨_,rfl,?_⟩;show Q (.ref h₅.objs.size) _;rw[hsz];exact hQ h₈ hz₈ (up _ _ D.TOz hTO₅) (N1.keepP _ _ _ h1₅ λo e=>up _ o D.i1z e) (N2.keepP _ _ _ h2₅ λo e=>up _ o D.i2z e) hT₈ hz8 λc o c1 c2 c3 c4 e=>up c o c1 (hk₅ c o c1 c2 c3 c4 e)
def Qem{k1 k2:Nat}{b:Value}{Q:Fin->Shared->Prop}(N1:Nx prog w i1 l1 P1 L1)(N2:Nx prog w i2 l2 P2 L2)(hh:A.handled=none)(D:ZipApart z TI TO i1 i2 l1 l2)
  (hz:IsZip s.heap z TI TO .none) (hTI:IsPair s.heap TI (.ref i1) (.ref i2)) (hTO:IsPair s.heap TO a b)
  (h1:P1 k1 s.heap) (h2:P2 k2 s.heap) (hl1:L1 xs s.heap) (hl2:L2 ys s.heap) (hend:xs[k1]?=none\/ys[k2]?=none)
  (hE:∀h' e,(∀c o,c≠z->c≠TO->c≠i1->c≠i2->s.heap.get? c=some o->h'.get? c=some o)->(∃o,h'.get? e=some o/\o.cls=.type "StopIteration")->E (.ref e) {s with heap:=h'}):
  wpAny (model prog w) A (Builtin.«zip.__next__» ⟨[.ref z],[]⟩) Q E s:=by
 have kP1:∀{k:Nat} {h h':Heap} {c:Addr},P1 k h->Heap.SameBut c h h'->i1≠c->P1 k h':=λ{k h h' c} p sb ne=>N1.keepP k h h' p λo e=>(sb.2 i1 ne).trans e;have kP2:∀{k:Nat} {h h':Heap} {c:Addr},P2 k h->Heap.SameBut c h h'->i2≠c->P2 k h':=λ{k h h' c} p sb ne=>N2.keepP k h h' p λo e=>(sb.2 i2 ne).trans e;have kL1:∀{h h':Heap} {c:Addr},L1 xs h->Heap.SameBut c h h'->l1≠c->L1 xs h':=λ{h h' c} p sb ne=>N1.keepL xs h h' p λo e=>(sb.2 l1 ne).trans e;have kL2:∀{h h':Heap} {c:Addr},L2 ys h->Heap.SameBut c h h'->l2≠c->L2 ys h':=λ{h h' c} p sb ne=>N2.keepL ys h h' p λo e=>(sb.2 l2 ne).trans e;show wpAny _ _ (field (.ref z) 2 >>= _) _ _ _;refine Xa (Wv hz rfl (x:=.bool false) rfl ?_);show wpAny _ _ (field (.ref z) 3 >>= _) _ _ _;refine Xa (Wv hz rfl (x:=.ref TI) rfl ?_);refine Xa (V0 hTI rfl ?_);show wpAny _ _ (Builtin.SmallTypes.ownedTupleIsFree (.ref z) >>= _) _ _ _;refine Xa ?_;unfold Builtin.SmallTypes.ownedTupleIsFree;refine Xa (Wv hz rfl (x:=.none) rfl (Xl ?_));simp only[Wt];refine Xa (wpAny_rule ?_);refine Xa (Wv hz rfl (x:=.ref TO) rfl ?_)
 refine Xa (V6 hz (by simp) λh₁ hz₁ hs₁=>?_)
 replace hz₁:IsZip h₁ z TI TO .ellipsis:=hz₁;refine Xa ?_;simp only[List.zipIdx_cons,List.zipIdx_nil,List.forIn_cons,List.forIn_nil];refine Xa (Xa (wpAny_onRaise ?_));show wpAny _ _ (Builtin.SmallTypes.nextOf (.ref i1) >>= _) _ _ _
 cases hx:xs[k1]? with
 |none=>
  refine Xa (N1.done _ _ _ _ _ _ hh (kP1 h1 hs₁ D.i1z) (kL1 hl1 hs₁ D.l1z) hx λh₂ e hs₂ he=>?_);obtain⟨oe,hoe,hce⟩:=he;have hz₂:IsZip h₂ z TI TO .ellipsis:=hs₂ _ _ D.i1z.symm hz₁
  have hez:e≠z:=λx=>by subst x;rw[hz₂]at hoe;cases hoe;simp at hce
  refine V6 hz₂ (by simp) λh₃ y hs₃=>hE h₃ e (λc o c1 y c3 y x=>hs₃.extBut _ _ c1 (hs₂ _ _ c3 (hs₁.extBut _ _ c1 x))) ⟨oe,hs₃.extBut _ _ hez hoe,hce⟩
 |some x=>
  have hy:ys[k2]?=none:=by rcases hend with h|h;rw[hx]at h;cases h;exact h
  refine Xa (N1.item _ _ _ _ _ _ _ (kP1 h1 hs₁ D.i1z) (kL1 hl1 hs₁ D.l1z) hx λh₂ h1₂ hs₂=>Xl ?_);have hTO₂:IsPair h₂ TO a b:=hs₂.extBut _ _ D.TOi1 (hs₁.extBut _ _ D.TOz hTO);refine Xa (V0 hTO₂ rfl ?_);refine Xa (wpAny_updateSeq_pair hTO₂ λh₃ hTO₃ hs₃=>?_);refine Xa (wpAny_letGo (Xl ?_));refine Xa (Xa (wpAny_onRaise ?_));show wpAny _ _ (Builtin.SmallTypes.nextOf (.ref i2) >>= _) _ _ _;refine Xa (N2.done _ _ _ _ _ _ hh (kP2 (kP2 (kP2 h2 hs₁ D.i2z) hs₂ D.i12.symm) hs₃ D.TOi2.symm) (kL2 (kL2 (kL2 hl2 hs₁ D.l2z) hs₂ D.l2i1) hs₃ D.l2TO) hy λh₄ e hs₄ he=>?_);obtain⟨oe,hoe,hce⟩:=he;have hz₄:IsZip h₄ z TI TO .ellipsis:=hs₄ _ _ D.i2z.symm (hs₃.extBut _ _ D.TOz.symm (hs₂.extBut _ _ D.i1z.symm hz₁))
  have hez:e≠z:=λx=>by subst x;rw[hz₄]at hoe;cases hoe;simp at hce
  refine V6 hz₄ (by simp) λh₅ y hs₅=>hE h₅ e (λc o c1 c2 c3 c4 x=>hs₅.extBut _ _ c1 (hs₄ _ _ c4 (hs₃.extBut _ _ c2 (hs₂.extBut _ _ c3 (hs₁.extBut _ _ c1 x))))) ⟨oe,hs₅.extBut _ _ hez hoe,hce⟩
def YB{k1 k2:Nat}{y b:Value}{Q:Option Value->Shared->Prop}(N1:Nx prog w i1 l1 P1 L1)(N2:Nx prog w i2 l2 P2 L2)(D:ZipApart z TI TO i1 i2 l1 l2)
  (hz:IsZip s.heap z TI TO .none) (hTI:IsPair s.heap TI (.ref i1) (.ref i2)) (hTO:IsPair s.heap TO a b)
  (h1:P1 k1 s.heap) (h2:P2 k2 s.heap) (hl1:L1 xs s.heap) (hl2:L2 ys s.heap) (hx:xs[k1]?=some x) (hy:ys[k2]?=some y)
  (hQ:∀h',IsZip h' z TI TO (rawInt s.heap.objs.size)->IsPair h' TO x y->P1 (k1+1) h'->P2 (k2+1) h'->IsPair h' s.heap.objs.size x y->h'.objs.size=s.heap.objs.size+1 ->
   (∀c o,c≠z->c≠TO->c≠i1->c≠i2->s.heap.get? c=some o->h'.get? c=some o)->Q (some (.ref s.heap.objs.size)) {s with heap:=h'}):
  wpAny (model prog w) A (pyNext (.ref z)) Q E s:=by
 have hT:s.TypeIs (.ref z) "zip":=⟨_,hz,rfl⟩;unfold pyNext
 exact Xa (Uz (Ui (name:=Str.ofString "__next__") hT Tw
  (Tl Tw hT F.entry_zip_next
   (QcF N1 N2 D hz hTI hTO h1 h2 hl1 hl2 hx hy λh' a1 a2 a3 a4 a5 a6 a7=>Xl (hQ h' a1 a2 a3 a4 a5 a6 a7)) (F.args_zip_next_1 _))))
def YW{k1 k2:Nat}{b:Value}{Q:Option Value->Shared->Prop}(N1:Nx prog w i1 l1 P1 L1)(N2:Nx prog w i2 l2 P2 L2)(hh:A.handled=none)(D:ZipApart z TI TO i1 i2 l1 l2)
  (hz:IsZip s.heap z TI TO .none) (hTI:IsPair s.heap TI (.ref i1) (.ref i2)) (hTO:IsPair s.heap TO a b)
  (h1:P1 k1 s.heap) (h2:P2 k2 s.heap) (hl1:L1 xs s.heap) (hl2:L2 ys s.heap) (hend:xs[k1]?=none\/ys[k2]?=none)
  (hQ:∀h',(∀c o,c≠z->c≠TO->c≠i1->c≠i2->s.heap.get? c=some o->h'.get? c=some o)->Q none {s with heap:=h'}):wpAny (model prog w) A (pyNext (.ref z)) Q E s:=by
 have hT:s.TypeIs (.ref z) "zip":=⟨_,hz,rfl⟩;unfold pyNext
 refine Xa (Uz (Ui (name:=Str.ofString "__next__") hT Tw
  (Tl Tw hT F.entry_zip_next (Qem N1 N2 hh D hz hTI hTO h1 h2 hl1 hl2 hend λh' e hk he=>?_) (F.args_zip_next_1 _))))
 obtain⟨o,ho,hc⟩:=he;refine Xa (wpAny_isInstance (T:="StopIteration") (b:=true) ⟨o,ho,hc⟩ isSubtype_stop ?_);exact Xl (hQ _ hk)
end
end
section
variable {X:Cx}{H:Hp}{pins:List (Addr×Obj)}{s:Shared}{Y:St}
section
variable {h':Heap}
def Inv.turnedLay{t':Nat}{ch:List Addr}{p:Addr}{vs:List V}{its:List Value}(I:Inv X pins Y H s)(hf:∀b∈ch,Jh X pins H b)(k:∀b o,b∉ch->s.heap.get? b=some o->h'.get? b=some o)
  (there:∀b o,b∈ch->s.heap.get? b=some o->∃o',h'.get? b=some o')
  (hp:s.heap.objs.size<=p) (hv:Vals vs its) (ht:IsTup h' p its.toArray) (hz:vs.length<=sizeLine):Inv X pins Y (upd H p (.tup vs)) {s with heap:=h',toks:=t'}:=by
 have hn:H p=none:=I.hok.fresh hp
 have ne:∀b o,s.heap.get? b=some o->b≠p:=λb o e z=>by
  have:=Xk e;rw[z]at this;exact absurd (Xr this hp) (Wn _)
 have nch:∀b u,H b=some u->b∉ch:=λb u e z=>by rw[(hf b z).1]at e;cases e
 have up:∀b u,H b=some u->upd H p (.tup vs) b=some u:=λb u e=>by rw[Qe (Zm e hn)];exact e
 refine I.step (g':=s.gens) (d':=s.drawn) (ch:=ch) (λb hb=>?_) (λb o y y hc e y=>k b o hc e) (λb o y y hc e y=>⟨o.slots,k b o hc e⟩) (λb o y e n=>by rw[Qe (ne b o e)];exact n)
  (λb o hc e=>⟨o,k b o hc e⟩) (λb xs e=>up b _ e) (λb o u e=>up b _ e) (λb ps e=>⟨#[],by rw[up b _ e];simp⟩) (λm hm=>?_) (λb u e=>?_) I.bare
 ·obtain⟨_,f1,_,f3,f4,f5⟩:=hf b hb;exact⟨f3,f1,f4,f5⟩
 ·obtain⟨o,es,ep,ho,r⟩:=hm;refine⟨o,es,ep,k _ o (λz=>(hf _ z).2.1 rfl) ho,r⟩
 ·by_cases hb:b=p
  ·subst hb;rw[Ql]at e;cases e;exact⟨hz,its,hv,ht⟩
  ·rw[Qe hb]at e;refine(I.hok b u e).stay (λc v hc q=>k c v ?_ q) (λc q=>up c _ q) λc xs q=>up c _ q
   rcases hc with z|z
   ·rw[z];exact nch b u e
   ·exact nch c _ z
def Inv.turnedL{t':Nat}{ch:List Addr}(I:Inv X pins Y H s)(hf:∀b∈ch,Jh X pins H b)(k:∀b o,b∉ch->s.heap.get? b=some o->h'.get? b=some o):Inv X pins Y H {s with heap:=h',toks:=t'}:=by
 have nch:∀b u,H b=some u->b∉ch:=λb u e z=>by rw[(hf b z).1]at e;cases e
 refine I.step (g':=s.gens) (d':=s.drawn) (ch:=ch) (λb hb=>?_) (λb o y y hc e y=>k b o hc e) (λb o y y hc e y=>⟨o.slots,k b o hc e⟩) (λb o y e n=>n)
  (λb o hc e=>⟨o,k b o hc e⟩) (λb xs e=>e) (λb o u e=>e) (λb ps e=>⟨#[],by rw[e];simp⟩) (λm hm=>?_) (λb u e=>?_) I.bare
 ·obtain⟨_,f1,_,f3,f4,f5⟩:=hf b hb;exact⟨f3,f1,f4,f5⟩
 ·obtain⟨o,es,ep,ho,r⟩:=hm;exact⟨o,es,ep,k _ o (λz=>(hf _ z).2.1 rfl) ho,r⟩
 ·refine(I.hok b u e).stay (λc v hc q=>k c v ?_ q) (λc q=>q) λc xs q=>q
  rcases hc with z|z
  ·rw[z];exact nch b u e
  ·exact nch c _ z
end
def SqB:Bool->W.Frag->Hp->Addr->List V->Prop
 |true=>SqL
 |false=>SqT
def LB:Bool->Addr->Array Value->Heap->Prop
 |true,l=>λxs h=>h.IsList l xs
 |false,l=>λxs h=>h.IsTuple l xs
def PB:Bool->Addr->Addr->Nat->Heap->Prop
 |true,it,l=>λk h=>h.IsListIter it l k
 |false,it,l=>λk h=>h.IsTupleIter it l k
def nxB(b:Bool)(prog:Program)(w:World)(it l:Addr):Nx prog w it l (PB b it l) (LB b l):=by
 cases b with
 |true=>exact Qhv prog w it l
 |false=>exact QeZ prog w it l
def Inv.sqB{b:Bool}{a:Addr}{xs:List V}(I:Inv X pins Y H s)(h:SqB b X.K H a xs):∃its:List Value,Vals xs its/\LB b a its.toArray s.heap/\xs.length<=sizeLine:=by
 cases b with
 |true=>obtain⟨its,r,p,z⟩:=I.list h;exact⟨its,r,p.isList,z⟩
 |false=>obtain⟨its,r,p,z⟩:=I.tuple h;exact⟨its,r,p,z⟩
def Inv.sqB_inj{b:Bool}{a:Addr}{xs ys:List V}(I:Inv X pins Y H s)(h:SqB b X.K H a xs)(h':SqB b X.K H a ys):xs=ys:=by
 cases b with
 |true=>exact I.list_inj h h'
 |false=>exact I.tuple_inj h h'
noncomputable def Itz(b c:Bool)(K:W.Frag)(a1 a2:Addr):It :=
 ⟨λi H=>∃xs ys x y,SqB b K H a1 xs/\SqB c K H a2 ys/\xs[i]?=some x/\ys[i]?=some y,
   λi H x H'=>∃p v w,H p=none/\x=.ref p/\H'=upd H p (.tup [v,w])/\(∀xs,SqB b K H a1 xs->xs[i]?=some v)/\∀ys,SqB c K H a2 ys->ys[i]?=some w,
   λi H=>∃xs ys,SqB b K H a1 xs/\SqB c K H a2 ys/\(xs.length<=i\/ys.length<=i)⟩
def Qes{P:Program}{w:World}{K:W.Frag}{elts:List Expr}{kt:Nat}{pt:Pos}(b b':Bool)(a1 a2 z TI TO i1 i2:Addr)(D:ZipApart z TI TO i1 i2 a1 a2):
  Turn P w K (.Tuple elts kt pt) (Itz b b' K a1 a2) [z,TI,TO,i1,i2] z (λi h=>IsZip h z TI TO .none/\IsPair h TI (.ref i1) (.ref i2)/\(∃a c,IsPair h TO a c)/\PB b i1 a1 i h/\PB b' i2 a2 i h) where
 mem:=by simp
 obj:=λi h st c hc=>by
  obtain⟨hz,hTI,⟨a,c',hTO⟩,p1,p2⟩:=st
  have hc':c=z\/c=TI\/c=TO\/c=i1\/c=i2:=by simpa using hc
  rcases hc' with rfl|rfl|rfl|rfl|rfl
  ·exact⟨_,hz,λv q=>nomatch q⟩
  ·exact⟨_,hTI,λv q=>nomatch q⟩
  ·exact⟨_,hTO,λv q=>nomatch q⟩
  ·obtain⟨o,vs,e,d⟩:=(nxB b P w c a1).obj i h p1
   exact⟨o,e,λv q=>by rw[d]at q;cases q⟩
  ·obtain⟨o,vs,e,d⟩:=(nxB b' P w c a2).obj i h p2
   exact⟨o,e,λv q=>by rw[d]at q;cases q⟩
 keep:=λi h h' st k=>by
  obtain⟨hz,hTI,⟨a,c',hTO⟩,p1,p2⟩:=st
  exact⟨k z (by simp) _ hz,k TI (by simp) _ hTI,⟨a,c',k TO (by simp) _ hTO⟩,(nxB b P w i1 a1).keepP i h h' p1 λo e=>k i1 (by simp) o e,(nxB b' P w i2 a2).keepP i h h' p2 λo e=>k i2 (by simp) o e⟩
 item:=by
  intro X hP hw hK hc i pins s Y H E I hf st hg;subst hP hw hK;obtain⟨hz,hTI,⟨a,c',hTO⟩,p1,p2⟩:=st;obtain⟨xs,ys,x,y,q1,q2,ex,ey⟩:=hg;obtain⟨it1,r1,l1,_⟩:=I.sqB q1;obtain⟨it2,r2,l2,_⟩:=I.sqB q2;obtain⟨u,hu,ru⟩:=r1.get ex;obtain⟨v,hv,rv⟩:=r2.get ey
  have ltz:∀c,c∈[z,TI,TO,i1,i2]->c<s.heap.objs.size:=λc hc=>by
   have hc':c=z\/c=TI\/c=TO\/c=i1\/c=i2:=by simpa using hc
   rcases hc' with rfl|rfl|rfl|rfl|rfl
   ·exact Xk hz
   ·exact Xk hTI
   ·exact Xk hTO
   ·obtain⟨o,vs,e,d⟩:=(nxB b X.prog X.w c a1).obj i _ p1;exact Xk e
   ·obtain⟨o,vs,e,d⟩:=(nxB b' X.prog X.w c a2).obj i _ p2;exact Xk e
  refine YB (nxB b X.prog X.w i1 a1) (nxB b' X.prog X.w i2 a2) D hz hTI hTO p1 p2 l1 l2 (x:=u) (y:=v) (by simpa using hu) (by simpa using hv) λh' b1 b2 b3 b4 b5 b6 b7=>?_
  refine⟨_,rfl,?_⟩;refine wpAny_letOwnedTupleGo_zip (s:={s with heap:=h'}) b1 λh2 c1 c2=>?_;have nep:∀c,c∈[z,TI,TO,i1,i2]->c≠s.heap.objs.size:=λc hc=>X4 (ltz c hc);have up:∀c o,c≠z->h'.get? c=some o->h2.get? c=some o:=λc o hc e=>c2.extBut _ _ hc e
  have kp:∀c o,c∉[z,TO,i1,i2]->s.heap.get? c=some o->h2.get? c=some o:=λc o hc e=>by
   have hc':¬(c=z\/c=TO\/c=i1\/c=i2):=by simpa using hc
   exact up c o (λq=>hc' (.inl q)) (b7 c o (λq=>hc' (.inl q)) (λq=>hc' (.inr (.inl q))) (λq=>hc' (.inr (.inr (.inl q)))) (λq=>hc' (.inr (.inr (.inr q)))) e)
  have hf':∀c∈[z,TO,i1,i2],Jh X pins H c:=λc hc=>hf c (by
   have hc':c=z\/c=TO\/c=i1\/c=i2:=by simpa using hc
   rcases hc' with rfl|rfl|rfl|rfl<;>simp)
  have hT:IsPair h2 s.heap.objs.size u v:=up _ _ (Ww (nep z (by simp))) b5
  have I2:Inv X pins Y (upd H s.heap.objs.size (.tup [x,y])) {s with heap:=h2}:=I.turnedLay (t':=s.toks) (its:=[u,v]) hf' kp (λc o t e=>by
   by_cases hc:c∈[z,TO,i1,i2]
   ·have hc':c=z\/c=TO\/c=i1\/c=i2:=by simpa using hc
    rcases hc' with rfl|rfl|rfl|rfl
    ·exact⟨_,c1⟩
    ·exact⟨_,up _ _ D.TOz b2⟩
    ·obtain⟨o,vs,e,d⟩:=(nxB b X.prog X.w c a1).obj _ _ b3;exact⟨o,up _ _ D.i1z e⟩
    ·obtain⟨o,vs,e,d⟩:=(nxB b' X.prog X.w c a2).obj _ _ b4;exact⟨o,up _ _ D.i2z e⟩
   ·exact⟨o,kp c o hc e⟩) (Xm _) (.cons ru (.cons rv .nil)) ⟨_,hT,rfl,_,rfl⟩ (by show 2<=sizeLine;decide)
  have hn:H s.heap.objs.size=none:=I.hok.fresh (Xm _)
  refine⟨.ref s.heap.objs.size,_,I2,rfl,⟨_,x,y,hn,rfl,rfl,λws hw=>by rw[I.sqB_inj hw q1];exact ex,λws hw=>by rw[I.sqB_inj hw q2];exact ey⟩,⟨c1,?_,⟨_,_,up _ _ D.TOz b2⟩,?_,?_⟩,λc hc=>?_⟩
  ·exact kp _ _ (by
    have d1:=D.TIz;have d2:=D.TITO;have d3:=D.TIi1;have d4:=D.TIi2
    simp[d1,d2,d3,d4]) hTI
  ·exact(nxB b X.prog X.w i1 a1).keepP _ _ _ b3 λo e=>up _ _ D.i1z e
  ·exact(nxB b' X.prog X.w i2 a2).keepP _ _ _ b4 λo e=>up _ _ D.i2z e
  ·rw[Qe (nep c hc)];exact(hf c hc).1
 done:=by
  intro X hP hw hK hc i pins s Y H E I hf st hg;subst hP hw hK;obtain⟨hz,hTI,⟨a,c',hTO⟩,p1,p2⟩:=st;obtain⟨xs,ys,q1,q2,hl⟩:=hg;obtain⟨it1,r1,l1,_⟩:=I.sqB q1;obtain⟨it2,r2,l2,_⟩:=I.sqB q2;have e1:=r1.length;have e2:=r2.length
  refine YW (nxB b X.prog X.w i1 a1) (nxB b' X.prog X.w i2 a2) (I.ok.hd hc) D hz hTI hTO p1 p2 l1 l2 (by
   rcases hl with q|q
   ·exact .inl (by simp;omega)
   ·exact .inr (by simp;omega)) λh' kp=>⟨rfl,I.turnedL (t':=s.toks) (ch:=[z,TO,i1,i2]) (λc hc=>hf c (by
    have hc':c=z\/c=TO\/c=i1\/c=i2:=by simpa using hc
    rcases hc' with rfl|rfl|rfl|rfl<;>simp)) λc o hc e=>?_⟩
  have hc':¬(c=z\/c=TO\/c=i1\/c=i2):=by simpa using hc
  exact kp c o (λq=>hc' (.inl q)) (λq=>hc' (.inr (.inl q))) (λq=>hc' (.inr (.inr (.inl q)))) (λq=>hc' (.inr (.inr (.inr q)))) e
 self:=λA i s Q E st h=>wpAny_pyIter_zip st.1 h
noncomputable abbrev QaB(b:Bool)(l:Addr):Obj:={cls:=.type (if b then "list_iterator" else "tuple_iterator"),data:=.fields #[.ref l,.int 0 0]}
noncomputable abbrev zH1(b:Bool)(h:Heap)(l1:Addr):Heap:=h.push (QaB b l1)
noncomputable abbrev zH2(b b':Bool)(h:Heap)(l1 l2:Addr):Heap:=(zH1 b h l1).push (QaB b' l2)
noncomputable abbrev zH3(b b':Bool)(h:Heap)(l1 l2:Addr):Heap:=(zH2 b b' h l1 l2).push {cls:=.type "tuple",data:=.seq #[.ref h.objs.size,.ref (zH1 b h l1).objs.size]}
noncomputable abbrev zH4(b b':Bool)(h:Heap)(l1 l2:Addr):Heap:=(zH3 b b' h l1 l2).push {cls:=.type "tuple",data:=.seq #[.none,.none]}
noncomputable abbrev zH5(b b':Bool)(h:Heap)(l1 l2:Addr):Heap:=(zH4 b b' h l1 l2).push {cls:=.type "zip",data:=.fields #[.none,.bool false,.bool false,.ref (zH2 b b' h l1 l2).objs.size,.ref (zH3 b b' h l1 l2).objs.size]}
def Qck(b b':Bool)(l1 l2:Addr)(xs ys:Array Value):
  Meets (Builtin.«zip.__new__» ⟨[.type "zip",.ref l1,.ref l2],[]⟩) (λz R s=>LB b l1 xs s.heap/\LB b' l2 ys s.heap /\
   R (.ok (.ret (.ref (zH4 b b' s.heap l1 l2).objs.size))) {s with heap:=zH5 b b' s.heap l1 l2}):=by
 refine .of_wp λprog w A R s h=>?_;obtain⟨hp,g,d,tk,os⟩:=s;obtain⟨hl1,hl2,h⟩:=h;have hsub:=sub_zip
 cases b with
 |true=>
  have hL1:Heap.IsList (Shared.heap ⟨hp,g,d,tk,os⟩) l1 xs:=hl1
  cases b' with
  |true=>
   have hL2:Heap.IsList (Shared.heap ⟨hp.push {cls:=.type "list_iterator",data:=.fields #[.ref l1,.int 0 0]},g,d,tk,os⟩) l2 ys:=Heap.IsList.push hl2 _
   wp_walk using Ua hL1,Ua hL2
   exact⟨_,rfl,h⟩
  |false=>
   have hL2:Heap.IsTuple (Shared.heap ⟨hp.push {cls:=.type "list_iterator",data:=.fields #[.ref l1,.int 0 0]},g,d,tk,os⟩) l2 ys:=Heap.IsTuple.at hl2 λo e=>Xd _ e
   wp_walk using Ua hL1,Uk hL2
   exact⟨_,rfl,h⟩
 |false=>
  have hL1:Heap.IsTuple (Shared.heap ⟨hp,g,d,tk,os⟩) l1 xs:=hl1
  cases b' with
  |true=>
   have hL2:Heap.IsList (Shared.heap ⟨hp.push {cls:=.type "tuple_iterator",data:=.fields #[.ref l1,.int 0 0]},g,d,tk,os⟩) l2 ys:=Heap.IsList.push hl2 _
   wp_walk using Uk hL1,Ua hL2
   exact⟨_,rfl,h⟩
  |false=>
   have hL2:Heap.IsTuple (Shared.heap ⟨hp.push {cls:=.type "tuple_iterator",data:=.fields #[.ref l1,.int 0 0]},g,d,tk,os⟩) l2 ys:=Heap.IsTuple.at hl2 λo e=>Xd _ e
   wp_walk using Uk hL1,Uk hL2
   exact⟨_,rfl,h⟩
section
variable {prog:Program}{w:World}{A:Around}{E:Value->Shared->Prop}
def Qd4{b b':Bool}{l1 l2:Addr}{xs ys:Array Value}{Q:Value->Shared->Prop}(hl1:LB b l1 xs s.heap)(hl2:LB b' l2 ys s.heap)
  (h:∀h',IsZip h' (s.heap.objs.size+4) (s.heap.objs.size+2) (s.heap.objs.size+3) .none->IsPair h' (s.heap.objs.size+2) (.ref s.heap.objs.size) (.ref (s.heap.objs.size+1)) ->
   IsPair h' (s.heap.objs.size+3) .none .none->PB b s.heap.objs.size l1 0 h'->PB b' (s.heap.objs.size+1) l2 0 h'->h'.objs.size=s.heap.objs.size+5 ->
   (∀c o,s.heap.get? c=some o->h'.get? c=some o)->Q (.ref (s.heap.objs.size+4)) {s with heap:=h'}):
  wpAny (model prog w) A (call (.type "zip") [.ref l1,.ref l2]) Q E s:=by
 refine callType_new F.called_zip (by decide) (F.typeCall_zip_2 _ _) (F.newCall_zip_2 _ _) (λobj=>F.args_object_init_3 obj _ _) F.entry_zip_new
  (Qck b b' l1 l2 xs ys) ⟨hl1,hl2,?_⟩
 have z1:(zH1 b s.heap l1).objs.size=s.heap.objs.size+1:=W5 ..
 have z2:(zH2 b b' s.heap l1 l2).objs.size=s.heap.objs.size+2:=by rw[W5,z1]
 have z3:(zH3 b b' s.heap l1 l2).objs.size=s.heap.objs.size+3:=by rw[W5,z2]
 have z4:(zH4 b b' s.heap l1 l2).objs.size=s.heap.objs.size+4:=by rw[W5,z3]
 have z5:(zH5 b b' s.heap l1 l2).objs.size=s.heap.objs.size+5:=by rw[W5,z4]
 have g5:(zH5 b b' s.heap l1 l2).get? (zH4 b b' s.heap l1 l2).objs.size=some _:=X0 _ rfl;have g4:(zH5 b b' s.heap l1 l2).get? (zH3 b b' s.heap l1 l2).objs.size=some _:=Xd _ (X0 _ rfl);have g3:(zH5 b b' s.heap l1 l2).get? (zH2 b b' s.heap l1 l2).objs.size=some _:=Xd _ (Xd _ (X0 _ rfl));have g2:(zH5 b b' s.heap l1 l2).get? (zH1 b s.heap l1).objs.size=some (QaB b' l2):=Xd _ (Xd _ (Xd _ (X0 _ rfl)));have g1:(zH5 b b' s.heap l1 l2).get? s.heap.objs.size=some (QaB b l1):=Xd _ (Xd _ (Xd _ (Xd _ (X0 _ rfl))));show _/\_;rw[z2,z3,z4]at g5;rw[z1,z2]at g3;rw[z3]at g4;rw[z1]at g2;rw[z4];refine⟨⟨_,g5,rfl⟩,h _ g5 g3 g4 ?_ ?_ z5 λc o x=>Xd _ (Xd _ (Xd _ (Xd _ (Xd _ x))))⟩
 ·cases b<;>exact⟨_,g1,rfl,rfl⟩
 ·cases b'<;>exact⟨_,g2,rfl,rfl⟩
end
section

def QnH(b b':Bool)(K:W.Frag)(ta:TA):TI:=λY H R=>ta Y H λvs H1=>∃a1 a2,vs=[.ref a1,.ref a2]/\(∃xs,SqB b K H1 a1 xs)/\(∃ys,SqB b' K H1 a2 ys)/\R (Itz b b' K a1 a2) H1
def QbN{b b':Bool}{e1 e2:Expr}{ta:TA}{elts:List Expr}{kt:Nat}{pt p pos:Pos}(hg:Gl X "zip")(hm:X.mg "zip"=none)(ha:PA X [e1,e2] ta)(hs:starEach [e1,e2] X.env=[(false,eval e1 X.env),(false,eval e2 X.env)])(hs2:starEach [e2] X.env=[(false,eval e2 X.env)]):
  PI X (.Tuple elts kt pt) (.Call (.Name "zip" p) [e1,e2] [] pos) (QnH b b' X.K ta):=by
 intro pins s Y H R I h
 refine Call_ (Js I hg hm PyProof.Rows.boot_zip (V3 (thn (ha pos pins s Y H _ I h) λus s1 z=>?_) (by rw[hs,hs2]) (by rw[hs2];rfl)));obtain⟨vs,H1,I1,r1,q1⟩:=z
 obtain⟨a1,a2,e,⟨xs,q1⟩,⟨ys,q2⟩,q⟩:=q1;subst e;obtain⟨u,w',rfl,ru,rw'⟩:=Qgr r1;cases(show u=_ from ru);cases(show w'=_ from rw');obtain⟨it1,v1,l1,_⟩:=I1.sqB q1;obtain⟨it2,v2,l2,_⟩:=I1.sqB q2
 have hlt1:a1<s1.heap.objs.size:=by
  cases b with
  |true=>obtain⟨o,e,_⟩:=l1;exact Xk e
  |false=>obtain⟨o,e,_⟩:=l1;exact Xk e
 have hlt2:a2<s1.heap.objs.size:=by
  cases b' with
  |true=>obtain⟨o,e,_⟩:=l2;exact Xk e
  |false=>obtain⟨o,e,_⟩:=l2;exact Xk e
 refine Qd4 l1 l2 λh' b1 b2 b3 b4 b5 b6 b7=>?_;refine wpAny_pyIter_zip b1 ?_;have I2:Inv X pins Y H1 {s1 with heap:=h'}:=I1.kept (t':=s1.toks) b7;refine⟨_,[s1.heap.objs.size+4,s1.heap.objs.size+2,s1.heap.objs.size+3,s1.heap.objs.size,s1.heap.objs.size+1],_,_,H1,rfl,I2,Qes b b' a1 a2 _ _ _ _ _ (W.ktu_apart _ _ _ hlt1 hlt2),⟨b1,b2,⟨_,_,b3⟩,b4,b5⟩,λc hc=>?_,q⟩
 have hc':c=s1.heap.objs.size+4\/c=s1.heap.objs.size+2\/c=s1.heap.objs.size+3\/c=s1.heap.objs.size\/c=s1.heap.objs.size+1:=by simpa using hc
 have le:s1.heap.objs.size<=c:=by rcases hc' with rfl|rfl|rfl|rfl|rfl<;>omega
 exact I1.fpOk le (I1.hok.fresh le)
end
end
section
noncomputable abbrev Qnm(xs:Array Value):Obj:={cls:=.type "tuple",data:=.seq xs}
noncomputable abbrev qH4(h:Heap)(l:Nat->Nat):Heap:=(((h.push (QaB false (l 0))).push (QaB true (l 1))).push (QaB true (l 2))).push (QaB true (l 3))
noncomputable abbrev qTI(n:Nat):Obj:=Qnm #[.ref n,.ref (n+1),.ref (n+2),.ref (n+3)]
noncomputable abbrev qH(h:Heap)(l:Nat->Nat):Heap:=(((qH4 h l).push (qTI h.objs.size)).push (Qnm #[.none,.none,.none,.none])).push {cls:=.type "zip",data:=.fields #[.none,.bool false,.bool false,.ref (h.objs.size+4),.ref (h.objs.size+5)]}
end
section
variable {elt iter tg:Expr}{n:Nat}{tl:Option Expr}{pos:Pos}{y:Str}{te:TE}{g:TG}{tt:TT}
noncomputable def Cx.block(X:Cx)(xs:List Str)(scope:Scope)(C:Addr)(s:Shared)(H:Hp)(fp:List Addr):Cx :=
 {X with N:=hideN xs X.N++xs,s₀:=s,H₀:=H,env:=compEnvC scope (Qbt X.env.cells scope.names []) C X.env,outer:=X.stack,ex:=fp,fn:=λz=>false,pn:=[],xe:=λz z=>False}
structure CompOk(X:Cx)(xs:List Str)(scope:Scope):Prop where
 kind:scope.kind=.function
 loc:∀x∈xs,scope.names.lookup x=some .local
 all:∀y∈scope.names,(y.2=.local->(y.1∈xs\/y.1=".0")/\scope.names.lookup y.1=some .local)/\y.2≠.cell/\(y.2=.free->X.env.scope.names.lookup y.1=some .cell\/X.env.scope.names.lookup y.1=some .free)
 hid:∀x∈xs,scope.names.lookup (mang x)=none
 nd:xs.Nodup
 dot:(".0":Str)∉X.N
section
variable {X:Cx}{xs:List Str}{scope:Scope}{pins:List (Addr×Obj)}{Y:St}{H:Hp}{s:Shared}{fp:List Addr}
def CompOk.free_of(k:CompOk X xs scope)(hk:X.env.scope.kind=.function)(h:(relabel scope X.env).names.lookup y=some .cell\/(relabel scope X.env).names.lookup y=some .free):(y,NameKind.free)∈scope.names:=by
 rw[QZ hk,ZG]at h
 cases q:scope.names.lookup y with
 |none=>rw[q]at h;simp at h
 |some kd=>
  rw[q]at h;have m:=ZP q
  cases kd with
  |free=>exact m
  |cell=>exact absurd rfl (k.all _ m).2.1
  |_=>simp at h
def CompOk.local_of(k:CompOk X xs scope)(hk:X.env.scope.kind=.function)(h:(relabel scope X.env).names.lookup y=some .local): y∈xs\/y=".0":=by
 rw[QZ hk,ZG]at h
 cases q:scope.names.lookup y with
 |none=>rw[q]at h;simp at h
 |some kd=>
  rw[q]at h;have m:=ZP q
  cases kd with
  | «local»=>exact((k.all _ m).1 rfl).1
  |free=>
   simp only[Uj]at h;split at h<;>cases h
  |_=>simp at h
def Zd{cells:List (Str×Addr)}{l:List (Str×NameKind)}{c:Addr}(e:(Qbt cells l []).lookup y=some c):cells.lookup y=some c:=by
 rcases QaK e with z|z
 ·simp at z
 ·exact z
def Qhj{Y:St}{i:Nat}{v:V}(e:(Y++List.replicate n none)[i]?=some (some v)):Y[i]?=some (some v):=by
 by_cases h:i < Y.length
 ·rw[Wg h]at e;exact e
 ·rw[Wi (by omega),Ta]at e
  split at e<;>cases e
theorem Inv.block{h₁:Heap}{m:Str->Option Value}{tk:Nat}(I:Inv X pins Y H s)(k:CompOk X xs scope)(hf:∀b∈fp,Jh X pins H b)(hfs:∀b∈fp,b<s.heap.objs.size)
  (hn:h₁.Ns s.heap.objs.size m) (kp:∀b o,s.heap.get? b=some o->h₁.get? b=some o):Inv (X.block xs scope s.heap.objs.size s H fp) [] (Y++List.replicate xs.length none) H {s with heap:=h₁,toks:=tk}:=by
 have hk:X.env.scope.kind=.function:=I.ok.kind
 have fsub:∀b∈fp,b∉frs X.stack:=λb hb z=>by
  rcases Xo.mp (I.stkSub b z)with e|e
  ·exact(hf b hb).2.1 e
  ·exact(hf b hb).2.2.1 e
 have okB:(X.block xs scope s.heap.objs.size s H fp).Ok:={
  mod:=I.ok.mod
  kind:=k.kind
  glob:=I.ok.glob
  blt:=I.ok.blt
  above:=Xm _
  inj:=λy z c e1 e2=>I.ok.inj y z c (Zd e1) (Zd e2)
  has:=λy h=>by
   have m:=k.free_of hk h;obtain⟨c,hc⟩:=I.ok.has y ((k.all _ m).2.2 rfl);exact⟨c,JY hc (.inl m)⟩
  cab:=λy c h=>nomatch h
  hd:=I.ok.hd
  frames:=I.ok.frames
  stk:=.inl rfl
  exf:=λb hb=>⟨X4 (hfs b hb),λy c e=>(hf b hb).2.2.2.2.1 y c (Zd e)⟩
  bs:=I.bs
  bsz:=X1 I.ok.bsz I.sz
  noex:=λb o e hb=>by
   rcases (hf b hb).2.2.2.1 with z|z
   ·exact I.ok.noex b o e z
   ·exact absurd (Xr (Xk e) (X1 I.ok.bsz z)) (Wn _)
  exfs:=λb hb z=>fsub b hb z
  funs:=I.stack
  frf:=λb hb=>I.stkFree b hb}
 refine⟨okB,rfl,I.bare,Un.kept kp,⟨m,hn,λi y v e1 e2 e3=>?_⟩,λy c e=>?_,I.hok.fresh (Xm _),λy c e=>I.freeC y c (Zd e),(λp hp=>by cases hp),I.hok.kept kp,?_⟩
 ·have e1:(hideN xs X.N++xs)[i]?=some y:=e1;have e3:Vis (relabel scope X.env) y:=e3;have q2:Y[i]?=some (some v):=Qhj e2
  have q0:(hideN xs X.N)[i]?=some y:=by
   have:=(Xf.mp q2).1;rw[I.len,<-Yh (xs:=xs)]at this;rw[Wg this]at e1;exact e1
  obtain⟨z,q1,⟨zm,rfl⟩|⟨zn,rfl⟩⟩:=Qfc q0
  ·have no:=k.hid z zm
   have no':(relabel scope X.env).names.lookup (mang z)=none:=by rw[QZ hk,ZG,no];rfl
   rcases e3 with w|w|w<;>(rw[no']at w;cases w)
  have ym:y∈X.N:=X7 q1
  have hcf:(relabel scope X.env).names.lookup y=some .cell\/(relabel scope X.env).names.lookup y=some .free:=by
   rcases e3 with z|z
   ·rcases k.local_of hk z with q|q
    ·exact absurd q zn
    ·exact absurd (q▸ym) k.dot
   ·exact z
  have m':=k.free_of hk hcf;have xk:=(k.all _ m').2.2 rfl;obtain⟨mm,hnn,hl⟩:=I.loc;obtain⟨u,r,l⟩:=hl i y v q1 q2 (.inr xk);refine⟨u,r,.inr ⟨hcf,?_⟩⟩
  rcases l with⟨l,_⟩|⟨_,c,e,o,ho,hd⟩
  ·have l:X.env.scope.names.lookup y=some .local:=l
   rcases xk with z|z<;>(rw[l]at z;cases z)
  ·exact⟨c,JY e (.inl m'),o,kp c o ho,hd⟩
 ·obtain⟨v,o,ho,hd⟩:=I.cell y c (Zd e);exact⟨v,o,kp c o ho,hd⟩
 ·show(Y++List.replicate xs.length none).length=(hideN xs X.N++xs).length;simp[I.len,Yh]
def PTO(X:Cx)(tl:Option Expr)(tt:TT):Prop:=match tl with
 |none=>∀Y H Q,tt Y H Q->Q true H
 |some c=>PT X c tt
def Qah(wi:TI)(n:Nat)(g:TG)(tt:TT)(te:TE):TE:=λY H Q=>wi Y H λJ H1=>∀D,H1 D=none->∃W:Nat->Nat->List V->Hp->Prop,(∃m,W 0 m [] (upd H1 D (.lst [])))/\∀i m ys H2,W i m ys H2->H2 D=some (.lst ys) /\
 ((J.stop i H2/\Q (.ref D) H2)\/(J.go i H2/\ys.length<sizeLine/\∀x H3 os,os.length=n->J.yld i H2 x H3->g x (Y++os) H3 λY' H4=>(∃os',os'.length=n/\Y'=Y++os')/\tt Y' H4 λb H5=>if b=true then te Y' H5 λy H6=>H6 D=some (.lst ys)/\∃m',m'<m/\W (i+1) m' (ys++[y]) (upd H6 D (.lst (ys++[y])))else ∃m',m'<m/\W (i+1) m' ys H5))
def JA{Q:VK}{it:Addr}{tn:Nat->Heap->Prop}{J:It}{E:Value->Shared->Prop}{RR:Value->Addr->Result->Shared->Prop}(hc:X.calm=true)(k:CompOk X xs scope)
  (hn:xs.length=n) (hg:∀C s H fp,PG (X.block xs scope C s H fp) tg g) (ht:∀C s H fp,PTO (X.block xs scope C s H fp) tl tt) (he:∀C s H fp,PE (X.block xs scope C s H fp) elt te)
  (I2:Inv X pins Y H s) (T:Turn X.prog X.w X.K tg J fp it tn) (st2:tn 0 s.heap) (f2:∀b∈fp,Jh X pins H b)
  (q:∀D,H D=none->∃W:Nat->Nat->List V->Hp->Prop,(∃m,W 0 m [] (upd H D (.lst [])))/\∀i m ys H2,W i m ys H2->H2 D=some (.lst ys) /\
   ((J.stop i H2/\Q (.ref D) H2)\/(J.go i H2/\ys.length<sizeLine/\∀x H3 os,os.length=n->J.yld i H2 x H3->g x (Y++os) H3 λY' H4=>(∃os',os'.length=n/\Y'=Y++os')/\tt Y' H4 λb H5=>if b=true then te Y' H5 λy H6=>H6 D=some (.lst ys)/\∃m',m'<m/\W (i+1) m' (ys++[y]) (upd H6 D (.lst (ys++[y])))else ∃m',m'<m/\W (i+1) m' ys H5)))
  (hRR:∀D C s' H' m,Inv X pins Y H' s'->s'.heap.Ns C m->Jh X pins H' C->Q (.ref D) H'->RR (.ref D) C (.ok .next) s'):
  wpAny (model X.prog X.w) X.A (newList []) (λacc s₃=>wpAny (model X.prog X.w) X.A (newFunctionEnv scope X.env.globals (Qbt X.env.cells scope.names []) [] X.env.qual none .none (some X.env)) (λcenv s₄=>
   codeAny (model X.prog X.w) X.A (.compStart (.ListComp elt [⟨tg,iter,tl.toList,0⟩] scope pos) 0 (.ref it) acc {cenv with scope:=relabel scope X.env}) (RR acc cenv.locals) s₄) E s₃) E s:=by
 have hk:X.env.scope.kind=.function:=I2.ok.kind
 refine Td (wpAny_newFunctionEnv (λy hy=>(k.all y hy).2.1) (by intro y hy;simp at hy) (λh₁ hns₁ hsb₁=>?_) k.kind)
 dsimp only at hns₁ hsb₁ ⊢;have hD:H s.heap.objs.size=none:=I2.hok.fresh (Xm _);obtain⟨W,⟨m0,w0⟩,turn⟩:=q s.heap.objs.size hD
 have I3:Inv X pins Y (upd H s.heap.objs.size (.lst [])) {s with heap:=s.heap.push {cls:=.type "list",dict:=none,data:=.seq ([]:List Value).toArray} }:=
  I2.laid (t':=s.toks) (λb o e=>Xd _ e) (Xm _) (show ObjOk X.prog X.w _ _ _ (.lst [])from⟨Vq _,[],_,.nil,X0 _ rfl⟩)
 have lt2:∀b∈fp,b<s.heap.objs.size:=λb hb=>by
  obtain⟨o,e,_⟩:=T.obj 0 _ st2 b hb;exact Xk e
 have f3:∀b∈fp,Jh X pins (upd H s.heap.objs.size (.lst [])) b:=λb hb=>⟨by rw[Qe (X4 (lt2 b hb))];exact(f2 b hb).1,(f2 b hb).2⟩
 have lt3:∀b∈fp,b<(s.heap.push {cls:=.type "list",dict:=none,data:=.seq ([]:List Value).toArray}).objs.size:=λb hb=>by
  rw[W5];exact Nat.lt_succ_of_lt (lt2 b hb)
 generalize hs3:({s with heap:=s.heap.push {cls:=.type "list",dict:=none,data:=.seq ([]:List Value).toArray} }:Shared)=s3 at I3
 have e3:s3.heap=s.heap.push {cls:=.type "list",dict:=none,data:=.seq ([]:List Value).toArray}:=by rw[<-hs3]
 rw[<-e3]at hns₁ hsb₁ lt3 ⊢;have kp:∀b o,s3.heap.get? b=some o->h₁.get? b=some o:=λb o e=>hsb₁.extBut b o (X4 (Xk e)) (Xd _ e);have IB:=I3.block (tk:=s.toks+([]:List (Str×Value)).length) k f3 lt3 hns₁ kp
 have es:({s3 with heap:=h₁,toks:=s.toks+([]:List (Str×Value)).length}:Shared)={s with heap:=h₁,toks:=s.toks+([]:List (Str×Value)).length}:=by rw[<-hs3]
 rw[es]at IB;generalize hX:X.block xs scope s3.heap.objs.size s3 (upd H s.heap.objs.size (.lst [])) fp=Yyy at IB;have HE:PE Yyy elt te:=hX▸he _ _ _ _;have HT:PTO Yyy tl tt:=hX▸ht _ _ _ _;have HG:PG Yyy tg g:=hX▸hg _ _ _ _
 have hP:Yyy.prog=X.prog:=by rw[<-hX];rfl
 have hw:Yyy.w=X.w:=by rw[<-hX];rfl
 have hK:Yyy.K=X.K:=by rw[<-hX];rfl
 have hA:Yyy.A=X.A:=by rw[<-hX];rfl
 have hcY:Yyy.calm=true:=by rw[<-hX];exact hc
 have hxe:Yyy.xe=λt t=>False:=by rw[<-hX];rfl
 have henv:Yyy.env=compEnvC scope (Qbt X.env.cells scope.names []) s3.heap.objs.size X.env:=by rw[<-hX];rfl
 have fpY:∀{H':Hp},(∀b∈fp,H' b=none)->∀b∈fp,Jh Yyy [] H' b:=λhn b hb=>by
  have hb1:=(f2 b hb).2;rw[<-hX]
  refine⟨hn b hb,?_,λz=>?_,.inl hb,λy c e=>hb1.2.2.2.1 y c (Zd e),(λp hp=>by cases hp)⟩
  ·exact X4 (lt3 b hb)
  ·rcases Xo.mp (I3.stkSub b z)with e|e
   ·exact hb1.1 e
   ·exact hb1.2.1 e
 have back:∀{Y':St} {H':Hp} {s':Shared},Inv Yyy [] Y' H' s'->Inv X pins Y H' s'/\(∃m,s'.heap.Ns s3.heap.objs.size m)/\Jh X pins H' s3.heap.objs.size:=λ{Y' H' s'} J'=>by
  have u:=J'.base;have os:=J'.os;have hok:=J'.hok;have bare:=J'.bare;obtain⟨mm,hnn,_⟩:=J'.loc;have fr:=J'.free;rw[henv]at hnn fr;rw[<-hX]at u os hok;refine⟨I3.call' os u hok bare λb hb=>?_,⟨mm,hnn⟩,I3.fpOk (Xm _) fr⟩;exact⟨(f2 b hb).2.2.2.1,(f2 b hb).2.1,(f2 b hb).2.2.2.2.1,(f2 b hb).2.2.2.2.2⟩
 have loop:∀s₃:Shared,Inv Yyy [] (Y++List.replicate xs.length none) (upd H s.heap.objs.size (.lst [])) s₃->tn 0 s₃.heap ->
   codeAny (model X.prog X.w) X.A (.compLoop (.ListComp elt [⟨tg,iter,tl.toList,0⟩] scope pos) 0 (.ref it) (.ref s.heap.objs.size) Yyy.env) (RR (.ref s.heap.objs.size) s3.heap.objs.size) s₃:=by
  intro s₃ J3 t3
  refine Y8 (λm s'=>∃i os H' ys,os.length=n/\Inv Yyy [] (Y++os) H' s'/\tn i s'.heap/\(∀b∈fp,H' b=none)/\W i m ys H') ?_ m0 ⟨0,_,_,[],by rw[Tn];exact hn,J3,t3,λb hb=>(f3 b hb).1,w0⟩
  rintro m s4 ⟨i,os,H4,ys,lo,J4,st4,fr4,w4⟩;obtain⟨hDl,tr⟩:=turn i m ys H4 w4
  rcases tr with⟨stop,qn⟩|⟨go,hz,step⟩
  ·have dn:=T.done Yyy hP hw hK hcY i [] s4 (Y++os) H4 (notedBy (model X.prog X.w) X.A Yyy.env λe s'=>RR (.ref s.heap.objs.size) s3.heap.objs.size (.error e) s') J4 (fpY fr4) st4 stop;rw[hA]at dn;refine thn dn λr s5 l=>?_;obtain⟨hr,J5⟩:=l;subst hr;obtain⟨I5,⟨m5,n5⟩,f5⟩:=back J5;exact hRR _ _ _ _ _ I5 n5 f5 qn
  ·have im:=T.item Yyy hP hw hK hcY i [] s4 (Y++os) H4 (notedBy (model X.prog X.w) X.A Yyy.env λe s'=>RR (.ref s.heap.objs.size) s3.heap.objs.size (.error e) s') J4 (fpY fr4) st4 go;rw[hA]at im;refine thn im λr s5 j=>?_;obtain⟨u,hr,h5⟩:=j;subst hr;refine thn h5 λt s6 f=>?_;obtain⟨v,H6,J6,rv,y6,st6,fr6⟩:=f;have J6':=J6.pinned (fpY fr6) (T.obj _ _ st6)
   have noE:∀{EE:Value->Shared->Prop},∀e s',Yyy.xe e s'->EE e s':=λ{EE} e s' z=>by rw[hxe]at z;exact z.elim
   have asg:=HG _ s6 (Y++os) H6 v u _ J6' rv (step v H6 os lo y6);rw[hP,hw,hA]at asg;refine Xj asg (λt s7 a=>?_) noE;obtain⟨σ7,H7,J7,⟨os',lo',e7⟩,q7⟩:=a;subst e7
   have fin:∀{s9:Shared} {H9:Hp} {m':Nat} {zs:List V},Inv Yyy ([]++ZV fp s6.heap) (Y++os') H9 s9->m'<m->W (i+1) m' zs H9->∃m',m'<m/\∃i os H' ys,os.length=n/\Inv Yyy [] (Y++os) H' s9/\tn i s9.heap/\(∀b∈fp,H' b=none)/\W i m' ys H':=λ{s9 H9 m' zs} J9 hm' w9=>by
    refine⟨m',hm',i+1,os',H9,zs,lo',J9.unpinned,T.keep _ _ _ st6 λb hb ob e=>(J9.pin (b,ob) (Xq _ (Xq _ (QU hb e)))).1,λb hb=>?_,w9⟩;obtain⟨ob,e,d⟩:=T.obj _ _ st6 b hb;exact(J9.pin (b,ob) (Xq _ (Xq _ (QU hb e)))).2.1
   have tst:wpAny (model X.prog X.w) X.A (forIn tl.toList true λc r=>if r=true then do let ok <-isTrue c Yyy.env (eval c Yyy.env);pure (ForInStep.yield ok)else pure (ForInStep.yield r)) (TP Yyy ([]++ZV fp s6.heap) (Y++os') λb H5=>if b=true then te (Y++os') H5 λy H6=>H6 s.heap.objs.size=some (.lst ys)/\∃m',m'<m/\W (i+1) m' (ys++[y]) (upd H6 s.heap.objs.size (.lst (ys++[y])))else ∃m',m'<m/\W (i+1) m' ys H5) (notedBy (model X.prog X.w) X.A Yyy.env λe s'=>RR (.ref s.heap.objs.size) s3.heap.objs.size (.error e) s') s7:=by
    refine Qbz ?_
    cases tl with
    |none=>exact⟨H7,J7,HT _ _ _ q7⟩
    |some c=>
     have z:=(show PT Yyy c tt from HT) _ s7 _ _ _ J7 q7;rw[hP,hw,hA]at z;exact Xj z (λt t h=>h) noE
   refine Xj tst (λb s8 Z=>?_) λt t e=>e;obtain⟨H8,J8,q8⟩:=Z
   cases b with
   |false=>
    rw[if_neg Xi]at q8 ⊢;obtain⟨m',hm',w8⟩:=q8;exact fin J8 hm' w8
   |true=>
    rw[if_pos rfl]at q8 ⊢;have ev:=HE _ s8 _ _ _ J8 q8;rw[hP,hw,hA]at ev;refine Xj ev (λy s8 U=>?_) noE;obtain⟨yv,H8,J8,ry,hD8,m',hm',w8⟩:=U;have ap:=YY (X:=Yyy) _ s8 _ H8 (.ref s.heap.objs.size) [yv] (.ref s.heap.objs.size) [y] (λt H'=>H'=upd H8 s.heap.objs.size (.lst (ys++[yv]))) J8 rfl (.cons ry .nil) ⟨_,ys,yv,rfl,rfl,hD8,hz,rfl⟩;rw[hP,hw,hA]at ap;refine Xj ap (λt s9 S=>?_) noE;obtain⟨_,H9,J9,_,e9⟩:=S;subst e9;exact fin J9 hm' w8
 have t1:tn 0 h₁:=T.keep 0 _ _ st2 λb hb o e=>kp b o (by rw[e3];exact Xd _ e)
 have go:=loop _ IB t1;rw[henv]at go;refine codeAny_compStart_list ?_ ?_
 ·exact go
 ·exact T.self X.A 0 _ _ _ t1 go
def Qdl{wi:TI}(hc:X.calm=true)(k:CompOk X xs scope)(hi:PI X tg iter wi)(hn:xs.length=n)(hg:∀C s H fp,PG (X.block xs scope C s H fp) tg g)(ht:∀C s H fp,PTO (X.block xs scope C s H fp) tl tt)(he:∀C s H fp,PE (X.block xs scope C s H fp) elt te)
  (hs:∀v,foldedSetIterable iter X.env v=pure v):PE X (.ListComp elt [⟨tg,iter,tl.toList,0⟩] scope pos) (Qah wi n g tt te):=by
 intro pins s Y H Q I h;rw[eval_ListComp];refine wpAny_comprehension_free (use:=none) rfl hs (ZQ λy hy hf=>I.ok.has y.1 ((k.all y hy).2.2 hf)) k.kind (λy hy hl=>((k.all y hy).1 hl).2) ?_;refine thn (hi pins s Y H _ I h) λv s1 h1=>thn h1 λitv s2 h2=>?_;obtain⟨it,fp,tn,J,H2,e,I2,T,st2,f2,q⟩:=h2;subst e;refine JA (RR:=λacc C=>compPost (model X.prog X.w) X.A X.xe none (EP X pins Y Q) acc C) hc k hn hg ht he I2 T st2 f2 q ?_;intro D C s' H' m I' n' f' q';refine⟨m,n',λh' sb=>?_⟩;exact⟨.ref D,H',I'.turned (t':=s'.toks) (λb o hb e=>sb.extBut b o hb e) f'.1 f'.2.1 f'.2.2.2.1 f'.2.2.2.2.1 f'.2.2.2.2.2,rfl,q'⟩
def Qg6{py spos:Pos}{wi:TI}{j:Nat}(hc:X.calm=true)(hN:X.N.Nodup)(k:CompOk X xs scope)(hi:PI X tg iter wi)(hn:xs.length=n)(hg:∀C s H fp,PG (X.block xs scope C s H fp) tg g)(ht:∀C s H fp,PTO (X.block xs scope C s H fp) tl tt)(he:∀C s H fp,PE (X.block xs scope C s H fp) elt te)
  (hs:∀v,foldedSetIterable iter X.env v=pure v) (hj:X.N[j]?=some y) (hy:Loc X.env.scope y) (hfn:X.fn y=true\/X.env.scope.names.lookup y=some .local):
  PS X (.Assign [.Name y py] (.ListComp elt [⟨tg,iter,tl.toList,0⟩] scope pos) spos) (λD Y H=>Qah wi n g tt te Y H λv H1=>D.nx (Y.set j (some v)) H1):=by
 have hsw:∃b,swapsWith (.ListComp elt [⟨tg,iter,tl.toList,0⟩] scope pos) (some (.Name y py)) spos.line X.env=pure b:=⟨_,rfl⟩;obtain⟨b,hsw⟩:=hsw
 cases b with
 |false=>exact Jn hN hj hy (Qdl hc k hi hn hg ht he hs) hsw hfn
 |true=>
  intro pins s Y H D I h;rw[exec_Assign_Name_used _ _ _ _ hsw];refine Xa (V8 (Xa ?_))
  show wpAny _ _ (do let _ <-comprehension (.ListComp elt [⟨tg,iter,tl.toList,0⟩] scope pos) scope X.env _ (newList []) false (eval iter X.env) (some (assign (.Name y py) X.env))) _ _ s
  refine Xa (Xj (wpAny_comprehension_free (use:=some (assign (.Name y py) X.env)) (Q:=λx s'=>SP X pins D .next s') rfl hs (ZQ λy hy hf=>I.ok.has y.1 ((k.all y hy).2.2 hf)) k.kind (λy hy hl=>((k.all y hy).1 hl).2) ?_)
   (λx s' hq=>Xl (Xl hq)) λx x e=>e)
  refine thn (hi pins s Y H _ I h) λv s1 h1=>thn h1 λitv s2 h2=>?_;obtain⟨it,fp,tn,J,H2,e,I2,T,st2,f2,q⟩:=h2;subst e;refine JA (Q:=λv H1=>D.nx (Y.set j (some v)) H1) (RR:=λacc C=>compPost (model X.prog X.w) X.A X.xe (some (assign (.Name y py) X.env)) (λx s'=>SP X pins D .next s') acc C) hc k hn hg ht he I2 T st2 f2 q ?_;intro Da C s' H' m I' n' f' q';obtain⟨o,es,ep,ho,hd,r⟩:=id n'
  have Ip:Inv X (pins++ZV [C] s'.heap) Y H' s':=I'.pinned (λb hb=>by
   have e:b=C:=by simpa using hb
   subst e
   exact f') λb hb=>by
    have e:b=C:=by simpa using hb
    subst e
    exact⟨o,ho,λv z=>by rw[hd]at z;cases z⟩
  refine thn (Yp (i:=j) hN hj hy hfn _ s' Y H' (.ref Da) (.ref Da) _ Ip rfl q') λx s'' u=>?_;obtain⟨σ2,H2',J2,q2⟩:=u
  have pc:=J2.pin (C,o) (Xq _ (Xq _ (QU (by simp) ho)))
  refine⟨m,⟨o,es,ep,pc.1,hd,r⟩,λh' sb=>?_⟩;exact⟨σ2,H2',J2.unpinned.turned (t':=s''.toks) (λb ob hb e=>sb.extBut b ob hb e) pc.2.1 f'.2.1 f'.2.2.2.1 f'.2.2.2.2.1 f'.2.2.2.2.2,q2⟩
end
end
end L2
namespace L2
open PySem PySem.Spec PySem.W PyProof.Rows
variable {elt iter tg:Expr}{n:Nat}{tl:Option Expr}{pos:Pos}{s:Shared}{te:TE}{g:TG}{tt:TT}{E2:XK}
def Fl(X:Cx)(B:Heap)(e C:Addr)(a0:Value)(h:Heap):Prop:=Heap.FlyingW B X.stack e (.ref C) a0 h\/∃L,X.env.frame=some L/\Heap.HeldW B X.stack e (.ref C) a0 L h
structure CovX(X:Cx)(B:Heap)(H:Hp):Prop where
 trk:∀b u,H b=some u->∃o,B.get? b=some o
 old:∀b o,X.s₀.heap.get? b=some o->b∉frs X.stack->b∉X.ex->∃o',B.get? b=some o'
def Qel(X:Cx)(E:XK):Prop:=∀pins Y H s e C B a0 dd,Inv X pins Y H s->Fl X B e C a0 s.heap->CovX X B H->H e=none->(∀o,X.s₀.heap.get? e=some o->e∈X.ex)->DictAt s.heap e dd->E (.ref C) dd H->X.xe (.ref e) s
def QcD(E:XK)(Yyy:Cx):Value->Shared->Prop:=λv s=>∃pins Y H e C B a0 dd,v=.ref e/\Inv Yyy pins Y H s/\Fl Yyy B e C a0 s.heap/\CovX Yyy B H/\H e=none/\(∀o,Yyy.s₀.heap.get? e=some o->e∈Yyy.ex)/\DictAt s.heap e dd/\E (.ref C) dd H
def QoR{E:XK}{Yyy:Cx}:Qel (Yyy.wish (QcD E Yyy)) E:=λpins Y H s e C B a0 dd I f cv hn h0 da hE=>⟨pins,Y,H,e,C,B,a0,dd,rfl,I.unwish,f,⟨cv.trk,cv.old⟩,hn,h0,da,hE⟩
def JR{c d:Env}(h:c.frame=d.frame)(e:Value):noteFrame e c=noteFrame e d:=by
 unfold noteFrame PySem.frameOf;rw[h]
def QcM{P:Program}{w:World}{l:List Env}{ch:List Addr}{H H':Hp}{h h1 h2 B base:Heap}(un:Un (frs l) ch H H' h h1)(hok:HOk P w H' h1)(ff:h.FunFrames base l)(fr:∀b∈frs l,H b=none)
  (st1:B.StaysIn h1) (st2:B.StaysIn h2) (up:h1.UpToSlots h2) (c1:∀b u,H' b=some u->∃o,B.get? b=some o) (c2:∀b o,h.get? b=some o->b∉frs l->b∉ch->∃o',B.get? b=some o'):Un (frs l) ch H H' h h2/\HOk P w H' h2:=by
 have fsl:∀b o,h.get? b=some o->b∈frs l->b∉ch->∃sl,h2.get? b=some {o with slots:=sl}:=λb o q hb hx=>by
  obtain⟨sl,e⟩:=un.slot b o q (fr b hb) hb hx;obtain⟨_,o2,ho2,hd⟩:=ff.mem hb;rw[q]at ho2;cases ho2;obtain⟨sl',e'⟩:=up b _ e hd;exact⟨sl',e'⟩
 refine⟨⟨λb o q n hb hx=>?_,λb o q n hb hx=>fsl b o q hb hx,un.free,λb o q hx=>?_,un.tups,un.frzs,un.tbls⟩,λa o e=>?_⟩
 ·have e1:=un.keep b o q n hb hx;obtain⟨o',e2⟩:=c2 b o q hb hx;have e3:=st1 b o' e2;rw[e1]at e3;cases e3;exact st2 b _ e2
 ·by_cases hb:b∈frs l
  ·obtain⟨sl,e⟩:=fsl b o q hb hx;exact⟨_,e⟩
  ·obtain⟨o',e2⟩:=c2 b o q hb hx;exact⟨o',st2 b _ e2⟩
 ·refine(hok a o e).stay (λb u hb q=>?_) (λy z=>z) λy y z=>z
  have ht:∃x,H' b=some x:=by
   rcases hb with rfl|z
   ·exact⟨_,e⟩
   ·exact⟨_,z⟩
  obtain⟨x,hx⟩:=ht;obtain⟨o',e2⟩:=c1 b x hx;have e3:=st1 b o' e2;rw[q]at e3;cases e3;exact st2 b _ e2
theorem Qf9{B h h':Heap}{D:Addr}(hs:∀b,b≠D->h'.get? b=h.get? b):∀{l:List Env},h.FunFrames B l->(∀b∈frs l,b≠D)->h'.FunFrames (hideAll B [D]) l
 |[],_,_=>trivial
 |env::r,⟨hk,⟨L,o,hf,hn,ho,hd⟩,hr⟩,hne=>by
  have e:frs (env::r)=L::frs r:=by unfold frs;rw[U0,hf]
  refine⟨hk,⟨L,o,hf,?_,(hs L (hne L (e▸Xh))).trans ho,hd⟩,Qf9 hs hr λb hb=>hne b (e▸Xg _ hb)⟩
  cases q:(hideAll B [D]).get? L with
  |none=>rfl
  |some o'=>rw[of_hideAll _ q]at hn;cases hn
section
variable {M:Model}{A:Around}{Q:Unit->Shared->Prop}{E:Value->Shared->Prop}{B:Heap}{l:List Env}{e L D:Addr}{cls a0:Value}{h h':Heap}
def QhU(R:Heap.HeldW B l e cls a0 L s.heap)(h:∀h',Heap.HeldW B l e cls a0 L h'->s.heap.UpToSlots h'->Q () {s with heap:=h'}):wpAny M A (setFlight (.ref e) (some L)) Q E s:=by
 obtain⟨st,en,fr,oe,vs,T,oT,ts,ge,cl,de,v1,nT,ne,gT,dT,t3⟩:=R;have ot:∀b,b≠T->(s.heap.update T (Obj.mapFields (·.setIfInBounds 3 (rawInt L)))).get? b=s.heap.get? b:=λb hb=>V1 _ _ (Ww hb)
 have nf:∀b o,s.heap.get? b=some o->(∀vs,o.data≠.fields vs)->b≠T:=λb o g hd z=>by
  subst z;cases gT.symm.trans g;exact hd _ dT
 unfold setFlight;refine Xa (Wv ge de v1 ?_)
 rw[if_pos (by simp)]
 have z3:3<ts.size:=(Array.getElem?_eq_some_iff.mp t3).1
 refine wpAny_setField gT dT z3 (h _ ⟨λb o g=>(ot b λz=>by rw[z,nT]at g;cases g).trans (st b o g),en,fr.of_keeps λb o g hd=>⟨o,(ot b (nf b o g hd)).trans g,rfl⟩,?_⟩ λb o g hd=>⟨o.slots,(ot b (nf b o g hd)).trans g⟩)
 exact⟨oe,vs,T,_,_,(ot e (Ww ne)).trans ge,cl,de,v1,nT,ne,Vs _ gT (Obj.isFreed_of_fields (U7 dT _)),U7 dT _,by simp[z3]⟩
def Qff(R:Heap.HeldW B l e cls a0 L h)(hs:∀b,b≠D->h'.get? b=h.get? b)(hf:∀b∈frs l,b≠D){o:Obj}(hD:h.get? D=some o)(hd:∀vs,o.data≠.fields vs):Heap.HeldW (hideAll B [D]) l e cls a0 L h':=by
 obtain⟨st,en,fr,oe,vs,T,oT,ts,ge,cl,de,v1,nT,ne,gT,dT,t3⟩:=R
 have hid:∀{b:Addr},B.get? b=none->(hideAll B [D]).get? b=none:=λ{b} n=>by
  cases q:(hideAll B [D]).get? b with
  |none=>rfl
  |some o'=>rw[of_hideAll _ q]at n;cases n
 have nD:∀{b:Addr} {ob:Obj} {ws:Array Value},h.get? b=some ob->ob.data=.fields ws->b≠D:=λ{b ob ws} g w z=>by
  subst z;cases hD.symm.trans g;exact hd _ w
 refine⟨λb o' q=>?_,hid en,Qf9 hs fr hf,oe,vs,T,oT,ts,(hs e (nD ge de)).trans ge,cl,de,v1,hid nT,ne,(hs T (nD gT dT)).trans gT,dT,t3⟩
 have hb:b≠D:=λz=>by
  rw[z,hideAll_none _ (Xh ..)]at q;cases q
 exact(hs b hb).trans (st b o' (of_hideAll _ q))
end
noncomputable def cpX(M:Model)(A:Around)(env:Env)(E:Value->Shared->Prop)(use:Option (Value->Sem Unit))(Q:Value->Shared->Prop)(acc:Value)(C:Addr)(r:Result)(s':Shared):Prop :=
 match r,use with
 |.ok _,none=>∃m,s'.heap.Ns C m/\∀h',Heap.SameBut C s'.heap h'->Q acc {s' with heap:=h'}
 |.ok _,some u=>wpAny M A (u acc) (λz s''=>∃m,s''.heap.Ns C m/\∀h',Heap.SameBut C s''.heap h'->Q .none {s'' with heap:=h'}) E s'
 |.error x,_=>∃m,s'.heap.Ns C m/\∀h',Heap.SameBut C s'.heap h'->∀c:Env,c.frame=env.frame->wpAny M A (passOn "comprehension.variables-let-go" x c:Sem Value) (λz z=>False) E {s' with heap:=h'}
section
variable {prog:Program}{w:World}{A:Around}{E:Value->Shared->Prop}{env:Env}
def Jz{e:Expr}{scope:Scope}{newAcc first:Sem Value}{g:Comprehension}{gs:List Comprehension}{cl:List (Str×Addr)}{use:Option (Value->Sem Unit)}{Q:Value->Shared->Prop}
  (hcl:clausesOf e=g::gs) (hs:∀x,foldedSetIterable g.iter env x=pure x) (hclos:closureFor scope env=pure cl) (hk:scope.kind=.function) (hn:∀x∈scope.names,x.2=.local->scope.names.lookup x.1=some .local)
  (h:wpAny (model prog w) A first (λx s₁=>wpAny (model prog w) A (pyIter x) (λit s₂=>wpAny (model prog w) A newAcc (λacc s₃=>
   wpAny (model prog w) A (newFunctionEnv scope env.globals cl [] env.qual none .none (some env)) (λcenv s₄=>cenv.frame=env.frame /\
    codeAny (model prog w) A (.compStart e 0 it acc {cenv with scope:=relabel scope env}) (cpX (model prog w) A env E use Q acc cenv.locals) s₄) E s₃) E s₂) E s₁) E s):
  wpAny (model prog w) A (comprehension e scope env pos newAcc false first use) Q E s:=by
 unfold comprehension;rw[hclos,hcl];refine Xa (thn h λx s₁ h₁=>Xa (V8 (Xa (wpAny_of_eq (hs x) (Xa (Wo (thn h₁ λit s₂ h₂=>wpAny_standIf (Xa (thn h₂ λacc s₃ h₃=>Xa (Xl (Xa (thn h₃ λcenv s₄ h₄=>?_))))))))))));obtain⟨fe,h₄⟩:=h₄;have hv:∀x∈(scope.names.filter λx=>(x.2==.local||x.2==.cell)&&x.1 != (".0":Str)).reverse,x.2=.local->Env.kindOf {cenv with scope:=relabel scope env} x.1=some .local:=λx hx hl=>lookup_relabel_local (hn x (Tq.mp (Vj.mp hx)).1 hl);dsimp only;refine Wo (Xa (Uz (Wo (wpAny_run (V4 h₄ λr s' hr=>?_)))))
 cases r with
 |ok f=>
  cases use with
  |none=>
   obtain⟨m,hm,hr⟩:=hr;exact Xa (Wo (wpAny_comp_letGo (cenv:={cenv with scope:=relabel scope env}) hk _ s' m hv hm λh' y y hs'=>Xl (hr h' hs')))
  |some u=>
   refine Xa (wpAny_rule (Xa (Wo (thn hr λy s'' v=>?_))));obtain⟨m,hm,hr'⟩:=v;exact Xa (wpAny_comp_letGo (cenv:={cenv with scope:=relabel scope env}) hk _ s'' m (λx hx hl=>hv x ((X5.mp hx).elim Tx Ux) hl) hm λh' y y hs'=>Xl (hr' h' hs'))
 |error x=>
  have hr:∃m,s'.heap.Ns cenv.locals m/\∀h',Heap.SameBut cenv.locals s'.heap h'->∀c:Env,c.frame=env.frame->wpAny (model prog w) A (passOn "comprehension.variables-let-go" x c:Sem Value) (λy y=>False) E {s' with heap:=h'}:= by cases use<;>exact hr
  obtain⟨m,hm,hr⟩:=hr;exact Xa (Wo (wpAny_comp_letGo (cenv:={cenv with scope:=relabel scope env}) hk _ s' m hv hm λh' y y hs'=>Xj (hr h' hs' {cenv with scope:=relabel scope env} fe) (λy y z=>z.elim) λy y z=>z))
end
section
variable {X:Cx}{xs:List Str}{scope:Scope}{pins:List (Addr×Obj)}{Y:St}{H:Hp}{fp:List Addr}
def Qed{E:XK}{Yyy:Cx}{C:Addr}{s3 s':Shared}{H3:Hp}{v:Value}(hY:X.block xs scope C s3 H3 fp=Yyy)(hx:Qel X E)(fr:∃c l L,X.stack=c::l/\c.frame=some L/\X.env.frame=some L)(I3:Inv X pins Y H3 s3)(hC:C=s3.heap.objs.size)(f3:∀b∈fp,Jh X pins H3 b)
  (z:QcD E Yyy v s'): notedBy (model X.prog X.w) X.A Yyy.env (λv s'=>∃m,s'.heap.Ns C m/\∀h',Heap.SameBut C s'.heap h'->∀c:Env,c.frame=X.env.frame->wpAny (model X.prog X.w) X.A (passOn "comprehension.variables-let-go" v c:Sem Value) (λt t=>False) X.xe {s' with heap:=h'}) v s':=by
 obtain⟨pl,Y',H',e,Ce,B,a0,dd,rfl,J,f,cv,hn,h0,da,hE⟩:=z;subst hY;obtain⟨c,l,L,st,cf,xf⟩:=fr;have u:Un (frs X.stack) fp H3 H' s3.heap s'.heap:=J.base;have Jos:=J.os;obtain⟨m,hns,_⟩:=J.loc;have hns:s'.heap.Ns C m:=hns;have hCn:H' C=none:=J.free;have f:Heap.FlyingW B X.stack e (.ref Ce) a0 s'.heap\/∃L,X.env.frame=some L/\Heap.HeldW B X.stack e (.ref Ce) a0 L s'.heap:=f;have c1:∀b o,s3.heap.get? b=some o->b∉frs X.stack->b∉fp->∃o',B.get? b=some o':=cv.old;have h0:∀o,s3.heap.get? e=some o->e∈fp:=h0
 have st1:B.StaysIn s'.heap:=by
  rcases f with f|⟨_,_,f⟩<;>exact f.1
 show wpAny _ _ (noteFrame (.ref e) _) _ _ s';rw[JR (c:=(X.block xs scope C s3 H3 fp).env) (d:=c) (show X.env.frame=c.frame from xf.trans cf.symm)]
 have nt:wpAny (model X.prog X.w) X.A (noteFrame (.ref e) c) (λt s''=>(∃h₄,s''={s' with heap:=h₄}/\Heap.HeldW B X.stack e (.ref Ce) a0 L h₄/\s'.heap.UpToSlots h₄)/\DK s'.heap s''.heap) (λt t=>False) s':=by
  rcases f with f|⟨L',e',f⟩
  ·exact Xj (ZW (E:=λt t=>False) Qbj (wpAny_looks_onW (Q:=λt s''=>∃h₄,s''={s' with heap:=h₄}/\Heap.HeldW B (c::l) e (.ref Ce) a0 L h₄/\s'.heap.UpToSlots h₄) (st▸I3.ok.frames) cf (st▸f) λh₄ x y=>⟨h₄,rfl,x,y⟩)) (λt t q=>⟨st▸q.1,q.2⟩) λt t z=>z.1
  ·cases e'.symm.trans xf;exact wpAny_noteFrame_againW cf f.2.2.2 ⟨⟨s'.heap,rfl,f,.refl _⟩,.refl _⟩
 refine Xj nt (λt s4 r=>?_) λt t z=>z.elim;obtain⟨⟨h₄,e4,hl,up⟩,dk⟩:=r;subst e4;have hn4:h₄.Ns C m:=up.ns hns;obtain⟨oC,es,ep,goC,doC,_⟩:=id hn4
 have ndC:∀vs,oC.data≠.fields vs:=λvs z=>by rw[doC]at z;cases z
 refine⟨m,hn4,λh₅ sb d hd=>?_⟩
 have neC:∀{b:Addr} {o:Obj},s3.heap.get? b=some o->b≠C:=λ{b o} q z=>by
  have:=Xk q;rw[z,hC]at this;exact Wn _ this
 have hid:∀{b:Addr} {o:Obj},B.get? b=some o->b≠C->(hideAll B [C]).get? b=some o:=λ{b o} q ne=>hideAll_get _ q (by simpa using ne)
 have tr:∀b u,H' b=some u->∃o,(hideAll B [C]).get? b=some o:=λb u q=>by
  obtain⟨o,ho⟩:=cv.trk b u q
  exact⟨o,hid ho λz=>by rw[z,hCn]at q;cases q⟩
 have old3:∀b o,s3.heap.get? b=some o->b∉frs X.stack->b∉fp->∃o',(hideAll B [C]).get? b=some o':=λb o q hb hx=>by
  obtain⟨o',ho⟩:=c1 b o q hb hx;exact⟨o',hid ho (neC q)⟩
 have nfC:∀b∈frs X.stack,b≠C:=λb hb=>by
  obtain⟨_,o,ho,_⟩:=I3.stack.mem hb;exact neC ho
 obtain⟨un4,hok4⟩:=QcM u J.hok I3.stack I3.stkFree st1 hl.1 up cv.trk c1;have ch:∀b∈fp,(b∈X.ex\/X.s₀.heap.objs.size<=b)/\b≠X.env.locals/\(∀x c,X.env.cells.lookup x=some c->c≠b)/\∀p∈X.pn++pins,p.1≠b:=λb hb=>⟨(f3 b hb).2.2.2.1,(f3 b hb).2.1,(f3 b hb).2.2.2.2.1,(f3 b hb).2.2.2.2.2⟩;have I4:Inv X pins Y H' {s' with heap:=h₄}:=I3.call' (ch:=fp) Jos un4 hok4 J.bare ch;have fC:Jh X pins H' C:=I3.fpOk (Nat.le_of_eq hC.symm) hCn;have hl5:=Qff hl (λb hb=>sb.2 b hb) nfC goC ndC;have I5:Inv X pins Y H' {s' with heap:=h₅,toks:=s'.toks}:=I4.turned (λb o hb q=>(sb.2 b hb).trans q) fC.1 fC.2.1 fC.2.2.2.1 fC.2.2.2.2.1 fC.2.2.2.2.2
 have un5:Un (frs X.stack) fp H3 H' s3.heap h₅:=⟨λb o q n hb hx=>(sb.2 b (neC q)).trans (un4.keep b o q n hb hx),λb o q n hb hx=>by
   obtain⟨sl,z⟩:=un4.slot b o q n hb hx
   exact⟨sl,(sb.2 b (neC q)).trans z⟩,un4.free,λb o q hx=>by
   obtain⟨o',z⟩:=un4.there b o q hx
   exact⟨o',(sb.2 b (neC q)).trans z⟩,un4.tups,un4.frzs,un4.tbls⟩
 obtain⟨o4,ge4,gd4⟩:=da.dk dk;obtain⟨_,_,_,oe,vs,T,oT,ts,ge,cl,de,v1,_⟩:=id hl5
 have eC:e≠C:=λz=>by
  obtain⟨_,_,_,oe',vs',_,_,_,ge',_,de',_⟩:=id hl;subst z;cases goC.symm.trans ge';exact ndC _ de'
 have da5:DictAt h₅ e dd:=⟨o4,(sb.2 e eC).trans ge4,gd4⟩
 have c2:CovX X (hideAll B [C]) H':=⟨tr,λb o q hb hx=>by
  obtain⟨o',z⟩:=I3.base.there b o q hx;refine old3 b o' z hb λw=>?_
  rcases (f3 b w).2.2.2.1 with y|y
  ·exact hx y
  ·exact absurd (Xr (Xk q) y) (Wn _)⟩
 have h0X:∀o,X.s₀.heap.get? e=some o->e∈X.ex:=λo q=>by
  by_cases hx:e∈X.ex
  ·exact hx
  ·obtain⟨o',z⟩:=I3.base.there e o q hx
   rcases (f3 e (h0 o' z)).2.2.2.1 with y|y
   ·exact y
   ·exact absurd (Xr (Xk q) y) (Wn _)
 unfold PySem.passOn;refine Xa (Wv ge de v1 ?_)
 rw[if_neg (show ¬((Value.ref T==Value.none)=true)from by simp),hd,xf]
 have fin:wpAny (model X.prog X.w) X.A (setFlight (.ref e) (some L)) (λt s''=>X.xe (.ref e) s'') X.xe {s' with heap:=h₅}:=by
  refine Xj (ZW (E:=λt t=>False) Zp (QhU (s:={s' with heap:=h₅}) (Q:=λt s''=>∃h₆,s''={s' with heap:=h₆}/\Heap.HeldW (hideAll B [C]) X.stack e (.ref Ce) a0 L h₆/\h₅.UpToSlots h₆) hl5 λh₆ x y=>⟨h₆,rfl,x,y⟩)) (λt s6 k=>?_) λt t z=>z.1.elim;obtain⟨⟨h₆,e6,hl₆,up₆⟩,dk₆⟩:=k;subst e6;obtain⟨un6,hok6⟩:=QcM un5 I5.hok I3.stack I3.stkFree hl5.1 hl₆.1 up₆ tr old3;exact hx pins Y H' _ e Ce _ a0 dd (I3.call' (ch:=fp) Jos un6 hok6 J.bare ch) (.inr ⟨L,xf,hl₆⟩) c2 hn h0X (da5.dk dk₆) hE
 first
  |exact Xa (Xl (Xa (thn fin λt t q=>wpAny_throw q)))
  |exact Xa (thn fin λt t q=>wpAny_throw q)
def Y6{Q:VK}{it:Addr}{tn:Nat->Heap->Prop}{J:It}{E:Value->Shared->Prop}{RR:Value->Addr->Result->Shared->Prop}(hx:Qel X E2)(fr:∃c l L,X.stack=c::l/\c.frame=some L/\X.env.frame=some L)(hc:X.calm=true)(k:CompOk X xs scope)
  (hn:xs.length=n) (hg:∀C s H fp,PG (X.block xs scope C s H fp) tg g) (ht:∀C s H fp,PTO (X.block xs scope C s H fp) tl tt) (he:∀C s H fp,PE ((X.block xs scope C s H fp).wish (QcD E2 (X.block xs scope C s H fp))) elt te)
  (I2:Inv X pins Y H s) (T:Turn X.prog X.w X.K tg J fp it tn) (st2:tn 0 s.heap) (f2:∀b∈fp,Jh X pins H b)
  (q:∀D,H D=none->∃W:Nat->Nat->List V->Hp->Prop,(∃m,W 0 m [] (upd H D (.lst [])))/\∀i m ys H2,W i m ys H2->H2 D=some (.lst ys) /\
   ((J.stop i H2/\Q (.ref D) H2)\/(J.go i H2/\ys.length<sizeLine/\∀x H3 os,os.length=n->J.yld i H2 x H3->g x (Y++os) H3 λY' H4=>(∃os',os'.length=n/\Y'=Y++os')/\tt Y' H4 λb H5=>if b=true then te Y' H5 λy H6=>H6 D=some (.lst ys)/\∃m',m'<m/\W (i+1) m' (ys++[y]) (upd H6 D (.lst (ys++[y])))else ∃m',m'<m/\W (i+1) m' ys H5)))
  (hRE:∀acc C x s',(∃m,s'.heap.Ns C m/\∀h',Heap.SameBut C s'.heap h'->∀c:Env,c.frame=X.env.frame->wpAny (model X.prog X.w) X.A (passOn "comprehension.variables-let-go" x c:Sem Value) (λt t=>False) X.xe {s' with heap:=h'})->RR acc C (.error x) s')
  (hRR:∀D C s' H' m,Inv X pins Y H' s'->s'.heap.Ns C m->Jh X pins H' C->Q (.ref D) H'->RR (.ref D) C (.ok .next) s'):
  wpAny (model X.prog X.w) X.A (newList []) (λacc s₃=>wpAny (model X.prog X.w) X.A (newFunctionEnv scope X.env.globals (Qbt X.env.cells scope.names []) [] X.env.qual none .none (some X.env)) (λcenv s₄=>cenv.frame=X.env.frame /\
   codeAny (model X.prog X.w) X.A (.compStart (.ListComp elt [⟨tg,iter,tl.toList,0⟩] scope pos) 0 (.ref it) acc {cenv with scope:=relabel scope X.env}) (RR acc cenv.locals) s₄) E s₃) E s:=by
 have hk:X.env.scope.kind=.function:=I2.ok.kind
 refine Td (wpAny_newFunctionEnv (λy hy=>(k.all y hy).2.1) (by intro y hy;simp at hy) (λh₁ hns₁ hsb₁=>?_) k.kind)
 dsimp only at hns₁ hsb₁ ⊢;have hD:H s.heap.objs.size=none:=I2.hok.fresh (Xm _);obtain⟨W,⟨m0,w0⟩,turn⟩:=q s.heap.objs.size hD
 have I3:Inv X pins Y (upd H s.heap.objs.size (.lst [])) {s with heap:=s.heap.push {cls:=.type "list",dict:=none,data:=.seq ([]:List Value).toArray} }:=
  I2.laid (t':=s.toks) (λb o e=>Xd _ e) (Xm _) (show ObjOk X.prog X.w _ _ _ (.lst [])from⟨Vq _,[],_,.nil,X0 _ rfl⟩)
 have lt2:∀b∈fp,b<s.heap.objs.size:=λb hb=>by
  obtain⟨o,e,_⟩:=T.obj 0 _ st2 b hb;exact Xk e
 have f3:∀b∈fp,Jh X pins (upd H s.heap.objs.size (.lst [])) b:=λb hb=>⟨by rw[Qe (X4 (lt2 b hb))];exact(f2 b hb).1,(f2 b hb).2⟩
 have lt3:∀b∈fp,b<(s.heap.push {cls:=.type "list",dict:=none,data:=.seq ([]:List Value).toArray}).objs.size:=λb hb=>by
  rw[W5];exact Nat.lt_succ_of_lt (lt2 b hb)
 generalize hs3:({s with heap:=s.heap.push {cls:=.type "list",dict:=none,data:=.seq ([]:List Value).toArray} }:Shared)=s3 at I3
 have e3:s3.heap=s.heap.push {cls:=.type "list",dict:=none,data:=.seq ([]:List Value).toArray}:=by rw[<-hs3]
 rw[<-e3]at hns₁ hsb₁ lt3 ⊢;have kp:∀b o,s3.heap.get? b=some o->h₁.get? b=some o:=λb o e=>hsb₁.extBut b o (X4 (Xk e)) (Xd _ e);have IB:=I3.block (tk:=s.toks+([]:List (Str×Value)).length) k f3 lt3 hns₁ kp
 have es:({s3 with heap:=h₁,toks:=s.toks+([]:List (Str×Value)).length}:Shared)={s with heap:=h₁,toks:=s.toks+([]:List (Str×Value)).length}:=by rw[<-hs3]
 rw[es]at IB;generalize hX:X.block xs scope s3.heap.objs.size s3 (upd H s.heap.objs.size (.lst [])) fp=Yyy at IB;have HE:PE (Yyy.wish (QcD E2 Yyy)) elt te:=hX▸he _ _ _ _;have out:∀{v:Value} {s':Shared},QcD E2 Yyy v s'->notedBy (model X.prog X.w) X.A Yyy.env (λv s'=>RR (.ref s.heap.objs.size) s3.heap.objs.size (.error v) s') v s':=λ{v s'} z=>Xj (Qed hX hx fr I3 rfl f3 z) (λt s'' q=>hRE _ _ _ s'' q) λt s'' q=>hRE _ _ _ s'' q;have HT:PTO Yyy tl tt:=hX▸ht _ _ _ _;have HG:PG Yyy tg g:=hX▸hg _ _ _ _
 have hP:Yyy.prog=X.prog:=by rw[<-hX];rfl
 have hw:Yyy.w=X.w:=by rw[<-hX];rfl
 have hK:Yyy.K=X.K:=by rw[<-hX];rfl
 have hA:Yyy.A=X.A:=by rw[<-hX];rfl
 have hcY:Yyy.calm=true:=by rw[<-hX];exact hc
 have hxe:Yyy.xe=λt t=>False:=by rw[<-hX];rfl
 have henv:Yyy.env=compEnvC scope (Qbt X.env.cells scope.names []) s3.heap.objs.size X.env:=by rw[<-hX];rfl
 have fpY:∀{H':Hp},(∀b∈fp,H' b=none)->∀b∈fp,Jh Yyy [] H' b:=λhn b hb=>by
  have hb1:=(f2 b hb).2;rw[<-hX]
  refine⟨hn b hb,?_,λz=>?_,.inl hb,λy c e=>hb1.2.2.2.1 y c (Zd e),(λp hp=>by cases hp)⟩
  ·exact X4 (lt3 b hb)
  ·rcases Xo.mp (I3.stkSub b z)with e|e
   ·exact hb1.1 e
   ·exact hb1.2.1 e
 have back:∀{Y':St} {H':Hp} {s':Shared},Inv Yyy [] Y' H' s'->Inv X pins Y H' s'/\(∃m,s'.heap.Ns s3.heap.objs.size m)/\Jh X pins H' s3.heap.objs.size:=λ{Y' H' s'} J'=>by
  have u:=J'.base;have os:=J'.os;have hok:=J'.hok;have bare:=J'.bare;obtain⟨mm,hnn,_⟩:=J'.loc;have fr:=J'.free;rw[henv]at hnn fr;rw[<-hX]at u os hok;refine⟨I3.call' os u hok bare λb hb=>?_,⟨mm,hnn⟩,I3.fpOk (Xm _) fr⟩;exact⟨(f2 b hb).2.2.2.1,(f2 b hb).2.1,(f2 b hb).2.2.2.2.1,(f2 b hb).2.2.2.2.2⟩
 have loop:∀s₃:Shared,Inv Yyy [] (Y++List.replicate xs.length none) (upd H s.heap.objs.size (.lst [])) s₃->tn 0 s₃.heap ->
   codeAny (model X.prog X.w) X.A (.compLoop (.ListComp elt [⟨tg,iter,tl.toList,0⟩] scope pos) 0 (.ref it) (.ref s.heap.objs.size) Yyy.env) (RR (.ref s.heap.objs.size) s3.heap.objs.size) s₃:=by
  intro s₃ J3 t3
  refine Y8 (λm s'=>∃i os H' ys,os.length=n/\Inv Yyy [] (Y++os) H' s'/\tn i s'.heap/\(∀b∈fp,H' b=none)/\W i m ys H') ?_ m0 ⟨0,_,_,[],by rw[Tn];exact hn,J3,t3,λb hb=>(f3 b hb).1,w0⟩
  rintro m s4 ⟨i,os,H4,ys,lo,J4,st4,fr4,w4⟩;obtain⟨hDl,tr⟩:=turn i m ys H4 w4
  rcases tr with⟨stop,qn⟩|⟨go,hz,step⟩
  ·have dn:=T.done Yyy hP hw hK hcY i [] s4 (Y++os) H4 (notedBy (model X.prog X.w) X.A Yyy.env λe s'=>RR (.ref s.heap.objs.size) s3.heap.objs.size (.error e) s') J4 (fpY fr4) st4 stop;rw[hA]at dn;refine thn dn λr s5 j=>?_;obtain⟨hr,J5⟩:=j;subst hr;obtain⟨I5,⟨m5,n5⟩,f5⟩:=back J5;exact hRR _ _ _ _ _ I5 n5 f5 qn
  ·have im:=T.item Yyy hP hw hK hcY i [] s4 (Y++os) H4 (notedBy (model X.prog X.w) X.A Yyy.env λe s'=>RR (.ref s.heap.objs.size) s3.heap.objs.size (.error e) s') J4 (fpY fr4) st4 go;rw[hA]at im;refine thn im λr s5 f=>?_;obtain⟨u,hr,h5⟩:=f;subst hr;refine thn h5 λt s6 a=>?_;obtain⟨v,H6,J6,rv,y6,st6,fr6⟩:=a;have J6':=J6.pinned (fpY fr6) (T.obj _ _ st6)
   have noE:∀{EE:Value->Shared->Prop},∀e s',Yyy.xe e s'->EE e s':=λ{EE} e s' z=>by rw[hxe]at z;exact z.elim
   have asg:=HG _ s6 (Y++os) H6 v u _ J6' rv (step v H6 os lo y6);rw[hP,hw,hA]at asg;refine Xj asg (λt s7 Z=>?_) noE;obtain⟨σ7,H7,J7,⟨os',lo',e7⟩,q7⟩:=Z;subst e7
   have fin:∀{s9:Shared} {H9:Hp} {m':Nat} {zs:List V},Inv Yyy ([]++ZV fp s6.heap) (Y++os') H9 s9->m'<m->W (i+1) m' zs H9->∃m',m'<m/\∃i os H' ys,os.length=n/\Inv Yyy [] (Y++os) H' s9/\tn i s9.heap/\(∀b∈fp,H' b=none)/\W i m' ys H':=λ{s9 H9 m' zs} J9 hm' w9=>by
    refine⟨m',hm',i+1,os',H9,zs,lo',J9.unpinned,T.keep _ _ _ st6 λb hb ob e=>(J9.pin (b,ob) (Xq _ (Xq _ (QU hb e)))).1,λb hb=>?_,w9⟩;obtain⟨ob,e,d⟩:=T.obj _ _ st6 b hb;exact(J9.pin (b,ob) (Xq _ (Xq _ (QU hb e)))).2.1
   have tst:wpAny (model X.prog X.w) X.A (forIn tl.toList true λc r=>if r=true then do let ok <-isTrue c Yyy.env (eval c Yyy.env);pure (ForInStep.yield ok)else pure (ForInStep.yield r)) (TP Yyy ([]++ZV fp s6.heap) (Y++os') λb H5=>if b=true then te (Y++os') H5 λy H6=>H6 s.heap.objs.size=some (.lst ys)/\∃m',m'<m/\W (i+1) m' (ys++[y]) (upd H6 s.heap.objs.size (.lst (ys++[y])))else ∃m',m'<m/\W (i+1) m' ys H5) (notedBy (model X.prog X.w) X.A Yyy.env λe s'=>RR (.ref s.heap.objs.size) s3.heap.objs.size (.error e) s') s7:=by
    refine Qbz ?_
    cases tl with
    |none=>exact⟨H7,J7,HT _ _ _ q7⟩
    |some c=>
     have z:=(show PT Yyy c tt from HT) _ s7 _ _ _ J7 q7;rw[hP,hw,hA]at z;exact Xj z (λt t h=>h) noE
   refine Xj tst (λb s8 U=>?_) λt t e=>e;obtain⟨H8,J8,q8⟩:=U
   cases b with
   |false=>
    rw[if_neg Xi]at q8 ⊢;obtain⟨m',hm',w8⟩:=q8;exact fin J8 hm' w8
   |true=>
    rw[if_pos rfl]at q8 ⊢;have ev:wpAny (model Yyy.prog Yyy.w) Yyy.A (eval elt Yyy.env) _ (QcD E2 Yyy) s8:=HE _ s8 _ _ _ (J8.wish _) q8;rw[hP,hw,hA]at ev;refine Xj ev (λy s8 S=>?_) λt t z=>out z;obtain⟨yv,H8,J8,ry,hD8,m',hm',w8⟩:=S;have J8:=J8.unwish;have ap:=YY (X:=Yyy) _ s8 _ H8 (.ref s.heap.objs.size) [yv] (.ref s.heap.objs.size) [y] (λt H'=>H'=upd H8 s.heap.objs.size (.lst (ys++[yv]))) J8 rfl (.cons ry .nil) ⟨_,ys,yv,rfl,rfl,hD8,hz,rfl⟩;rw[hP,hw,hA]at ap;refine Xj ap (λt s9 R=>?_) noE;obtain⟨_,H9,J9,_,e9⟩:=R;subst e9;exact fin J9 hm' w8
 have t1:tn 0 h₁:=T.keep 0 _ _ st2 λb hb o e=>kp b o (by rw[e3];exact Xd _ e)
 have go:=loop _ IB t1;rw[henv]at go;refine⟨rfl,codeAny_compStart_list ?_ ?_⟩
 ·exact go
 ·exact T.self X.A 0 _ _ _ t1 go
def QbP{wi:TI}(hx:Qel X E2)(fr:∃c l L,X.stack=c::l/\c.frame=some L/\X.env.frame=some L)(hc:X.calm=true)(k:CompOk X xs scope)(hi:PI X tg iter wi)(hn:xs.length=n)(hg:∀C s H fp,PG (X.block xs scope C s H fp) tg g)(ht:∀C s H fp,PTO (X.block xs scope C s H fp) tl tt)(he:∀C s H fp,PE ((X.block xs scope C s H fp).wish (QcD E2 (X.block xs scope C s H fp))) elt te)
  (hs:∀v,foldedSetIterable iter X.env v=pure v):PE X (.ListComp elt [⟨tg,iter,tl.toList,0⟩] scope pos) (Qah wi n g tt te):=by
 intro pins s Y H Q I h;rw[eval_ListComp];refine Jz (use:=none) rfl hs (ZQ λy hy hf=>I.ok.has y.1 ((k.all y hy).2.2 hf)) k.kind (λy hy hl=>((k.all y hy).1 hl).2) ?_;refine thn (hi pins s Y H _ I h) λv s1 h1=>thn h1 λitv s2 h2=>?_;obtain⟨it,fp,tn,J,H2,e,I2,T,st2,f2,q⟩:=h2;subst e;refine Y6 (RR:=λacc C=>cpX (model X.prog X.w) X.A X.env X.xe none (EP X pins Y Q) acc C) hx fr hc k hn hg ht he I2 T st2 f2 q (λx x x x z=>z) ?_;intro D C s' H' m I' n' f' q';refine⟨m,n',λh' sb=>?_⟩;exact⟨.ref D,H',I'.turned (t':=s'.toks) (λb o hb e=>sb.extBut b o hb e) f'.1 f'.2.1 f'.2.2.2.1 f'.2.2.2.2.1 f'.2.2.2.2.2,rfl,q'⟩
def QeP{py spos:Pos}{wi:TI}{y:Str}{j:Nat}(hx:Qel X E2)(fr:∃c l L,X.stack=c::l/\c.frame=some L/\X.env.frame=some L)(hc:X.calm=true)(hN:X.N.Nodup)(k:CompOk X xs scope)(hi:PI X tg iter wi)(hn:xs.length=n)(hg:∀C s H fp,PG (X.block xs scope C s H fp) tg g)(ht:∀C s H fp,PTO (X.block xs scope C s H fp) tl tt)(he:∀C s H fp,PE ((X.block xs scope C s H fp).wish (QcD E2 (X.block xs scope C s H fp))) elt te)
  (hs:∀v,foldedSetIterable iter X.env v=pure v) (hj:X.N[j]?=some y) (hy:Loc X.env.scope y) (hfn:X.fn y=true\/X.env.scope.names.lookup y=some .local):
  PS X (.Assign [.Name y py] (.ListComp elt [⟨tg,iter,tl.toList,0⟩] scope pos) spos) (λD Y H=>Qah wi n g tt te Y H λv H1=>D.nx (Y.set j (some v)) H1):=by
 have hsw:∃b,swapsWith (.ListComp elt [⟨tg,iter,tl.toList,0⟩] scope pos) (some (.Name y py)) spos.line X.env=pure b:=⟨_,rfl⟩;obtain⟨b,hsw⟩:=hsw
 cases b with
 |false=>exact Jn hN hj hy (QbP hx fr hc k hi hn hg ht he hs) hsw hfn
 |true=>
  intro pins s Y H D I h;rw[exec_Assign_Name_used _ _ _ _ hsw];refine Xa (V8 (Xa ?_))
  show wpAny _ _ (do let _ <-comprehension (.ListComp elt [⟨tg,iter,tl.toList,0⟩] scope pos) scope X.env _ (newList []) false (eval iter X.env) (some (assign (.Name y py) X.env))) _ _ s
  refine Xa (Xj (Jz (use:=some (assign (.Name y py) X.env)) (Q:=λx s'=>SP X pins D .next s') rfl hs (ZQ λy hy hf=>I.ok.has y.1 ((k.all y hy).2.2 hf)) k.kind (λy hy hl=>((k.all y hy).1 hl).2) ?_)
   (λx s' hq=>Xl (Xl hq)) λx x e=>e)
  refine thn (hi pins s Y H _ I h) λv s1 h1=>thn h1 λitv s2 h2=>?_;obtain⟨it,fp,tn,J,H2,e,I2,T,st2,f2,q⟩:=h2;subst e;refine Y6 (Q:=λv H1=>D.nx (Y.set j (some v)) H1) (RR:=λacc C=>cpX (model X.prog X.w) X.A X.env X.xe (some (assign (.Name y py) X.env)) (λx s'=>SP X pins D .next s') acc C) hx fr hc k hn hg ht he I2 T st2 f2 q (λx x x x z=>z) ?_;intro Da C s' H' m I' n' f' q';obtain⟨o,es,ep,ho,hd,r⟩:=id n'
  have Ip:Inv X (pins++ZV [C] s'.heap) Y H' s':=I'.pinned (λb hb=>by
   have e:b=C:=by simpa using hb
   subst e
   exact f') λb hb=>by
    have e:b=C:=by simpa using hb
    subst e
    exact⟨o,ho,λv z=>by rw[hd]at z;cases z⟩
  refine thn (Yp (i:=j) hN hj hy hfn _ s' Y H' (.ref Da) (.ref Da) _ Ip rfl q') λx s'' u=>?_;obtain⟨σ2,H2',J2,q2⟩:=u
  have pc:=J2.pin (C,o) (Xq _ (Xq _ (QU (by simp) ho)))
  refine⟨m,⟨o,es,ep,pc.1,hd,r⟩,λh' sb=>?_⟩;exact⟨σ2,H2',J2.unpinned.turned (t':=s''.toks) (λb ob hb e=>sb.extBut b ob hb e) pc.2.1 f'.2.1 f'.2.2.2.1 f'.2.2.2.2.1 f'.2.2.2.2.2,q2⟩
end
end L2
namespace L2
open PySem PySem.Spec PyProof.Rows
end L2
namespace Iv
open PySem PySem.Spec PyProof.Rows L2
section
variable {D:Addr}{a':E}{a it tg:Expr}{J:It}{d:Nat}{p q:Pos}{w:Wk}
section
variable {X:Cx}{T:Tbl}{A:Adr}{cf:Cf}{m k:Nat}{α:List Addr}{hs:Hs}{H:Hp}{u:U}{v:V}{Z:Rho}{Y:St}
def WJ(A:Adr)(K:W.Frag)(α:List Addr)(J:It)(H:Hp):Wk->Prop
 |.seqL u=>∃a,RU A α u (.ref a)/\J=Itl K a
 |.seqT u=>∃a,RU A α u (.ref a)/\J=Itt K a
 |.rng lo n=>J=Itr lo n
 |.zipB p q x y=>∃a b,RU A α x (.ref a)/\RU A α y (.ref b)/\J=Itz p q K a b
 |.revL _ _=>False
 |.rngC _ _ _=>False
 |.enmL _=>False
 |.strW x=>J=Its ⟨x.toArray⟩
 |.keyD _=>False
theorem WJ.mono{K:W.Frag}{α':List Addr}{H':Hp}(p:∀(n:Nat) a,α[n]?=some a->α'[n]?=some a)(f:∀b o u,H b=some (.frz o u)->H' b=some (.frz o u))(h:WJ A K α J H w):WJ A K α' J H' w:=by
 cases w with
 |seqL u=>obtain⟨a,r,e⟩:=h;exact⟨a,r.mono p,e⟩
 |seqT u=>obtain⟨a,r,e⟩:=h;exact⟨a,r.mono p,e⟩
 |rng lo n=>exact h
 |zipB b c x y=>obtain⟨a,b,r,r',e⟩:=h;exact⟨a,b,r.mono p,r'.mono p,e⟩
 |revL u n=>exact False.elim h
 |rngC lo c n=>exact False.elim h
 |enmL u=>exact False.elim h
 |strW x=>exact h
 |keyD n=>exact False.elim h
noncomputable def gT(K:W.Frag):Tg->TG
 |.name i=>Qbl i
 |.pair i j=>QnJ K 2 (QhZ (Qbl i) (QhZ (Qbl j) QnK))
def Jm{b:Bool}{xs:List U}(tx:Txt T A X.K X.mg)(R:Rep T A X.K α hs H)(h:sqU T b u hs=some xs)(r:RU A α u v):∃a vs,v=.ref a/\RUs A α xs vs/\SqB b X.K H a vs:=by
 cases b with
 |true=>exact Zo tx R h r
 |false=>exact YO tx R h r
def QbY{i:Nat}(tx:Txt T A X.K X.mg)(R:Rep T A X.K α hs H)(W:WJ A X.K α J H w)(h:itm T w i hs=some none):J.stop i H:=by
 cases w with
 |seqL u=>
  obtain⟨a,r,rfl⟩:=W;simp only[itm,Xc,Tf]at h;obtain⟨xs,e,h⟩:=h;obtain⟨a',vs,ea,rr,q⟩:=Zo tx R e r;cases ea
  exact⟨vs,q,by rw[<-rr.length];exact Vv.mp h⟩
 |seqT u=>
  obtain⟨a,r,rfl⟩:=W;simp only[itm,Xc,Tf]at h;obtain⟨xs,e,h⟩:=h;obtain⟨a',vs,ea,rr,q⟩:=YO tx R e r;cases ea
  exact⟨vs,q,by rw[<-rr.length];exact Vv.mp h⟩
 |rng lo n=>
  cases(show J=_ from W);simp only[itm,Wy]at h;split at h
  ·cases h
  ·rename_i l;show n<=i;omega
 |zipB p q x y=>
  obtain⟨a,b,r1,r2,rfl⟩:=W;simp only[itm]at h;split at h
  case h_2=>cases h
  rename_i xs ys e1 e2;obtain⟨a',vs,ea,rr,q⟩:=Jm tx R e1 r1;cases ea;obtain⟨b',ws,eb,rr',q'⟩:=Jm tx R e2 r2;cases eb;refine⟨vs,ws,q,q',?_⟩;unfold two at h;rw[<-rr.length,<-rr'.length];by_cases l1:i<xs.length
  ·by_cases l2:i<ys.length
   ·rw[Xn l1,Xn l2]at h;cases h
   ·exact .inr (by omega)
  ·exact .inl (by omega)
 |revL u n=>exact False.elim W
 |rngC lo c n=>exact False.elim W
 |enmL u=>exact False.elim W
 |strW x=>
  cases(show J=_ from W);simp only[itm,Wy,Tf]at h;show(x.toArray).size<=i;rw[Xv];exact Vv.mp h
 |keyD n=>exact False.elim W
def YR{t:Tg}{ρ':Rho}{Q:St->Hp->Prop}(R:Rep T A X.K α hs H)(rs:RS A α Z Y)(r:RU A α u v)(h:tgt t (.one u) Z hs=some ρ')(k:∀σ2,RS A α ρ' σ2->Q σ2 H):gT X.K t v Y H Q:=by
 cases t with
 |name i=>cases h;exact k _ (rs.set i r)
 |pair i j=>
  cases u with
  |ref n=>
   obtain⟨a,ha,rfl⟩:=r;simp only[tgt]at h;split at h
   case h_2=>cases h
   rename_i x y e;cases h;obtain⟨vs,q,rr⟩:=R.h.ob n a _ ha e;obtain⟨v1,ws,rfl,r1,rr⟩:=Qn rr;obtain⟨v2,ws,rfl,r2,rr⟩:=Qn rr;cases QA rr;exact⟨a,[v1,v2],rfl,SqT.of q,rfl,v1,[v2],rfl,v2,[],rfl,rfl,k _ ((rs.set i r1).set j r2)⟩
  |_=>simp[tgt]at h
def Jt{i:Nat}{x:Im}{t:Tg}{ρ':Rho}(tx:Txt T A X.K X.mg)(R:Rep T A X.K α hs H)(W:WJ A X.K α J H w)(rs:RS A α Z Y)(h:itm T w i hs=some (some x))(ht:tgt t x Z hs=some ρ'):
  J.go i H/\∀v H' (Q:St->Hp->Prop),J.yld i H v H'->(∀σ2,RS A α ρ' σ2->Rep T A X.K α hs H'->Ext α α H H'->Q σ2 H')->gT X.K t v Y H' Q:=by
 have zip:∀{b c:Bool} {a1 a2:Addr} {xs ys:List U} {vs ws:List V},SqB b X.K H a1 vs->SqB c X.K H a2 ws->RUs A α xs vs->RUs A α ys ws->some (two xs ys i)=some (some x) ->
   (Itz b c X.K a1 a2).go i H/\∀v H' (Q:St->Hp->Prop),(Itz b c X.K a1 a2).yld i H v H'->(∀σ2,RS A α ρ' σ2->Rep T A X.K α hs H'->Ext α α H H'->Q σ2 H')->gT X.K t v Y H' Q:=by
  intro b c a1 a2 xs ys vs ws q1 q2 r1 r2 h;unfold two at h;split at h
  case h_2=>cases h
  rename_i x1 y1 e1 e2;cases h;obtain⟨v1,f1,g1⟩:=r1.get e1;obtain⟨v2,f2,g2⟩:=r2.get e2;refine⟨⟨vs,ws,v1,v2,q1,q2,f1,f2⟩,?_⟩;rintro v H' Q ⟨p,w1,w2,hp,rfl,rfl,k1,k2⟩ k;have n1:w1=v1:=X2 ((k1 vs q1).symm.trans f1);have n2:w2=v2:=X2 ((k2 ws q2).symm.trans f2);subst n1 n2
  have ne:∀b y,H b=some y->b≠p:=λb y e z=>by rw[z,hp]at e;cases e
  have R':Rep T A X.K α hs (upd H p (.tup [w1,w2])):=⟨⟨R.h.len,R.h.nd_keep λb x m e=>by rw[Qe (ne _ _ e)];exact e,λn a o e1 e2=>RO.keep (R.h.ob n a o e1 e2) (λm m e=>e) λm y e m=>by rw[Qe (ne _ _ e)];exact e⟩,R.s.keep λy e m=>by rw[Qe (ne _ _ e)];exact e⟩
  have E':Ext α α H (upd H p (.tup [w1,w2])):=⟨λm m e=>e,λn a e l=>by have:=getElem?_lt e;omega,λb o e m=>by rw[Qe (ne _ _ e)];exact e,λb o kv e=>by rw[Qe (ne _ _ e)];exact e,λb o e=>⟨o,by rw[Qe (ne _ _ e)];exact e,λm=>Iff.rfl⟩⟩
  cases t with
  |name i=>simp[tgt]at ht
  |pair i j=>
   cases ht;exact⟨p,[w1,w2],rfl,SqT.of Ql,rfl,w1,[w2],rfl,w2,[],rfl,rfl,k _ ((rs.set i g1).set j g2) R' E'⟩
 cases w with
 |seqL u=>
  obtain⟨a,r,rfl⟩:=W;simp only[itm,Xc]at h;obtain⟨xs,e,y,h,rfl⟩:=h;obtain⟨a',vs,ea,rr,q⟩:=Zo tx R e r;cases ea;obtain⟨v1,f1,g1⟩:=rr.get h;refine⟨⟨vs,v1,q,f1⟩,?_⟩;rintro v H' Q ⟨rfl,k1⟩ k;have n1:v=v1:=X2 ((k1 vs q).symm.trans f1);subst n1;exact YR R rs g1 ht λσ2 r2=>k σ2 r2 R Ext.refl
 |seqT u=>
  obtain⟨a,r,rfl⟩:=W;simp only[itm,Xc]at h;obtain⟨xs,e,y,h,rfl⟩:=h;obtain⟨a',vs,ea,rr,q⟩:=YO tx R e r;cases ea;obtain⟨v1,f1,g1⟩:=rr.get h;refine⟨⟨vs,v1,q,f1⟩,?_⟩;rintro v H' Q ⟨rfl,k1⟩ k;have n1:v=v1:=X2 ((k1 vs q).symm.trans f1);subst n1;exact YR R rs g1 ht λσ2 r2=>k σ2 r2 R Ext.refl
 |rng lo n=>
  cases(show J=_ from W);simp only[itm,Wy]at h;split at h
  case isFalse=>cases h
  rename_i l;cases h;refine⟨l,?_⟩;rintro v H' Q ⟨rfl,rfl⟩ k;exact YR (u:=.int (lo+i) 0) R rs ⟨_,rfl,Cg.refl _ _⟩ ht λσ2 r2=>k σ2 r2 R Ext.refl
 |zipB p q x1 y1=>
  obtain⟨a,b,r1,r2,rfl⟩:=W;simp only[itm]at h;split at h
  case h_2=>cases h
  rename_i xs ys e1 e2;obtain⟨a',vs,ea,rr,q⟩:=Jm tx R e1 r1;cases ea;obtain⟨b',ws,eb,rr',q'⟩:=Jm tx R e2 r2;cases eb;exact zip q q' rr rr' h
 |revL u n=>exact False.elim W
 |rngC lo c n=>exact False.elim W
 |enmL u=>exact False.elim W
 |strW y=>
  cases(show J=_ from W);simp only[itm,Wy,Xc]at h;obtain⟨c,hc,rfl⟩:=h
  refine⟨by show i<y.toArray.size;rw[Xv];exact(Xf.mp hc).1,?_⟩
  rintro v H' Q ⟨rfl,c',hc',rfl⟩ k
  have e:c'=c:=by
   have:y[i]?=some c':=by simpa using hc'
   rw[hc]at this;exact(X2 this).symm
  subst e;exact YR (u:=.str [c']) R rs rfl ht λσ2 r2=>k σ2 r2 R Ext.refl
 |keyD n=>exact False.elim W
noncomputable def TIW(T:Tbl)(A:Adr)(K:W.Frag)(f:Rho->Hs->Option (Wk×Hs)):L2.TI:=λY H R=>∃α Z hs w hs',RS A α Z Y/\Rep T A K α hs H/\f Z hs=some (w,hs') /\
 ∀α' J H',Ext α α' H H'->Rep T A K α' hs' H'->WJ A K α' J H' w->R J H'
def QfA{t t':L2.TI}(h:PI X tg it t)(i:∀Y H R,t' Y H R->t Y H R):PI X tg it t':=λpins s Y H R I q=>h pins s Y H R I (i Y H R q)
def Qla{t t':L2.TI}(h:PI X tg it t)(h':PI X tg it t'):PI X tg it (λY H R=>t Y H R\/t' Y H R):=λpins s Y H R I q=>q.elim (h pins s Y H R I) (h' pins s Y H R I)
def QjG{ir:E}(tx:Txt T A X.K X.mg)(h:PE X it (Iv.TI T A X.K (ev T cf d ir))):PI X tg it (TIW T A X.K (λZ hs=>Zy T (ev T cf d) Z (.seq ir) hs)):=by
 refine QfA (Qla (Qla (Qhb h) (QjE h)) (QjF h)) ?_;rintro Y H R ⟨α,Z,hs,w,hs',rs,Rp,e,q⟩;simp only[Zy]at e;obtain⟨u,h1,e1,e⟩:=Qb e;simp only[Xc]at e;obtain⟨w',e2,e⟩:=e;cases e;unfold wkS at e2;split at e2
 ·rename_i xs el;cases e2;refine .inl (.inl (TI.run rs Rp e1 λα1 x H1 E1 R1 r1 rs1=>?_));obtain⟨a,vs,rfl,rr,sq⟩:=Zo tx R1 el r1;exact⟨a,rfl,⟨vs,sq⟩,q α1 _ H1 E1 R1 ⟨a,r1,rfl⟩⟩
 ·split at e2
  ·rename_i xs el;cases e2;refine .inl (.inr (TI.run rs Rp e1 λα1 x H1 E1 R1 r1 rs1=>?_));obtain⟨a,vs,rfl,rr,sq⟩:=YO tx R1 el r1;exact⟨a,rfl,⟨vs,sq⟩,q α1 _ H1 E1 R1 ⟨a,r1,rfl⟩⟩
  ·split at e2
   ·cases e2;refine .inr (TI.run rs Rp e1 λα1 x H1 E1 R1 r1 rs1=>?_);exact⟨_,r1,q α1 _ H1 E1 R1 rfl⟩
   ·cases e2
def Qa3{i:Int}(h:Qy (i*4)=true):-(2 ^ 62)<=i/\i<2 ^ 62:=by
 obtain⟨h1,h2⟩:=Zv h;constructor<;>omega
def QjH(hg:Gl X "range")(hm:X.mg "range"=none)(hns:∀x p,a≠.Starred x p)(h:PE X a (Iv.TI T A X.K (ev T cf d a'))):PI X tg (.Call (.Name "range" p) [a] [] q) (TIW T A X.K (λZ hs=>Zy T (ev T cf d) Z (.rng a') hs)):=by
 refine QfA (Qdi hg hm (Zt h Qao (Qf hns)) (Qf hns)) ?_;rintro Y H R ⟨α,Z,hs,w,hs',rs,Rp,e,q⟩;simp only[Zy]at e;obtain⟨u,h1,e1,e⟩:=Qb e;split at e
 case h_2=>cases e
 split at e
 case isFalse=>cases e
 rename_i i c;cases e;refine TI.run rs Rp e1 λα1 x H1 E1 R1 r1 rs1=>?_;obtain⟨j,rfl,cg⟩:=r1;cases cg.exact;obtain⟨b1,b2⟩:=Qa3 c;exact⟨_,rfl,b1,b2,q α1 _ H1 E1 R1 rfl⟩
def Qha{b:Expr}{b':E}(hg:Gl X "range")(hm:X.mg "range"=none)(hna:∀x p,a≠.Starred x p)(hnb:∀x p,b≠.Starred x p)(ha:PE X a (Iv.TI T A X.K (ev T cf d a')))(hb:PE X b (Iv.TI T A X.K (ev T cf d b'))):PI X tg (.Call (.Name "range" p) [a,b] [] q) (TIW T A X.K (λZ hs=>Zy T (ev T cf d) Z (.rng2 a' b') hs)):=by
 have s2:starEach [b] X.env=[(false,eval b X.env)]:=Qf hnb
 have s1:starEach [a,b] X.env=[(false,eval a X.env),(false,eval b X.env)]:=by rw[Qf hna,s2]
 refine QfA (Qdh hg hm (Zt ha (Zt hb Qao (Qf hnb)) (Qf hna)) s1 s2) ?_;rintro Y H R ⟨α,Z,hs,w,hs',rs,Rp,e,q⟩;simp only[Zy]at e;obtain⟨u,h1,e1,e⟩:=Qb e;obtain⟨u2,h2,e2,e⟩:=Qb e;split at e
 case h_2=>cases e
 split at e
 case isFalse=>cases e
 rename_i i j c;cases e;rw[Xe]at c;refine TI.run rs Rp e1 λα1 x H1 E1 R1 r1 rs1=>?_;refine TI.run rs1 R1 e2 λα2 y H2 E2 R2 r2 rs2=>?_;obtain⟨i',rfl,cg⟩:=r1;cases cg.exact;obtain⟨j',rfl,cg⟩:=r2;cases cg.exact;obtain⟨b1,b2⟩:=Qa3 c.1;obtain⟨b3,b4⟩:=Qa3 c.2;exact⟨_,_,rfl,⟨b1,b2,b3,b4⟩,q α2 _ H2 (E1.trans E2 R2.h) R2 rfl⟩
def Qg9{elts:List Expr}{kt:Nat}{pt:Pos}{b:Expr}{b':E}(tx:Txt T A X.K X.mg)(hg:Gl X "zip")(hm:X.mg "zip"=none)(hna:∀x p,a≠.Starred x p)(hnb:∀x p,b≠.Starred x p)(ha:PE X a (Iv.TI T A X.K (ev T cf d a')))(hb:PE X b (Iv.TI T A X.K (ev T cf d b'))):
  PI X (.Tuple elts kt pt) (.Call (.Name "zip" p) [a,b] [] q) (TIW T A X.K (λZ hs=>Zy T (ev T cf d) Z (.zip a' b') hs)):=by
 have s2:starEach [b] X.env=[(false,eval b X.env)]:=Qf hnb
 have s1:starEach [a,b] X.env=[(false,eval a X.env),(false,eval b X.env)]:=by rw[Qf hna,s2]
 have pa:=Zt ha (Zt hb Qao (Qf hnb)) (Qf hna);refine QfA (Qla (Qla (QbN (b:=true) (b':=true) hg hm pa s1 s2) (QbN (b:=true) (b':=false) hg hm pa s1 s2)) (Qla (QbN (b:=false) (b':=true) hg hm pa s1 s2) (QbN (b:=false) (b':=false) hg hm pa s1 s2))) ?_;rintro Y H R ⟨α,Z,hs,w,hs',rs,Rp,e,q⟩;simp only[Zy]at e;obtain⟨u1,h1,e1,e⟩:=Qb e;obtain⟨u2,h2,e2,e⟩:=Qb e;simp only[Xc]at e;obtain⟨w',e3,e⟩:=e;cases e;unfold wkZ at e3;simp only at e3;generalize (Q2 T u1 hs').isSome=p at e3;generalize (Q2 T u2 hs').isSome=p' at e3;split at e3
 case isFalse=>cases e3
 rename_i c;simp only[Xe]at c;obtain⟨xs,l1⟩:=Wz.mp c.1;obtain⟨ys,l2⟩:=Wz.mp c.2;cases e3
 have key:QnH p p' X.K (QgB (Iv.TI T A X.K (ev T cf d a')) (QgB (Iv.TI T A X.K (ev T cf d b')) Qlk)) Y H R:=by
  refine TI.run rs Rp e1 λα1 x H1 E1 R1 r1 rs1=>TI.run rs1 R1 e2 λα2 y H2 E2 R2 r2 rs2=>?_;obtain⟨a,vs,rfl,rr,sq⟩:=Jm tx R2 l1 (r1.mono E2.pre);obtain⟨b,ws,rfl,rr',sq'⟩:=Jm tx R2 l2 r2;exact⟨a,b,rfl,⟨vs,sq⟩,⟨ws,sq'⟩,q α2 _ H2 (E1.trans E2 R2.h) R2 ⟨a,b,r1.mono E2.pre,r2,rfl⟩⟩
 cases p<;>cases p'
 ·exact .inr (.inr key)
 ·exact .inr (.inl key)
 ·exact .inl (.inr key)
 ·exact .inl (.inl key)
def Rep.aside{ho:HO}(R:Rep T A X.K α hs H)(hn:D∉α)(hs':∀o u,H D≠some (.frz o u)):Rep T A X.K α hs (upd H D ho):=
 ⟨⟨R.h.len,R.h.nd_keep λb x hb e=>by rw[Qe (λ(z:b=D)=>hn (z▸hb))];exact e,λn a o e1 e2=>RO.keep (R.h.ob n a o e1 e2) (λv v e=>e) λc y e w=>by
   rcases w with rfl|⟨oz,fs,rfl⟩
   ·have ne:c≠D:=λz=>hn (z▸X7 e1);rw[Qe ne];exact e
   ·rw[Qe (λz=>hs' _ _ (z▸e))];exact e⟩,
  R.s.keep λy e z=>by
   obtain⟨ob,u,rfl⟩:=z;have ne:A.s≠D:=λz=>hs' ob _ (z▸e);rw[Qe ne]
   exact e⟩
def Rep.adopt{us:List U}{ys:List V}(R:Rep T A X.K α hs H)(hn:D∉α)(hD:H D=some (.lst ys))(r:RUs A α us ys):Rep T A X.K (α++[D]) (hs++[.lst us]) H:=by
 refine⟨⟨by simp[R.h.len],Qds R.h.nd hn,λn a o e1 e2=>?_⟩,R.s⟩
 rcases QI e1 with q|⟨q1,q2⟩
 ·rcases QI e2 with z|⟨z,_⟩
  ·exact RO.keep (R.h.ob n a o q z) QH λy y e y=>e
  ·have:=getElem?_lt q;rw[R.h.len]at this;omega
 ·subst q2
  rcases QI e2 with z|⟨_,z⟩
  ·have:=(Xf.mp z).1;rw[<-R.h.len]at this;omega
  ·subst z;exact⟨ys,hD,RUs.mono QH r⟩
def RS.pad{p:Rho}{os:St}(rs:RS A α Z Y)(hl:p.length=os.length)(hp:∀x∈p,x=none):RS A α (Z++p) (Y++os):=by
 refine⟨by simp[rs.len,hl],λi u e=>?_⟩
 by_cases l:i < Z.length
 ·rw[Wg l]at e;obtain⟨v,h1,h2⟩:=rs.val i u e
  exact⟨v,by rw[Wg (Xf.mp h1).1];exact h1,h2⟩
 ·rw[Wi (by omega)]at e
  cases hp _ (X7 e)
noncomputable def nN(b:Bool):Nat:=if b then 2 else 1
def YH(b:Bool):(Qcf b).length=nN b:=by cases b<;>rfl
def Yd(b:Bool):∀x∈Qcf b,x=none:=by cases b<;>simp[Qcf]
def QdG{K:W.Frag}{b:Bool}{os:St}{Q:St->Hp->Prop}(hl:os.length=nN b)(h:gT K (tgN b Y.length) v (Y++os) H Q):
  gT K (tgN b Y.length) v (Y++os) H λσ2 H2=>(∃os':St,os'.length=nN b/\σ2=Y++os')/\Q σ2 H2:=by
 cases b with
 |false=>
  have h:Q ((Y++os).set Y.length (some v)) H:=h
  exact⟨⟨os.set 0 (some v),by simp[hl],by rw[Vt _ _ (Xm _),Ur]⟩,h⟩
 |true=>
  obtain⟨a,xs,rfl,sq,len,v1,r1,rfl,v2,r2,rfl,e,q⟩:=h
  refine⟨a,_,rfl,sq,len,v1,_,rfl,v2,_,rfl,e,⟨(os.set 0 (some v1)).set 1 (some v2),by simp[hl],?_⟩,q⟩
  rw[Vt _ _ (Xm _),Ur,Vt _ _ (Ul _)]
  congr 1
  congr 1
  omega
def QbQ{α4:List Addr}{ho:HO}{H4:Hp}(E4:Ext α α4 H H4)(nD:D∉α)(d3:H D=some ho)(hnt:∀vs,ho≠.tup vs:=by intro _ z;cases z):D∉α4:=λz=>by
 obtain⟨n,hn⟩:=Ud z;by_cases l:n < α.length
 ·have e1:α[n]?=some α[n]:=Xn l;have e2:=E4.pre _ _ e1;rw[hn]at e2;cases e2;exact nD (Uf l)
 ·rcases E4.new n D hn (by omega)with q|⟨vs,q⟩
  ·rw[d3]at q;cases q
  ·rw[d3]at q;exact hnt vs (X2 q)
def QdW{src:Src}{b:Bool}{t:Option E}{el:E}{Y:St}{H:Hp}{Q:VK}(tx:Txt T A X.K X.mg)(hl:Y.length=X.N.length)(h:Iv.TI T A X.K (ev T cf (d+1) (.comp src b t el)) Y H Q):
  Qah (TIW T A X.K (λZ hs=>Zy T (ev T cf d) Z src hs)) (nN b) (gT X.K (tgN b X.N.length)) (TIT T A X.K (Qbo (evT T cf d) t)) (Iv.TI T A X.K (ev T cf d el)) Y H Q:=by
 rw[<-hl];obtain⟨α,Z,hs,u,hs',rs,R,e,q⟩:=h;simp only[ev]at e;obtain⟨w,h1,e1,e⟩:=Qb e;obtain⟨us,h2,e2,e⟩:=Qb e;cases e;refine⟨α,Z,hs,w,h1,rs,R,e1,λα1 J H1 E1 R1 W1 D hD=>?_⟩;have rs1:=rs.mono E1.pre
 refine⟨λi m ys H2=>∃αc hc acc,RS A αc Z Y/\Rep T A X.K αc hc H2/\D∉αc/\H2 D=some (.lst ys)/\RUs A αc acc ys/\Ext α1 αc H1 H2/\WJ A X.K αc J H2 w/\ZU T (ev T cf d) (Qbo (evT T cf d) t) w b el Z m i acc hc=some (us,h2),⟨Zs T w h1,α1,h1,[],rs1,?_,R1.h.notIn hD,Ql,.nil,?_,W1.mono (λs s e=>e) (λb o u e=>by rw[Qe (λz=>by rw[z,hD]at e;cases e)];exact e),e2⟩,?_⟩
 ·exact R1.aside (R1.h.notIn hD) λo u z=>by rw[hD]at z;cases z
 ·exact⟨λs s e=>e,λn a e l=>by have:=getElem?_lt e;omega,λb o e s=>by rw[Qe (λz=>by rw[z,hD]at e;cases e)];exact e,λb o kv e=>by rw[Qe (λz=>by rw[z,hD]at e;cases e)];exact e,λb o e=>⟨o,by rw[Qe (λz=>by rw[z,hD]at e;cases e)];exact e,λs=>Iff.rfl⟩⟩
 rintro i m ys H2 ⟨αc,hc,acc,rsc,Rc,nD,hDl,rr,Ec,Wc,ec⟩;refine⟨hDl,?_⟩
 cases m with
 |zero=>cases ec
 |succ m=>
  simp only[ZU]at ec;split at ec
  ·cases ec
  ·rename_i ei;cases ec;refine .inl ⟨QbY tx Rc Wc ei,?_⟩;have Ra:=Rc.adopt nD hDl rr
   have Ea:Ext α1 (αc++[D]) H1 H2:=⟨λn a e=>QH n a (Ec.pre n a e),λn a e l=>by
    rcases QI e with z|⟨_,z⟩
    ·exact Ec.new n a z l
    ·rw[z];exact .inl hD,Ec.keep,Ec.fz,Ec.tr⟩
   exact q _ _ _ (E1.trans Ea Ra.h) Ra ⟨D,by rw[<-Rc.h.len];exact QY,rfl⟩
  ·rename_i x ei;split at ec
   ·cases ec
   rename_i ρ' et;split at ec
   case isFalse=>cases ec
   rename_i small;obtain⟨c,h3,e3,ec⟩:=Qb ec
   have go:J.go i H2:=(Jt tx Rc Wc (rsc.pad (os:=List.replicate (nN b) none) (by rw[YH];simp) (Yd b)) ei et).1
   refine .inr ⟨go,?_,λv H3 os lo yl=>?_⟩
   ·have:=rr.length;rw[sizeLine_eq];omega
   have rsn:RS A αc (Z++Qcf b) (Y++os):=rsc.pad (by rw[YH,lo]) (Yd b)
   obtain⟨_,stp⟩:=Jt tx Rc Wc rsn ei et;rw[rs.len]at stp;refine QdG lo (stp v H3 _ yl λσ2 rs2 R3 E3=>?_);have d3:H3 D=some (.lst ys):=E3.keep D _ hDl nD;refine TIT.run rs2 R3 e3 λα4 H4 E4 R4 rs4=>?_;have d4:H4 D=some (.lst ys):=E4.keep D _ d3 nD;have nD4:=QbQ E4 nD d3;have Et4:=(Ec.trans E3 R3.h).trans E4 R4.h
   cases c with
   |false=>
    rw[if_neg Xi]at ec ⊢;exact⟨m,W3 _,α4,h3,acc,rsc.mono E4.pre,R4,nD4,d4,RUs.mono E4.pre rr,Et4,Wc.mono E4.pre λb o u e=>E4.fz _ _ _ (E3.fz _ _ _ e),ec⟩
   |true=>
    rw[if_pos rfl]at ec ⊢;obtain⟨u',h5,e5,ec⟩:=Qb ec;refine TI.run rs4 R4 e5 λα5 y H5 E5 R5 r5 rs5=>?_;have d5:H5 D=some (.lst ys):=E5.keep D _ d4 nD4;have nD5:=QbQ E5 nD4 d4
    refine⟨d5,m,W3 _,α5,h5,acc++[u'],(rsc.mono E4.pre).mono E5.pre,R5.aside nD5 (λo u z=>by rw[d5]at z;cases z),nD5,Ql,?_,?_,(Wc.mono (λn a e=>E5.pre n a (E4.pre n a e)) λb o u e=>by rw[Qe (λz=>by rw[z,hDl]at e;cases e)];exact E5.fz _ _ _ (E4.fz _ _ _ (E3.fz _ _ _ e))),ec⟩
    ·exact Paired.snoc (RUs.mono E5.pre (RUs.mono E4.pre rr)) r5
    ·have Et:=Et4.trans E5 R5.h
     exact⟨Et.pre,Et.new,λb o e hb=>by rw[Qe (λz=>by rw[z,hD]at e;cases e)];exact Et.keep b o e hb,λb o kv e=>by rw[Qe (λz=>by rw[z,hD]at e;cases e)];exact Et.fz b o kv e,λb o e=>by
      obtain⟨o',q1,q2⟩:=Et.tr b o e
      exact⟨o',by rw[Qe (λz=>by rw[z,hD]at e;cases e)];exact q1,q2⟩⟩
end
end
section
variable {scope:Scope}
section
variable {X:Cx}{T:Tbl}{A:Adr}{C:Ctx}{cf:Cf}{m k:Nat}
def Qjd{tg it:Expr}{src:Src}{d:Nat}(g:GX T A C X)(S:Snd T A C X cf m)(h:compSrc (m+1) C it=some src)(hz:Qlq src=true->∃elts kt pt,tg=.Tuple elts kt pt):PI X tg it (TIW T A X.K (λZ hs=>Zy T (ev T cf d) Z src hs)):=by
 have seq:∀{it:Expr} {src:Src},(Qd m C it).map Src.seq=some src->PI X tg it (TIW T A X.K (λZ hs=>Zy T (ev T cf d) Z src hs)):=by
  intro it src h;simp only[Xc]at h;obtain⟨ir,hi,rfl⟩:=h;exact QjG g.txt (S.e d it ir hi)
 simp only[compSrc]at h;split at h
 ·rename_i f p args q;split at h
  case isFalse=>cases h
  rename_i hg;split at h
  ·exact seq h
  ·split at h
   ·cases h
   rename_i hx;split at h
   ·rename_i e;subst e;split at h
    ·rename_i a;simp only[Xc]at h;obtain⟨a',ha,rfl⟩:=h;exact QjH (QS g hg) (g.blt _ hx) (Qt ha) (S.e d a a' ha)
    ·rename_i a b;simp only[Xb,Xc]at h;obtain⟨a',ha,b',hb,rfl⟩:=h;exact Qha (QS g hg) (g.blt _ hx) (Qt ha) (Qt hb) (S.e d a a' ha) (S.e d b b' hb)
    ·cases h
   ·split at h
    ·rename_i e;subst e;split at h
     ·rename_i a b;simp only[Xb,Xc]at h;obtain⟨a',ha,b',hb,rfl⟩:=h;obtain⟨elts,kt,pt,rfl⟩:=hz rfl;exact Qg9 g.txt (QS g hg) (g.blt _ hx) (Qt ha) (Qt hb) (S.e d a a' ha) (S.e d b b' hb)
     ·cases h
    ·exact seq h
 ·exact seq h
def Qat{it:Expr}{src:Src}{env:Env}(h:compSrc m C it=some src):∀x,foldedSetIterable it env x=pure x:=by
 intro x
 cases it<;>first|rfl|skip
 cases m with
 |zero=>simp[compSrc]at h
 |succ m=>
  simp only[compSrc,Xc]at h;obtain⟨_,h,_⟩:=h
  cases m<;>first|exact Znn h|simp[Qd]at h
def ZM{xs:List Str}(g:GX T A C X)(h:Y7 C xs scope=true):CompOk X xs scope/\∀C0 s H fp,GX T A (C.inner xs scope) (X.block xs scope C0 s H fp):=by
 unfold Y7 at h;simp only[Xe,Wm,Xs,Vn,Xw]at h;obtain⟨⟨⟨⟨h1,h2⟩,hd⟩,h3⟩,h5⟩:=h
 have nd:(".0":Str)∉X.N:=λz=>by
  rw[g.N]at z;rw[W8.mpr z]at h5;cases h5
 refine⟨⟨h1,λx hx=>(h2 x hx).1,λy hy=>?_,λx hx=>(h2 x hx).2,(List.nodup_append.mp hd).2.1,nd⟩,λC0 s H fp=>?_⟩
 ·have:=h3 y hy;obtain⟨n,kd⟩:=y
  cases kd with
  | «local»=>
   simp only[Xe,U5,Xw,Wm,W8]at this;exact⟨λw=>this,(λz=>nomatch z),λz=>nomatch z⟩
  |cell=>cases this
  |free=>
   simp only[U5,Wm]at this;rw[<-g.sc]at this;exact⟨(λz=>nomatch z),(λz=>nomatch z),λw=>this⟩
  |_=>exact⟨(λz=>nomatch z),(λz=>nomatch z),λz=>nomatch z⟩
 ·refine⟨g.CT,?_,?_,?_,g.calm,h1,rfl,g.gfn,g.gcl,g.gco,g.gtx,g.blt,g.txt,g.tab⟩
  ·show hideN xs X.N++xs=hideN xs C.N++xs;rw[g.N]
  ·show(hideN xs X.N++xs).Nodup;rw[g.N];exact hd
  ·show(relabel scope X.env).names=relN C.names scope.names;rw[QZ g.kind,g.sc]
def JO{tg:Expr}{b:Bool}{xs:List Str}{C0:Addr}{s:Shared}{H:Hp}{fp:List Addr}(g:GX T A C X)(hh:hdC C=false)(k:CompOk X xs scope)(gb:GX T A (C.inner xs scope) (X.block xs scope C0 s H fp))(h:Qly tg b xs):PG (X.block xs scope C0 s H fp) tg (gT X.K (tgN b X.N.length)):=by
 have nm:∀{x:Str} {p:Pos} {i:Nat},x∈xs->(hideN xs X.N++xs)[i]?=some x->PG (X.block xs scope C0 s H fp) (.Name x p) (Qbl i):=λ{x p i} hx hi=>by
  have loc:(X.block xs scope C0 s H fp).env.scope.names.lookup x=some .local:=by
   show(relabel scope X.env).names.lookup x=some .local;rw[QZ g.kind,ZG,k.loc x hx];rfl
  exact Yp gb.nd hi (.inl loc) (.inr loc)
 rcases h with⟨rfl,x,p,rfl,rfl⟩|⟨rfl,x,p,y,q,kt,pt,rfl,rfl⟩
 ·exact nm (by simp) (by rw[<-Yh (xs:=[x])];simp)
 ·refine Qdj (gb.calm hh) (ZO (nm (by simp) (by rw[<-Yh (xs:=[x,y])];simp)) (ZO (nm (by simp) ?_) Qba))
  rw[<-Yh (xs:=[x,y]),Wi (by omega)]
  simp
def CompParts(X:Cx)(elt:Expr)(gens:List Comprehension)(scope:Scope)(t:TE):Prop:=∃tg iter tl xs n wi g tt te,gens=[⟨tg,iter,Option.toList tl,0⟩]/\CompOk X xs scope/\PI X tg iter wi/\xs.length=n/\(∀C s H fp,PG (X.block xs scope C s H fp) tg g)/\(∀C s H fp,PTO (X.block xs scope C s H fp) tl tt)/\(∀C s H fp,PE (X.block xs scope C s H fp) elt te) /\
 (∀v,foldedSetIterable iter X.env v=pure v)/\∀Y H Q,Y.length=X.N.length->t Y H Q->Qah wi n g tt te Y H Q
def CompParts.pe{elt:Expr}{gens:List Comprehension}{pos:Pos}{t:TE}(hc:X.calm=true)(h:CompParts X elt gens scope t):PE X (.ListComp elt gens scope pos) t:=by
 obtain⟨tg,iter,tl,xs,n,wi,gg,tt,te,rfl,ok,hi,hn,hg,ht,he,hf,imp⟩:=h;intro pins s Y H Q I q;exact Qdl hc ok hi hn hg ht he hf pins s Y H Q I (imp Y H Q I.len q)
end
end
section
variable {ir:E}{d:Nat}{p:Pos}
section
variable {X:Cx}{T:Tbl}{A:Adr}{C:Ctx}{cf:Cf}{m k:Nat}
def QcY{b:Expr}(h:Qis b=none):YI b=true:=by
 cases b with
 |Slice lo hi st p=>
  cases st with
  |none=>cases h
  |some e=>
   cases h
 |_=>rfl
def QeG{b:Expr}{lo hi:Option Expr}(h:Qis b=some (.cut lo hi)):∃p,b=.Slice lo hi none p:=by
 cases b with
 |Slice lo' hi' st p=>
  cases st with
  |none=>cases h;exact⟨p,rfl⟩
  |some e=>
   cases h
 |_=>cases h
def QhV{a:Expr}{x:Str}(h:QkB a=.nm x):∃p,a=.Name x p:=by
 unfold QkB at h;split at h
 ·cases h;exact⟨_,rfl⟩
 ·cases h
def Qca{b:Expr}:Qis b≠some .rev:=λh=>by
 unfold Qis at h;split at h
 ·split at h<;>cases h
 ·cases h
def Qa5{a b:Expr}(g:GX T A C X)(hu:X.A.units+1<cLine)(S:Snd T A C X cf m)(h:Qd (m+1) C (.Subscript a b p)=some ir):PE X (.Subscript a b p) (TI T A X.K (ev T cf d ir)):=by
 simp only[Qpo]at h;split at h
 ·rename_i lo hi hb;obtain⟨p2,rfl⟩:=QeG hb;exact QgO S h
 ·rename_i hb;exact absurd hb Qca
 ·cases h
 ·rename_i hb;have hs:=QcY hb;refine Qs λd=>?_;simp only[Xb]at h;obtain⟨b',hb',h⟩:=h
  have gen:((Qd m C a).bind λa'=>some (E.ix a' b'))=some ir->PE X (.Subscript a b p) (TI T A X.K (ev T cf (d+1) ir)):=λh=>by
   simp only[Xb]at h;obtain⟨a',ha,h⟩:=h;cases h;exact QhM hu g.txt (S.e d a a' ha) (S.e d b b' hb') hs
  split at h
  ·rename_i ks vs hh
   exact absurd hh (by cases a<;>simp[QkB])
  ·rename_i x hh;split at h
   ·rename_i k ht;obtain⟨px,rfl⟩:=QhV hh;cases h;unfold Qgx at ht;split at ht
    case isFalse=>cases ht
    rename_i c;simp only[Xe,Xw]at c;split at ht
    case h_2=>cases ht
    rename_i k' hx;split at ht
    ·cases ht;exact Ql4 g (S.e d b b' hb') hs c.1 c.2 hx
    ·cases ht
   ·exact gen h
  ·exact gen h
def hd0{C:Ctx}(h:¬hdC C=true):hdC C=false:=by
 cases q:hdC C with
 |true=>exact absurd q h
 |false=>rfl
def QhH{elt:Expr}{gens:List Comprehension}{scope:Scope}(h:Qd (m+1) C (.ListComp elt gens scope p)=some ir):hdC C=false:=by
 simp only[QnS]at h;split at h
 case h_2=>cases h
 split at h
 case isFalse=>cases h
 rename_i ok;simp only[Xe,Vn]at ok;exact ok.2
def Qcc{f:Expr}{args:List Expr}{kws:List Keyword}(g:GX T A C X)(F:Fc X T A cf k)(hr:hdC C=false->Room (k+1) X.A)(hu:X.A.units+64<cLine)(S:Snd T A C X cf m)(h:Qd (m+1) C (.Call f args kws p)=some ir):PE X (.Call f args kws p) (TI T A X.K (ev T cf d ir)):=by
 refine Qs λd=>?_
 cases kws with
 |cons kw kws=>cases f<;>exact Znn h
 |nil=>
  cases f with
  |Name x px=>
   simp only[Qpm]at h;split at h
   ·cases h
   rename_i hn;have n1:x≠"__debug__":=λz=>hn (.inl z);have n2:x≠"__name__":=λz=>hn (.inr (.inl z))
   have hg:ZT C x=true:=by
    cases q:ZT C x with
    |true=>rfl
    |false=>exact absurd (.inr (.inr q)) hn
   split at h
   ·rename_i i hx;split at h
    ·cases h
    rename_i hh;simp only[Xb]at h;obtain⟨es,ha,h⟩:=h;exact QgS g F ((hr (hd0 hh)).mono (Ul _)) S hg n1 hx ha h
   ·rename_i i hx;split at h
    ·cases h
    rename_i hh;simp only[Xb]at h;obtain⟨es,ha,h⟩:=h;cases h;exact Qjj g F (hr (hd0 hh)) S hg n1 hx ha
   ·cases h
   ·cases h
   ·split at h
    ·cases h
    rename_i hx;split at h
    ·rename_i e;subst e;split at h
     ·rename_i a t pt;split at h
      ·rename_i c;simp only[Xb]at h;obtain⟨a',ha,ty,ht,h⟩:=h;cases h;exact Ql6 g S hg hx c.1 c.2.1 c.2.2 ht ha
      ·cases h
     ·cases h
    ·split at h
     ·cases h
     rename_i hh;have hh:=hd0 hh;split at h
     ·rename_i ra hra;simp only[Xb]at h;obtain⟨es,ha,h⟩:=h;cases h;exact nomatch hra
     ·simp only[Xb]at h;obtain⟨b,hb,es,ha,h⟩:=h;cases h
      exact Qoq g hh (by omega) S hg n1 n2 hb ha
  |Attribute o x pa=>
   simp only[Qpl]at h;split at h
   case isFalse=>cases h
   rename_i c;simp only[Xe,Xw]at c;split at h
   ·rename_i i hx;split at h
    ·cases h
    rename_i hh;simp only[Xb]at h;obtain⟨o',ho,es,ha,h⟩:=h;cases h;exact Qji g F ((hr (hd0 hh)).mono (Ul _)) S c.1.1 c.1.2 c.2 hx ho ha
   ·simp only[Xb]at h;obtain⟨b,hb,o',ho,es,ha,h⟩:=h;cases h
    exact Qop (by omega) g.txt S hb c.1.1 c.1.2 c.2 ho ha
  |_=>exact Znn h
def Qc1(g:GX T A C X)(F:Fc X T A cf k)(hr:hdC C=false->Room (k+1) X.A)(hu:X.A.units+64<cLine)(S:Snd T A C X cf m)(cp:∀d elt gens scope p ir,Qd (m+1) C (.ListComp elt gens scope p)=some ir->CompParts X elt gens scope (TI T A X.K (ev T cf d ir)))(d:Nat)(e:Expr)(ir:E)(h:Qd (m+1) C e=some ir):PE X e (TI T A X.K (ev T cf d ir)):=by
 cases e with
 |Constant c j p=>exact QgR h
 |Name x p=>exact Qjh g h
 |BinOp a o b p=>exact Ql7 S h
 |UnaryOp o a p=>
  cases o with
  |USub=>exact Ql5 S h
  |Not=>exact(Qjg g.txt S h).1
  |_=>exact Znn h
 |BoolOp o vs p=>
  cases vs with
  |nil=>cases o<;>first|exact Znn h|simp[Qd]at h
  |cons a r=>
   cases o with
   |And=>exact(S.an d a r p ir h).2
   |Or=>exact(S.orr d a r p ir h).2
 |Compare a os bs p=>
  match os,bs,h with
  |[o],[b],h=>exact(Qjl g.txt g.tab hu S h).1
  |[o,o'],[b,c],h=>exact(Qc2 g.txt g.tab hu S h).1
  |[],_,h=>exact Znn h
  |[_],[],h=>exact Znn h
  |[_],_::_::_,h=>exact Znn h
  |[_,_],[],h=>exact Znn h
  |[_,_],[_],h=>exact Znn h
  |[_,_],_::_::_::_,h=>exact Znn h
  |_::_::_::_,_,h=>exact Znn h
 |IfExp t a b p=>exact QgP S h
 |Tuple es j p=>exact QgM S h
 |List es p=>exact Qjk S h
 |Subscript a b p=>exact Qa5 g (by omega) S h
 |ListComp elt gens scope p=>exact(cp d elt gens scope p ir h).pe (g.calm (QhH h))
 |Dict ks vs p=>
  cases ks with
  |cons k0 ks=>exact Znn h
  |nil=>
   cases vs with
   |cons v0 vs=>exact Znn h
   |nil=>
    simp only[Qpk]at h;cases h;refine Qs λd=>QT QeT ?_;rintro Y H Q ⟨α,Z,hs,u,hs',rs,R,e,q⟩;simp only[ev]at e;cases e;intro p hp;obtain⟨R',E'⟩:=R.new (o:=.dic []) hp ⟨[],Ql,.nil⟩
    exact q _ _ _ E' R' ⟨p,by rw[<-R.h.len];exact QY,rfl⟩
 |Attribute a f p=>exact Qjm g S h
 |Call f args kws p=>exact Qcc g F hr hu S h
 |_=>exact Znn h
def Q0{e:Expr}(g:GX T A C X)(he:∀whole,isTrue e X.env whole=(do let v <-whole;standAt e.pos;holding [v] (truthy v)))(h:∀d,PE X e (TI T A X.K (ev T cf d ir)))(hir:∀d Z hs,evT T cf (d+1) ir Z hs=bd (ev T cf d ir Z hs) λu h1=>(Zl T u h1).map λb=>(b,h1)):
  PT X e (TIT T A X.K (evT T cf d ir)):=by
 refine JL λd=>?_;refine Qfz (QeM (h d) he) ?_;rintro Y H Q ⟨α,Z,hs,u,hs',rs,R,e,q⟩;rw[hir]at e;obtain⟨u1,h1,e1,e⟩:=Qb e;simp only[Xc]at e;obtain⟨b,e2,e⟩:=e;cases e;exact TI.run rs R e1 λα1 x H1 E1 R1 r1 rs1=>⟨_,QcP g.txt R1 e2 r1,q α1 H1 E1 R1⟩
def QE(h:Qdg ir=true):∀d Z hs,evT T cf (d+1) ir Z hs=bd (ev T cf d ir Z hs) λu h1=>(Zl T u h1).map λb=>(b,h1):=by
 intro d Z hs
 cases ir<;>first|rfl|cases h
def Qjb(g:GX T A C X)(F:Fc X T A cf k)(hr:hdC C=false->Room (k+1) X.A)(hu:X.A.units+64<cLine)(S:Snd T A C X cf m)(cp:∀d elt gens scope p ir,Qd (m+1) C (.ListComp elt gens scope p)=some ir->CompParts X elt gens scope (TI T A X.K (ev T cf d ir)))(d:Nat)(e:Expr)(ir:E)(hne:∀t a b p,e≠.IfExp t a b p)(ok:okT e ir=true)(h:Qd (m+1) C e=some ir):PT X e (TIT T A X.K (evT T cf d ir)):=by
 have all:=λd=>Qc1 g F hr hu S cp d e ir h
 cases e with
 |Constant c j p=>exact Q0 g (λz=>rfl) all (QE ok)
 |Name x p=>exact Q0 g (λz=>rfl) all (QE ok)
 |BinOp a o b p=>exact Q0 g (λz=>rfl) all (QE ok)
 |UnaryOp o a p=>
  cases o with
  |USub=>exact Q0 g (λz=>rfl) all (QE ok)
  |Not=>exact(Qjg g.txt S h).2
  |_=>exact Znn h
 |BoolOp o vs p=>
  cases vs with
  |nil=>cases o<;>first|exact Znn h|simp[Qd]at h
  |cons a r=>
   cases o with
   |And=>exact(S.an d a r p ir h).1.pt
   |Or=>exact(S.orr d a r p ir h).1.pt
 |Compare a os bs p=>
  match os,bs,h with
  |[o],[b],h=>exact(Qjl g.txt g.tab hu S h).2
  |[o,o'],[b,c],h=>exact(Qc2 g.txt g.tab hu S h).2
  |[],_,h=>exact Znn h
  |[_],[],h=>exact Znn h
  |[_],_::_::_,h=>exact Znn h
  |[_,_],[],h=>exact Znn h
  |[_,_],[_],h=>exact Znn h
  |[_,_],_::_::_::_,h=>exact Znn h
  |_::_::_::_,_,h=>exact Znn h
 |IfExp t a b p=>exact absurd rfl (hne t a b p)
 |Tuple es j p=>exact Q0 g (λz=>rfl) all (QE ok)
 |List es p=>exact Q0 g (λz=>rfl) all (QE ok)
 |Subscript a b p=>exact Q0 g (λz=>rfl) all (QE ok)
 |ListComp elt gens scope p=>exact Q0 g (λz=>rfl) all (QE ok)
 |Dict ks vs p=>exact Q0 g (λz=>rfl) all (QE ok)
 |Attribute a f p=>exact Q0 g (λz=>rfl) all (QE ok)
 |Call f args kws p=>exact Q0 g (λz=>rfl) all (QE ok)
 |_=>exact Znn h
def Qol:Snd T A C X cf 0 where
 e:=λd e ir h=>by first|exact Znn h|simp[Qd]at h
 t:=λd e ir h=>by simp[compT]at h
 an:=λd a r p ir h=>by simp[compAnd]at h
 orr:=λd a r p ir h=>by simp[compOr]at h
 a:=λd es irs h=>by simp[compA]at h
 o:=λd e ir h=>by simp[compO]at h
structure Snd2(T:Tbl)(A:Adr)(C:Ctx)(X:Cx)(cf:Cf)(m:Nat):Prop where
 s:Snd T A C X cf m
 w:∀d it src tg,compSrc m C it=some src->(Qlq src=true->∃elts kt pt,tg=.Tuple elts kt pt)->PI X tg it (TIW T A X.K (λZ hs=>Zy T (ev T cf d) Z src hs))
 c:∀d elt gens scope p ir,Qd m C (.ListComp elt gens scope p)=some ir->CompParts X elt gens scope (TI T A X.K (ev T cf d ir))
def Qjy{tl:Option Expr}{t:Option E}{Yyy:Cx}{C':Ctx}(S:Snd T A C' Yyy cf m)(h:compTO (m+1) C' tl=some t):PTO Yyy tl (TIT T A Yyy.K (Qbo (evT T cf d) t)):=by
 cases tl with
 |none=>
  simp only[compTO]at h;cases h;rintro Y H Q ⟨α,Z,hs,u,hs',rs,R,e,q⟩;simp only[Qbo]at e;cases e;exact q α H Ext.refl R
 |some e=>
  simp only[compTO,Xb]at h;obtain⟨e',he,h⟩:=h;cases h;exact(S.t d e e' he).1
def Qa0{tg:Expr}{b:Bool}{xs:List Str}{src:Src}(ht:Qly tg b xs)(ok:Qar src (tgN b 0)=true):Qlq src=true->∃elts kt pt,tg=.Tuple elts kt pt:=by
 intro hp
 rcases ht with⟨rfl,_⟩|⟨rfl,x,p,y,q,k,pt,rfl,_⟩
 ·cases src<;>first|(cases hp;done)|(cases ok;done)
 ·exact⟨_,_,_,rfl⟩
def Jy(g:GX T A C X)(S:Snd2 T A C X cf m)(SB:∀xs scope C0 s H fp,Y7 C xs scope=true->Snd2 T A (C.inner xs scope) (X.block xs scope C0 s H fp) cf m)(ST:∀xs scope C0 s H fp tl t d,Y7 C xs scope=true->compTO m (C.inner xs scope) tl=some t->PTO (X.block xs scope C0 s H fp) tl (TIT T A X.K (Qbo (evT T cf d) t)))(d:Nat)(elt:Expr)(gens:List Comprehension)(scope:Scope)(p:Pos)(ir:E)
  (h:Qd (m+1) C (.ListComp elt gens scope p)=some ir):CompParts X elt gens scope (TI T A X.K (ev T cf d ir)):=by
 simp only[QnS]at h;split at h
 case h_2=>cases h
 rename_i gn hgen;split at h
 case isFalse=>cases h
 rename_i ok;simp only[Xe,Vn]at ok;obtain⟨ok,hh⟩:=ok;simp only[Xb]at h;obtain⟨src,hsrc,h⟩:=h;split at h
 case isFalse=>cases h
 rename_i oks;simp only[Xb]at h;obtain⟨t,ht,el,hel,h⟩:=h;cases h;obtain⟨tg,rfl,htg⟩:=Jv hgen;obtain⟨ck,gb⟩:=ZM g ok
 have hn:gn.xs.length=nN gn.b:=by
  rcases htg with⟨e,x,p,_,e'⟩|⟨e,x,p,y,q,k,pt,_,e'⟩<;>rw[e,e']<;>rfl
 cases d with
 |zero=>
  exact⟨tg,gn.iter,gn.tl,gn.xs,nN gn.b,_,_,TIT T A X.K (Qbo (evT T cf 0) t),TI T A X.K (ev T cf 0 el),rfl,ck,S.w 0 gn.iter src tg hsrc (Qa0 htg oks),hn,(λC0 s H fp=>JO g hh ck (gb C0 s H fp) htg),(λC0 s H fp=>ST _ _ C0 s H fp _ _ 0 ok ht),(λC0 s H fp=>show PE _ elt (TI T A X.K (ev T cf 0 el))from(SB _ scope C0 s H fp ok).s.e 0 elt el hel),Qat hsrc,λY H Q z v=>by obtain⟨_,_,_,_,_,_,_,e,_⟩:=v;exact nomatch e⟩
 |succ d=>
  exact⟨tg,gn.iter,gn.tl,gn.xs,nN gn.b,_,_,TIT T A X.K (Qbo (evT T cf d) t),TI T A X.K (ev T cf d el),rfl,ck,S.w d gn.iter src tg hsrc (Qa0 htg oks),hn,(λC0 s H fp=>JO g hh ck (gb C0 s H fp) htg),(λC0 s H fp=>ST _ _ C0 s H fp _ _ d ok ht),(λC0 s H fp=>show PE _ elt (TI T A X.K (ev T cf d el))from(SB _ scope C0 s H fp ok).s.e d elt el hel),Qat hsrc,λY H Q hl hq=>QdW g.txt hl hq⟩
theorem Qa2:∀(m:Nat) {C:Ctx} {X:Cx},GX T A C X->Fc X T A cf k->(hdC C=false->Room (k+1) X.A)->X.A.units+64<cLine->Snd2 T A C X cf m
 |0,C,X,g,F,hr,hu=>⟨Qol,λd it src tg h=>by simp[compSrc]at h,λd elt gens scope p ir h=>by first|exact Znn h|simp[Qd]at h⟩
 |1,C,X,g,F,hr,hu=>by
  have S0:=Qa2 0 g F hr hu;have S:=S0.s
  have cp:=Jy g S0 (λx scope C0 s H fp ok=>Qa2 0 ((ZM g ok).2 C0 s H fp) ⟨F.ok,F.some,F.df,F.xf,F.hk⟩ hr hu) (λxs scope C0 s H fp tl t d ok h=>by simp[compTO]at h)
  refine⟨⟨Qc1 g F hr hu S cp,λd e ir h=>?_,Qjn S,Qnr S,QfO S,Qjf S⟩,λd it src tg h hz=>Qjd g S h hz,cp⟩;cases e<;>exact Znn h
 |m+2,C,X,g,F,hr,hu=>by
  have S1:=Qa2 (m+1) g F hr hu;have S:=S1.s;have S':=Qa2 m g F hr hu;have cp:=Jy g S1 (λx scope C0 s H fp ok=>Qa2 (m+1) ((ZM g ok).2 C0 s H fp) ⟨F.ok,F.some,F.df,F.xf,F.hk⟩ hr hu) (λxs scope C0 s H fp tl t d ok h=>Qjy (Qa2 m ((ZM g ok).2 C0 s H fp) ⟨F.ok,F.some,F.df,F.xf,F.hk⟩ hr hu).s h);refine⟨⟨Qc1 g F hr hu S cp,λd e ir h=>?_,Qjn S,Qnr S,QfO S,Qjf S⟩,λd it src tg h hz=>Qjd g S h hz,cp⟩
  have hne:∀t a b p,e≠.IfExp t a b p:=by
   rintro t a b p rfl;simp[compT]at h
  have h':((Qd (m+1) C e).bind λir=>if okT e ir=true then some ir else none)=some ir:=by
   cases e<;>first|exact h|(simp[compT]at h;done)
  simp only[Xb]at h';obtain⟨ir',he,h'⟩:=h';split at h'
  ·rename_i ok;cases h';exact⟨Qjb g F hr hu S'.s S1.c d e ir hne ok he,S.e d e ir he⟩
  ·cases h'
end
end
section
variable {ir:E}{env:Env}{e:Expr}{α:List Addr}{ts:List Expr}{d l:Nat}{p:Pos}{st:Stmt}{f x:Str}{t:Tg}{v:Value}
section
variable {X:Cx}{T:Tbl}{A:Adr}{C:Ctx}{cf:Cf}{m k:Nat}
def ZE{t:TS}(h:∀D Y H,¬t D Y H):PS X st t:=λz z Y H D z q=>(h D Y H q).elim
def ZR{st:List Stmt}{t:TS}(h:∀D Y H,¬t D Y H):PSs X st t:=λz z Y H D z q=>(h D Y H q).elim
def QbT{tg:Option Expr}(h:Qd m C e=some ir)(hn:∀elt gens scope p,e≠.ListComp elt gens scope p):swapsWith e tg l env=pure false:=by
 cases e<;>first|rfl|exact absurd rfl (hn _ _ _ _)|(cases m<;>exact Znn h)
def Qhx{o:Expr}(h:Qd m C e=some ir):swapsWith e (some (.Attribute o f p)) l env=pure false:=by
 cases e<;>first|rfl|(cases m<;>exact Znn h)
def Qnq{tg:Expr}(hc:X.calm=true)(g:GX T A C X)(fl:∀x,X.fn x=true\/X.env.scope.names.lookup x=some .local)(h:Yy C tg=some t):PG X tg (gT X.K t):=by
 have nm:∀{x:Str} {p:Pos} {i:Nat},QaC C x=true->idx x C.N=some i->PG X (.Name x p) (Qbl i):=λ{x p i} h1 h2=>Yp g.nd (by rw[g.N];exact Q3 h2) (Qaw g h1) (fl x)
 unfold Yy at h;split at h
 ·split at h
  ·rename_i hl;simp only[Xc]at h;obtain⟨i,hi,rfl⟩:=h;exact nm hl hi
  ·cases h
 ·split at h
  ·rename_i c;simp only[Xe]at c;simp only[Xb,Xc]at h;obtain⟨i,hi,j,hj,rfl⟩:=h;exact Qdj hc (ZO (nm c.1.1 hi) (ZO (nm c.1.2 hj) Qba))
  ·cases h
 ·cases h
def Qhw{es:List Expr}{kt:Nat}(h:Qd m C e=some ir):swapsWithSole [.Tuple es kt p] e l env=pure false:=by
 cases e<;>first|rfl|(cases m<;>exact Znn h)
def Qas{es:List Expr}{kt:Nat}(h:Qf4 e=true):swappedStores [.Tuple es kt p] e env=pure none:=by
 cases e<;>first|rfl|cases h
def Qfm(h:QmQ e=some true):∃x j q,e=.Constant (.str x) j q:=by
 cases e with
 |Constant c j q=>cases c<;>first|exact⟨_,_,_,rfl⟩|cases h
 |_=>cases h
def J1{a:As}(h:Qgk ts=some a):∃t,ts=[t]/\as1 t=some a:=by
 match ts,h with
 |[t],h=>exact⟨t,rfl,h⟩
def Qbw(h:Qgk ts=some (.nm x)):∃p,ts=[.Name x p]:=by
 obtain⟨t,rfl,h'⟩:=J1 h;clear h;have h:=h';clear h';unfold as1 at h;split at h
 ·cases h;exact⟨_,rfl⟩
 ·cases h
 ·cases h
 ·split at h
  ·unfold Qer at h;split at h<;>cases h
  all_goals cases h
 ·cases h
def Qil{o:Expr}(h:Qgk ts=some (.at o f)):∃p,ts=[.Attribute o f p]:=by
 obtain⟨t,rfl,h'⟩:=J1 h;clear h;have h:=h';clear h';unfold as1 at h;split at h
 ·cases h
 ·cases h;exact⟨_,rfl⟩
 ·cases h
 ·split at h
  ·unfold Qer at h;split at h<;>cases h
  all_goals cases h
 ·cases h
def Qfy{y:Str}{q:Pos}(h:Qgk ts=some (.two x p y q)):∃kt pt,ts=[.Tuple [.Name x p,.Name y q] kt pt]:=by
 obtain⟨t,rfl,h'⟩:=J1 h;clear h;have h:=h';clear h';unfold as1 at h;split at h
 ·cases h
 ·cases h
 ·cases h
 ·split at h
  ·unfold Qer at h;split at h
   ·cases h;exact⟨_,_,rfl⟩
   ·cases h
  all_goals cases h
 ·cases h
def ZJ(h:Yx C x=true):C.names.lookup x=some .local:=by
 unfold Yx at h;split at h
 ·rename_i e;exact e
 ·cases h
def QfL{tg:Expr}{src:Src}(ht:Yy C tg=some t)(ok:Qar src t=true):Qlq src=true->∃elts kt pt,tg=.Tuple elts kt pt:=by
 intro hp
 cases tg with
 |Tuple elts kt pt=>exact⟨_,_,_,rfl⟩
 |Name x p=>
  simp only[Yy]at ht;split at ht
  ·simp only[Xc]at ht;obtain⟨i,_,rfl⟩:=ht
   cases src<;>first|(cases hp;done)|(cases ok;done)
  ·cases ht
 |_=>simp[Yy]at ht
structure SndS(T:Tbl)(A:Adr)(C:Ctx)(X:Cx)(cf:Cf)(m:Nat):Prop where
 s:∀d st ir,QJ m C st=some ir->PS X st (TIS T A X.K (ex T cf d ir))
 ss:∀d sts irs,compSs m C sts=some irs->PSs X sts (TIS T A X.K (exs T cf d irs))
def SndS.sB(SS:SndS T A C X cf m)(d:Nat)(st:Stmt):PS X st (TIS T A X.K (ex T cf d (Qk0 (QJ m C st)))):=by
 cases e:QJ m C st with
 |some ir=>exact SS.s d st ir e
 |none=>exact ZE λD Y H y=>by obtain⟨_,_,_,_,_,_,_,_,z,_⟩:=y;cases d<;>simp[Qk0,ex]at z
def Qmz{K:W.Frag}{ir:S}:∀D Y H,¬TIS T A K (ex T cf 0 ir) D Y H:=λz z z y=>by obtain⟨_,_,_,_,_,_,_,_,h,_⟩:=y;exact nomatch h
def Qdq{K:W.Frag}{irs:List S}:∀D Y H,¬TIS T A K (exs T cf 0 irs) D Y H:=λz z z y=>by obtain⟨_,_,_,_,_,_,_,_,h,_⟩:=y;exact nomatch h
def JM{ir:S}(h:∀d',PS X st (TIS T A X.K (ex T cf (d'+1) ir))):PS X st (TIS T A X.K (ex T cf d ir)):=by
 cases d with
 |zero=>exact ZE Qmz
 |succ d=>exact h d
def TIS.run{K:W.Frag}{Z ρ':Rho}{Y:St}{hs h1:Hs}{H:Hp}{f:Ex}{fl:Fl}{D:Ends}(rs:RS A α Z Y)(rp:Rep T A K α hs H)(h:f Z hs=some (fl,ρ',h1))
  (k:∀α1 σ1 H1,Ext α α1 H H1->Rep T A K α1 h1 H1->RS A α1 ρ' σ1->flE A α1 D σ1 H1 fl):TIS T A K f D Y H:=⟨α,Z,hs,fl,ρ',h1,rs,rp,h,k⟩
def Qfk{body:List S}{w:Wk}{J:It}{K:PySem.W.Frag}{D:Ends}{α0:List Addr}{H0:Hp}{σ0:St}{ρ0 ρ':Rho}{h0 hs':Hs}{fl:Fl}{n:Nat}(hK:K=X.K)(tx:Txt T A X.K X.mg)(rs0:RS A α0 ρ0 σ0)(R0:Rep T A X.K α0 h0 H0)(W0:WJ A X.K α0 J H0 w)
  (e0:Qcs T w t (exs T cf d body) n 0 ρ0 h0=some (fl,ρ',hs'))
  (q:∀α' Y' H',Ext α0 α' H0 H'->Rep T A X.K α' hs' H'->RS A α' ρ' Y'->flE A α' D Y' H' fl):
  ∃W:Nat->Nat->St->Hp->Prop,(∃m,W 0 m σ0 H0)/\∀i m Y H,W i m Y H->(J.stop i H/\D.nx Y H)\/(J.go i H/\∃N:St->Hp->Prop,(∀Y' H',N Y' H'->∃m',m'<m/\W (i+1) m' Y' H') /\
   ∀x H',J.yld i H x H'->gT X.K t x Y H' λσ2 H2=>TIS T A X.K (exs T cf d body) {D with nx:=N,ct:=N,bk:=D.nx} σ2 H2):=by
 refine⟨λi m Y H=>∃α Z hs,RS A α Z Y/\Rep T A X.K α hs H/\Ext α0 α H0 H/\Qcs T w t (exs T cf d body) m i Z hs=some (fl,ρ',hs'),⟨n,α0,ρ0,h0,rs0,R0,Ext.refl,e0⟩,?_⟩;rintro i m Y H ⟨α,Z,hs,rs,R,E,e⟩
 cases m with
 |zero=>cases e
 |succ m=>
  have W:=W0.mono E.pre E.fz;simp only[Qcs]at e;split at e
  ·cases e
  ·rename_i ei;cases e;exact .inl ⟨QbY tx R W ei,q α Y H E R rs⟩
  ·rename_i x ei;split at e
   ·cases e
   ·rename_i ρ1 et;obtain⟨go,yl⟩:=Jt tx R W rs ei et;refine .inr ⟨go,λY' H'=>∃α Z hs,RS A α Z Y'/\Rep T A X.K α hs H'/\Ext α0 α H0 H'/\Qcs T w t (exs T cf d body) m (i+1) Z hs=some (fl,ρ',hs'),λY' H' z=>⟨m,W3 _,z⟩,?_⟩;intro v H' hy;refine yl v H' _ hy λσ2 rs2 R2 E2=>?_;have E02:Ext α0 α H0 H':=E.trans E2 R2.h;split at e
    ·rename_i ρ2 h2 eb;exact TIS.run rs2 R2 eb λα3 σ3 H3 E3 R3 rs3=>⟨α3,ρ2,h2,rs3,R3,E02.trans E3 R3.h,e⟩
    ·rename_i ρ2 h2 eb;exact TIS.run rs2 R2 eb λα3 σ3 H3 E3 R3 rs3=>⟨α3,ρ2,h2,rs3,R3,E02.trans E3 R3.h,e⟩
    ·rename_i ρ2 h2 eb;cases e;exact TIS.run rs2 R2 eb λα3 σ3 H3 E3 R3 rs3=>q α3 σ3 H3 (E02.trans E3 R3.h) R3 rs3
    ·rename_i n1 n2 n3
     cases fl with
     |next=>exact absurd e (n1 _ _)
     |cont=>exact absurd e (n2 _ _)
     |brk=>exact absurd e (n3 _ _)
     |ret u=>exact TIS.run rs2 R2 e λα3 σ3 H3 E3 R3 rs3=>q α3 σ3 H3 (E02.trans E3 R3.h) R3 rs3
theorem RF.put{α:List Addr}{x:Str}{i:Nat}{u:U}{v:V}(hk:T.fns'[i]?=some x)(nd:T.fns'.Nodup)(r:RU A α u v):∀{fs:List (Nat×U)} {fv:List (Str×V)},RF T A α fs fv->RF T A α (QcB i u fs) (JK x v fv)
 |_,_,.nil=>.cons ⟨hk,r⟩ .nil
 |_,_,.cons (a:=p) (b:=q) h t=>by
  obtain⟨pk,pu⟩:=p;obtain⟨qx,qv⟩:=q;simp only[QcB,JK];by_cases e:pk=i
  ·subst e;have e2:qx=x:=X2 (h.1.symm.trans hk);subst e2;rw[if_pos rfl,if_pos rfl];exact .cons ⟨hk,r⟩ t
  ·have n2:¬qx=x:=λz=>by
    subst z;obtain⟨l1,q1⟩:=Xf.mp hk;obtain⟨l2,q2⟩:=Xf.mp h.1;exact e ((List.getElem_inj nd).mp (q2.trans q1.symm))
   rw[if_neg e,if_neg n2];exact .cons h (RF.put hk nd r t)
theorem RF.length{fs:List (Nat×U)}{fv:List (Str×V)}(r:RF T A α fs fv):fs.length=fv.length:=Paired.length r
def Qeu{b:List Stmt}{hs:List ExceptHandler}{o fn:List Stmt}{t:Tr}(h:QcO C b hs o fn=some t):∃f pf a args q1 q2 x px n b0 body ph,b=[.Expr (.Call (.Name f pf) (a::args) [] q1) q2] /\
  hs=[.ExceptHandler (some (.Name x px)) n (b0::body) ph]/\o=[]/\fn=[]/\Qew C n=some t.j/\Qaf C x=some t.c/\Ji C f=some t.f/\t.args=a::args/\t.body=b0::body:=by
 unfold QcO at h;split at h
 ·simp only[Xb]at h;obtain⟨p,hp,c,hc,k,hk,h⟩:=h;cases h;exact⟨_,_,_,_,_,_,_,_,_,_,_,_,rfl,rfl,rfl,rfl,hp,hc,hk,rfl,rfl⟩
 ·cases h
def Qev{n:Str}{j:Option Nat}(h:Qew C (some n)= some j): ∃i,j=some i/\Yx C n=true/\n≠"__debug__"/\idx n C.N=some i:=by
 simp only[Qew]at h;split at h
 ·rename_i c;simp only[Xe,Xw]at c;simp only[Xc]at h;obtain⟨i,hi,h⟩:=h;exact⟨i,h.symm,c.1,c.2,hi⟩
 ·cases h
def JE{c:Nat}(h:Qaf C x=some c): ZT C x=true/\x≠"__debug__"/\C.gl.lookup x=some (.cls c):= by
 unfold Qaf at h;split at h
 ·rename_i q;simp only[Xe,Xw]at q;split at h
  ·rename_i z;cases h;exact⟨q.1,q.2,z⟩
  ·cases h
 ·cases h
def YG{c:Nat}(h:Ji C x=some c): ZT C x=true/\x≠"__debug__"/\C.gl.lookup x=some (.fn c):= by
 unfold Ji at h;split at h
 ·rename_i q;simp only[Xe,Xw]at q;split at h
  ·rename_i z;cases h;exact⟨q.1,q.2,z⟩
  ·cases h
 ·cases h
structure Bd(X:Cx):Prop where
 stk:X.stack=X.env::X.outer
 frm:X.env.frame=some X.env.locals
 ex:X.ex=[]
 cm:X.calm=true
def QaE:hdC (hdX C)=true:=by simp[hdC,hdX]
def Qb4{p:Nat×Expr}(h:Qfx C st=some p):∃y py pos,st=.Assign [.Name y py] p.2 pos/\Yx C y=true/\idx y C.N=some p.1:=by
 cases st with
 |Assign ts e pos=>
  simp only[Qfx]at h;split at h
  ·rename_i y hy;obtain⟨py,rfl⟩:=Qbw hy;split at h
   ·rename_i hl;simp only[Xc]at h;obtain⟨i,hi,rfl⟩:=h;exact⟨y,py,pos,rfl,hl,hi⟩
   ·cases h
  ·cases h
 |_=>cases h
def QdE{t:Nat×List Expr}(h:QnI C e=some t): ∃f pf a args q,e=.Call (.Name f pf) (a::args) [] q/\t.2=a::args/\ZT C f=true/\f≠"__debug__"/\C.gl.lookup f=some (.fn t.1)/\C.T.hfs.contains t.1=true:=by
 cases e with
 |Call g as ks q=>
  cases g with
  |Name f pf=>
   cases as with
   |nil=>cases h
   |cons a r=>
    cases ks with
    |cons _ _=>cases h
    |nil=>
     have h:((Ji C f).bind λk=>if C.T.hfs.contains k&&(C.T.fns[k]?).isSome then some (k,a::r)else none)=some t:=h;rw[Xb]at h;obtain⟨k,hk,h⟩:=h;rw[Xp,Xe]at h;obtain⟨h4,h⟩:=h;cases h;obtain⟨h1,h2,h3⟩:=YG hk;exact⟨f,pf,a,r,q,rfl,rfl,h1,h2,h3,h4.1⟩
  |_=>exact nomatch (show none=some _ from h)
 |_=>exact nomatch (show none=some _ from h)
def Qfg{tg:Option Expr}(h:hcE m C e=some ir):swapsWith e tg l env=pure false:=by
 unfold hcE at h;split at h
 ·rename_i t ht;obtain⟨f,pf,a,args,q,rfl,_⟩:=QdE ht;rfl
 ·refine QbT h λelt gens scope q z=>?_;rw[z]at h
  cases m with
  |zero=>cases h
  |succ m=>
   have:=QhH h;rw[QaE]at this;cases this
def QhW(g:GX T A C X)(hbl:C.bl.contains ("isinstance":Str)=true):GX T A (hdX C) (X.hd v):=⟨g.CT,g.N,g.nd,g.sc,(λz=>by rw[QaE]at z;cases z),g.kind,g.xe,g.gfn,g.gcl,g.gco,g.gtx,(λz hz=>by
 refine g.blt z λw=>hz ?_;by_cases e:z=("isinstance":Str)
 ·rw[e,hbl]at w;cases w
 ·refine Bool.eq_false_iff.mpr λh=>?_
  rcases Xo.mp (W8.mp h)with h|h
  ·exact e h
  ·rw[W8.mpr (Tq.mp h).1]at w
   cases w),g.txt,g.tab⟩
def QgQ{pf q1:Pos}{a:Expr}{args:List Expr}{i:Nat}{es:List E}(gh:GX T A (hdX C) (X.hd v))(F:Fc X T A cf k)(hr:Room k X.A)(S:Snd T A (hdX C) (X.hd v) cf m)(gf:ZT C f=true)(df:f≠"__debug__")(lf:C.gl.lookup f=some (.fn i))(hf:T.hfs.contains i=true)(ha:compA m (hdX C) (a::args)=some es):
  PE (X.hd v) (.Call (.Name f pf) (a::args) [] q1) (TI T A X.K (ev T cf d (.call i es))):=by
 have hns:=Qi ha;have st:starEach (a::args) X.env=(false,eval a X.env)::starEach args X.env:=Qf (hns a (Xh ..));have sa:(backTo q1 (starEach args X.env)).any (·.1)=false:=QG λz hz=>hns z (Xg _ hz);intro pins s Y H Q I q;obtain⟨α,Z,hs0,u,h2,rs,R,e,q⟩:=q
 cases d with
 |zero=>cases e
 |succ d=>
 simp only[ev]at e;obtain⟨us,hh1,e1,e⟩:=Qb e;obtain⟨Fn,hF,l3⟩:=F.some _ _ _ _ e;obtain⟨fd,G,bb,kp⟩:=F.hk i Fn hF hf;refine Wl (QR I (QS gh (show ZT (hdX C) f=true from gf)) (gh.gfn f i lf) ?_ (Qz df));have pa0:=S.a d (a::args) es ha q1 pins s Y H (λvs H1=>∃α1,Ext α α1 H H1/\Rep T A X.K α1 hh1 H1/\RUs A α1 us vs) I ⟨α,Z,hs0,us,hh1,rs,R,e1,λα' vs H' E' R' r'=>⟨α',E',R',r'⟩⟩;refine Up (h₀:=X.base) I.ok.mod.kin kp (Xj pa0 (λus1 s1 ⟨vs,H1,I1,r,α1,E1,R1,ru⟩=>⟨I1.kIn,?_⟩) λy y z=>z) st sa
 have ll:us1.length=Fn.ps.length:=by
  obtain⟨fd',fn',_,_,lp,_⟩:=gh.txt.fn i Fn hF;rw[lp,<-l3,ru.length,r.length]
 have hsp:spC T A X.K cf i vs H1 (λv' H'=>Q v' H') (λy y y=>False):=⟨α1,us,hh1,u,h2,ru,R1,e,⟨Fn,hF,l3⟩,λα' v' H' E' R' r'=>q α' v' H' (E1.trans E' R'.h) R' r'⟩
 refine Uc (V4 (G.run X.A v X.stack s1 H1 ⟨us1,[]⟩ us1 vs _ _ hr (show Env0 X.prog X.w X.K X.mg X.base X.A X.stack s1 H1 from⟨I1.env0.frames,I1.env0.mod,I1.env0.bs,I1.env0.bsz,I1.env0.funs,I1.env0.frf,I1.env0.hok,I1.env0.bare⟩) (by have:=bb s1 us1 I1.kIn (by rw[Wj];exact ll);rw[Wj]at this;exact this) r hsp) λrr s' hq=>?_)
 cases rr with
 |ok fl=>
  cases fl with
  |ret u=>exact I1.after hq
  |next=>exact False.elim hq
  |brk=>exact False.elim hq
  |cont=>exact False.elim hq
 |error ev=>exact False.elim hq
def QkC(gh:GX T A (hdX C) (X.hd v))(F:Fc X T A cf k)(hr:Room k X.A)(S:Snd T A (hdX C) (X.hd v) cf m)(CT:C.T=T)(d:Nat)(e:Expr)(ir:E)(h:hcE m C e=some ir):PE (X.hd v) e (TI T A X.K (ev T cf d ir)):=by
 unfold hcE at h;split at h
 ·rename_i t ht;obtain⟨f,pf,a,args,q,rfl,t2,gf,df,lf,hf⟩:=QdE ht;rw[Xc,t2]at h;obtain⟨es,ha,rfl⟩:=h;exact QgQ gh F hr S gf df lf (CT▸hf) ha
 ·exact S.e d e ir h
theorem Qa4(g:GX T A (hdX C) X)(fl:∀x,X.fn x=true\/X.env.scope.names.lookup x=some .local)(S:∀d e ir,hcE m C e=some ir->PE X e (TI T A X.K (ev T cf d ir))):∀(sts:List Stmt) (d:Nat) (irs:List Iv.S),Qd2 m C sts=some irs->PSs X sts (TIS T A X.K (exs T cf d irs))
 |_,0,_,_=>ZR Qdq
 |[],d+1,irs,h=>by
  cases h
  exact JB Qa7 λD Y H v=>by obtain⟨α,Z,hs,fl,ρ',hs',rs,R,e,q⟩:=v;cases e;exact q α Y H Ext.refl R rs
 |st::r,d+1,irs,h=>by
  simp only[Qd2,Xb]at h;obtain⟨p,hp,e',he,r',hr,h⟩:=h;cases h;obtain⟨y,py,pos,rfl,hl,hi⟩:=Qb4 hp
  have ly:X.env.scope.names.lookup y=some .local:=by rw[g.sc];exact ZJ hl
  have P:∀d,PS X (.Assign [.Name y py] p.2 pos) (TIS T A X.K (ex T cf d (.set p.1 e'))):=λd=>by
   refine JM (λd=>?_) (d:=d)
   refine Zr (Jn (i:=p.1) g.nd (by rw[g.N];exact Q3 hi) (.inl ly) (S d p.2 e' he) (Qfg he) (fl y)) ?_
   rintro D Y H ⟨α,Z,hs,fl,ρ',hs',rs,R,e,q⟩;simp only[ex]at e;obtain⟨u,h1,e1,e⟩:=Qb e;cases e;exact TI.run rs R e1 λα1 x H1 E1 R1 r1 rs1=>q α1 _ H1 E1 R1 (rs1.set p.1 r1)
  refine JB (Yb (P d) (Qa4 g fl S r d r' hr)) ?_;rintro D Y H ⟨α,Z,hs,fl,ρ',hs',rs,R,e,q⟩;simp only[exs]at e;split at e
  ·rename_i ρ1 h1 e1;exact TIS.run rs R e1 λα1 σ1 H1 E1 R1 rs1=>TIS.run rs1 R1 e λα2 σ2 H2 E2 R2 rs2=>q α2 σ2 H2 (E1.trans E2 R2.h) R2 rs2
  ·rename_i n1;exfalso
   cases d with
   |zero=>cases e
   |succ d=>
    simp only[ex]at e n1
    cases z:ev T cf d e' Z hs with
    |none=>rw[z]at e;cases e
    |some w=>rw[z]at n1;exact n1 _ _ rfl
def Qfh{Z:Rho}{Y:St}{j:Nat}(r:RS A α Z Y):RS A α (Z.set j none) (Y.set j none):=by
 refine⟨by simpa using r.len,λk u e=>?_⟩
 have hk:k≠j:=λz=>by
  subst z
  have l:k < Z.length:=(Xf.mp e).1 |> λz=>by simpa using z
  rw[Wh l]at e;cases e
 rw[Xz (Ww hk)]at e;rw[Xz (Ww hk)];exact r.val k u e
def Ql3{b:List Stmt}{hs:List ExceptHandler}{o fn:List Stmt}{t:Tr}{es:List E}{sb:List Iv.S}(bX:Bd X)(g:GX T A C X)(fl:∀x,X.fn x=true\/X.env.scope.names.lookup x=some .local)(F:Fc X T A cf k)(hr:Room k X.A)(S:Snd T A C X cf m)(hbl:C.bl.contains ("isinstance":Str)= true)(ht:QcO C b hs o fn=some t)(ha:compA m C t.args=some es)(hb:Qd2 m C t.body=some sb):
  PS X (.Try b hs o fn p) (TIS T A X.K (ex T cf (d+1) (.tryS t.j t.f es t.c sb))):=by
 obtain⟨f,pf,a,args,q1,q2,x,px,n,b0,body,ph,rfl,rfl,rfl,rfl,t1,t2,t3,t4,t5⟩:=Qeu ht;obtain⟨gx,dx,lx⟩:=JE t2;obtain⟨gf,df,lf⟩:=YG t3;rw[t4]at ha;rw[t5]at hb;have hns:=Qi ha;have st:starEach (a::args) X.env=(false,eval a X.env)::starEach args X.env:=Qf (hns a (Xh ..));have sa:(backTo q1 (starEach args X.env)).any (·.1)=false:=QG λz hz=>hns z (Xg _ hz);intro pins s Y H D I q;obtain⟨α,Z,hs0,fw,ρ',hs',rs,R,e,q⟩:=q;simp only[Iv.ex]at e;obtain⟨us,hh1,e1,e⟩:=Qb e;refine wpAny_Try_except ?_
 have sw:swapsWith (.Call (.Name f pf) (a::args) [] q1) none q2.line X.env=pure false:=by rfl
 split at e
 ·rename_i u0 h2 ec;cases e;have P1:PS X (.Expr (.Call (.Name f pf) (a::args) [] q1) q2) _:=Qa8 (QfN (d:=d) g F hr S gf df lf ha) sw;have P2:=Qg2 P1
  have r:=P2 pins s Y H D I (TI.run rs R (u:=u0) (h1:=_) (by simp only[ev,e1,Iv.bd];exact ec) λα1 v H1 E1 R1 r1 rs1=>q α1 Y H1 E1 R1 rs1)
  rw[g.xe]at r ⊢;refine Xj r (λfl' s1 z=>?_) λy y z=>z.elim
  cases fl' with
  |next=>exact U1 z
  |ret v=>exact z
  |brk=>exact z
  |cont=>exact z
 ·rename_i ec;split at e
  case h_2=>cases e
  rename_i c' h2 ex';rw[Xp]at e;obtain⟨⟨c1,c2,c3⟩,e⟩:=e;split at e
  case h_2=>cases e
  rename_i ρ2 h3 eb;cases e
  cases hF:T.fns[t.f]? with
  |none=>rw[hF]at c3;cases c3
  |some Fn=>
  rw[hF]at c3;have c3:us.length=Fn.np:=Wr c3;obtain⟨fd,G,bb,kp⟩:=F.xf t.f Fn hF;refine Uu (wpAny_Expr_any ?_ I.quiet sw);refine Wl (QR I (QS g gf) (g.gfn f t.f lf) ?_ (Qz df));have pa0:=S.a d (a::args) es ha q1 pins s Y H (λvs H1=>∃α1,Ext α α1 H H1/\Rep T A X.K α1 hh1 H1/\RUs A α1 us vs) I ⟨α,Z,hs0,us,hh1,rs,R,e1,λα' vs H' E' R' r'=>⟨α',E',R',r'⟩⟩;rw[g.xe]at pa0;refine PySem.W.callWith_K (h₀:=X.base) I.ok.mod.kin kp (Xj pa0 (λus1 s1 ⟨vs,H1,I1,r,α1,E1,R1,ru⟩=>⟨I1.kIn,?_⟩) λy y z=>z.elim) st sa
  have ll:us1.length=Fn.ps.length:=by
   obtain⟨fd',fn',_,_,lp,_⟩:=g.txt.fn t.f Fn hF;rw[lp,<-c3,ru.length,r.length]
  have hsp:spX T A X.K T.xf t.f vs H1 (λy y=>False) (λCv o H'=>Cv=.ref (A.c c'.1)/\EF T H' c' o/\∃α',Ext α1 α' H1 H'/\Rep T A X.K α' h2 H'):=
   ⟨α1,us,hh1,c',h2,ru,R1,ex',⟨Fn,hF,c3⟩,λα' H' dd E' R' ef=>⟨rfl,ef,α',E',R'⟩⟩
  refine Uc (V4 (G.run X.A X.stack s1 H1 ⟨us1,[]⟩ us1 vs _ _ hr I1.env0 (by have:=bb s1 us1 I1.kIn (by rw[Wj];exact ll);rw[Wj]at this;exact this) r hsp) λrr s' hq=>?_)
  cases rr with
  |ok fl=>
   cases fl with
   |ret u=>
    obtain⟨_,_,_,_,_,_,_,z⟩:=hq;exact z.elim
   |next=>exact False.elim hq
   |brk=>exact False.elim hq
   |cont=>exact False.elim hq
  |error ev=>
   obtain⟨e0,C0,H',B,a0,dd,rfl,os,bare,un,hok,flw,cv,hn,hs0',da,⟨hC,ef,α2,E2,R2⟩⟩:=hq;cases hC
   have h00:X.s₀.heap.get? e0=none:=by
    cases q:X.s₀.heap.get? e0 with
    |none=>rfl
    |some ob=>
     obtain⟨o',ho⟩:=I1.base.there e0 ob q (by rw[bX.ex];simp)
     rw[hs0']at ho;cases ho
   have M:Met X pins Y H1 H' s1 s' e0 (A.c c'.1) dd B a0:=⟨I1,os,bare,un,hok,flw,cv,hn,hs0',h00,da⟩;have gh:GX T A (hdX C) (X.hd (.ref e0)):=QhW g hbl
   have Sh:=(Qa2 (k:=k) m gh (⟨F.ok,F.some,F.df,F.xf,F.hk⟩:Fc (X.hd (.ref e0)) T A cf k) (λz=>by rw[QaE]at z;cases z) hr.units).s
   have HS:=QkC gh F hr Sh g.CT;have rs2:=(rs.mono E1.pre).mono E2.pre;have xeh:(X.hd (.ref e0)).xe=λy y=>False:=g.xe
   cases n with
   |none=>
    have tj:t.j=none:=(X2 t1).symm;rw[tj]at eb q;have PP:=Qa4 gh fl HS (b0::body) d sb hb;refine Qib (W:=λσ8 H8=>∃α8,Ext α2 α8 H' H8/\Rep T A X.K α8 hs' H8/\RS A α8 ρ2 σ8) bX.stk bX.frm M (QS g gx) (g.gcl x t.c lx) (g.txt.es c'.1 t.c c2) (Qz dx) (λs7 J7=>?_) (λσ8 H8 s'' ⟨α8,E8,R8,r8⟩ J=>?_)
    ·have r:=PP pins s7 Y H' ⟨λσ8 H8=>∃α8,Ext α2 α8 H' H8/\Rep T A X.K α8 hs' H8/\RS A α8 ρ2 σ8,λy y=>False,λy y=>False,λy y=>False⟩ J7 ⟨α2,Z,h2,.next,ρ2,hs',rs2,R2,eb,λα' Y' H' E' R' r'=>⟨α',E',R',r'⟩⟩;rw[xeh]at r;refine Xj r (λf8 s8 z=>?_) λy y z=>z
     cases f8 with
     |next=>exact⟨rfl,z⟩
     |brk=>obtain⟨_,_,_,z⟩:=z;exact z.elim
     |cont=>obtain⟨_,_,_,z⟩:=z;exact z.elim
     |ret u=>obtain⟨_,_,_,_,_,z⟩:=z;exact z.elim
    ·exact⟨_,_,J,q _ _ _ ((E1.trans E2 R2.h).trans E8 R8.h) R8 r8⟩
   |some n=>
    obtain⟨j,hj,ln,nd,hi⟩:=Qev t1;rw[hj]at eb q;have PP:=Qa4 gh fl HS (b0::body) d sb hb
    obtain⟨R3,E3⟩:=R2.new (p:=e0) (o:=.err c'.1 c'.2) (ho:=QcC e0 (A.c c'.1) dd) hn ⟨dd,Ql,c1,ef.fz λb o fs e=>by rw[Qe (λz=>by rw[z,hn]at e;cases e)];exact e⟩
    have at3:(α2++[e0])[h2.length]?=some e0:=by rw[<-R2.h.len];exact QY
    have rs4:=(rs2.mono E3.pre).set j (u:=.ref h2.length) (v:=.ref e0) ⟨e0,at3,rfl⟩
    refine Qid (W:=λσ8 H8=>∃α8,Ext (α2++[e0]) α8 (upd H' e0 (QcC e0 (A.c c'.1) dd)) H8/\Rep T A X.K α8 hs' H8/\RS A α8 ρ2 σ8) bX.stk bX.frm g.nd M (QS g gx) (g.gcl x t.c lx) (g.txt.es c'.1 t.c c2) (Qz dx) (by rw[g.N];exact Q3 hi) (by rw[g.sc];exact ZJ ln) (λs7 J7=>?_) (λσ8 H8 s'' ⟨α8,E8,R8,r8⟩ J=>?_)
    ·have r:=PP pins s7 _ _ ⟨λσ8 H8=>∃α8,Ext (α2++[e0]) α8 (upd H' e0 (QcC e0 (A.c c'.1) dd)) H8/\Rep T A X.K α8 hs' H8/\RS A α8 ρ2 σ8,λy y=>False,λy y=>False,λy y=>False⟩ J7 ⟨α2++[e0],Z.set j (some (.ref h2.length)),h2++[O.err c'.1 c'.2],.next,ρ2,hs',rs4,R3,eb,λα' Y' H' E' R' r'=>⟨α',E',R',r'⟩⟩;rw[xeh]at r;refine Xj r (λf8 s8 z=>?_) λy y z=>z
     cases f8 with
     |next=>exact⟨rfl,z⟩
     |brk=>obtain⟨_,_,_,z⟩:=z;exact z.elim
     |cont=>obtain⟨_,_,_,z⟩:=z;exact z.elim
     |ret u=>obtain⟨_,_,_,_,_,z⟩:=z;exact z.elim
    ·exact⟨_,_,J,q _ _ _ (((E1.trans E2 R2.h).trans E3 R3.h).trans E8 R8.h) R8 (Qfh r8)⟩
def Qjc(bX:Bd X)(F:Fc X T A cf k)(hr:Room k X.A)(hu:X.A.units+1<cLine)(g:GX T A C X)(fl:∀x,X.fn x=true\/X.env.scope.names.lookup x=some .local)(S2:Snd2 T A C X cf m)(SS:SndS T A C X cf m)(d:Nat)(st:Stmt)(ir:Iv.S)(h:QJ (m+1) C st=some ir):PS X st (TIS T A X.K (ex T cf d ir)):=by
 have S:=S2.s;refine JM λd=>?_
 cases st with
 |Pass p=>cases h;exact Zr Qg4 λD Y H W=>by obtain⟨α,Z,hs,fl,ρ',hs',rs,R,e,q⟩:=W;cases e;exact q α Y H Ext.refl R rs
 |Break p=>cases h;exact Zr QeQ λD Y H V=>by obtain⟨α,Z,hs,fl,ρ',hs',rs,R,e,q⟩:=V;cases e;exact q α Y H Ext.refl R rs
 |Continue p=>cases h;exact Zr Qa9 λD Y H U=>by obtain⟨α,Z,hs,fl,ρ',hs',rs,R,e,q⟩:=U;cases e;exact q α Y H Ext.refl R rs
 |Expr e p=>
  unfold QJ at h;try dsimp only at h;split at h
  ·rename_i hd;obtain⟨x,j,q,rfl⟩:=Qfm hd;cases h
   exact Zr QjB λD Y H Q=>by obtain⟨α,Z,hs,fl,ρ',hs',rs,R,e,q⟩:=Q;cases e;exact q α Y H Ext.refl R rs
  ·cases h
  ·rename_i hn;simp only[Xc]at h;obtain⟨e',he,rfl⟩:=h
   refine Zr (Qa8 (S.e d e e' he) (QbT he λelt gens scope q z=>by subst z;cases hn)) ?_
   rintro D Y H ⟨α,Z,hs,fl,ρ',hs',rs,R,e,q⟩;simp only[ex]at e;obtain⟨u,h1,e1,e⟩:=Qb e;cases e;exact TI.run rs R e1 λα1 x H1 E1 R1 r1 rs1=>q α1 Y H1 E1 R1 rs1
 |Return v p=>
  cases v with
  |none=>
   cases h
   exact Zr Qg3 λD Y H P=>by obtain⟨α,Z,hs,fl,ρ',hs',rs,R,e,q⟩:=P;cases e;exact q α Y H Ext.refl R rs .non rfl
  |some e=>
   unfold QJ at h;simp only[Xc]at h;obtain⟨e',he,rfl⟩:=h;refine Zr (Qc8 (S.e d e e' he)) ?_;rintro D Y H ⟨α,Z,hs,fl,ρ',hs',rs,R,e,q⟩;simp only[ex]at e;obtain⟨u,h1,e1,e⟩:=Qb e;cases e;exact TI.run rs R e1 λα1 x H1 E1 R1 r1 rs1=>q α1 Y H1 E1 R1 rs1 x r1
 |Raise x c p=>
  unfold QJ at h;try dsimp only at h;split at h
  ·simp only[Xb]at h;obtain⟨es,_,h⟩:=h;cases h
   exact ZE λD Y H M=>by obtain⟨_,_,_,_,_,_,_,_,e,_⟩:=M;simp[ex]at e
  ·cases h
   exact ZE λD Y H L=>by obtain⟨_,_,_,_,_,_,_,_,e,_⟩:=L;simp[ex]at e
 |Try b hs o fn p=>
  unfold QJ at h;try dsimp only at h;split at h
  ·rename_i t ht;split at h
   case isFalse=>cases h
   rename_i hbl;simp only[Xb]at h;obtain⟨es,hes,sb,hsb,h⟩:=h;cases h;exact Ql3 bX g fl F hr S hbl ht hes hsb
  ·split at h
   case isFalse=>cases h
   rename_i c;simp only[Xe,List.isEmpty_iff]at c;obtain⟨⟨rfl,rfl⟩,hne⟩:=c
   cases hs with
   |nil=>cases hne
   |cons h0 hs=>
   simp only[Xc]at h;obtain⟨b',hb,rfl⟩:=h;intro pins s Y H D I q;obtain⟨α,Z,hs0,fw,ρ',hs',rs,R,e,q⟩:=q;simp only[Iv.ex]at e;refine wpAny_Try_except ?_;have r:=SS.ss d b b' hb pins s Y H D I (TIS.run rs R e q);rw[g.xe]at r ⊢;refine Xj r (λfl' s1 z=>?_) λG G z=>z.elim
   cases fl' with
   |next=>exact U1 z
   |ret v=>exact z
   |brk=>exact z
   |cont=>exact z
 |AugAssign t o e p=>first|exact Znn h|simp[QJ]at h
 |If t a b p=>
  unfold QJ at h;simp only[Xb]at h;obtain⟨t',ht,a',ha,b',hb,h⟩:=h;cases h;refine Zr (Qg5 (S.t d t t' ht).1 (SS.ss d a a' ha) (SS.ss d b b' hb)) ?_;rintro D Y H ⟨α,Z,hs,fl,ρ',hs',rs,R,e,q⟩;simp only[ex]at e;split at e
  ·rename_i h1 e1;refine TIT.run rs R e1 λα1 H1 E1 R1 rs1=>?_;rw[if_pos rfl];exact TIS.run rs1 R1 e λα2 σ2 H2 E2 R2 rs2=>q α2 σ2 H2 (E1.trans E2 R2.h) R2 rs2
  ·rename_i h1 e1;refine TIT.run rs R e1 λα1 H1 E1 R1 rs1=>?_;rw[if_neg Xi];exact TIS.run rs1 R1 e λα2 σ2 H2 E2 R2 rs2=>q α2 σ2 H2 (E1.trans E2 R2.h) R2 rs2
  ·cases e
 |While t a b p=>first|exact Znn h|simp[QJ]at h
 |For tg it a b p=>
  cases b with
  |cons _ _=>first|exact Znn h|simp[QJ]at h
  |nil=>
   unfold QJ at h;try dsimp only at h;simp only[Xb]at h;obtain⟨tg',ht,it',hi,h⟩:=h;split at h
   case isFalse=>cases h
   rename_i ok;simp only[Xb]at h;obtain⟨a',ha,h⟩:=h;cases h
   refine Zr (QfU (by rw[g.xe];exact PassesOwn.never) bX.cm (S2.w d it _ tg hi (QfL ht ok)) (Qnq bX.cm g fl ht) (SS.ss d a a' ha) (Qat hi)) ?_
   rintro D Y H ⟨α,Z,hs,fl,ρ',hs',rs,R,e,q⟩;simp only[ex]at e;obtain⟨w,h1,e1,e⟩:=Qb e;refine⟨α,Z,hs,w,h1,rs,R,e1,λα1 J H1 E1 R1 W1=>?_⟩;exact Qfk rfl g.txt (rs.mono E1.pre) R1 W1 e λα2 σ2 H2 E2 R2 rs2=>q α2 σ2 H2 (E1.trans E2 R2.h) R2 rs2
 |Assign ts e p=>
  unfold QJ at h;try dsimp only at h;split at h
  ·rename_i x ht;obtain⟨px,rfl⟩:=Qbw ht;split at h
   case isFalse=>cases h
   rename_i hl;simp only[Xb]at h;obtain⟨i,hi,e',he,h⟩:=h;cases h
   have fin:∀e' D Y H,TIS T A X.K (ex T cf (d+1) (.set i e')) D Y H->TI T A X.K (ev T cf d e') Y H λv H1=>D.nx (Y.set i (some v)) H1:=by
    intro e';rintro D Y H ⟨α,Z,hs,fl,ρ',hs',rs,R,e,q⟩;simp only[ex]at e;obtain⟨u,h1,e1,e⟩:=Qb e;cases e;exact TI.run rs R e1 λα1 x H1 E1 R1 r1 rs1=>q α1 _ H1 E1 R1 (rs1.set i r1)
   by_cases hc:∃elt gens scope q,e=.ListComp elt gens scope q
   ·obtain⟨elt,gens,scope,pc,rfl⟩:=hc;obtain⟨tg,iter,tl,xs,n,wi,gg,tt,te,rfl,ok,hi',hn',hg',ht',he',hf,imp⟩:=S2.c d elt gens scope pc e' he;intro pins s Y H D I hq
    exact Qg6 bX.cm g.nd ok hi' hn' hg' ht' he' hf (by rw[g.N];exact Q3 hi) (Qaw g hl) (fl x) pins s Y H D I (imp Y H _ I.len (fin _ D Y H hq))
   ·exact Zr (Jn (i:=i) g.nd (by rw[g.N];exact Q3 hi) (Qaw g hl) (S.e d e e' he) (QbT he λelt gens scope q z=>hc ⟨elt,gens,scope,q,z⟩) (fl x)) (fin _)
  ·rename_i o f ht;obtain⟨pa,rfl⟩:=Qil ht;split at h
   case isFalse=>cases h
   rename_i hn;simp only[Xb]at h;obtain⟨e',he,o',ho,i,hi,h⟩:=h;cases h
   have hk':T.fns'[i]?=some f:=by rw[<-g.CT];exact Q3 hi
   refine Zr (QjA (S.e d o o' ho) (S.e d e e' he) (Qhx he)) ?_;rintro D Y H ⟨α,Z,hs,fl,ρ',hs',rs,R,e,q⟩;simp only[ex]at e;obtain⟨u,h1,e1,e⟩:=Qb e;obtain⟨u2,h2,e2,e⟩:=Qb e;refine TI.run rs R e1 λα1 x H1 E1 R1 r1 rs1=>TI.run rs1 R1 e2 λα2 y H2 E2 R2 r2 rs2=>?_;split at e
   case h_2=>cases e
   rename_i n;split at e
   case h_2=>cases e
   rename_i c fs eo;split at e
   case isFalse=>cases e
   rename_i l;cases e;obtain⟨a,ha,rfl⟩:=r2;obtain⟨dx,fv,q1,rf,lc⟩:=R2.h.ob n a _ ha eo;have cl:=g.txt.cl c _ (Xn lc)
   refine⟨a,A.c c,dx,fv,rfl,q1,cl.cls,cl.nf f (X7 hk'),by rw[<-RF.length rf];omega,?_⟩
   obtain⟨R',E'⟩:=R2.put (o:=.ins c (QcB i u fs)) (ho:=.ins (A.c c) dx (JK f x fv)) ha ⟨dx,_,Ql,RF.put hk' g.txt.fd (r1.mono E2.pre) rf,lc⟩;exact q α2 Y _ ((E1.trans E2 R2.h).trans E' R'.h) R' rs2
  ·cases h
  ·rename_i x px y py ht;obtain⟨kt,pt,rfl⟩:=Qfy ht;split at h
   case isFalse=>cases h
   rename_i c;simp only[Xe,Xw]at c;obtain⟨⟨lx,ly⟩,nxy⟩:=c;simp only[Xb]at h;obtain⟨i,hi,j,hj,h⟩:=h
   have kx:X.env.scope.names.lookup x=some .local:=by rw[g.sc];exact ZJ lx
   have ky:X.env.scope.names.lookup y=some .local:=by rw[g.sc];exact ZJ ly
   have ix:X.N[i]?=some x:=by rw[g.N];exact Q3 hi
   have iy:X.N[j]?=some y:=by rw[g.N];exact Q3 hj
   split at h
   ·cases h
   ·split at h
    case isFalse=>cases h
    rename_i nt;simp only[Xc]at h;obtain⟨e',he,rfl⟩:=h;refine Zr (QjC (S.e d e e' he) (Qdj bX.cm (ZO (Yp g.nd ix (.inl kx) (.inr kx)) (ZO (Yp g.nd iy (.inl ky) (.inr ky)) Qba))) (Qhw he) (Qas nt) rfl) ?_;rintro D Y H ⟨α,Z,hs,fl,ρ',hs',rs,R,e,q⟩;simp only[ex]at e;obtain⟨u,h1,e1,e⟩:=Qb e;simp only[Xc]at e;obtain⟨ρ2,e2,e⟩:=e;cases e;refine TI.run rs R e1 λα1 v H1 E1 R1 r1 rs1=>?_;exact YR (t:=.pair i j) R1 rs1 r1 e2 λσ2 r2=>q α1 σ2 H1 E1 R1 r2
  ·cases h
  ·cases h
 |_=>exact Znn h
def Qgh{s0 s':S}(hs:QnN m C st s0=some s')(h:∀d,PS X st (TIS T A X.K (ex T cf d s0)))(d:Nat):PS X st (TIS T A X.K (ex T cf d s')):=by
 cases hs;unfold QlA;split
 ·rename_i x hx
  cases d with
  |zero=>exact ZE λD Y H y=>by obtain⟨_,_,_,_,_,_,_,_,e,_⟩:=y;cases e
  |succ d=>
   have z:ex T cf (d+1) (.xal s0 x)=ex T cf d s0:=by funext Z hs;simp only[ex]
   rw[z];exact h d
 ·exact h d
def QgN(SS:SndS T A C X cf m)(d:Nat)(sts:List Stmt)(irs:List S)(h:compSs (m+1) C sts=some irs):PSs X sts (TIS T A X.K (exs T cf d irs)):=by
 cases d with
 |zero=>exact ZR Qdq
 |succ d=>
  cases sts with
  |nil=>
   cases h
   exact JB Qa7 λD Y H z=>by obtain⟨α,Z,hs,fl,ρ',hs',rs,R,e,q⟩:=z;cases e;exact q α Y H Ext.refl R rs
  |cons st r=>
   simp only[compSs,Xb]at h;obtain⟨s',hs,r',hr,h⟩:=h;cases h;refine JB (Yb (Qgh hs (λd=>SS.sB d st) d) (SS.ss d r r' hr)) ?_;rintro D Y H ⟨α,Z,hs,fl,ρ',hs',rs,R,e,q⟩;simp only[exs]at e;split at e
   ·rename_i ρ1 h1 e1;exact TIS.run rs R e1 λα1 σ1 H1 E1 R1 rs1=>TIS.run rs1 R1 e λα2 σ2 H2 E2 R2 rs2=>q α2 σ2 H2 (E1.trans E2 R2.h) R2 rs2
   ·rename_i n1;refine TIS.run rs R e λα1 σ1 H1 E1 R1 rs1=>?_
    cases fl with
    |next=>exact absurd e (n1 _ _)
    |cont=>exact q α1 σ1 H1 E1 R1 rs1
    |brk=>exact q α1 σ1 H1 E1 R1 rs1
    |ret u=>exact q α1 σ1 H1 E1 R1 rs1
theorem QlW(bX:Bd X)(g:GX T A C X)(fl:∀x,X.fn x=true\/X.env.scope.names.lookup x=some .local)(F:Fc X T A cf k)(hr:Room (k+1) X.A):∀m,SndS T A C X cf m
 |0=>⟨λd st ir h=>by first|exact Znn h|simp[QJ]at h,λd sts irs h=>by exact Znn h⟩
 |m+1=>by
  have SS:=QlW bX g fl F hr m;exact⟨Qjc bX F (hr.mono (Ul k)) (QmM hr) g fl (Qa2 m g F (λz=>hr) hr.units) SS,QgN SS⟩
end
end
section
variable {n:Nat}
structure Top(T:Tbl)(A:Adr)(K:W.Frag)(mg:Str->Option Value)(gl:List (Str×G))(bl:List Str):Prop where
 txt:Txt T A K mg
 gfn:∀x i,gl.lookup x=some (.fn i)->mg x=some (.ref (A.f i))
 gcl:∀x i,gl.lookup x=some (.cls i)->mg x=some (.ref (A.c i))
 gco:∀x k,gl.lookup x=some (.con k)->mg x=some (.ref (A.k k))
 gtx:∀x t,gl.lookup x=some (.txt t)->∃v w,mg x=some w/\RelV v w/\∀α,RU A α t v
 blt:∀x,¬bl.contains x=false->mg x=none
def Jg(T:Tbl)(gl:List (Str×G))(bl:List Str):Prop:=∀(i:Nat) (F:Fn),T.fns[i]?=some F->∃m,(compSs m ⟨T,F.N,(Qh F.st).names,gl,bl,F.lc⟩ (Zi F.st),if T.hfs.contains i=true then Qd1 m ⟨T,F.N,(Qh F.st).names,gl,bl,F.lc⟩ (Zi F.st)else some F.body)=(some F.body,some F.body)
section
variable {X:Cx}{T:Tbl}{A:Adr}{C:Ctx}{cf:Cf}{k:Nat}
theorem Qi7(g:GX T A C X)(F:Fc X T A cf k)(hh:hdC C=true)(hu:X.A.units+64<cLine)(fl:∀x,X.fn x=true\/X.env.scope.names.lookup x=some .local):∀m,(∀d sts irs,Y9 m C sts=some irs->PSs X sts (TIS T A X.K (exs T cf d irs)))/\∀d st ir,hdSt m C st=some ir->PS X st (TIS T A X.K (ex T cf d ir))
 |0=>⟨λd sts irs h=>by simp[Y9]at h,λd st ir h=>by simp[hdSt]at h⟩
 |m+1=>by
  have IH:=Qi7 g F hh hu fl m
  have S:=(Qa2 m g F (λz=>by rw[hh]at z;cases z) hu).s
  refine⟨λd sts irs h=>?_,λd st ir h=>?_⟩
  ·cases d with
   |zero=>exact ZR Qdq
   |succ d=>
   cases sts with
   |nil=>
    cases h
    exact JB Qa7 λD Y H o=>by obtain⟨α,Z,hs,fl,ρ',hs',rs,R,e,q⟩:=o;cases e;exact q α Y H Ext.refl R rs
   |cons st r=>
    simp only[Y9,Xb,Xc]at h;obtain⟨s',hs',r',hr',rfl⟩:=h;refine JB (Yb (IH.2 d st s' hs') (IH.1 d r r' hr')) ?_;rintro D Y H ⟨α,Z,hs,fl,ρ',hs1,rs,R,e,q⟩;simp only[exs]at e;split at e
    ·rename_i ρ1 h1 e1;exact TIS.run rs R e1 λα1 σ1 H1 E1 R1 rs1=>TIS.run rs1 R1 e λα2 σ2 H2 E2 R2 rs2=>q α2 σ2 H2 (E1.trans E2 R2.h) R2 rs2
    ·rename_i n1;refine TIS.run rs R e λα1 σ1 H1 E1 R1 rs1=>?_;have z:=q α1 σ1 H1 E1 R1 rs1
     cases fl with
     |next=>exact absurd e (n1 _ _)
     |brk=>exact z
     |cont=>exact z
     |ret u=>exact z
  ·refine JM (λd=>?_) (d:=d)
   cases st with
   |Return v p=>
    cases v with
    |none=>cases h
    |some e=>
     simp only[hdSt,Option.bind_some,Xc]at h;obtain⟨e',he,rfl⟩:=h;refine Zr (Qc8 (S.e d e e' he)) ?_;rintro D Y H ⟨α,Z,hs,fl,ρ',hs',rs,R,e,q⟩;simp only[ex]at e;obtain⟨u,h1,e1,e⟩:=Qb e;cases e;exact TI.run rs R e1 λα1 x H1 E1 R1 r1 rs1=>q α1 Y H1 E1 R1 rs1 x r1
   |If t a b p=>
    simp only[hdSt,Xb,Xc]at h;obtain⟨t',ht,a',ha,b',hb,rfl⟩:=h;refine Zr (Qg5 (S.t d t t' ht).1 (IH.1 d a a' ha) (IH.1 d b b' hb)) ?_;rintro D Y H ⟨α,Z,hs,fl,ρ',hs',rs,R,e,q⟩;simp only[ex]at e;split at e
    ·rename_i h1 e1;refine TIT.run rs R e1 λα1 H1 E1 R1 rs1=>?_;rw[if_pos rfl];exact TIS.run rs1 R1 e λα2 σ2 H2 E2 R2 rs2=>q α2 σ2 H2 (E1.trans E2 R2.h) R2 rs2
    ·rename_i h1 e1;refine TIT.run rs R e1 λα1 H1 E1 R1 rs1=>?_;rw[if_neg Xi];exact TIS.run rs1 R1 e λα2 σ2 H2 E2 R2 rs2=>q α2 σ2 H2 (E1.trans E2 R2.h) R2 rs2
    ·cases e
   |Assign ts e0 pos0=>
    simp only[hdSt,Xb,Xc]at h;obtain⟨p,hp,e',he,rfl⟩:=h;obtain⟨y,py,pos,z,hl,hi⟩:=Qb4 hp;rw[z]
    have ly:X.env.scope.names.lookup y=some .local:=by rw[g.sc];exact ZJ hl
    refine Zr (Jn (i:=p.1) g.nd (by rw[g.N];exact Q3 hi) (.inl ly) (S.e d p.2 e' he) (QbT he λelt gens scope q w=>?_) (fl y)) ?_
    ·rw[w]at he
     cases m with
     |zero=>cases he
     |succ m=>
      have:=QhH he;rw[hh]at this;cases this
    ·rintro D Y H ⟨α,Z,hs,fl,ρ',hs',rs,R,e,q⟩;simp only[ex]at e;obtain⟨u,h1,e1,e⟩:=Qb e;cases e;exact TI.run rs R e1 λα1 x H1 E1 R1 r1 rs1=>q α1 _ H1 E1 R1 (rs1.set p.1 r1)
   |_=>cases h
end
section
variable {P:Program}{w:World}{K:W.Frag}{mg:Str->Option Value}{base:Heap}{T:Tbl}{A:Adr}{gl:List (Str×G)}{bl:List Str}
def JG{α:List Addr}{us:List U}{vs:List V}{N:List Str}(r:RUs A α us vs)(hn:N.length=n):RS A α (QgU us n) (L2.start N vs):=by
 unfold QgU L2.start;have l:=r.length
 refine⟨by simp[l,hn],λi u e=>?_⟩
 by_cases hi:i<us.length
 ·rw[Wg (by simpa using hi),Vm]at e
  rw[Wg (by simpa[<-l]using hi),Vm]
  cases q:us[i]? with
  |none=>rw[q]at e;cases e
  |some x=>
   rw[q]at e;cases e;obtain⟨v,h1,h2⟩:=r.get q
   exact⟨v,by rw[h1];rfl,h2⟩
 ·rw[Wi (by simpa using Ti hi),Ta]at e
  split at e<;>cases e
def Qcx:∀f us hs r,Qa T n f us hs=some r->∃F,T.fns[f]?=some F/\us.length=F.np:=by
 intro f us hs r h
 cases n with
 |zero=>cases h
 |succ n=>
  simp only[Qa]at h;split at h
  ·cases h
  ·rename_i F e;split at h
   ·rename_i l;exact⟨F,e,l⟩
   ·cases h
def XOk(P:Program)(w:World)(K:W.Frag)(mg:Str->Option Value)(base:Heap)(T:Tbl)(A:Adr)(r:Nat):Prop:=∀f F,T.fns[f]?=some F->∃fd,FnOk P w K mg base (CXw P w) r (A.f f) fd F.ps (spX T A K T.xf f)/\Binds K fd F.ps []/\W.keepIn K (.ref (A.f f))=true
def QoA(tp:Top T A K mg gl bl)(h:T.xf=λy y y=>none):XOk P w K mg base T A 0:=λf F hF=>by
 obtain⟨fd,fn,b,_⟩:=tp.txt.fn f F hF
 have no:∀vs H Q E,¬spX T A K T.xf f vs H Q E:=λvs H Q E z=>by
  obtain⟨α,us,hs,u,hs',_,_,e,_⟩:=z;rw[h]at e;cases e
 exact⟨fd,⟨λvs H Q E h=>absurd h (no vs H Q E),λA outer s H args us vs Q E y y y y h=>absurd h (no vs H Q E)⟩,b,fn.kp⟩
def Qh4{X:Cx}{rm:Nat}{T:Tbl}{A:Adr}{gl:List (Str×G)}{bl:List Str}(tp:Top T A X.K X.mg gl bl)(hX:XOk X.prog X.w X.K X.mg X.base T A rm)(IH:∀f F,T.fns[f]?=some F->∃fd,FnOk X.prog X.w X.K X.mg X.base CX0 (rm+2*n) (A.f f) fd F.ps (spC T A X.K (Qa T n) f)/\Binds X.K fd F.ps []/\W.keepIn X.K (.ref (A.f f))=true/\(T.hfs.contains f=true->FnOkH X.prog X.w X.K X.mg X.base (rm+2*n) (A.f f) fd F.ps (spC T A X.K (Qa T n) f))/\FunD X.K F.name F.qual F.st (A.f f) fd):
  Fc X T A (Qa T n) (rm+2*n):=⟨λf' F' h'=>by
 obtain⟨fd',G,b',kp,_⟩:=IH f' F' h'
 exact⟨fd',G,b',kp⟩,Qcx,λi D F' hD h'=>by
 obtain⟨fd',G,_,kp,_,fn'⟩:=IH i F' h';obtain⟨fd2,x,q,st,fn2,dk,hp⟩:=tp.txt.df i D hD;have e:=FunD.same fn2 fn';subst e;rw[(hp F' h').1]at G
 exact⟨fd2,G,kp,dk⟩,λf' F' h'=>by
 obtain⟨fd',G,b',kp⟩:=hX f' F' h'
 exact⟨fd',G.mono (Nat.le_add_right _ _),b',kp⟩,λf' F' h' hf=>by
 obtain⟨fd',_,b',kp,G,_⟩:=IH f' F' h'
 exact⟨fd',G hf,b',kp⟩⟩
def QdK{f:Nat}{F:Fn}{α:List Addr}{us:List U}{vs:List V}{hs hs':Hs}{u:U}{H:Hp}{Q:VK}(hF:T.fns[f]?=some F)(lN:F.N.length=F.nN)(r:RUs A α us vs)(R:Rep T A K α hs H)(e:Qa T (n+1) f us hs=some (u,hs'))(q:∀α' v H',Ext α α' H H'->Rep T A K α' hs' H'->RU A α' u v->Q v H'):
  TIS T A K (exs T (Qa T n) dd F.body) {nx:=λz H'=>Q .non H',rt:=Q} (L2.start F.N vs) H:=by
 simp only[Qa,hF]at e;split at e
 case isFalse=>cases e
 unfold fin at e;split at e
 ·rename_i u' ρ' h1 e1;cases e;exact TIS.run (JG r lN) R e1 λα1 σ1 H1 E1 R1 rs1 v rv=>q α1 v H1 E1 R1 rv
 ·rename_i ρ' h1 e1;cases e;exact TIS.run (JG r lN) R e1 λα1 σ1 H1 E1 R1 rs1=>q α1 .non H1 E1 R1 rfl
 ·cases e
theorem QdJ{rm:Nat}(tp:Top T A K mg gl bl)(tab:Je P w T A K)(hb:Jg T gl bl)(hX:XOk P w K mg base T A rm):∀n f F,T.fns[f]?=some F->∃fd,FnOk P w K mg base CX0 (rm+2*n) (A.f f) fd F.ps (spC T A K (Qa T n) f)/\Binds K fd F.ps []/\W.keepIn K (.ref (A.f f))=true/\(T.hfs.contains f=true->FnOkH P w K mg base (rm+2*n) (A.f f) fd F.ps (spC T A K (Qa T n) f))/\FunD K F.name F.qual F.st (A.f f) fd
 |0,f,F,hF=>by
  obtain⟨fd,fn,b,_⟩:=tp.txt.fn f F hF
  have no:∀vs H Q E,¬spC T A K (Qa T 0) f vs H Q E:=λvs H Q E h=>by
   obtain⟨α,us,hs,u,hs',_,_,e,_⟩:=h;cases e
  exact⟨fd,⟨λvs H Q E h=>absurd h (no vs H Q E),λA outer s H args us vs Q E z z z z h=>absurd h (no vs H Q E)⟩,b,fn.kp,λz=>⟨λvs H Q E h=>absurd h (no vs H Q E),λA v outer s H args us vs Q E z z z z h=>absurd h (no vs H Q E)⟩,fn⟩
 |n+1,f,F,hF=>by
  obtain⟨fd,fn,b,sc,lp,lN⟩:=tp.txt.fn f F hF;obtain⟨m,hm⟩:=hb f F hF;have h1:=congrArg Prod.fst hm;have h2:=congrArg Prod.snd hm;dsimp only at h1 h2;have IH:=QdJ tp tab hb hX n
  have ln:∀vs H Q E,spC T A K (Qa T (n+1)) f vs H Q E->vs.length=F.ps.length:=λvs H Q E h=>by
   obtain⟨α,us,hs,u,hs',r,_,_,⟨F',h1,h2⟩,_⟩:=h;rw[hF]at h1;cases h1;rw[<-r.length,h2,lp]
  refine⟨fd,fn.ok (k:=rm+2*n+1) sc ln λcdv A' outer s H vs Q E hr h=>?_,b,fn.kp,λhf=>?_,fn⟩
  ·obtain⟨α,us,hs,u,hs',r,R,e,_,q⟩:=h;refine⟨TIS T A K (exs T (Qa T n) dd F.body),?_,QdK hF lN r R e q⟩
   have gx:GX T A ⟨T,F.N,(Qh F.st).names,gl,bl,F.lc⟩ (QaJ CX0 P w K mg base F.N F.qual (Qh F.st) (A.f f) cdv A' outer s H E).nox :=
    ⟨rfl,rfl,sc.nd,rfl,λz=>rfl,sc.kind,rfl,tp.gfn,tp.gcl,tp.gco,tp.gtx,tp.blt,tp.txt,tab⟩
   exact(QlW ⟨rfl,rfl,rfl,rfl⟩ gx (λz=>.inl rfl) (Qh4 (X:=(QaJ CX0 P w K mg base F.N F.qual (Qh F.st) (A.f f) cdv A' outer s H E).nox) tp hX IH) hr m).ss dd (Zi F.st) F.body h1
  ·rw[if_pos hf,Qd1,Xp]at h2;obtain⟨hbl,h2⟩:=h2;refine fn.okH (k:=rm+2*n+1) sc ln λcdv A' v outer s H vs Q E hr h=>?_;obtain⟨α,us,hs,u,hs',r,R,e,_,q⟩:=h;refine⟨TIS T A K (exs T (Qa T n) dd F.body),?_,QdK hF lN r R e q⟩
   have gx:GX T A ⟨T,F.N,(Qh F.st).names,gl,bl,F.lc⟩ (QaJ CX0 P w K mg base F.N F.qual (Qh F.st) (A.f f) cdv A' outer s H E).nox :=
    ⟨rfl,rfl,sc.nd,rfl,λz=>rfl,sc.kind,rfl,tp.gfn,tp.gcl,tp.gco,tp.gtx,tp.blt,tp.txt,tab⟩
   exact(Qi7 (QhW (v:=v) gx hbl) (Qh4 (X:=((QaJ CX0 P w K mg base F.N F.qual (Qh F.st) (A.f f) cdv A' outer s H E).hd v).nox) tp hX IH) QaE (by have:=hr.un;show(A'.deeper (envOfC F.qual (Qh F.st) s.heap.objs.size (A.f f) cdv)).units+64<cLine;omega) (λz=>.inl rfl) m).1 dd (Zi F.st) F.body h2
end
end
section
variable {i:Nat}{Y:St}
def TXB(T:Tbl)(A:Adr)(K:W.Frag)(f:Rho->Hs->Option (Er×Hs))(E:XK)(Y:St)(H:Hp):Prop:=∃α Z hs c hs',RS A α Z Y/\Rep T A K α hs H/\f Z hs=some (c,hs') /\
 ∀α' H' dd,Ext α α' H H'->Rep T A K α' hs' H'->EF T H' c dd->E (.ref (A.c c.1)) dd H'
def TX(T:Tbl)(A:Adr)(K:W.Frag)(f:Rho->Hs->Option (Er×Hs))(E:XK):TS:=λz Y H=>TXB T A K f E Y H
def TXE(T:Tbl)(A:Adr)(K:W.Frag)(f:Rho->Hs->Option (Er×Hs))(E:XK):TE:=λY H z=>TXB T A K f E Y H
def TXA(T:Tbl)(A:Adr)(K:W.Frag)(f:Rho->Hs->Option (Er×Hs))(E:XK):TA:=λY H z=>TXB T A K f E Y H
section
variable {X:Cx}{T:Tbl}{A:Adr}{C:Ctx}{cf:Cf}{m k d:Nat}{E:XK}{x y:EX}{e:Expr}{es:List Expr}
def Qne{st:Stmt}{t:TS}(h:PS X.nox st t):PS X st t:=λpins s Y H D I hw=>
 Xj (h pins s Y H D (I.wish _) hw) (λy y q=>q.unwish) λy y z=>False.elim z
def Qlc{es:List Expr}{t:TA}(h:PA X.nox es t):PA X es t:=λpos pins s Y H Q I hw=>
 Xj (h pos pins s Y H Q (I.wish _) hw) (λy y x=>by obtain⟨vs,H',I',r,q⟩:=x;exact⟨vs,H',I'.unwish,r,q⟩) λy y z=>False.elim z
def Qlb{tg it:Expr}{wi:L2.TI}(h:PI X.nox tg it wi):PI X tg it wi:=λpins s Y H R I hw=>
 Xj (h pins s Y H R (I.wish _) hw) (λv s1 z=>Xj z (λitv s2 y=>by obtain⟨it,fp,tn,J,H2,e,I2,T,st,f2,r⟩:=y;exact⟨it,fp,tn,J,H2,e,I2.unwish,T,st,f2,r⟩) λx x z=>False.elim z) λx x z=>False.elim z
def Qnf{tg:Expr}{g:TG}(h:PG X.nox tg g):PG X tg g:=λpins s Y H v u Q I r hw=>
 Xj (h pins s Y H v u Q (I.wish _) r hw) (λy s' x=>by obtain⟨Y',H',I',q⟩:=x;exact⟨Y',H',I'.unwish,q⟩) λy y z=>False.elim z
def Qng{t1 t2:TE}(h1:PE X e t1)(h2:PE X e t2):PE X e (λY H Q=>t1 Y H Q\/t2 Y H Q):=λpins s Y H Q I z=>z.elim (h1 pins s Y H Q I) (h2 pins s Y H Q I)
def Qh3{pins:List (Addr×Obj)}{H:Hp}{s s':Shared}(I:Inv X pins Y H s){v:Value}(h:CXw X.prog X.w X.stack H s E v s'):∃e C H' B a0 dd,v=.ref e/\Inv X pins Y H' s'/\Heap.FlyingW B X.stack e (.ref C) a0 s'.heap/\CovX X B H'/\H' e=none/\(∀o,X.s₀.heap.get? e=some o->e∈X.ex)/\DictAt s'.heap e dd/\E (.ref C) dd H':=by
 obtain⟨a,C,H',B,a0,dd,e,os,bare,un,hok,fl,cv,hn,hs,da,hE⟩:=h
 refine⟨a,C,H',B,a0,dd,e,I.call' (ch:=[]) os un hok bare (λb z=>absurd z (by simp)),fl,⟨cv.trk,λb o q hb hx=>?_⟩,hn,λo q=>?_,da,hE⟩
 ·obtain⟨o',z⟩:=I.base.there b o q hx;exact cv.old b o' z hb
 ·by_cases hx:a∈X.ex
  ·exact hx
  ·obtain⟨o',z⟩:=I.base.there a o q hx;rw[hs]at z;cases z
def Qhd{f:Str}{pf q1:Pos}{a:Expr}{args:List Expr}{es:List Iv.E}(hxf:Qel X E)(g:GX T A C X.nox)(F:Fc X.nox T A cf k)(hr:Room k X.A)(S:Snd T A C X.nox cf m)(gf:ZT C f=true)(df:f≠"__debug__")(lf:C.gl.lookup f=some (.fn i))(ha:compA m C (a::args)=some es):
  PE X (.Call (.Name f pf) (a::args) [] q1) (TXE T A X.K (evX T cf (.call i es) d) E):=by
 have hns:=Qi ha;have st:starEach (a::args) X.env=(false,eval a X.env)::starEach args X.env:=Qf (hns a (Xh ..));have sa:(backTo q1 (starEach args X.env)).any (·.1)=false:=QG λz hz=>hns z (Xg _ hz);intro pins s Y H Q I q;obtain⟨α,Z,hs0,c',h2,rs,R,e,q⟩:=q;simp only[evX]at e;obtain⟨us,hh1,e1,e⟩:=Qb e;rw[Xp]at e;obtain⟨c3,ex'⟩:=e
 cases hF:T.fns[i]? with
 |none=>rw[hF]at c3;cases c3
 |some Fn=>
 rw[hF]at c3;have c3:us.length=Fn.np:=Wr c3;obtain⟨fd,G,bb,kp⟩:=F.xf i Fn hF;refine Wl (QR I (show Gl X f from QS (X:=X.nox) g gf) (g.gfn f i lf) ?_ (Qz df));have pa0:=Qlc (S.a d (a::args) es ha) q1 pins s Y H (λvs H1=>∃α1,Ext α α1 H H1/\Rep T A X.K α1 hh1 H1/\RUs A α1 us vs) I ⟨α,Z,hs0,us,hh1,rs,R,e1,λα' vs H' E' R' r'=>⟨α',E',R',r'⟩⟩;refine Up (h₀:=X.base) I.ok.mod.kin kp (Xj pa0 (λus1 s1 ⟨vs,H1,I1,r,α1,E1,R1,ru⟩=>⟨I1.kIn,?_⟩) λy y z=>z) st sa
 have ll:us1.length=Fn.ps.length:=by
  obtain⟨fd',fn',_,_,lp,_⟩:=g.txt.fn i Fn hF;rw[lp,<-c3,ru.length,r.length]
 have hsp:spX T A X.K T.xf i vs H1 (λy y=>False) (λCv o H'=>Cv=.ref (A.c c'.1)/\EF T H' c' o/\∃α',Ext α1 α' H1 H'/\Rep T A X.K α' h2 H'):=
  ⟨α1,us,hh1,c',h2,ru,R1,ex',⟨Fn,hF,c3⟩,λα' H' dd E' R' ef=>⟨rfl,ef,α',E',R'⟩⟩
 refine Uc (V4 (G.run X.A X.stack s1 H1 ⟨us1,[]⟩ us1 vs _ _ hr I1.env0 (by have:=bb s1 us1 I1.kIn (by rw[Wj];exact ll);rw[Wj]at this;exact this) r hsp) λrr s' hq=>?_)
 cases rr with
 |ok fl=>
  cases fl with
  |ret u=>
   obtain⟨_,_,_,_,_,_,_,z⟩:=hq;exact z.elim
  |next=>exact False.elim hq
  |brk=>exact False.elim hq
  |cont=>exact False.elim hq
 |error ev=>
  obtain⟨e0,C0,H',B,a0,dd,rfl,J,flw,cv,hn,h00,da,⟨hC,ef,α2,E2,R2⟩⟩:=Qh3 I1 (show CXw X.prog X.w X.stack H1 s1 (λCv o H'=>Cv=.ref (A.c c'.1)/\EF T H' c' o/\∃α',Ext α1 α' H1 H'/\Rep T A X.K α' h2 H') ev s' from hq);cases hC;exact hxf pins Y H' s' e0 _ B a0 dd J (.inl flw) cv hn h00 da (q α2 H' dd (E1.trans E2 R2.h) R2 ef)
def Qhi{f:Str}{pf q1:Pos}{a:Expr}{args:List Expr}{Fn:Fn}{g0:Rho->Hs->Option (Er×Hs)}(g:GX T A C X.nox)(F:Fc X.nox T A cf k)(gf:ZT C f=true)(df:f≠"__debug__")(lf:C.gl.lookup f=some (.fn i))(hF:T.fns[i]?=some Fn)(ns:Yz (a::args))(pa:PA X (a::args) (TXA T A X.K g0 E)):
  PE X (.Call (.Name f pf) (a::args) [] q1) (TXE T A X.K g0 E):=λpins s Y H Q I q=>by
 obtain⟨_,_,_,kp⟩:=F.xf i Fn hF;refine Wl (QR I (show Gl X f from QS (X:=X.nox) g gf) (g.gfn f i lf) ?_ (Qz df));exact Up (h₀:=X.base) I.ok.mod.kin kp (Xj (pa q1 pins s Y H (λy y=>False) I q) (λy y x=>by obtain⟨_,_,_,_,z⟩:=x;exact z.elim) λy y z=>z) (Qf (ns a (Xh ..))) (QG λz hz=>ns z (Xg _ hz))
def QnT{Z:Rho}{hs:Hs}{r:Er×Hs}(e:evX T cf (.alt x y) d Z hs=some r):evX T cf x d Z hs=some r\/evX T cf y d Z hs=some r:=by
 simp only[evX]at e;split at e
 ·rename_i z;cases e;exact .inl z
 ·exact .inr e
def Qk3(h1:PE X e (TXE T A X.K (evX T cf x d) E))(h2:PE X e (TXE T A X.K (evX T cf y d) E)):PE X e (TXE T A X.K (evX T cf (.alt x y) d) E):=λpins s Y H Q I ⟨α,Z,hs,c,hs',rs,R,e,q⟩=>
 (QnT e).elim (λe=>h1 pins s Y H Q I ⟨α,Z,hs,c,hs',rs,R,e,q⟩) λe=>h2 pins s Y H Q I ⟨α,Z,hs,c,hs',rs,R,e,q⟩
def Qk4(h1:PA X es (TXA T A X.K (evX T cf x d) E))(h2:PA X es (TXA T A X.K (evX T cf y d) E)):PA X es (TXA T A X.K (evX T cf (.alt x y) d) E):=λpos pins s Y H Q I ⟨α,Z,hs,c,hs',rs,R,e,q⟩=>
 (QnT e).elim (λe=>h1 pos pins s Y H Q I ⟨α,Z,hs,c,hs',rs,R,e,q⟩) λe=>h2 pos pins s Y H Q I ⟨α,Z,hs,c,hs',rs,R,e,q⟩
def Qf1{a b:Option EX}{x:EX}(h:orX a b=some x):(∃y z,a=some y/\b=some z/\x=.alt y z)\/a=some x\/b=some x:=by
 cases a with
 |none=>exact .inr (.inr h)
 |some y=>
  cases b with
  |none=>exact .inr (.inl h)
  |some z=>cases h;exact .inl ⟨y,z,rfl,rfl,rfl⟩
def Qnh:PE X e (TXE T A X.K (evX T cf .no d) E):=λz z z z z z y=>by obtain⟨_,_,_,_,_,_,_,e,_⟩:=y;simp[evX]at e
def Qf5{o:Option EX}(h:∀x,o=some x->PE X e (TXE T A X.K (evX T cf x d) E)):PE X e (TXE T A X.K (evX T cf (noX o) d) E):=by
 cases o with
 |none=>exact Qnh
 |some x=>exact h x rfl
def Qkp{t:Iv.E}{a b:Option EX}{x:EX}(h:ifX t a b=some x):x=.ife t (noX a) (noX b):=by
 cases a with
 |some y=>cases h;rfl
 |none=>
  cases b with
  |none=>cases h
  |some y=>cases h;rfl
def QoB{es:List Expr}(h:Qhy es=true):Yz es:=λz hz x p e=>by
 have:=Xs.mp h z hz;rw[e]at this;cases this
def QiG{g0:Expr}{ks:List Keyword}(h:xFn C g0 ks=some i): ∃f p,g0=.Name f p/\ks=[]/\hdC C=false/\ZT C f=true/\f≠"__debug__"/\C.gl.lookup f=some (.fn i)/\(C.T.fns[i]?).isSome=true:=by
 cases g0 with
 |Name f p=>
  cases ks with
  |cons _ _=>cases h
  |nil=>
   have h:(if hdC C=true then none else(Ji C f).bind λk=>if(C.T.fns[k]?).isSome then some k else none)=some i:=h;rw[Option.ite_none_left_eq_some,Xb]at h;obtain⟨hh,k,hk,h⟩:=h;rw[Xp]at h;obtain⟨hs,h⟩:=h;cases h;obtain⟨h1,h2,h3⟩:=YG hk
   exact⟨f,p,rfl,rfl,by simpa using hh,h1,h2,h3,hs⟩
 |_=>cases h
def Qcv{src:Src}{b:Bool}{el:Iv.E}{d:Nat}{H:Hp}{Q:VK}(tx:Txt T A X.K X.mg)(hl:Y.length=X.N.length)(h:TXB T A X.K (evX T cf (.comp src b el x) d) E Y H):
  Qah (TIW T A X.K (λZ hs=>Zy T (ev T cf d) Z src hs)) (nN b) (gT X.K (tgN b X.N.length)) (λt H Q=>Q true H) (λY H Q=>Iv.TI T A X.K (ev T cf d el) Y H Q\/TXE T A X.K (evX T cf x d) E Y H Q) Y H Q:=by
 rw[<-hl];obtain⟨α,Z,hs,c,hs',rs,R,e,q⟩:=h;simp only[evX]at e;obtain⟨w,h1,e1,e⟩:=Qb e;refine⟨α,Z,hs,w,h1,rs,R,e1,λα1 J H1 E1 R1 W1 D hD=>?_⟩;have rs1:=rs.mono E1.pre
 refine⟨λi m ys H2=>∃αc hc,RS A αc Z Y/\Rep T A X.K αc hc H2/\D∉αc/\H2 D=some (.lst ys)/\ys.length=i/\Ext α1 αc H1 H2/\WJ A X.K αc J H2 w/\Qix T (ev T cf d el) (evX T cf x d) w b Z m i hc=some (c,hs'),⟨Zs T w h1,α1,h1,rs1,?_,R1.h.notIn hD,Ql,rfl,?_,W1.mono (λt t e=>e) (λb o u e=>by rw[Qe (λz=>by rw[z,hD]at e;cases e)];exact e),e⟩,?_⟩
 ·exact R1.aside (R1.h.notIn hD) λo u z=>by rw[hD]at z;cases z
 ·exact⟨λt t e=>e,λn a e l=>by have:=getElem?_lt e;omega,λb o e t=>by rw[Qe (λz=>by rw[z,hD]at e;cases e)];exact e,λb o kv e=>by rw[Qe (λz=>by rw[z,hD]at e;cases e)];exact e,λb o e=>⟨o,by rw[Qe (λz=>by rw[z,hD]at e;cases e)];exact e,λt=>Iff.rfl⟩⟩
 rintro i m ys H2 ⟨αc,hc,rsc,Rc,nD,hDl,ly,Ec,Wc,ec⟩;refine⟨hDl,?_⟩
 cases m with
 |zero=>cases ec
 |succ m=>
  simp only[Qix]at ec;split at ec
  ·cases ec
  ·cases ec
  ·rename_i xx ei;split at ec
   ·cases ec
   rename_i ρ' et;rw[Xp]at ec;obtain⟨small,ec⟩:=ec
   have go:J.go i H2:=(Jt tx Rc Wc (rsc.pad (os:=List.replicate (nN b) none) (by rw[YH];simp) (Yd b)) ei et).1
   refine .inr ⟨go,?_,λv H3 os lo yl=>?_⟩
   ·rw[sizeLine_eq];omega
   have rsn:RS A αc (Z++Qcf b) (Y++os):=rsc.pad (by rw[YH,lo]) (Yd b)
   obtain⟨_,stp⟩:=Jt tx Rc Wc rsn ei et;rw[rs.len]at stp;refine QdG lo (stp v H3 _ yl λσ2 rs2 R3 E3=>?_);have d3:H3 D=some (.lst ys):=E3.keep D _ hDl nD;show(if(true:Bool)=true then _ else _);rw[if_pos rfl];split at ec
   ·rename_i u' h5 e5;refine .inl (TI.run rs2 R3 e5 λα5 y H5 E5 R5 r5 rs5=>?_);have nD3:=QbQ E3 nD hDl;have d5:H5 D=some (.lst ys):=E5.keep D _ d3 nD;have nD5:=QbQ E5 nD d3
    refine⟨d5,m,W3 _,α5,h5,rsc.mono E5.pre,R5.aside nD5 (λo u z=>by rw[d5]at z;cases z),nD5,Ql,by simp[ly],?_,(Wc.mono (λn a e=>E5.pre n a e) λb o u e=>by rw[Qe (λz=>by rw[z,hDl]at e;cases e)];exact E5.fz _ _ _ (E3.fz _ _ _ e)),ec⟩
    have Et:=(Ec.trans E3 R3.h).trans E5 R5.h
    exact⟨Et.pre,Et.new,λb o e hb=>by rw[Qe (λz=>by rw[z,hD]at e;cases e)];exact Et.keep b o e hb,λb o kv e=>by rw[Qe (λz=>by rw[z,hD]at e;cases e)];exact Et.fz b o kv e,λb o e=>by
     obtain⟨o',q1,q2⟩:=Et.tr b o e
     exact⟨o',by rw[Qe (λz=>by rw[z,hD]at e;cases e)];exact q1,q2⟩⟩
   ·exact .inr ⟨αc,ρ',_,c,hs',rs2,R3,ec,λα' H' dd E' R' ef=>q α' H' dd (E1.trans ((Ec.trans E3 R3.h).trans E' R'.h) R'.h) R' ef⟩
abbrev Frm(X:Cx):Prop:=∃c l L,X.stack=c::l/\c.frame=some L/\X.env.frame=some L
def CompPX(X:Cx)(E:XK)(elt:Expr)(gens:List Comprehension)(scope:Scope)(t:TE):Prop:=∃(tg iter:Expr) (tl:Option Expr) (xs:List Str) (n:Nat) (wi:L2.TI) (gt:TG) (tt:TT) (te:TE),gens=[⟨tg,iter,tl.toList,0⟩]/\CompOk X xs scope/\PI X tg iter wi/\xs.length=n/\(∀C0 s H fp,PG (X.block xs scope C0 s H fp) tg gt)/\(∀C0 s H fp,PTO (X.block xs scope C0 s H fp) tl tt) /\
 (∀C0 s H fp,PE ((X.block xs scope C0 s H fp).wish (QcD E (X.block xs scope C0 s H fp))) elt te)/\(∀v,foldedSetIterable iter X.env v=pure v)/\∀Y H Q,Y.length=X.N.length->t Y H Q->Qah wi n gt tt te Y H Q
def QnU(T:Tbl)(A:Adr)(cf:Cf)(E:XK)(k m:Nat):Prop:=∀{C:Ctx} {X:Cx},GX T A C X.nox->Qel X E->Frm X->Fc X.nox T A cf k->Room (k+1) X.A ->
 (∀d e x,xE m C e=some x->PE X e (TXE T A X.K (evX T cf x d) E))/\∀d es x,xA m C es=some x->PA X es (TXA T A X.K (evX T cf x d) E)
def QfD(IH:QnU T A cf E k m)(g:GX T A C X.nox)(fr:Frm X)(F:Fc X.nox T A cf k)(hr:Room (k+1) X.A){elt:Expr}{gens:List Comprehension}{scope:Scope}{p:Pos}{x:EX}(h:xE (m+1) C (.ListComp elt gens scope p)=some x)(d:Nat):
  hdC C=false/\CompPX X E elt gens scope (TXE T A X.K (evX T cf x d) E):=by
 simp only[xE]at h;split at h
 case h_2=>cases h
 rename_i gn hgen;rw[Xp]at h;obtain⟨ok,h⟩:=h;simp only[Xe,Vn]at ok;obtain⟨⟨ok,hh⟩,tln⟩:=ok;simp only[Xb]at h;obtain⟨src,hsrc,h⟩:=h;rw[Xp]at h;obtain⟨oks,h⟩:=h;simp only[Xb,Xc]at h;obtain⟨el,hel,x',hx',rfl⟩:=h;obtain⟨tg,rfl,htg⟩:=Jv hgen;obtain⟨ck,gb⟩:=ZM g ok;have N:Snd2 T A C X.nox cf m:=Qa2 m g F (λv=>hr) hr.units
 have hn:gn.xs.length=nN gn.b:=by
  rcases htg with⟨e,x,p,_,e'⟩|⟨e,x,p,y,q,k,pt,_,e'⟩<;>rw[e,e']<;>rfl
 refine⟨hh,tg,gn.iter,gn.tl,gn.xs,nN gn.b,_,gT X.K (tgN gn.b X.N.length),λv H Q=>Q true H,λY H Q=>Iv.TI T A X.K (ev T cf d el) Y H Q\/TXE T A X.K (evX T cf x' d) E Y H Q,rfl,⟨ck.kind,ck.loc,ck.all,ck.hid,ck.nd,ck.dot⟩,Qlb (N.w d gn.iter src tg hsrc (Qa0 htg oks)),hn,(λC0 s H fp=>show PG (X.nox.block gn.xs scope C0 s H fp) tg _ from JO g hh ck (gb C0 s H fp) htg),(λC0 s H fp=>?_),(λC0 s H fp=>?_),Qat hsrc,λY H Q hl hq=>Qcv g.txt hl hq⟩
 ·rw[Option.isNone_iff_eq_none.mp tln];exact λv v v z=>z
 ·have S2:Snd2 T A (C.inner gn.xs scope) (X.nox.block gn.xs scope C0 s H fp) cf m:=Qa2 m (gb C0 s H fp) ⟨F.ok,F.some,F.df,F.xf,F.hk⟩ (λv=>hr) hr.units;have P1:PE (X.nox.block gn.xs scope C0 s H fp) elt (Iv.TI T A X.K (ev T cf d el)):=S2.s.e d elt el hel;have P2:PE ((X.block gn.xs scope C0 s H fp).wish (QcD E (X.block gn.xs scope C0 s H fp))) elt (TXE T A X.K (evX T cf x' d) E):=(IH (C:=C.inner gn.xs scope) (X:=(X.block gn.xs scope C0 s H fp).wish (QcD E (X.block gn.xs scope C0 s H fp))) (gb C0 s H fp) QoR fr ⟨F.ok,F.some,F.df,F.xf,F.hk⟩ hr).1 d elt x' hx';exact Qng (PE.nox (X:=(X.block gn.xs scope C0 s H fp).wish (QcD E (X.block gn.xs scope C0 s H fp))) P1) P2
def CompPX.pe{elt:Expr}{gens:List Comprehension}{scope:Scope}{pos:Pos}{t:TE}(hx:Qel X E)(fr:Frm X)(hc:X.calm=true)(h:CompPX X E elt gens scope t):PE X (.ListComp elt gens scope pos) t:=λpins s Y H Q I q=>by
 obtain⟨tg,iter,tl,xs,n,wi,gt,tt,te,rfl,ck,hi,hn,hg,ht,he,hf,imp⟩:=h;exact QbP hx fr hc ck hi hn hg ht he hf pins s Y H Q I (imp Y H Q I.len q)
def QcG(h:xE m C e=some x):∀y p,e≠.Starred y p:=by
 rintro y p rfl;cases m<;>simp[xE]at h
theorem Qir:∀m,QnU T A cf E k m
 |0,_,_=>λg hx fr F hr=>⟨λd e x h=>by simp[xE]at h,λd es x h=>by simp[xA]at h⟩
 |m+1,C,X=>by
  intro g hx fr F hr;have IH:=Qir m g hx fr F hr;have N:Snd2 T A C X.nox cf m:=Qa2 m g F (λw=>hr) hr.units;refine⟨λd e x h=>?_,λd es x h=>?_⟩
  ·cases e with
   |Call g0 as ks q=>
    cases as with
    |nil=>cases h
    |cons a r=>
     simp only[xE]at h;rw[Option.ite_none_left_eq_some,Xb]at h;obtain⟨ns,i,hi,h⟩:=h;obtain⟨f,p,rfl,rfl,hh,gf,df,lf,hF⟩:=QiG hi;obtain⟨Fn,hF⟩:=Wz.mp hF;rw[g.CT]at hF
     have ns:=QoB (show Qhy (a::r)=true by simpa using ns)
     have own:∀y,Qmn m C i (a::r)=some y->PE X (.Call (.Name f p) (a::r) [] q) (TXE T A X.K (evX T cf y d) E):=λy hy=>by
      unfold Qmn at hy;rw[Xp,Xc]at hy;obtain⟨_,es,ha,rfl⟩:=hy;exact Qhd hx g F (hr.mono (Ul _)) N.s gf df lf ha
     have arg:∀y,xA m C (a::r)=some y->PE X (.Call (.Name f p) (a::r) [] q) (TXE T A X.K (evX T cf y d) E):=λy hy=>Qhi g F gf df lf hF ns (IH.2 d _ _ hy)
     rcases Qf1 h with⟨y,z,h1,h2,rfl⟩|h1|h1
     ·exact Qk3 (own y h1) (arg z h2)
     ·exact own x h1
     ·exact arg x h1
   |Tuple es c p=>exact QT (QfX (IH.2 d es x h)) λY H Q z=>z
   |IfExp t a b p=>
    simp only[xE,Xb]at h;obtain⟨t',ht,h⟩:=h;rw[Qkp h];refine QT (QbO (PT.nox (N.s.t d t t' ht).1) (Qf5 (IH.1 d a)) (Qf5 (IH.1 d b))) λY H Q z=>?_;obtain⟨α,Z,hs,c,hs',rs,R,e,q⟩:=z;simp only[evX]at e;split at e
    ·rename_i h1 e1;refine TIT.run rs R e1 λα1 H1 E1 R1 rs1=>?_;rw[if_pos rfl];exact⟨α1,Z,h1,c,hs',rs1,R1,e,λα2 H2 dd E2 R2 f2=>q α2 H2 dd (E1.trans E2 R2.h) R2 f2⟩
    ·rename_i h1 e1;refine TIT.run rs R e1 λα1 H1 E1 R1 rs1=>?_;rw[if_neg Xi];exact⟨α1,Z,h1,c,hs',rs1,R1,e,λα2 H2 dd E2 R2 f2=>q α2 H2 dd (E1.trans E2 R2.h) R2 f2⟩
    ·cases e
   |ListComp elt gens scope p=>
    obtain⟨hh,cp⟩:=QfD (Qir m) g fr F hr h d;exact cp.pe hx fr (g.calm hh)
   |_=>cases h
  ·cases es with
   |nil=>cases h
   |cons e r=>
    simp only[xA]at h
    have one:∀y,xE m C e=some y->PA X (e::r) (TXA T A X.K (evX T cf y d) E):=λy hy pos pins s Y H Q I q=>
     Zt (t:=λw w w=>False) (IH.1 d e y hy) (Qio λw w w z=>z) (Qf (QcG hy)) pos pins s Y H Q I q
    have two:∀y,((Qd m C e).bind λe'=>(xA m C r).map (.arg e'))=some y->PA X (e::r) (TXA T A X.K (evX T cf y d) E):=λy hy pos pins s Y H Q I q=>by
     simp only[Xb,Xc]at hy;obtain⟨e',he,z,hz,rfl⟩:=hy;refine Zt (PE.nox (N.s.e d e e' he)) (IH.2 d r z hz) (Qf (Qt he)) pos pins s Y H Q I ?_;obtain⟨α,Z,hs,c,hs',rs,R,e,q⟩:=q;simp only[evX]at e;obtain⟨u,h1,e1,e⟩:=Qb e;exact TI.run rs R e1 λα1 v H1 E1 R1 r1 rs1=>⟨α1,Z,h1,c,hs',rs1,R1,e,λα2 H2 dd E2 R2 f2=>q α2 H2 dd (E1.trans E2 R2.h) R2 f2⟩
    rcases Qf1 h with⟨y,z,h1,h2,rfl⟩|h1|h1
    ·exact Qk4 (one y h1) (two z h2)
    ·exact one x h1
    ·exact two x h1
def Qi4{tg:Option Expr}{l:Nat}{env:Env}(h:xE m C e=some x)(hn:∀elt gens scope p,e≠.ListComp elt gens scope p):swapsWith e tg l env=pure false:=by
 cases m with
 |zero=>cases h
 |succ m=>
  cases e with
  |ListComp elt gens scope p=>exact absurd rfl (hn elt gens scope p)
  |_=>first|rfl|cases h
def Qco{pins:List (Addr×Obj)}{H':Hp}{s':Shared}{e C:Addr}{dd:Option Addr}{B:Heap}{a0:Value}{E2:Value->Shared->Prop}{L:Addr}(hst:X.stack=X.env::X.outer)(hf:X.env.frame=some L)(hex:X.ex=[])(J:Inv X pins Y H' s')(f:L2.Fl X B e C a0 s'.heap)(cv:CovX X B H')
  (hn:H' e=none) (h0:∀o,X.s₀.heap.get? e=some o->e∈X.ex) (da:DictAt s'.heap e dd) (hE:E (.ref C) dd H'):wpAny (model X.prog X.w) X.A (leaving X.env (.ref e)) (λv s''=>CXw X.prog X.w X.outer X.H₀ X.s₀ E (.ref e) s'') E2 s':=by
 have cv':Cov B H' X.s₀ X.outer:=⟨cv.trk,λb o q hb=>cv.old b o q (λz=>by
  rcases Xo.mp (J.stkSub b z)with w|w
  ·exact X4 (Xr (Xk q) J.ok.above) w
  ·exact hb w) (by rw[hex];simp)⟩
 have h0':X.s₀.heap.get? e=none:=by
  cases q:X.s₀.heap.get? e with
  |none=>rfl
  |some o=>have:=h0 o q;rw[hex]at this;cases this
 rcases f with fl|⟨L',hf',fl⟩
 ·exact Qdy hst hf hex J fl cv' hn h0' da hE
 ·rw[hst]at fl;unfold leaving;refine Xa (PySem.wpAny_noteFrame_againW hf' fl.2.2.2 ?_);refine Xj (ZW (E:=λv v=>False) Zp (wpAny_landsW (s:=s') (Q:=λv s''=>∃h',s''={s' with heap:=h'}/\Heap.FlyingW B (X.env::X.outer) e (.ref C) a0 h'/\s'.heap.UpToSlots h') fl λh' x y=>⟨h',rfl,x,y⟩)) (λv s'' u=>?_) λv v z=>z.1.elim;obtain⟨⟨h',e',fl',up⟩,dk⟩:=u;subst e';obtain⟨k1,k2,⟨_,_,k3⟩,k4⟩:=fl';have b:=J.base;rw[hex]at b;obtain⟨un,hok⟩:=QbC b J.hok J.ok.funs J.ok.frf fl.1 k1 up cv';exact⟨e,C,H',B,a0,dd,rfl,J.os,J.bare,un,hok,⟨k1,k2,k3,k4⟩,cv',hn,h0',da.dk dk,hE⟩
def Qgu{b:List Stmt}{hs:List ExceptHandler}{o fn:List Stmt}{x:EX}(h:Qlg m C b hs o fn=some x):∃f pf a args q1 q2 y py z pz a1 as q3 kk cp q4 ph c i d es bs,b=[.Return (some (.Call (.Name f pf) (a::args) [] q1)) q2] /\
  hs=[.ExceptHandler (some (.Name y py)) none [.Raise (some (.Call (.Name z pz) (a1::as) [] q3)) (some (.Constant .none kk cp)) q4] ph]/\o=[]/\fn=[]/\C.bl.contains ("isinstance":Str)= true/\Qaf C y=some c/\Ji C f=some i/\Qaf C z=some d /\
  C.T.ers.contains d=true/\C.T.chs.contains d=true/\compA m C (a::args)=some es/\compA m (hdX C) (a1::as)=some bs/\x=.tryR i es c d bs:=by
 unfold Qlg at h;split at h
 ·rw[Xp]at h;obtain⟨hb,h⟩:=h;simp only[Xb]at h;obtain⟨c,hc,i,hi,d,hd,h⟩:=h;rw[Xp,Xe]at h;obtain⟨⟨h1,h2⟩,h⟩:=h;simp only[Xb,Xc]at h;obtain⟨es,he,bs,hbs,rfl⟩:=h;exact⟨_,_,_,_,_,_,_,_,_,_,_,_,_,_,_,_,_,c,i,d,es,bs,rfl,rfl,rfl,rfl,hb,hc,hi,hd,h1,h2,he,hbs,rfl⟩
 ·cases h
abbrev HxI(X:Cx)(A:Adr)(E:XK):Prop:=∀pins Y H s e oe vs a0 c,Inv X pins Y H s->H e=none->X.s₀.heap.get? e=none->e≠X.env.locals->s.heap.get? e=some oe->oe.cls=.ref (A.c c)->oe.data=.fields vs->vs[0]?=some a0->(vs[1]?=some .none/\(vs[2]?=some .none\/chB (.ref (A.c c))=true))->E (.ref (A.c c)) oe.dict H->X.xe (.ref e) s
def Qja{b:List Stmt}{hs:List ExceptHandler}{o fn:List Stmt}{p:Pos}{d:Nat}(hxi:HxI X A E)(hpa:∀v,PassesOwnAt (model X.prog X.w) (X.A.mark v) X.A X.env X.xe)(bX:Bd X)(g:GX T A C X.nox)(F:Fc X.nox T A cf k)(hr:Room (k+1) X.A)(ht:Qlg m C b hs o fn=some x):
  PS X (.Try b hs o fn p) (TX T A X.K (evX T cf x d) E):=by
 obtain⟨f,pf,a,args,q1,q2,y,py,z,pz,a1,as,q3,kk,cp,q4,ph,c,i,c2,es,bs,rfl,rfl,rfl,rfl,hbl,t1,t2,t3,t4,t5,ha,hbs,rfl⟩:=Qgu ht;obtain⟨gx,dx,lx⟩:=JE t1;obtain⟨gf,df,lf⟩:=YG t2;obtain⟨gz,dz,lz⟩:=JE t3;rw[g.CT]at t4 t5;have S:Snd T A C X.nox cf m:=(Qa2 m g F (λn=>hr) hr.units).s;have hns:=Qi ha;have st:starEach (a::args) X.env=(false,eval a X.env)::starEach args X.env:=Qf (hns a (Xh ..));have sa:(backTo q1 (starEach args X.env)).any (·.1)=false:=QG λz hz=>hns z (Xg _ hz);intro pins s Y H D I q;obtain⟨α,Z,hs0,c',hs',rs,R,e,q⟩:=q;simp only[evX]at e;obtain⟨us,hh1,e1,e⟩:=Qb e;split at e
 case h_2=>cases e
 rename_i c1 h2 ex';rw[Xp]at e;obtain⟨⟨k1,k2,k3,k4,k5,k6⟩,e⟩:=e;obtain⟨us2,h3,e3,e⟩:=Qb e;cases e
 cases hF:T.fns[i]? with
 |none=>rw[hF]at k6;cases k6
 |some Fn=>
 rw[hF]at k6;have k6:us.length=Fn.np:=Wr k6;obtain⟨fd,G,bb,kp⟩:=F.xf i Fn hF;refine wpAny_Try_except ?_;refine Uu (wpAny_Return_some ?_);refine Wl (QR I (show Gl X f from QS (X:=X.nox) g gf) (g.gfn f i lf) ?_ (Qz df));have pa0:=S.a d (a::args) es ha q1 pins s Y H (λvs H1=>∃α1,Ext α α1 H H1/\Rep T A X.K α1 hh1 H1/\RUs A α1 us vs) (I.wish _) ⟨α,Z,hs0,us,hh1,rs,R,e1,λα' vs H' E' R' r'=>⟨α',E',R',r'⟩⟩;refine Up (h₀:=X.base) I.ok.mod.kin kp (Xj pa0 (λus1 s1 ⟨vs,H1,I1,r,α1,E1,R1,ru⟩=>⟨I1.unwish.kIn,?_⟩) λn n z=>z.elim) st sa;have I1:=I1.unwish
 have ll:us1.length=Fn.ps.length:=by
  obtain⟨fd',fn',_,_,lp,_⟩:=g.txt.fn i Fn hF;rw[lp,<-k6,ru.length,r.length]
 have hsp:spX T A X.K T.xf i vs H1 (λn n=>False) (λCv o H'=>Cv=.ref (A.c c1.1)/\EF T H' c1 o/\∃α',Ext α1 α' H1 H'/\Rep T A X.K α' h2 H'):=
  ⟨α1,us,hh1,c1,h2,ru,R1,ex',⟨Fn,hF,k6⟩,λα' H' dd E' R' ef=>⟨rfl,ef,α',E',R'⟩⟩
 refine Uc (V4 (G.run X.A X.stack s1 H1 ⟨us1,[]⟩ us1 vs _ _ (hr.mono (Ul _)) I1.env0 (by have:=bb s1 us1 I1.kIn (by rw[Wj];exact ll);rw[Wj]at this;exact this) r hsp) λrr s' hq=>?_)
 cases rr with
 |ok fl=>
  cases fl with
  |ret u=>
   obtain⟨_,_,_,_,_,_,_,z⟩:=hq;exact z.elim
  |next=>exact False.elim hq
  |brk=>exact False.elim hq
  |cont=>exact False.elim hq
 |error ev=>
  obtain⟨e0,C0,H',B,a0,dd,rfl,os,bare,un,hok,flw,cv,hn,hs0',da,⟨hC,ef,α2,E2,R2⟩⟩:=hq;cases hC
  have h00:X.s₀.heap.get? e0=none:=by
   cases q:X.s₀.heap.get? e0 with
   |none=>rfl
   |some ob=>
    obtain⟨o',ho⟩:=I1.base.there e0 ob q (by rw[bX.ex];simp)
    rw[hs0']at ho;cases ho
  have M:Met X pins Y H1 H' s1 s' e0 (A.c c1.1) dd B a0:=⟨I1,os,bare,un,hok,flw,cv,hn,hs0',h00,da⟩;refine Qic bX.stk bX.frm M (show Gl X y from QS (X:=X.nox) g gx) (g.gcl y c lx) (g.txt.es c1.1 c k2) (Qz dx) hpa ((g.txt.ch c1.1 k1).trans k3) λs7 J7 l=>?_;obtain⟨ob,vb,b1,b2,b3⟩:=l;refine Uu ?_;have gh:GX T A (hdX C) (X.nox.hd (.ref e0)):=QhW g hbl
  have Sh:=(Qa2 (k:=k) m gh (⟨F.ok,F.some,F.df,F.xf,F.hk⟩:Fc (X.nox.hd (.ref e0)) T A cf k) (λz=>by rw[QaE]at z;cases z) hr.units).s
  have rs2:=(rs.mono E1.pre).mono E2.pre;have hnb:=Qi hbs;obtain⟨nf,xk⟩: (∀f,T.efl.contains (c2,f)= false)/\W.excIn X.K (A.c c2) Qad "ValueError.__new__"=true:=(g.txt.er c2 t4).2;obtain⟨tl,N,nm,qn,bs',hdct,sn,sub,ab,col,ddd,w0,w1,w2,w3,w5,mN,hC,hN,hni,TL⟩:=Qbn J7.ok.mod.kin xk
  have hL:e0≠X.env.locals:=λw=>by
   obtain⟨mm,⟨o,_,_,ho,_⟩,_⟩:=I1.loc;rw[<-w,hs0']at ho;cases ho
  have nfs:e0∉X.fs:=λhb=>by
   obtain⟨_,o,ho,_⟩:=I1.ok.funs.mem hb;rw[h00]at ho;cases ho
  have J8:Inv (X.hd (.ref e0)) (pins++[(e0,ob)]) Y H' s7:=J7.pins_of λp hp=>by
   rcases X5.mp hp with hp|hp
   ·exact J7.pin p (Xq _ hp)
   ·rw[Wu.mp hp]
    exact⟨b1,hn,hL,nfs,λv w=>by rw[b2]at w;cases w⟩
  refine YV (b:=e0) (C:=A.c c2) (nm:=nm) (q:=qn) (N:=N) (bs:=bs') (bm:=tl) (hdct:=hdct) (sn:=sn) (sub:=sub) (ab:=ab) (col:=col) (dd:=ddd) (k0:=w0) (k1:=w1) (k2:=w2) (k3:=w3) (k5:=w5)
   W4 (mN:=mN) (TL.hasType W4.hasBase) rfl (by rw[Qf (hnb a1 (Xh ..))];show(false||(backTo q3 (starEach as X.env)).any (·.1))=false;rw[QG λz hz=>hnb z (Xg _ hz)];rfl) hni
   (QR J8 (show Gl (X.hd (.ref e0)) z from QS (X:=X.nox) g gz) (g.gcl z c2 lz) ⟨rfl,?_⟩ (Qz dz))
  have pa1:=Sh.a d (a1::as) bs hbs q3 _ s7 Y H' (λvs H1=>vs.length<=sizeLine/\∃α1,Ext α2 α1 H' H1/\Rep T A X.K α1 hs' H1) (J8.wish _) ⟨α2,Z,h2,us2,hs',rs2,R2,e3,λα' vs H' E' R' r'=>⟨by rw[<-r'.length,Z2 e3];exact X1 k5 (by decide),α',E',R'⟩⟩
  rw[show starEach (a1::as) (X.nox.hd (.ref e0)).env=(false,eval a1 X.env)::starEach as X.env from Qf (hnb a1 (Xh ..))]at pa1;rw[Qf (hnb a1 (Xh ..))];refine Calls.evalArgs_plain (Xj pa1 (λus3 s3 j=>?_) λn n z=>z.elim);obtain⟨vs3,H3,I3,r3,l3,α3,E3,R3⟩:=j;have I3:Inv (X.hd (.ref e0)) (pins++[(e0,ob)]) Y H3 s3:=I3.unwish;have pb:=I3.pin (e0,ob) (Xq _ (Xq _ (List.mem_singleton_self _)))
  refine⟨rfl,by rw[<-r3.length];exact l3,I3.bk _ _ hC,hN.keeps I3.bk,TL.keeps I3.bk,⟨ob,vb,pb.1,b2,b3⟩,λh' e t hk he0 he1=>?_⟩
  have J3:=(I3.unpinned.unhd I1.ok).kept (t':=s3.toks) hk
  have hn3:H3 e=none:=by
   cases q:H3 e with
   |none=>rfl
   |some u=>
    obtain⟨o,ho⟩:=(I3.hok e u q).there;rw[he0]at ho;cases ho
  refine hxi pins Y H3 _ e _ _ (.ref t) c2 J3 hn3 ?_ ?_ he1 rfl rfl rfl ⟨rfl,.inr ((g.txt.ch c2 t4).trans t5)⟩ (q α3 H3 none ((E1.trans E2 R2.h).trans E3 R3.h) R3 λf q=>by rw[nf f]at q;cases q)
  ·cases q:X.s₀.heap.get? e with
   |none=>rfl
   |some o=>
    obtain⟨o',ho⟩:=I3.base.there e o q (by rw[show(X.hd (.ref e0)).ex=[]from bX.ex];simp)
    rw[he0]at ho;cases ho
  ·intro w;obtain⟨mm,⟨o,_,_,ho,_⟩,_⟩:=I3.loc;rw[<-show e=(X.hd (.ref e0)).env.locals from w,he0]at ho;cases ho
def Ql2{stt:Stmt}{n:Iv.S}(hx:Qel X E)(hxi:HxI X A E)(hpa:∀v,PassesOwnAt (model X.prog X.w) (X.A.mark v) X.A X.env X.xe)(bX:Bd X)(g:GX T A C X.nox)(fl:∀x,X.fn x=true\/X.env.scope.names.lookup x=some .local)(F:Fc X.nox T A cf k)(hr:Room (k+1) X.A)(hs:xS m C stt=some x):
  PS X stt (TX T A X.K (exX T cf (d+1) (.xal n x)) E):=by
 have fr:Frm X:=⟨_,_,_,bX.stk,bX.frm,bX.frm⟩
 have z:exX T cf (d+1) (.xal n x)=evX T cf x d:=by funext Z hs;simp only[exX]
 rw[z]
 cases stt with
 |Try b hs' o fn p=>exact Qja hxi hpa bX g F hr hs
 |Assign ts e p=>
  simp only[xS]at hs;split at hs
  ·rename_i y hy;obtain⟨py,rfl⟩:=Qbw hy;rw[Xp]at hs;obtain⟨hl,hs⟩:=hs;rw[Xe]at hl;obtain⟨i,hi⟩:=Wz.mp hl.2
   have hN:X.N[i]?=some y:=by have:=g.N;rw[show X.N=X.nox.N from rfl,this];exact Q3 hi
   by_cases hc:∃elt gens scope q,e=.ListComp elt gens scope q
   ·obtain⟨elt,gens,scope,q,rfl⟩:=hc
    cases m with
    |zero=>cases hs
    |succ m=>
     obtain⟨hh,cp⟩:=QfD (Qir m) g fr F hr hs d;intro pins s Y H D I w;obtain⟨tg,iter,tl,xs,n,wi,gt,tt,te,rfl,ck,hi',hn,hg,ht,he,hf,imp⟩:=cp;exact QeP hx fr bX.cm g.nd ck hi' hn hg ht he hf hN (Qaw (X:=X.nox) g hl.1) (fl y) pins s Y H D I (imp Y H _ I.len w)
   ·exact Zr (Jn (i:=i) g.nd hN (Qaw (X:=X.nox) g hl.1) ((Qir m g hx fr F hr).1 d e x hs) (Qi4 hs λa b c q w=>hc ⟨a,b,c,q,w⟩) (fl y)) λD Y H w=>w
  ·cases hs
 |Return v p=>
  cases v with
  |none=>cases hs
  |some e=>exact Zr (Qc8 ((Qir m g hx fr F hr).1 d e x hs)) λD Y H w=>w
 |Expr e p=>
  simp only[xS]at hs;rw[Xp]at hs;obtain⟨nl,hs⟩:=hs
  exact Zr (Qa8 ((Qir m g hx fr F hr).1 d e x hs) (Qi4 hs λa b c q w=>by rw[w]at nl;cases nl)) λD Y H w=>w
 |_=>cases hs
end
end
section
variable {c:Er}{H:Hp}{p:Pos}{ir:S}{st:Stmt}{T':Tbl}
section
variable {X:Cx}{T:Tbl}{A:Adr}{C:Ctx}{cf:Cf}{m k:Nat}{E:XK}
def TX.run{K:W.Frag}{α:List Addr}{Z:Rho}{Y:St}{hs h1:Hs}{f:Rho->Hs->Option (Er×Hs)}{D:Ends}(rs:RS A α Z Y)(rp:Rep T A K α hs H)(h:f Z hs=some (c,h1))
  (q:∀α1 H1 dd,Ext α α1 H H1->Rep T A K α1 h1 H1->EF T H1 c dd->E (.ref (A.c c.1)) dd H1):TX T A K f E D Y H:=⟨α,Z,hs,c,h1,rs,rp,h,q⟩
def QeI{e f:Option Expr}{c:Nat}{args:List Expr}(h:QeJ C e f=some (c,args)): ∃x px q,e=some (.Call (.Name x px) args [] q)/\f=none/\ZT C x=true/\x≠"__debug__"/\C.gl.lookup x=some (.cls c)/\C.T.ers.contains c=true:=by
 unfold QeJ at h;split at h
 ·split at h
  ·rename_i q;simp only[Xe,Xw]at q;split at h
   ·rename_i z;split at h
    ·rename_i z2;cases h;exact⟨_,_,_,rfl,rfl,q.1,q.2,z,z2⟩
    ·cases h
   ·cases h
  ·cases h
 ·cases h
structure SndX(T:Tbl)(A:Adr)(C:Ctx)(X:Cx)(cf:Cf)(E:XK)(m:Nat):Prop where
 s:∀d st ir,QJ m C st=some ir->PS X st (TX T A X.K (exX T cf d ir) E)
 ss:∀d sts irs,compSs m C sts=some irs->PSs X sts (TX T A X.K (exsX T cf d irs) E)
def SndX.sB{E:XK}(SS:SndX T A C X cf E m)(d:Nat)(st:Stmt):PS X st (TX T A X.K (exX T cf d (Qk0 (QJ m C st))) E):=by
 cases e:QJ m C st with
 |some ir=>exact SS.s d st ir e
 |none=>exact ZE λD Y H y=>by obtain⟨_,_,_,_,_,_,_,z,_⟩:=y;cases d<;>simp[Qk0,exX]at z
noncomputable def kdX:S->Bool
 |.rse ..|.ite ..|.cal ..|.xal ..|.loop ..=>true
 |_=>false
def nx(o:Option S):Prop:=∀ir,o=some ir->kdX ir=false
def Q1:nx none:=λz h=>nomatch h
def ZA{s:S}(h:kdX s=false):nx (some s):=λz e=>by cases e;exact h
def ZB{α:Type}{o:Option α}{f:α->Option S}(h:∀a,nx (f a)):nx (o.bind f):=by
 cases o with
 |none=>exact Q1
 |some a=>exact h a
def QbS{α:Type}{o:Option α}{f:α->S}(h:∀a,kdX (f a)=false):nx (o.map f):=by
 cases o with
 |none=>exact Q1
 |some a=>exact ZA (h a)
def Qch{c:Prop}[Decidable c]{a b:Option S}(ha:nx a)(hb:nx b):nx (if c then a else b):=by
 by_cases h:c
 ·rw[if_pos h];exact ha
 ·rw[if_neg h];exact hb
def JQ(h1:∀e f p,st≠.Raise e f p)(h2:∀t a b p,st≠.If t a b p)(h3:∀tg it a o p,st≠.For tg it a o p):nx (QJ (m+1) C st):=by
 cases st with
 |Raise e f p=>exact absurd rfl (h1 e f p)
 |If t a b p=>exact absurd rfl (h2 t a b p)
 |Pass=>exact ZA rfl
 |Break=>exact ZA rfl
 |Continue=>exact ZA rfl
 |Expr e p=>
  unfold QJ;dsimp only;generalize QmQ e=z
  rcases z with _|_|_
  ·exact QbS λw=>rfl
  ·exact Q1
  ·exact ZA rfl
 |Return v p=>
  cases v with
  |none=>exact ZA rfl
  |some e=>exact QbS λw=>rfl
 |Assign ts e p=>
  unfold QJ;dsimp only;generalize Qgk ts=z
  rcases z with _|z
  ·exact Q1
  ·cases z with
   |nm x=>exact Qch (ZB λw=>ZB λw=>ZA rfl) Q1
   | «at» o f=>exact Qch (ZB λw=>ZB λw=>ZB λw=>ZA rfl) Q1
   |sub o i=>exact Q1
   |two x p y q=>
    refine Qch (ZB λw=>ZB λw=>?_) Q1;generalize QfZ e=z
    rcases z with _|⟨a,b⟩
    ·exact Qch (QbS λw=>rfl) Q1
    ·exact Q1
   |many es=>exact Q1
 |Try b hs o fn p=>
  unfold QJ;dsimp only;generalize QcO C b hs o fn=z
  rcases z with _|z
  ·exact Qch (QbS λw=>rfl) Q1
  ·exact Qch (ZB λw=>ZB λw=>ZA rfl) Q1
 |For tg it a o p=>exact absurd rfl (h3 tg it a o p)
 |_=>exact Q1
def QoP(C:Ctx)(m:Nat)(tg it:Expr)(a:List Stmt):S->Prop
 |.loop t s b=>Yy C tg=some t/\compSrc m C it=some s/\Qar s t=true/\compSs m C a=some b
 |.loopK ..=>True
 |.loopC ..=>True
 |.loopD ..=>True
 |.loopZ ..=>True
 |_=>False
def Yj{tg it:Expr}{a o:List Stmt}(h:QJ (m+1) C (.For tg it a o p)=some ir):o=[]/\QoP C m tg it a ir:=by
 cases o with
 |cons _ _=>exact nomatch (show none=some _ from h)
 |nil=>
  unfold QJ at h;try dsimp only at h;simp only[Xb]at h;obtain⟨tg',ht,it',hi,h⟩:=h;split at h
  ·rename_i ok;simp only[Xb]at h;obtain⟨a',ha,h⟩:=h;cases h;exact⟨rfl,ht,hi,ok,ha⟩
  ·cases h
def Qlr(st:Stmt):(∃e f p,st=.Raise e f p)\/(∃t a b p,st=.If t a b p)\/(∃tg it a o p,st=.For tg it a o p)\/((∀e f p,st≠.Raise e f p)/\(∀t a b p,st≠.If t a b p)/\∀tg it a o p,st≠.For tg it a o p):=by
 cases st with
 |Raise e f p=>exact .inl ⟨e,f,p,rfl⟩
 |If t a b p=>exact .inr (.inl ⟨t,a,b,p,rfl⟩)
 |For tg it a o p=>exact .inr (.inr (.inl ⟨tg,it,a,o,p,rfl⟩))
 |_=>exact .inr (.inr (.inr ⟨λy y y z=>(nomatch z),λy y y y z=>(nomatch z),λy y y y y z=>(nomatch z)⟩))
def ZD{e f:Option Expr}(h:QJ (m+1) C (.Raise e f p)=some ir):ir=.bad\/∃c args es,QeJ C e f=some (c,args)/\compA m C args=some es/\ir=.rse c es:=by
 unfold QJ at h;try dsimp only at h;split at h
 ·rename_i c args hr;simp only[Xb]at h;obtain⟨es,he,h⟩:=h;cases h;exact .inr ⟨c,args,es,hr,he,rfl⟩
 ·cases h;exact .inl rfl
def YK{t0:Expr}{a0 b0:List Stmt}(h:QJ (m+1) C (.If t0 a0 b0 p)=some ir):∃t a b,compT m C t0=some t/\compSs m C a0=some a/\compSs m C b0=some b/\ir=.ite t a b:=by
 unfold QJ at h;simp only[Xb]at h;obtain⟨t',ht,a',ha,b',hb,h⟩:=h;cases h;exact⟨t',a',b',ht,ha,hb,rfl⟩
def QdY{c:Nat}{es:List Iv.E}(h:QJ (m+1) C st=some (.rse c es)): ∃x px q args p,st=.Raise (some (.Call (.Name x px) args [] q)) none p/\compA m C args=some es/\ZT C x=true/\x≠"__debug__"/\C.gl.lookup x=some (.cls c)/\C.T.ers.contains c=true:=by
 rcases Qlr st with⟨e,f,p,rfl⟩|⟨t,a,b,p,rfl⟩|⟨tg,it,a,o,p,rfl⟩|⟨h1,h2,h3⟩
 ·rcases ZD h with z|⟨c',args,es',hr,he,z⟩
  ·cases z
  ·cases z;obtain⟨x,px,q,rfl,rfl,h1,h2,h3,h4⟩:=QeI hr;exact⟨x,px,q,args,p,rfl,he,h1,h2,h3,h4⟩
 ·obtain⟨_,_,_,_,_,_,z⟩:=YK h;cases z
 ·exact(Yj h).2.elim
 ·exact nomatch JQ h1 h2 h3 _ h
def QdZ{t:Iv.E}{a b:List S}(h:QJ (m+1) C st=some (.ite t a b)):∃t0 a0 b0 p,st=.If t0 a0 b0 p/\compT m C t0=some t/\compSs m C a0=some a/\compSs m C b0=some b:=by
 rcases Qlr st with⟨e,f,p,rfl⟩|⟨t0,a0,b0,p,rfl⟩|⟨tg,it,a,o,p,rfl⟩|⟨h1,h2,h3⟩
 ·rcases ZD h with z|⟨_,_,_,_,_,z⟩<;>cases z
 ·obtain⟨t',a',b',ht,ha,hb,z⟩:=YK h;cases z;exact⟨t0,a0,b0,p,rfl,ht,ha,hb⟩
 ·exact(Yj h).2.elim
 ·exact nomatch JQ h1 h2 h3 _ h
def Qcw{t:Tg}{s:Src}{b:List S}(h:QJ (m+1) C st=some (.loop t s b)):∃tg it a p,st=.For tg it a [] p/\Yy C tg=some t/\compSrc m C it=some s/\Qar s t=true/\compSs m C a=some b:=by
 rcases Qlr st with⟨e,f,p,rfl⟩|⟨t0,a0,b0,p,rfl⟩|⟨tg,it,a,o,p,rfl⟩|⟨h1,h2,h3⟩
 ·rcases ZD h with z|⟨_,_,_,_,_,z⟩<;>cases z
 ·obtain⟨_,_,_,_,_,_,z⟩:=YK h;cases z
 ·obtain⟨rfl,q⟩:=Yj h;exact⟨tg,it,a,p,rfl,q⟩
 ·exact nomatch JQ h1 h2 h3 _ h
def QdX{n:S}{x:EX}(h:QJ (m+1) C st=some (.xal n x)):False:=by
 rcases Qlr st with⟨e,f,p,rfl⟩|⟨t0,a0,b0,p,rfl⟩|⟨tg,it,a,o,p,rfl⟩|⟨h1,h2,h3⟩
 ·rcases ZD h with z|⟨_,_,_,_,_,z⟩<;>cases z
 ·obtain⟨_,_,_,_,_,_,z⟩:=YK h;cases z
 ·exact(Yj h).2
 ·exact nomatch JQ h1 h2 h3 _ h
def Qk8{st:List Stmt}{t:TS}(h:PSs X.nox st t):PSs X st t:=λpins s Y H D I hw=>
 Xj (h pins s Y H D (I.wish _) hw) (λy y q=>q.unwish) λy y z=>False.elim z
def Qk9{b:List Stmt}{t1 t2:TS}(h1:PSs X b t1)(h2:PSs X b t2):PSs X b (λD Y H=>t1 D Y H\/t2 D Y H):=λpins s Y H D I z=>z.elim (h1 pins s Y H D I) (h2 pins s Y H D I)
def QdI{d:Nat}{body:List S}{w:Wk}{t:Tg}{J:It}{D:Ends}{α0:List Addr}{H0:Hp}{σ0:St}{ρ0:Rho}{h0 hs':Hs}{n:Nat}(tx:Txt T A X.K X.mg)(rs0:RS A α0 ρ0 σ0)(R0:Rep T A X.K α0 h0 H0)(W0:WJ A X.K α0 J H0 w)
  (e0:Qh1 T w t (exs T cf d body) (exsX T cf d body) n 0 ρ0 h0=some (c,hs'))
  (q:∀α' H' dd,Ext α0 α' H0 H'->Rep T A X.K α' hs' H'->EF T H' c dd->E (.ref (A.c c.1)) dd H'):
  ∃W:Nat->Nat->St->Hp->Prop,(∃m,W 0 m σ0 H0)/\∀i m Y H,W i m Y H->(J.stop i H/\D.nx Y H)\/(J.go i H/\∃N:St->Hp->Prop,(∀Y' H',N Y' H'->∃m',m'<m/\W (i+1) m' Y' H') /\
   ∀x H',J.yld i H x H'->gT X.K t x Y H' λσ2 H2=>TIS T A X.K (exs T cf d body) {D with nx:=N,ct:=N,bk:=D.nx} σ2 H2\/TX T A X.K (exsX T cf d body) E {D with nx:=N,ct:=N,bk:=D.nx} σ2 H2):=by
 refine⟨λi m Y H=>∃α Z hs,RS A α Z Y/\Rep T A X.K α hs H/\Ext α0 α H0 H/\Qh1 T w t (exs T cf d body) (exsX T cf d body) m i Z hs=some (c,hs'),⟨n,α0,ρ0,h0,rs0,R0,Ext.refl,e0⟩,?_⟩;rintro i m Y H ⟨α,Z,hs,rs,R,E0,e⟩
 cases m with
 |zero=>cases e
 |succ m=>
  have W:=W0.mono E0.pre E0.fz;simp only[Qh1]at e;split at e
  ·cases e
  ·cases e
  ·rename_i x ei;split at e
   ·cases e
   ·rename_i ρ1 et;obtain⟨go,yl⟩:=Jt tx R W rs ei et;refine .inr ⟨go,λY' H'=>∃α Z hs,RS A α Z Y'/\Rep T A X.K α hs H'/\Ext α0 α H0 H'/\Qh1 T w t (exs T cf d body) (exsX T cf d body) m (i+1) Z hs=some (c,hs'),λY' H' z=>⟨m,W3 _,z⟩,?_⟩;intro v H' hy;refine yl v H' _ hy λσ2 rs2 R2 E2=>?_;have E02:Ext α0 α H0 H':=E0.trans E2 R2.h;split at e
    ·rename_i ρ2 h2 eb;exact .inl (TIS.run rs2 R2 eb λα3 σ3 H3 E3 R3 rs3=>⟨α3,ρ2,h2,rs3,R3,E02.trans E3 R3.h,e⟩)
    ·rename_i ρ2 h2 eb;exact .inl (TIS.run rs2 R2 eb λα3 σ3 H3 E3 R3 rs3=>⟨α3,ρ2,h2,rs3,R3,E02.trans E3 R3.h,e⟩)
    ·cases e
    ·exact .inr (TX.run rs2 R2 e λα3 H3 dd E3 R3 f3=>q α3 H3 dd (E02.trans E3 R3.h) R3 f3)
theorem Qnp(hxe:∀pins Y H s h' e vs c,Inv X pins Y H s->Heap.MadeExcOf s.heap h' e (.ref (A.c c)) vs->E (.ref (A.c c)) none H->X.xe (.ref e) {s with heap:=h'})(hxi:HxI X A E)(hpa:∀v,PassesOwnAt (model X.prog X.w) (X.A.mark v) X.A X.env X.xe)(hxf:Qel X E)(hpo:PassesOwn (model X.prog X.w) X.A X.env X.xe)(bX:Bd X)(g:GX T A C X.nox)(fl:∀x,X.fn x=true\/X.env.scope.names.lookup x=some .local)(F:Fc X.nox T A cf k)(hr:Room (k+1) X.A)(hr3:Room 3 X.A):∀m,SndX T A C X cf E m
 |0=>⟨λd st ir h=>by first|exact Znn h|simp[QJ]at h,λd sts irs h=>by exact Znn h⟩
 |m+1=>by
  have IH:=Qnp hxe hxi hpa hxf hpo bX g fl F hr hr3 m;have N:Snd2 T A C X.nox cf m:=Qa2 m g F (λy=>hr) hr.units;have NS:SndS T A C X.nox cf m:=QlW (X:=X.nox) ⟨bX.stk,bX.frm,bX.ex,bX.cm⟩ g fl F hr m;refine⟨λd st ir h=>?_,λd sts irs h=>?_⟩
  ·cases d with
   |zero=>exact ZE λD Y H u=>by obtain⟨_,_,_,_,_,_,_,e,_⟩:=u;cases e
   |succ d=>
   cases ir with
   |rse c es=>
    obtain⟨x,px,q,args,p,rfl,ha,g1,g2,g3,g4⟩:=QdY h;have cl:=g.gcl x c g3;rw[g.CT]at g4;obtain⟨nf,xk⟩:=(g.txt.er c g4).2
    have en:(∀f,T.efl.contains (c,f)=false)->∀H,EF T H (c,.non) none:=λz H f q=>by rw[z f]at q;cases q
    have pa:=Qlc (N.s.a d args es ha);have ln:=QF ha
    cases args with
    |nil=>
     have ee:es=[]:=by simpa using ln
     subst ee;refine Zr (Qc9 (W:=λH=>E (.ref (A.c c)) none H) xk (show Gl X x from QS (X:=X.nox) g g1) cl bX.cm (λpins Y H s h' e vs I mx w=>hxe pins Y H s h' e vs c I mx w) (Qz g2)) ?_;rintro D Y H ⟨α,Z,hs,c',hs',rs,R,e,q⟩;simp only[exX,evs,bd,rsv,Uj]at e;rw[Xp]at e;obtain⟨_,e⟩:=e;cases e;exact q α H none Ext.refl R (en nf H)
    |cons a r=>
     refine Zr (QeO (W:=λH=>E (.ref (A.c c)) none H) xk (show Gl X x from QS (X:=X.nox) g g1) cl bX.cm pa (λpins Y H s h' e vs I mx w=>hxe pins Y H s h' e vs c I mx w) (Qf (Qi ha a (Xh ..))) (QG λz hz=>Qi ha z (Xg _ hz)) (Qz g2)) ?_;rintro D Y H ⟨α,Z,hs,c',hs',rs,R,e,q⟩;simp only[exX]at e;obtain⟨us,h1,e1,e⟩:=Qb e;rw[Xp]at e;obtain⟨⟨_,lz⟩,e⟩:=e;simp only[rsv,Uj]at e;cases e;refine TIA.run rs R e1 λα1 vs H1 E1 R1 r1 rs1=>⟨?_,q α1 H1 none E1 R1 (en nf H1)⟩;rw[<-r1.length,Z2 e1]
     exact X1 lz (by decide)
   |ite t a b=>
    obtain⟨t0,a0,b0,p,rfl,ht,ha,hb⟩:=QdZ h;refine Zr (Qg5 (PT.nox (N.s.t d t0 t ht).1) (IH.ss d a0 a ha) (IH.ss d b0 b hb)) ?_;rintro D Y H ⟨α,Z,hs,c',hs',rs,R,e,q⟩;simp only[exX]at e;split at e
    ·rename_i h1 e1;refine TIT.run rs R e1 λα1 H1 E1 R1 rs1=>?_;rw[if_pos rfl];exact TX.run rs1 R1 e λα2 H2 dd E2 R2 f2=>q α2 H2 dd (E1.trans E2 R2.h) R2 f2
    ·rename_i h1 e1;refine TIT.run rs R e1 λα1 H1 E1 R1 rs1=>?_;rw[if_neg Xi];exact TX.run rs1 R1 e λα2 H2 dd E2 R2 f2=>q α2 H2 dd (E1.trans E2 R2.h) R2 f2
    ·cases e
   |xal n x=>exact(QdX h).elim
   |loop t s b=>
    obtain⟨tg,it,a,p,rfl,ht,hi,ok,ha⟩:=Qcw h;refine Zr (QfU hpo bX.cm (Qlb (N.w d it _ tg hi (QfL ht ok))) (Qnf (Qnq (X:=X.nox) bX.cm g fl ht)) (Qk9 (Qk8 (NS.ss d a b ha)) (IH.ss d a b ha)) (Qat hi)) ?_;rintro D Y H ⟨α,Z,hs,c',hs',rs,R,e,q⟩;simp only[exX]at e;obtain⟨w,h1,e1,e⟩:=Qb e;refine⟨α,Z,hs,w,h1,rs,R,e1,λα1 J H1 E1 R1 W1=>?_⟩;exact QdI g.txt (rs.mono E1.pre) R1 W1 e λα2 H2 dd E2 R2 f2=>q α2 H2 dd (E1.trans E2 R2.h) R2 f2
   |_=>exact ZE λD Y H o=>by obtain⟨_,_,_,_,_,_,_,e,_⟩:=o;simp[exX]at e
  ·cases d with
   |zero=>exact ZR λD Y H l=>by obtain⟨_,_,_,_,_,_,_,e,_⟩:=l;cases e
   |succ d=>
   cases sts with
   |nil=>
    cases h
    exact ZR λD Y H j=>by obtain⟨_,_,_,_,_,_,_,e,_⟩:=j;simp[exsX]at e
   |cons st r=>
    simp only[compSs,Xb]at h;obtain⟨s',hs',r',hr',h⟩:=h;cases h
    have IS:PS X st (TX T A X.K (exX T cf d s') E):=by
     cases hs';unfold QlA;split
     ·rename_i x hx
      cases d with
      |zero=>exact ZE λD Y H i=>by obtain⟨_,_,_,_,_,_,_,e,_⟩:=i;cases e
      |succ d=>exact Ql2 hxf hxi hpa bX g fl F hr hx
     ·exact IH.sB d st
    intro pins s Y H D I z;obtain⟨α,Z,hs,c',hs2,rs,R,e,q⟩:=z;simp only[exsX]at e;split at e
    ·rename_i ρ1 h1 e1;refine Yb (Qne (Qgh hs' (λd=>NS.sB d st) d)) (IH.ss d r r' hr') pins s Y H D I ?_;exact TIS.run rs R e1 λα1 σ1 H1 E1 R1 rs1=>TX.run (D:=D) rs1 R1 e λα2 H2 dd E2 R2 f2=>q α2 H2 dd (E1.trans E2 R2.h) R2 f2
    ·cases e
    ·refine Yb IS (ZR (t:=λy y y=>False) λy y y z=>z) pins s Y H D I ?_;exact TX.run (D:=D) rs R e q
end
section
variable {P:Program}{w:World}{K:W.Frag}{mg:Str->Option Value}{base:Heap}{T:Tbl}{A:Adr}{gl:List (Str×G)}{bl:List Str}
def Qh2{rm:Nat}(tp:Top T A K mg gl bl)(tab:Je P w T A K)(hb:Jg T gl bl)(hX:XOk P w K mg base T A rm)(m f:Nat)(F:Fn)(hF:T.fns[f]?=some F):∃fd,FnOk P w K mg base (CXw P w) (rm+2+2*m) (A.f f) fd F.ps (spX T A K (QN T m) f)/\Binds K fd F.ps []/\W.keepIn K (.ref (A.f f))=true:=by
 obtain⟨fd,fn,b,sc,lp,lN⟩:=tp.txt.fn f F hF;refine⟨fd,?_,b,fn.kp⟩
 cases m with
 |zero=>
  have no:∀vs H Q E,¬spX T A K (QN T 0) f vs H Q E:=λvs H Q E h=>by
   obtain⟨α,us,hs,u,hs',_,_,e,_⟩:=h;cases e
  exact⟨λvs H Q E h=>absurd h (no vs H Q E),λA outer s H args us vs Q E z z z z h=>absurd h (no vs H Q E)⟩
 |succ n=>
  obtain⟨oc,od,dV,kV,doc,pm,an,cdv,ct,osl,rfl,lk,hcd⟩:=fn.ex;obtain⟨m,hm⟩:=hb f F hF;have hm:=congrArg Prod.fst hm;dsimp only at hm;refine QkF (k:=rm+2+2*n+1) lk hcd sc (λvs H Q E h=>?_) (λA' outer s H vs Q E hr h=>?_)
  ·obtain⟨α,us,hs,u,hs',r,_,_,⟨F',h1,h2⟩,_⟩:=h;rw[hF]at h1;cases h1;rw[<-r.length,h2,lp]
  ·obtain⟨α,us,hs,c,hs',r,R,e,_,q⟩:=h;refine⟨TX T A K (exsX T (Qa T n) dd F.body) E,?_,?_⟩
   ·have gx:GX T A ⟨T,F.N,(Qh F.st).names,gl,bl,F.lc⟩ (QaJ (CXw P w) P w K mg base F.N F.qual (Qh F.st) (A.f f) cdv A' outer s H E).nox :=
     ⟨rfl,rfl,sc.nd,rfl,λz=>rfl,sc.kind,rfl,tp.gfn,tp.gcl,tp.gco,tp.gtx,tp.blt,tp.txt,tab⟩
    have fc:=Qh4 (X:=(QaJ (CXw P w) P w K mg base F.N F.qual (Qh F.st) (A.f f) cdv A' outer s H E).nox) (n:=n) tp hX (QdJ tp tab hb hX n)
    refine(Qnp (X:=QaJ (CXw P w) P w K mg base F.N F.qual (Qh F.st) (A.f f) cdv A' outer s H E) (λpins Y H1 s1 h' e vs c I mx w=>?_) (λpins Y H1 s1 e oe vs a0 c I hn h0 hl he hc hd v0 v1 w=>?_) ?_ (λpins Y H1 s1 e C0 B a0 dd J fl cv hn h0 da w=>?_) ?_ ⟨rfl,rfl,rfl,rfl⟩ gx (λz=>.inl rfl) fc (hr.mono (by omega)) (hr.mono (by omega)) m).ss dd (Zi F.st) F.body hm
    ·exact Qcn (L:=_) rfl rfl rfl I mx w
    ·exact Y1 (L:=_) rfl rfl rfl I hn h0 hl he hc hd v0 v1.1 v1.2 w
    ·exact λz=>PassesOwnAt.leaving
    ·exact Qco (L:=_) rfl rfl rfl J fl cv hn h0 da w
    ·exact PassesOwn.leaving
   ·simp only[QN,hF]at e;split at e
    case isFalse=>cases e
    exact TX.run (JG r lN) R e q
def QnL{dd:Option Addr}(h1:T'.fns'=T.fns')(h5:T'.efl=T.efl)(h:EF T H c dd):EF T' H c dd:=λf q=>by
 rw[h5]at q;rw[h1];exact h f q
def Qjs{α:List Addr}{hs:Hs}(h1:T'.fns'=T.fns')(h2:T'.cls=T.cls)(h3:T'.scr=T.scr)(h4:T'.ers=T.ers)(h5:T'.efl=T.efl)(R:Rep T A K α hs H):Rep T' A K α hs H:=by
 refine⟨⟨R.h.len,R.h.nd,λn a o e1 e2=>?_⟩,?_⟩
 ·have z:=R.h.ob n a o e1 e2
  cases o with
  |ins c fs=>
   obtain⟨dx,fv,q1,q2,q3⟩:=z
   refine⟨dx,fv,q1,?_,by rw[h2];exact q3⟩
   unfold RF at *;rw[h1];exact q2
  |err c w=>
   obtain⟨dd,q1,q2,q3⟩:=z
   exact⟨dd,q1,by rw[h4];exact q2,QnL h1 h5 q3⟩
  |_=>exact z
 ·obtain⟨vs,q1,q2⟩:=R.s
  exact⟨vs,by rw[h3];exact q1,q2⟩
def Qle{rm m:Nat}(hf:T'.fns=T.fns)(h1:T'.fns'=T.fns')(h2:T'.cls=T.cls)(h3:T'.scr=T.scr)(h4:T'.ers=T.ers)(h5:T'.efl=T.efl)(hx:T'.xf=QN T m)(tp:Top T A K mg gl bl)(tab:Je P w T A K)(hb:Jg T gl bl)(hX:XOk P w K mg base T A rm):
  XOk P w K mg base T' A (rm+2+2*m):=λf F hF=>by
 rw[hf]at hF;obtain⟨fd,G,b,kp⟩:=Qh2 tp tab hb hX m f F hF;refine⟨fd,G.imp λvs H Q E h=>?_,b,kp⟩;obtain⟨α,us,hs,c,hs',r,R,e,⟨F',e1,e2⟩,q⟩:=h
 refine⟨α,us,hs,c,hs',r,Qjs h1.symm h2.symm h3.symm h4.symm h5.symm R,by rw[<-hx];exact e,⟨F',by rw[<-hf];exact e1,e2⟩,λα' H' dd E' R' f'=>q α' H' dd E' (Qjs h1 h2 h3 h4 h5 R') (QnL h1 h5 f')⟩
def Qex{x:Nat->List U->Hs->Option (Er×Hs)}(tp:Top T A K mg gl bl):Top {T with xf:=x} A K mg gl bl :=
 ⟨⟨tp.txt.fn,tp.txt.df,λi C e=>let c:=tp.txt.cl i C e;⟨c.cls,c.nf,c.me,c.mks,c.kp,c.ini,c.ty⟩,tp.txt.fm,tp.txt.fd,tp.txt.isi,tp.txt.co,tp.txt.er,tp.txt.es,tp.txt.ch⟩,tp.gfn,tp.gcl,tp.gco,tp.gtx,tp.blt⟩
end
end
section
variable {n:Nat}
inductive AllI{α:Type}(P:Nat->α->Prop):Nat->List α->Prop where
 |nil {n:Nat}:AllI P n []
 |cons {n:Nat} {a:α} {r:List α}:P n a->AllI P (n+1) r->AllI P n (a::r)
def AllI.get{α:Type}{P:Nat->α->Prop}{l:List α}(h:AllI P n l)(i:Nat)(a:α)(e:l[i]?=some a):P (n+i) a:=by
 induction h generalizing i with
 |nil=>cases e
 |cons h _ ih=>
  cases i with
  |zero=>cases(show some _=some _ from e);exact h
  |succ i=>have:=ih i e;rw[Nat.add_assoc,Nat.add_comm 1 i]at this;exact this
def AllI.mem{α:Type}{P:α->Prop}{l:List α}(h:AllI (λz a=>P a) n l){a:α}(m:a∈l):P a:=by
 obtain⟨i,e⟩:=Ud m;exact AllI.get h i a e
def AllI.look{κ β:Type}[BEq κ][LawfulBEq κ]{P:κ->β->Prop}{l:List (κ×β)}(h:AllI (λz p=>P p.1 p.2) n l){k:κ}{b:β}(e:l.lookup k=some b):P k b:=AllI.mem (P:=λp=>P p.1 p.2) h (ZP e)
def gvP(A:Adr)(mg:Str->Option Value)(x:Str):G->Prop
 |.fn i=>mg x=some (.ref (A.f i))
 |.cls i=>mg x=some (.ref (A.c i))
 |.con k=>mg x=some (.ref (A.k k))
 |.txt t=>∃v w,mg x=some w/\RelV v w/\∀α,RU A α t v
section
variable {P:Program}{w:World}{K:W.Frag}{mg:Str->Option Value}{base:Heap}{T:Tbl}{A:Adr}{gl:List (Str×G)}{bl:List Str}
def QnV(A:Adr)(K:W.Frag)(k:Nat)(c:Co):Prop:=match c with
 |Co.tup xs=>∃vs,RUs A [] xs vs/\∀H,SqT K H (A.k k) vs
 |Co.lst xs=>∃vs,RUs A [] xs vs/\∀H,SqL K H (A.k k) vs
 |Co.tab _=>True
def QiS(fns:AllI (λi (F:Fn)=>∃fd,FunD K F.name F.qual F.st (A.f i) fd/\Binds K fd F.ps []/\FnScope F.N F.ps (Qh F.st)/\F.ps.length=F.np/\F.N.length=F.nN) 0 T.fns)
  (cls:AllI (λi C=>ClOk T A K i C) 0 T.cls)
  (fm:(T.fns'.all λx=>!(T.mns.contains x))=true) (fd:T.fns'.Nodup)
  (isi:AllI (λz p=>W.kitOne K (tyW A p.1.1) (tyW A p.1.2)=some p.2) 0 T.isi)
  (co:AllI (QnV A K) 0 T.cons)
  (dfs:AllI (λz (p:Nat×Df)=>∃fd x q st,FunD K x q st (A.f p.1) fd/\Qiz A K fd p.2/\∀F,T.fns[p.1]?=some F->F.ps=p.2.ps/\F.np=p.2.np) 0 T.dfl)
  (g:AllI (λz (p:Str×G)=>gvP A mg p.1 p.2) 0 gl)
  (b:AllI (λz x=>mg x=none) 0 bl)
  (er:AllI (λz c=>ErrCls K (A.c c)/\((∀f,T.efl.contains (c,f)= false)/\W.excIn K (A.c c) Qad "ValueError.__new__"=true)) 0 T.ers)
  (es:AllI (λz (p:Nat×Nat)=>W.exmOne K (.ref (A.c p.1)) (.ref (A.c p.2))=some true) 0 T.esb)
  (ch:AllI (λz c=>chB (.ref (A.c c))=T.chs.contains c) 0 T.ers):Top T A K mg gl bl where
 txt:={
  fn:=λi F e=>by simpa using fns.get i F e
  df:=λi D e=>AllI.look (P:=λi (D:Df)=>∃fd x q st,FunD K x q st (A.f i) fd/\Qiz A K fd D/\∀F,T.fns[i]?=some F->F.ps=D.ps/\F.np=D.np) dfs e
  cl:=λi C e=>by simpa using cls.get i C e
  fm:=λx m n=>by
   have:=Xs.mp fm x m;simp at this;exact this n
  fd:=fd
  isi:=λk t b e=>AllI.look (P:=λ(q:Ty×Ty) b=>W.kitOne K (tyW A q.1) (tyW A q.2)=some b) isi e
  co:=λk c e=>by
   have:=co.get k c e;simp only[Vr]at this;exact this
  er:=λc h=>AllI.mem er (by simpa using h)
  es:=λc c' h=>AllI.mem (P:=λ(p:Nat×Nat)=>W.exmOne K (.ref (A.c p.1)) (.ref (A.c p.2))=some true) es (a:=(c,c')) (by simpa using h)
  ch:=λc h=>AllI.mem (P:=λc=>chB (.ref (A.c c))=T.chs.contains c) ch (by simpa using h)}
 gfn:=λx i e=>AllI.look (P:=λx (q:G)=>gvP A mg x q) g e
 gcl:=λx i e=>AllI.look (P:=λx (q:G)=>gvP A mg x q) g e
 gco:=λx i e=>AllI.look (P:=λx (q:G)=>gvP A mg x q) g e
 gtx:=λx i e=>AllI.look (P:=λx (q:G)=>gvP A mg x q) g e
 blt:=λx h=>by
  have:bl.contains x=true:=by cases q:bl.contains x with|true=>rfl|false=>exact absurd q h
  exact AllI.mem (P:=λx=>mg x=none) b (by simpa using this)
def Qea(h:AllI (λi (F:Fn)=>(compSs 100 ⟨T,F.N,(Qh F.st).names,gl,bl,F.lc⟩ (Zi F.st),if T.hfs.contains i=true then Qd1 100 ⟨T,F.N,(Qh F.st).names,gl,bl,F.lc⟩ (Zi F.st)else some F.body)=(some F.body,some F.body)) 0 T.fns):Jg T gl bl:=λi F e=>⟨100,by have z:=h.get i F e;rw[Vr]at z;exact z⟩
def tv{x:Str}{y:List Nat}{t:Tok}(h:x.cps.toList=y):∃v,RU A [] (.str y) v/\RelV v (.str x t):=by
 subst h;exact⟨.str x,rfl,⟨t,rfl⟩⟩
def tvi{i:Int}{t:Tok}:∃v,RU A [] (.int i 0) v/\RelV v (.int i t):=⟨.int i,⟨i,rfl,Cg.refl i 0⟩,⟨t,rfl⟩⟩
def QeF(K:W.Frag):Sp:=λvs H Q z=>∃(a:Addr) (ns:List Int),vs=[.ref a]/\SqL K H a (ns.map V.int)/\Qlz H/\ns.length<=63/\∀H',Q (.bl true) H'
def Abs:U->Int->Prop:=λu i=>∃r m,u=.int r m/\Cg i r m
def Abs.rus{s:List U}{ns:List Int}(h:Paired Abs s ns):RUs A [] s (ns.map V.int):=by
 induction h with
 |nil=>exact .nil
 | @cons _ i _ _ h _ ih=>obtain⟨r,m,e,c⟩:=h;subst e;exact .cons ⟨i,rfl,c⟩ ih
def Qkd{tb:List U->Tbl}{adr:Addr->Adr}{L r:Nat}{F:Fn}{x:Str}{fd:FuncData}(hF:∀s,(tb s).fns[L]?=some F)(hs:∀s,(tb s).scr=s)(hps:F.ps=[x])(hnp:F.np=1)
  (hA:∀a,(adr a).s=a) (hf:∀a,(adr a).f=(adr 0).f)
  (tp:∀s a,Top (tb s) (adr a) K mg gl bl) (tab:∀s a,Je P w (tb s) (adr a) K) (hb:∀s,Jg (tb s) gl bl) (hX:∀s a,XOk P w K mg base (tb s) (adr a) r)
  (hfun:FunD K F.name F.qual F.st ((adr 0).f L) fd)
  (comp:∀ns:List Int,ns.length<=63->∃s hs',Paired Abs s ns/\Qa (tb s) n L [.scr] []=some (.bl true,hs')):
  FnOk P w K mg base CX0 (r+2*n) ((adr 0).f L) fd [x] (QeF K):=by
 refine⟨λvs H Q E y=>by obtain⟨a,ns,h,_⟩:=y;rw[h];rfl,λA0 outer s H args us vs Q E hr e0 hbd rel ⟨a,ns,h,hS,hO,hl,q⟩=>?_⟩
 obtain⟨sc,hs',pr,hc⟩:=comp ns hl;obtain⟨fd',G,_,_,_,hfun'⟩:=QdJ (base:=base) (tp sc a) (tab sc a) (hb sc) (hX sc a) n L F (hF sc);rw[hf a]at G hfun';have ef:=FunD.same hfun hfun';subst ef;rw[hps]at G;refine G.run A0 outer s H args us vs Q E hr e0 hbd rel ?_;subst h
 refine⟨[],[.scr],[],.bl true,hs',.cons (show V.ref a=V.ref (adr a).s by rw[hA]) .nil,⟨⟨rfl,(λi j a e u=>by simp at e),λn b o e u=>by simp at e⟩,ns.map V.int,by rw[hs];exact Abs.rus pr,?_⟩,hc,⟨F,hF sc,hnp.symm⟩,λα' v H' u u rv=>?_⟩
 ·rw[hA]
  rcases hS with(h|⟨o,h⟩)|h
  ·rcases hO a with z|⟨o,xs,z⟩
   ·rw[h]at z;cases z
   ·rw[h]at z;cases z
  ·exact .inl ⟨o,h⟩
  ·exact .inr h
 ·have:v=.bl true:=rv;subst this;exact q H'
end
end
section
noncomputable def Qct(K:W.Frag)(a:Addr):FuncData:=match K.lookup a with
 |some o=>(match o.data with
  |.func fd=>fd
  |_=>default)
 |none=>default
noncomputable def fnT(F:Fn)(fd:FuncData):FuncData:=W.fnOf F.name F.qual (Qbr F.st) (Zi F.st) (Qh F.st) fd.defaults fd.kwdefaults fd.doc fd.pyModule fd.annotations fd.code fd.closureTuple
noncomputable def vsN(n:Nat)(v:Nat->Value):List Value:=(List.range n).map v
def Qgq(us:List Value):us=vsN us.length λi=>us.getD i .none:=by
 apply List.ext_getElem?;intro i;simp only[vsN,Vm,List.getElem?_range',List.getD_eq_getElem?_getD];by_cases h:i<us.length
 ·rw[List.getElem?_range h];simp[Xn h]
 ·rw[Us (Ti h),Us (by simpa using Ti h)];rfl
noncomputable def scB(F:Fn)(sc:Scope):Bool:=decide (sc.kind=.function)&&(!sc.isCoroutine&&(!sc.isGenerator&&(decide F.N.Nodup&&(decide (F.N.take F.ps.length=F.ps)&&(F.ps.all (λx=>decide (sc.names.lookup x=some .local)||decide (sc.names.lookup x=some .cell))&&(sc.names.all (λy=>decide (y.2≠.free))&&(decide (F.ps.length=F.np)&&decide (F.N.length=F.nN))))))))
noncomputable def fnB(K:W.Frag)(F:Fn)(a:Addr):Bool:=W.fnIn K a&&(W.codeIn K (Qct K a).code F.qual&&scB F (Qh F.st))
section
variable {P:Program}{w:World}{K:W.Frag}{mg:Str->Option Value}{h:Heap}{T:Tbl}{A:Adr}{gl:List (Str×G)}{bl:List Str}{F:Fn}{a:Addr}
def QdH(h1:Qct K a=fnT F (Qct K a))(h2:fnB K F a=true):FunD K F.name F.qual F.st a (Qct K a)/\FnScope F.N F.ps (Qh F.st)/\F.ps.length=F.np/\F.N.length=F.nN:=by
 obtain⟨i,c,s⟩:_/\_/\_:=by simpa only[fnB,Xe]using h2
 obtain⟨s1,s2,s3,s4,s5,s6,s7,s8,s9⟩:_/\_/\_/\_/\_/\_/\_/\_/\_:=by simpa only[scB,Xe,Xw,Vn]using s
 have z:∃oc od sl,K.lookup a=some ⟨oc,od,.func (Qct K a),sl⟩:=by
  unfold W.fnIn at i;split at i
  ·rename_i oc od fd sl e
   exact⟨oc,od,sl,by rw[e];simp[Qct,e]⟩
  ·cases i
 obtain⟨oc,od,sl,e⟩:=z
 refine⟨⟨⟨oc,od,_,_,_,_,_,_,_,sl,h1,e,c⟩,by simp only[W.keepIn,e]⟩,⟨s1,s2,s3,s4,s5,λx m=>?_,λy m=>?_⟩,s8,s9⟩
 ·simpa using Xs.mp s6 x m
 ·simpa using Xs.mp s7 y m
def Qfv(n:F.ps.length=F.np)(h3:∀v,bindArgs (Qct K a) ⟨vsN F.np v,[]⟩=pure (F.ps.zip (vsN F.np v))):Binds K (Qct K a) F.ps []:=.all λus l=>by
 have:=h3 λi=>us.getD i .none;rwa [<-n,<-l,<-Qgq]at this
noncomputable def Qiy{α:Type}(f:Nat->α->Bool):Nat->List α->Bool
 |_,[]=>true
 |n,a::r=>f n a&&Qiy f (n+1) r
theorem YL{α:Type}{f:Nat->α->Bool}{Q:Nat->α->Prop}(q:∀n a,f n a=true->Q n a):∀{n:Nat} {l:List α},Qiy f n l=true->AllI Q n l
 |_,[],_=>.nil
 |_,_::_,e=>.cons (q _ _ (Vk.mp e).1) (YL q (Vk.mp e).2)
def AllI.imp{α:Type}{Q R:Nat->α->Prop}(q:∀n a,Q n a->R n a){n:Nat}{l:List α}(h:AllI Q n l):AllI R n l:=by
 induction h with
 |nil=>exact .nil
 |cons e _ ih=>exact .cons (q _ _ e) ih
noncomputable def bi(x:String):Option (Option Value):=some (some (.builtin x))
noncomputable def clB(K:W.Frag)(T:Tbl)(A:Adr)(i:Nat)(C:Cl):Bool:=W.plainGet K (A.c i) Str.empty&&(W.hasDictIn K (A.c i)&&(W.plainOver K (A.c i)&&(W.findIn K (.ref (A.c i)) "__setattr__"==bi "object.__setattr__"&&(T.fns'.all (λx=>W.findIn K (.ref (A.c i)) x==some none) &&
 (C.meths.all (λp=>(T.mns[p.1]?).any λx=>W.findIn K (.ref (A.c i)) x==some (some (.ref (A.f p.2)))&&(W.isFn K (.ref (A.f p.2))&&W.keepIn K (.ref (A.f p.2)))) &&
 (W.makesIn K (A.c i)&&(W.keepIn K (.ref (A.c i))&&((match C.init with
  |some f=>W.findIn K (.ref (A.c i)) "__init__"==some (some (.ref (A.f f)))&&W.isFn K (.ref (A.f f))
  |none=>W.findIn K (.ref (A.c i)) "__init__"==bi "object.__init__")&&(W.findIn K (.ref (A.c i)) "__class__"==bi "object.__class__"&&W.mroIn K (A.c i) (.type "object")==some true)))))))))
noncomputable def obB(K:W.Frag):Bool:=W.specialIn K (.builtin "object.__class__") "__get__"==bi "getset_descriptor.__get__"&&W.takesIn K (.builtin "object.__class__")==some true
def Qm1{i:Nat}{C:Cl}(o:obB K=true)(e:clB K T A i C=true):ClOk T A K i C:=by
 obtain⟨o1,o2⟩:_/\_:=by simpa only[obB,bi,Xe,Wm]using o
 obtain⟨e1,e2,e3,e4,e5,e6,e7,e8,e9,e10,e11⟩:_/\_/\_/\_/\_/\_/\_/\_/\_/\_/\_:=by simpa only[clB,bi,Xe,Wm]using e
 have c:Cls K (A.c i):=⟨e1,e2,e3,e4⟩;refine⟨c,λx m=>Wm.mp (Xs.mp e5 x m),λm f q=>?_,e7,e8,?_,λH a dx fs e=>.ins e c e10 o1 o2 e11⟩
 ·obtain⟨x,h1,h2⟩:=Option.any_eq_true _ _ |>.mp (Xs.mp e6 _ (ZP q))
  obtain⟨h2,h3,h4⟩:_/\_/\_:=by simpa only[Xe,Wm]using h2
  exact⟨x,h1,h2,h3,h4⟩
 ·revert e9
  cases C.init with
  |none=>exact λe=>by simpa using e
  |some f=>exact λe=>by simpa using e
noncomputable def erB(K:W.Frag)(a:Addr):Bool:=W.findIn K (.ref a) "__getattribute__"==bi "BaseException.__getattribute__"&&(W.findIn K (.ref a) "__getattr__"==some none&&(W.findIn K (.ref a) "__class__"==bi "object.__class__"&&(W.subIn K (.ref a) (.type "BaseException")==some true&&(W.subIn K (.ref a) (.type "object")==some true&&((W.clsIn K a).isSome&&W.excIn K a Qad "ValueError.__new__")))))
def QkI{c:Nat}(o:obB K=true)(e:erB K (A.c c)= true)(n:∀f,T.efl.contains (c,f)= false): ErrCls K (A.c c)/\((∀f,T.efl.contains (c,f)= false)/\W.excIn K (A.c c) Qad "ValueError.__new__"=true):= by
 obtain⟨o1,o2⟩:_/\_:=by simpa only[obB,bi,Xe,Wm]using o
 obtain⟨e1,e2,e3,e4,e5,e6,e7⟩:_/\_/\_/\_/\_/\_/\_:=by simpa only[erB,bi,Xe,Wm]using e
 exact⟨⟨e1,e2,e3,o1,o2,e4,e5,e6⟩,n,e7⟩
noncomputable def vB(A:Adr):U->Value->Bool
 |.str x,.str s _=>s.cps.toList==x
 |.int i 0,.int j _=>decide (i=j)
 |_,_=>false
def QiM{u:U}{v:Value}(e:vB A u v=true):∃z,RU A [] u z/\RelV z v:=by
 unfold vB at e;split at e
 ·exact tv (Wm.mp e)
 ·have:=Wr e;subst this;exact tvi
 ·cases e
noncomputable def vsB(A:Adr):List U->List Value->Bool
 |[],[]=>true
 |u::us,v::vs=>vB A u v&&vsB A us vs
 |_,_=>false
theorem JC:∀{us:List U} {vs:List Value},vsB A us vs=true->∃zs,RUs A [] us zs/\Vals zs vs
 |[],[],_=>⟨[],.nil,.nil⟩
 |_::_,_::_,e=>by
  obtain⟨z,r1,r2⟩:=QiM (Vk.mp e).1;obtain⟨zs,h1,h2⟩:=JC (Vk.mp e).2;exact⟨z::zs,.cons r1 h1,.cons r2 h2⟩
 |[],_::_,e=>nomatch e
 |_::_,[],e=>nomatch e
noncomputable def Qll(K:W.Frag)(t:String)(a:Addr):Option (List Value):=match K.lookup a with
 |some o=>if o.cls=.type t/\o.dict=none then(match o.data with
  |.seq its _=>if its.size<=sizeLine then some its.toList else none
  |_=>none)else none
 |none=>none
noncomputable def Qiv(K:W.Frag)(a:Addr):List DictEntry:=match K.lookup a with
 |some o=>(match o.data with
  |.dict es _=>es.toList
  |_=>[])
 |none=>[]
noncomputable def Qiu:Value->Key
 |.str s _=>.inr s
 |.int i _=>.inl i
 |_=>.inl 0
noncomputable def QmG:Value->Bool
 |.str _ _=>true
 |.int _ _=>true
 |_=>false
def Qdz:∀{v:Value},QmG v=true->Qbi (Qiu v) v=true
 |.str s t,_=>Qaz s t
 |.int i t,_=>QaA i t
noncomputable def keB:U->Key->Bool
 |.int i 0,.inl j=>decide (i=j)
 |.str x,.inr s=>s.cps.toList==x
 |_,_=>false
def Qki{u:U}{k:Key}(e:keB u k=true):Qe8 u k:=by
 unfold keB at e;split at e
 ·exact congrArg Sum.inl (Wr e).symm
 ·rename_i s;have:=Wm.mp e;subst this;rfl
 ·cases e
noncomputable def kvB(A:Adr):List (U×U)->List DictEntry->Bool
 |[],[]=>true
 |p::ps,e::es=>QmG e.key&&(keB p.1 (Qiu e.key)&&(vB A p.2 e.val&&kvB A ps es))
 |_,_=>false
noncomputable def exB(K:W.Frag)(a:Addr):Bool:=match K.lookup a with
 |some o=>decide (o.cls=.type "dict")&&(decide (o.dict=none)&&decide (o.slots=#[]))&&(match o.data with
  |.dict _ _=>true
  |_=>false)
 |none=>false
noncomputable def coB(K:W.Frag)(A:Adr)(a:Addr)(c:Co):Bool:=match c with
 |.tup xs=>(Qll K "tuple" a).any (vsB A xs)
 |.lst xs=>(Qll K "list" a).any (vsB A xs)
 |.tab kvs=>exB K a&&(kvB A kvs (Qiv K a)&&(decide (((Qiv K a).map λe=>Qiu e.key).Nodup)&&!(a==sysModules)))
abbrev Qni(K:W.Frag)(w:World)(a:Addr):Prop:=(Qiv K a).map (·.hash)=(Qiv K a).map λe=>QnF w (Qiu e.key)
def Qaj{t:String}{xs:List U}(e:(Qll K t a).any (vsB A xs)=true):∃(o:Obj) (its:Array Value) (n:Nat),K.lookup a=some o/\o.cls=.type t/\o.dict=none/\o.data=.seq its n/\its.size<=sizeLine/\vsB A xs its.toList=true:=by
 unfold Qll at e
 cases ho:K.lookup a with
 |none=>rw[ho]at e;cases e
 |some o=>
  simp only[ho]at e;split at e
  ·rename_i hc;split at e
   ·rename_i its n hd;split at e
    ·rename_i hz;exact⟨o,its,n,rfl,hc.1,hc.2,hd,hz,e⟩
    ·cases e
   ·cases e
  ·cases e
theorem Qf6:∀{kvs:List (U×U)} {es:List DictEntry},kvB A kvs es=true->(∀e∈es,QmG e.key=true)/\Paired (λ(p:U×U) (q:Key×Value)=>Qe8 p.1 q.1/\∃v,RU A [] p.2 v/\RelV v q.2) kvs (es.map λe=>(Qiu e.key,e.val))/\Pairs (ZC P w) es (es.map λe=>(Qiu e.key,e.val))
 |[],[],_=>⟨(λe m=>nomatch m),.nil,.nil⟩
 |_::_,_::_,z=>by
  obtain⟨h1,h2,h3,h4⟩:_/\_/\_/\_:=by simpa only[kvB,Xe]using z
  obtain⟨i1,i2,i3⟩:=Qf6 h4;refine⟨λe m=>?_,.cons ⟨Qki h2,QiM h3⟩ i2,.cons (Qdz h1) rfl i3⟩
  rcases Xo.mp m with rfl|m
  ·exact h1
  ·exact i1 e m
 |[],_::_,e=>nomatch e
 |_::_,[],e=>nomatch e
def QmY{k:Nat}{c:Co}(e:coB K A (A.k k) c=true):QnV A K k c:=by
 cases c with
 |tup xs=>
  obtain⟨o,its,n,h1,h2,_,h3,h4,h5⟩:=Qaj e;obtain⟨vs,g1,g2⟩:=JC h5;exact⟨vs,g1,λH=>.inr ⟨o,its,n,h1,h2,h3,h4,g2⟩⟩
 |lst xs=>
  obtain⟨o,its,n,h1,h2,h0,h3,h4,h5⟩:=Qaj e;obtain⟨vs,g1,g2⟩:=JC h5;exact⟨vs,g1,λH=>.inr ⟨o,its,n,h1,h2,h0,h3,h4,g2⟩⟩
 |tab=>trivial
theorem Jq{α β:Type}{f g:α->β}:∀{l:List α},l.map f=l.map g->∀a∈l,f a=g a
 |[],_,a,m=>by cases m
 |x::r,e,a,m=>by
  obtain⟨e1,e2⟩:=List.cons.inj e
  rcases Xo.mp m with rfl|m
  ·exact e1
  ·exact Jq e2 a m
def QiX(co:Qiy (λk c=>coB K A (A.k k) c) 0 T.cons=true)(hs:AllI (λk z=>Qni K w (A.k k)) 0 T.cons):Je P w T A K:=λk kvs e=>by
 have c:=(YL (Q:=λk c=>coB K A (A.k k) c=true) (λz z q=>q) co).get k _ e;have hh:=hs.get k _ e;simp only[Vr]at c hh
 obtain⟨c1,c2,c3,c4⟩:_/\_/\_/\_:=by simpa only[coB,Xe]using c
 obtain⟨k1,k2,k3⟩:=Qf6 (P:=P) (w:=w) c2
 refine⟨_,by simpa using c4,?_,k2⟩
 unfold exB at c1
 cases ho:K.lookup (A.k k)with
 |none=>rw[ho]at c1;cases c1
 |some o=>
  simp only[ho]at c1;obtain⟨d1,d2⟩:=Vk.mp c1;split at d2
  ·rename_i es n hd
   obtain⟨x1,x2,x3⟩:_/\_/\_:=by simpa only[Xe,Xw]using d1
   have de:Qiv K (A.k k)=es.toList:=by simp[Qiv,ho,hd]
   unfold Qni at hh;rw[de]at hh k1 k2 k3 c3 ⊢
   exact λh X=>⟨o,es,n,X _ _ ho,⟨x1,x2,x3⟩,hd,λe m=>⟨_,Qdz (k1 e (by simpa using m)),Jq hh e (by simpa using m)⟩,k3,by rw[Uq];exact Wr c3⟩
  ·cases d2
noncomputable def glB(K:W.Frag)(A:Adr)(p:Str×G):Bool:=match p.2 with
 |.fn i=>W.nsIn K mainGlobals p.1==some (some (.ref (A.f i)))
 |.cls i=>W.nsIn K mainGlobals p.1==some (some (.ref (A.c i)))
 |.con i=>W.nsIn K mainGlobals p.1==some (some (.ref (A.k i)))
 |.txt t=>(match W.nsIn K mainGlobals p.1 with
  |some (some (.str s _))=>t==.str s.cps.toList
  |some (some (.int i _))=>t==.int i 0
  |_=>false)
def QmP(X:K.In h)(G:h.Ns mainGlobals mg){p:Str×Iv.G}(e:glB K A p=true):gvP A mg p.1 p.2:=by
 obtain⟨x,g⟩:=p
 cases g with
 |fn i=>exact W.mg_of X G (by simpa[glB]using e)
 |cls i=>exact W.mg_of X G (by simpa[glB]using e)
 |con i=>exact W.mg_of X G (by simpa[glB]using e)
 |txt t=>
  simp only[glB]at e;split at e
  ·rename_i s k q;cases Wm.mp e;exact⟨.str s,_,W.mg_of X G q,⟨k,rfl⟩,λz=>rfl⟩
  ·rename_i i k q;cases Wm.mp e;exact⟨.int i,_,W.mg_of X G q,⟨k,rfl⟩,λz=>⟨i,rfl,Cg.refl _ _⟩⟩
  ·cases e
noncomputable def QlK(K:W.Frag)(T:Tbl)(A:Adr)(gl:List (Str×G))(bl:List Str):Bool:=obB K&&(Qiy (clB K T A) 0 T.cls&&(T.fns'.all (λx=>!(T.mns.contains x))&&(decide T.fns'.Nodup&&(T.isi.all (λp=>W.kitOne K (tyW A p.1.1) (tyW A p.1.2)==some p.2)&&(gl.all (glB K A)&&(bl.all (λx=>W.nsIn K mainGlobals x==some none)&&(T.esb.all (λp=>W.exmOne K (.ref (A.c p.1)) (.ref (A.c p.2))==some true)&&T.ers.all (λc=>chB (.ref (A.c c))==T.chs.contains c))))))))
abbrev FnA(K:W.Frag)(A:Adr)(i:Nat)(F:Fn):Prop:=Qct K (A.f i)=fnT F (Qct K (A.f i))/\fnB K F (A.f i)=true/\((∀v,bindArgs (Qct K (A.f i)) ⟨vsN F.np v,[]⟩=pure (F.ps.zip (vsN F.np v)))\/Binds K (Qct K (A.f i)) F.ps [])
theorem Yt{α:Type}{Q:α->Prop}:∀{l:List α} {n:Nat},(∀a∈l,Q a)->AllI (λz a=>Q a) n l
 |[],_,_=>.nil
 |_::_,_,q=>.cons (q _ Xh) (Yt λa m=>q a (Xg _ m))
def FnA.at{i:Nat}(q:FnA K A i F):∃fd,FunD K F.name F.qual F.st (A.f i) fd/\Binds K fd F.ps []/\FnScope F.N F.ps (Qh F.st)/\F.ps.length=F.np/\F.N.length=F.nN:=by
 obtain⟨d,s,l,n⟩:=QdH q.1 q.2.1;exact⟨_,d,q.2.2.elim (Qfv l) id,s,l,n⟩
def QiT(X:K.In h)(G:h.Ns mainGlobals mg)(fns:AllI (FnA K A) 0 T.fns)(co:Qiy (λk c=>coB K A (A.k k) c) 0 T.cons=true)(b:QlK K T A gl bl=true)
  (dfs:AllI (λz (p:Nat×Df)=>∃fd x q st,FunD K x q st (A.f p.1) fd/\Qiz A K fd p.2/\∀F,T.fns[p.1]?=some F->F.ps=p.2.ps/\F.np=p.2.np) 0 T.dfl)
  (er:AllI (λz c=>ErrCls K (A.c c)/\((∀f,T.efl.contains (c,f)= false)/\W.excIn K (A.c c) Qad "ValueError.__new__"=true)) 0 T.ers): Top T A K mg gl bl:=by
 obtain⟨b1,b2,b3,b4,b5,b6,b7,b8,b9⟩:_/\_/\_/\_/\_/\_/\_/\_/\_:=by simpa only[QlK,Xe]using b
 exact QiS (fns.imp λz z q=>q.at) (YL (λz z e=>Qm1 b1 e) b2) b3 (Wr b4) (Yt λp m=>by simpa using Xs.mp b5 p m) (YL (λz z e=>QmY e) co) dfs
  (Yt λp m=>QmP X G (Xs.mp b6 p m)) (Yt λx m=>W.mg_none_of X G (by simpa using Xs.mp b7 x m)) er (Yt λp m=>by simpa using Xs.mp b8 p m) (Yt λc m=>by simpa using Xs.mp b9 c m)
end
end
end Iv
namespace Iv
open PySem
variable {o:CmpOp}{a e:E}{es:List E}{i:Nat}
section
variable {T:Tbl}{cf:Cf}{d:Nat}{Z:Rho}{hs h1:Hs}{α β:Type}
def Qj{a:α}{f:α->Hs->Option β}:bd (some (a,h1)) f=f a h1:=rfl
def QP:exs T cf (d+1) [] Z hs=some (.next,Z,hs):=rfl
def Qk{s:S}{r:List S}:exs T cf (d+1) (s::r) Z hs=(match ex T cf d s Z hs with
   |some (.next,ρ1,h1)=>exs T cf d r ρ1 h1
   |x=>x):=rfl
def Qo:ex T cf (d+1) (.expr e) Z hs=bd (ev T cf d e Z hs) λz h1=>some (.next,Z,h1):=rfl
def QK:ex T cf (d+1) (.set i e) Z hs=bd (ev T cf d e Z hs) λu h1=>some (.next,Z.set i (some u),h1):=rfl
def QO:ex T cf (d+1) (.ret e) Z hs=bd (ev T cf d e Z hs) λu h1=>some (.ret u,Z,h1):=rfl
def QD{t:E}{a b:List S}:ex T cf (d+1) (.ite t a b) Z hs=bd (evT T cf d t Z hs) λc h1=>if c=true then exs T cf d a Z h1 else exs T cf d b Z h1:=by
 rw[ex]
 cases h:evT T cf d t Z hs with
 |none=>rfl
 |some p=>obtain⟨c,h1⟩:=p;cases c<;>rfl
def QiB{t:Tg}{s:Src}{body:List S}:ex T cf (d+1) (.loop t s body) Z hs=bd (Zy T (ev T cf d) Z s hs) λw h1=>Qcs T w t (exs T cf d body) (Zs T w h1) 0 Z h1:=rfl
def y_c{u:U}:ev T cf (d+1) (.c u) Z hs=some (u,hs):=rfl
def Q8{k:Nat}:ev T cf (d+1) (.con k) Z hs=some (.con k,hs):=rfl
def QV:ev T cf (d+1) (.var i) Z hs=(match Z[i]? with|some (some u)=>some (u,hs)|_=>none):=rfl
def Yk{o:Operator}{b:E}:ev T cf (d+1) (.op o a b) Z hs=bd (ev T cf d a Z hs) λu h1=>bd (ev T cf d b Z h1) λw h2=>opU o u w h2:=rfl
def QW:ev T cf (d+1) (.neg a) Z hs=bd (ev T cf d a Z hs) λu h1=>(match u with|.int i m=>some (.int (-i) m,h1)|_=>none):=rfl
def QX{b:E}:ev T cf (d+1) (.cmp o a b) Z hs=bd (ev T cf d a Z hs) λu h1=>bd (ev T cf d b Z h1) λw h2=>(Zg T o u w h2).map λc=>(.bl c,h2):=rfl
def Zb:ev T cf (d+1) (.not a) Z hs=bd (ev T cf d a Z hs) λu h1=>(Zl T u h1).map λc=>(.bl (!c),h1):=rfl
def Q7{t b:E}:ev T cf (d+1) (.ife t a b) Z hs=bd (evT T cf d t Z hs) λc h1=>if c=true then ev T cf d a Z h1 else ev T cf d b Z h1:=rfl
def Q6:ev T cf (d+1) (.tup es) Z hs=bd (evs (ev T cf d) Z es hs) λus h1=>some (.ref h1.length,h1++[.tup us]):=rfl
def y_lst:ev T cf (d+1) (.lst es) Z hs=bd (evs (ev T cf d) Z es hs) λus h1=>some (.ref h1.length,h1++[.lst us]):=rfl
def Z5{b:E}:ev T cf (d+1) (.ix a b) Z hs=bd (ev T cf d a Z hs) λu h1=>bd (ev T cf d b Z h1) λw h2=>(Q5 T u w h2).map λx=>(x,h2):=rfl
def QiA{lo hi:Option E}:ev T cf (d+1) (.sl a lo hi) Z hs=bd (ev T cf d a Z hs) λu h1=>bd (evO (ev T cf d) Z lo h1) λl h2=>bd (evO (ev T cf d) Z hi h2) λr h3=>slU T u l r h3:=rfl
def Qp{f:Nat}:ev T cf (d+1) (.call f es) Z hs=bd (evs (ev T cf d) Z es hs) λus h1=>cf f us h1:=rfl
def Z6{b:Bi}:ev T cf (d+1) (.bi b es) Z hs=bd (evs (ev T cf d) Z es hs) λus h1=>biU T b us h1:=rfl
def QL{t:Ty}:ev T cf (d+1) (.isi a t) Z hs=bd (ev T cf d a Z hs) λu h1=>(Z4 T t u h1).map λb=>(.bl b,h1):=rfl
def ZS{b:Bm}{o:E}:ev T cf (d+1) (.bm b o es) Z hs=bd (ev T cf d o Z hs) λu h1=>if QcA b u h1=true then bd (evs (ev T cf d) Z es h1) λus h2=>bmU T b u us h2 else none:=rfl
def QfC{s:Src}{b:Bool}{t:Option E}{el:E}:ev T cf (d+1) (.comp s b t el) Z hs=bd (Zy T (ev T cf d) Z s hs) λw h1=>bd (ZU T (ev T cf d) (Qbo (evT T cf d) t) w b el Z (Zs T w h1) 0 [] h1) λus h2=>some (.ref h2.length,h2++[.lst us]):=rfl
def Qgn{o':CmpOp}{b c:E}:ev T cf (d+1) (.chain o o' a b c) Z hs=bd (ev T cf d a Z hs) λu h1=>bd (ev T cf d b Z h1) λw h2=>(match Zg T o u w h2 with
   |some true=>bd (ev T cf d c Z h2) λx h3=>(Zg T o' w x h3).map λk=>(.bl k,h3)
   |some false=>some (.bl false,h2)
   |none=>none):=rfl
def Q9{b:E}:ev T cf (d+1) (.and a b) Z hs=bd (ev T cf d a Z hs) λu h1=>(match u with|.bl true=>ev T cf d b Z h1|.bl false=>some (.bl false,h1)|_=>none):=rfl
def Ym{b:E}:ev T cf (d+1) (.or a b) Z hs=bd (ev T cf d a Z hs) λu h1=>(match u with|.bl true=>some (.bl true,h1)|.bl false=>ev T cf d b Z h1|_=>none):=rfl
def Qu:evT T cf (d+1) (.not a) Z hs=bd (evT T cf d a Z hs) λc h1=>some (!c,h1):=rfl
def Qv{b:E}:evT T cf (d+1) (.and a b) Z hs=bd (evT T cf d a Z hs) λc h1=>if c=true then evT T cf d b Z h1 else some (false,h1):=rfl
def Za{b:E}:evT T cf (d+1) (.or a b) Z hs=bd (evT T cf d a Z hs) λc h1=>if c=true then some (true,h1)else evT T cf d b Z h1:=rfl
def Qr{b:E}:evT T cf (d+1) (.cmp o a b) Z hs=bd (ev T cf d (.cmp o a b) Z hs) λu h1=>(Zl T u h1).map λc=>(c,h1):=rfl
def Qq:evT T cf (d+1) (.var i) Z hs=bd (ev T cf d (.var i) Z hs) λu h1=>(Zl T u h1).map λc=>(c,h1):=rfl
def Qw{t:Ty}:evT T cf (d+1) (.isi a t) Z hs=bd (ev T cf d (.isi a t) Z hs) λu h1=>(Zl T u h1).map λc=>(c,h1):=rfl
def Qg{n f:Nat}{us:List U}(F:Fn)(hF:T.fns[f]?=some F)(hl:us.length=F.np):Qa T (n+1) f us hs=fin (exs T (Qa T n) dd F.body (QgU us F.nN) hs):=by simp[Qa,hF,hl]
end
end Iv
namespace K41
open PySem Iv L2
variable {c:Bool}{cf:Cf}{a e el:E}{Q:Fl->Rho->Hs->Prop}{g h h1 h2 hs r:Hs}{j x y:Int}{st:Iv.S}{rs:List (List (List Nat))}{ms ts:List (List Nat)}{es:List E}{ns:List Int}{t:List Nat}{body:List S}{L us xs ys:List U}{d f i k m m2 n p q:Nat}{o:O}{Z ρ' ρ1:Rho}{src:Src}{T:Tbl}{α β:Type}{u w z:U}
noncomputable abbrev Va:E:=.var 0
noncomputable abbrev Vb:E:=.var 1
noncomputable abbrev Vc:E:=.var 2
noncomputable abbrev Vd:E:=.var 3
noncomputable abbrev Ve:E:=.var 4
noncomputable abbrev Vf:E:=.var 5
noncomputable abbrev Vg:E:=.var 6
noncomputable abbrev Vh:E:=.var 7
noncomputable abbrev Wa:E:=.c (.int 0 0)
noncomputable abbrev Wb:E:=.c (.int 1 0)
noncomputable abbrev Wc:E:=.c (.int 2 0)
noncomputable abbrev Wd:E:=.c (.int 3 0)
noncomputable abbrev We:E:=.c (.int 4 0)
noncomputable abbrev Wf:E:=.c (.int 5 0)
noncomputable def QoS:List Str:=["side","many","way","first","second","keeper"]
noncomputable def QoE:List Str:=["ties","ends","takes","gives","mark","mirrored","turned"]
noncomputable def glo:List (Str×G):=([("FIGURES",.con 0),("figures_number",.fn 0),("KEEPERS",.con 1),("SIDE_SIGNS",.con 2),("CROSS_SIGNS",.con 3),("Stitch",.cls 0),("Plain",.cls 1),("Slip",.cls 2),("Over",.cls 3),("Lean",.cls 4),("Grow",.cls 5),("Cross",.cls 6),("Off",.cls 7),("Keep",.cls 8),("Fetch",.cls 9),("SIDES",.con 4),("CROSS_SIDES",.con 5),("LEAN_WAYS",.con 6),("CROSS_WAYS",.con 7),("MANY",.con 8)]:List (Str×G))++([("CROSSED",.con 9),("stitch",.fn 16),("stitch_of_text",.fn 17),("bare_stitch",.fn 18),("keeper_stitch",.fn 19),("sided_stitch",.fn 20),("crossing",.fn 21),("CAST",.txt (.str [99,97,115,116,32])),("NO_STITCHES",.txt (.str [45])),("MOST_FIGURES",.txt (.int 9 0)),("read_chart",.fn 22),("row_of_text",.fn 23),("stitch_of_mark",.fn 24),("cast_of_text",.fn 25),("_law_cell_at",.fn 26),("_law_mark",.fn 27),("_law_rows",.fn 28),("_law_texts",.fn 29),("_law_no_row",.fn 30),("_law_no_cast",.fn 31)]:List (Str×G))++([("_law_no_chart",.fn 32),("_law_spoiled",.fn 33),("_law_class_told",.fn 34),("_law_refused",.fn 35),("_law_read",.fn 36),("law",.fn 37),("StitchError",.cls 10),("NoStitch",.cls 11),("NoSum",.cls 12),("NoPattern",.cls 13),("TooMany",.cls 14),("Miscount",.cls 15),("NotLying",.cls 16),("NoChart",.cls 17),("Tangle",.cls 18),("NoRow",.cls 19),("NoName",.cls 20),("NoPlace",.cls 21)]:List (Str×G))
noncomputable def Qlv:List Str:=["len","int","str","tuple","list","bool","isinstance","range","zip","all","ValueError"]
noncomputable def Qo3:List Co:=[.tup [.str [48],.str [49],.str [50],.str [51],.str [52],.str [53],.str [54],.str [55],.str [56],.str [57]],.tup [.str [119],.str [120],.str [121],.str [122]],.tab [(.int 1 0,.str [107]),(.int (-1) 0,.str [112])],.tab [(.int 1 0,.str [99]),(.int (-1) 0,.str [113])],.tab [(.str [107],.int 1 0),(.str [112],.int (-1) 0)],.tab [(.str [99],.int 1 0),(.str [113],.int (-1) 0)],.tup [.str [114],.str [108]],.tup [.str [102],.str [98]],.tab [(.str [50],.int 2 0),(.str [51],.int 3 0),(.str [52],.int 4 0)],.tab [(.str [49],.int 1 0),(.str [50],.int 2 0),(.str [51],.int 3 0),(.str [52],.int 4 0)]]
noncomputable def Qo4:List Cl:=[⟨"Stitch",none,[],[0]⟩,⟨"Plain",some 1,[(4,2)],[1,0]⟩,⟨"Slip",none,[(4,3)],[2,0]⟩,⟨"Over",none,[(4,4)],[3,0]⟩,⟨"Lean",some 5,[(4,6)],[4,0]⟩,⟨"Grow",some 7,[(4,8)],[5,0]⟩,⟨"Cross",some 9,[(4,10)],[6,0]⟩,⟨"Off",none,[(4,11)],[7,0]⟩,⟨"Keep",some 12,[(4,13)],[8,0]⟩,⟨"Fetch",some 14,[(4,15)],[9,0]⟩]
noncomputable def QoI:List ((Ty×Ty)×Bool):=[((.cls 0,.cls 0),true),((.cls 1,.cls 0),true),((.cls 2,.cls 0),true),((.cls 3,.cls 0),true),((.cls 4,.cls 0),true),((.cls 5,.cls 0),true),((.cls 6,.cls 0),true),((.cls 7,.cls 0),true),((.cls 8,.cls 0),true),((.cls 9,.cls 0),true),((.cls 11,.cls 11),true),((.cls 11,.cls 12),false),((.cls 11,.cls 13),false),((.cls 11,.cls 14),false),((.cls 11,.cls 15),false),((.cls 11,.cls 16),false),((.cls 11,.cls 17),false),((.cls 11,.cls 18),false),((.cls 11,.cls 19),false),((.cls 11,.cls 20),false),((.cls 11,.cls 21),false),((.cls 11,.vale),true),((.cls 17,.cls 11),false),((.cls 17,.cls 12),false),((.cls 17,.cls 13),false),((.cls 17,.cls 14),false),((.cls 17,.cls 15),false),((.cls 17,.cls 16),false),((.cls 17,.cls 17),true),((.cls 17,.cls 18),false),((.cls 17,.cls 19),false),((.cls 17,.cls 20),false),((.cls 17,.cls 21),false),((.cls 17,.vale),true)]
noncomputable def Qo1:List (Nat×Df):=[]
noncomputable def QoZ:List Str:=[]
noncomputable def QnX:List Str:=[]
noncomputable def QoU:List Nat:=[11,17]
noncomputable def QoT:List (Nat×Nat):=[(11,11),(11,10),(17,17),(17,10)]
noncomputable def Qoy:List Nat:=[24,23,25]
noncomputable def QoX:List (Nat×Nat):=[]
noncomputable def QoY:List Nat:=[]
noncomputable def Qo0:List Str:=[]
noncomputable def QoO:List Nat:=[34]
noncomputable def Qo5:List Nat:=[17]
noncomputable def b0:List S:=[.ite (.or (.not (.chain .LtE .LtE Wb (.bi .len [Va]) Vb)) (.not (.bi .all [.comp (.seq Va) false none (.cmp .In Vc (.con 0))]))) [.ret (.c .non)] [],.ite (.and (.cmp .Eq (.ix Va Wa) (.c (.str [48]))) (.cmp .NotEq Va (.c (.str [48])))) [.ret (.c .non)] [],.ret (.bi .int [Va])]
noncomputable def b1:List S:=[.fld Va 0 Vb]
noncomputable def b2:List S:=[.ret (.tab 2 (.fld Va 0))]
noncomputable def b3:List S:=[.ret (.c (.str [115]))]
noncomputable def b4:List S:=[.ret (.c (.str [111]))]
noncomputable def b5:List S:=[.fld Va 1 Vb,.fld Va 2 Vc,.fld Va 0 Vd]
noncomputable def b6:List S:=[.ret (.op .Add (.op .Add (.tab 2 (.fld Va 0)) (.bi .str [.fld Va 1])) (.fld Va 2))]
noncomputable def b7:List S:=[.fld Va 1 Vb,.fld Va 0 Vc]
noncomputable def b8:List S:=[.ret (.op .Add (.op .Add (.tab 2 (.fld Va 0)) (.c (.str [120]))) (.bi .str [.fld Va 1]))]
noncomputable def b9:List S:=[.fld Va 3 Vb,.fld Va 4 Vc,.fld Va 2 Vd,.fld Va 0 Ve]
noncomputable def b10:List S:=[.ret (.op .Add (.op .Add (.op .Add (.tab 3 (.fld Va 0)) (.bi .str [.fld Va 3])) (.fld Va 2)) (.bi .str [.fld Va 4]))]
noncomputable def b11:List S:=[.ret (.c (.str [98]))]
noncomputable def b12:List S:=[.fld Va 5 Vb]
noncomputable def b13:List S:=[.ret (.op .Add (.c (.str [104])) (.fld Va 5))]
noncomputable def b14:List S:=[.fld Va 5 Vb]
noncomputable def b15:List S:=[.ret (.op .Add (.c (.str [102])) (.fld Va 5))]
noncomputable def b16:List S:=[.set 1 (.ife (.isi Va .str) (.call 17 [Va]) (.c .non)),.ite (.cmp .Is Vb (.c .non)) [.rse 11 [.c (.str [110,111,32,115,116,105,116,99,104,32,104,97,115,32,116,104,105,115,32,109,97,114,107])]] [],.ret Vb]
noncomputable def b17:List S:=[.set 1 (.bi .len [Va]),.ite (.cmp .Eq Vb Wb) [.ret (.call 18 [Va])] [],.ite (.cmp .Eq Vb Wc) [.ret (.call 19 [.ix Va Wa,.ix Va Wb])] [],.ite (.cmp .Eq Vb Wd) [.ret (.call 20 [.ix Va Wa,.ix Va Wb,.ix Va Wc])] [],.ite (.cmp .Eq Vb We) [.ret (.call 21 [.ix Va Wa,.ix Va Wb,.ix Va Wc,.ix Va Wd])] [],.ret (.c .non)]
noncomputable def b18:List S:=[.ite (.cmp .In Va (.con 4)) [.ret (.make 1 [.tab 4 Va])] [],.ite (.cmp .Eq Va (.c (.str [115]))) [.ret (.make 2 [])] [],.ite (.cmp .Eq Va (.c (.str [111]))) [.ret (.make 3 [])] [],.ite (.cmp .Eq Va (.c (.str [98]))) [.ret (.make 7 [])] [],.ret (.c .non)]
noncomputable def b19:List S:=[.ite (.cmp .NotIn Vb (.con 1)) [.ret (.c .non)] [],.ite (.cmp .Eq Va (.c (.str [104]))) [.ret (.make 8 [Vb])] [],.ite (.cmp .Eq Va (.c (.str [102]))) [.ret (.make 9 [Vb])] [],.ret (.c .non)]
noncomputable def b20:List S:=[.ite (.cmp .NotIn Va (.con 4)) [.ret (.c .non)] [],.ite (.and (.cmp .Eq Vb (.c (.str [120]))) (.cmp .In Vc (.con 8))) [.ret (.make 5 [.tab 8 Vc,.tab 4 Va])] [],.ite (.and (.cmp .In Vb (.con 8)) (.cmp .In Vc (.con 6))) [.ret (.make 4 [.tab 8 Vb,Vc,.tab 4 Va])] [],.ret (.c .non)]
noncomputable def b21:List S:=[.ite (.and (.cmp .In Va (.con 5)) (.and (.cmp .In Vb (.con 9)) (.and (.cmp .In Vc (.con 7)) (.cmp .In Vd (.con 9))))) [.ret (.make 6 [.tab 9 Vb,.tab 9 Vd,Vc,.tab 5 Va])] [],.ret (.c .non)]
noncomputable def b22:List S:=[.ite (.or (.not (.isi Va .list)) (.or (.not Va) (.not (.bi .all [.comp (.seq Va) false none (.isi Vd .str)])))) [.rse 17 [.c (.str [116,104,105,115,32,105,115,32,110,111,32,108,105,115,116,32,111,102,32,116,101,120,116,115])]] [],.xal (.set 1 (.call 25 [.ix Va (.neg Wb)])) (.call 25 [.ix Va (.neg Wb)]),.xal (.set 2 (.comp (.seq (.sl Va none (some (.neg Wb)))) false none (.call 23 [Vd]))) (.comp (.seq (.sl Va none (some (.neg Wb)))) false (.call 23 [Vd]) (.call 23 [Vd])),.expr (.bm .reverse Vc []),.ret (.tup [Vb,Vc])]
noncomputable def b23:List S:=[.xal (.set 1 (.ife (.cmp .Eq Va (.c (.str [45]))) (.lst []) (.comp (.seq (.bm .split Va [.c (.str [32])])) false none (.call 24 [Vc])))) (.ife (.cmp .Eq Va (.c (.str [45]))) .no (.comp (.seq (.bm .split Va [.c (.str [32])])) false (.call 24 [Vc]) (.call 24 [Vc]))),.expr (.bm .reverse Vb []),.ret Vb]
noncomputable def b24:List S:=[.xal (.tryN [.ret (.call 16 [Va])]) (.tryR 16 [Va] 11 17 [.c (.str [97,32,115,105,103,110,32,111,102,32,116,104,101,32,99,104,97,114,116,32,105,115,32,116,104,101,32,109,97,114,107,32,111,102,32,110,111,32,115,116,105,116,99,104])])]
noncomputable def b25:List S:=[.set 1 (.ife (.bm .starts Va [.c (.str [99,97,115,116,32])]) (.call 0 [.sl Va (some (.bi .len [.c (.str [99,97,115,116,32])])) none,.c (.int 9 0)]) (.c .non)),.ite (.cmp .Is Vb (.c .non)) [.rse 17 [.c (.str [116,104,101,32,108,97,115,116,32,116,101,120,116,32,100,111,101,115,32,110,111,116,32,116,101,108,108,32,104,111,119,32,109,97,110,121,32,108,111,111,112,115,32,97,114,101,32,99,97,115,116,32,111,110])]] [],.ret Vb]
noncomputable def b26:List S:=[.ite (.cmp .Lt Vb (.bi .len [Va])) [.ret (.ix Va Vb)] [],.ret Wa]
noncomputable def b27:List S:=[.set 1 (.op .Mod Va (.c (.int 8 0))),.set 2 (.op .FloorDiv Va (.c (.int 8 0))),.ite (.cmp .Lt Vb Wd) [.ret (.ix (.c (.str [107,112,115,111,98])) (.op .Mod Vc Wf))] [],.ite (.cmp .Eq Vb Wd) [.ret (.op .Add (.ix (.c (.str [104,102])) (.op .Mod Vc Wc)) (.ix (.c (.str [119,120,121,122])) (.op .Mod (.op .FloorDiv Vc Wc) We)))] [],.ite (.cmp .Eq Vb We) [.ret (.op .Add (.op .Add (.ix (.c (.str [107,112])) (.op .Mod Vc Wc)) (.ix (.c (.str [50,51,52])) (.op .Mod (.op .FloorDiv Vc Wc) Wd))) (.ix (.c (.str [114,108])) (.op .Mod (.op .FloorDiv Vc (.c (.int 6 0))) Wc)))] [],.ite (.cmp .Eq Vb Wf) [.ret (.op .Add (.op .Add (.ix (.c (.str [107,112])) (.op .Mod Vc Wc)) (.c (.str [120]))) (.ix (.c (.str [50,51,52])) (.op .Mod (.op .FloorDiv Vc Wc) Wd)))] [],.ret (.op .Add (.op .Add (.op .Add (.ix (.c (.str [99,113])) (.op .Mod Vc Wc)) (.ix (.c (.str [49,50,51,52])) (.op .Mod (.op .FloorDiv Vc Wc) We))) (.ix (.c (.str [102,98])) (.op .Mod (.op .FloorDiv Vc (.c (.int 8 0))) Wc))) (.ix (.c (.str [49,50,51,52])) (.op .Mod (.op .FloorDiv Vc (.c (.int 16 0))) We)))]
noncomputable def b28:List S:=[.set 1 (.lst []),.loop (.name 2) (.seq (.sl Va (some Wd) (some (.c (.int 87 0))))) [.ite (.or (.cmp .Eq (.op .Mod Vc Wf) Wa) (.cmp .Eq Vb (.lst []))) [.expr (.bm .append Vb [.lst []])] [],.ite (.cmp .NotEq (.op .Mod Vc Wf) Wa) [.expr (.bm .append (.ix Vb (.neg Wb)) [.call 27 [.op .Mod (.op .Mult (.op .Add (.op .Mod (.op .FloorDiv Vc Wf) (.op .Pow (.c (.int 10 0)) (.c (.int 9 0)))) (.c (.int 7 0))) (.c (.int 69621 0))) (.c (.int 2147483647 0))]])] []],.ret Vb]
noncomputable def b29:List S:=[.set 2 (.lst [.op .Add (.c (.str [99,97,115,116,32])) (.bi .str [Va])]),.loop (.name 3) (.seq Vb) [.set 4 (.c (.str [45])),.ite (.cmp .NotEq Vd (.lst [])) [.set 4 (.bm .join (.c (.str [32])) [.comp (.rng (.bi .len [Vd])) false none (.ix Vd (.op .Sub (.op .Sub (.bi .len [Vd]) Wb) Vf))])] [],.set 2 (.op .Add (.lst [Ve]) Vc)],.ret Vc]
noncomputable def b30:List S:=[.set 1 (.lst [.c (.str []),.c (.str [32]),.c (.str [45,45]),.c (.str [45,32,45]),.c (.str [107,32,45]),.c (.str [45,32,107]),.c (.str [107,32,32,112]),.c (.str [32,107]),.c (.str [107,32]),.c (.str [75]),.c (.str [107,112]),.c (.str [107,44,112]),.c (.str [99,97,115,116,32,51]),.c (.str [107,50]),.c (.str [107,49,114]),.c (.str [107,53,108])]),.set 1 (.op .Add Vb (.lst [.c (.str [99,48,102,49]),.c (.str [99,49,102,53]),.c (.str [99,50,114,49]),.c (.str [112,120,49]),.c (.str [112,120,53]),.c (.str [104,118]),.c (.str [102]),.c .non,Wd,.lst [.c (.str [107])]])),.ret (.ix Vb (.op .Mod Va (.c (.int 26 0))))]
noncomputable def b31:List S:=[.set 1 (.lst [.c (.str [99,97,115,116]),.c (.str [99,97,115,116,32]),.c (.str [99,97,115,116,32,48,49]),.c (.str [99,97,115,116,32,48,48]),.c (.str [99,97,115,116,32,45,49]),.c (.str [99,97,115,116,32,43,49]),.c (.str [99,97,115,116,32,49,50,51,52,53,54,55,56,57,48]),.c (.str [99,97,115,116,32,49,32]),.c (.str [99,97,115,116,32,32,49])]),.set 1 (.op .Add Vb (.lst [.c (.str [67,97,115,116,32,49]),.c (.str [99,97,115,116,32,97]),.c (.str [51]),.c .non,Wd,.c (.str [99,97,115,116,32,49,95,48])])),.ret (.ix Vb (.op .Mod Va (.c (.int 15 0))))]
noncomputable def b32:List S:=[.set 2 (.lst [.c .non,.c (.str [99,97,115,116,32,51]),.bi .tuple [Va],.dnew,.lst [],.c (.int 7 0)]),.ret (.ix Vc (.op .Mod Vb (.c (.int 6 0))))]
noncomputable def b33:List S:=[.ite (.cmp .Eq (.op .Mod Vb (.c (.int 6 0))) Wa) [.ret (.sl Va none (some (.neg Wb)))] [],.ite (.cmp .Eq (.op .Mod Vb (.c (.int 6 0))) Wb) [.ret (.call 32 [Va,Vc])] [],.ite (.and (.cmp .Lt (.op .Mod Vb (.c (.int 6 0))) We) (.cmp .Gt (.bi .len [Va]) Wb)) [.set 3 (.op .Mod (.op .FloorDiv Vb (.c (.int 6 0))) (.op .Sub (.bi .len [Va]) Wb)),.ret (.op .Add (.op .Add (.sl Va none (some Vd)) (.lst [.call 30 [Vc]])) (.sl Va (some (.op .Add Vd Wb)) none))] [],.ret (.op .Add (.sl Va none (some (.neg Wb))) (.lst [.call 31 [Vc]]))]
noncomputable def b34:List S:=[.set 1 (.lst [.isi Va (.cls 11),.isi Va (.cls 12),.isi Va (.cls 13),.isi Va (.cls 14)]),.set 1 (.op .Add Vb (.lst [.isi Va (.cls 15),.isi Va (.cls 16),.isi Va (.cls 18),.isi Va (.cls 19)])),.set 1 (.op .Add Vb (.lst [.isi Va (.cls 20),.isi Va (.cls 21)])),.ret (.and (.cmp .NotIn (.c (.bl true)) Vb) (.and (.isi Va (.cls 17)) (.isi Va .vale)))]
noncomputable def b35:List S:=[.set 1 (.c (.bl false)),.tryS (some 2) 22 [Va] 10 [.set 1 (.call 34 [Vc])],.ret Vb]
noncomputable def b36:List S:=[.set 3 (.call 22 [Va]),.ite (.or (.not (.isi Vd .tuple)) (.or (.cmp .NotEq (.bi .len [Vd]) Wc) (.not (.isi (.ix Vd Wb) .list)))) [.ret (.c (.bl false))] [],.ite (.or (.not (.isi (.ix Vd Wa) .int)) (.or (.isi (.ix Vd Wa) .bool) (.cmp .NotEq (.ix Vd Wa) Vb))) [.ret (.c (.bl false))] [],.ite (.cmp .NotEq (.bi .len [.ix Vd Wb]) (.bi .len [Vc])) [.ret (.c (.bl false))] [],.loop (.pair 4 5) (.zip (.ix Vd Wb) Vc) [.ite (.not (.isi Ve .list)) [.ret (.c (.bl false))] [],.loop (.name 6) (.seq Ve) [.ite (.not (.isi Vg (.cls 0))) [.ret (.c (.bl false))] []],.ite (.cmp .NotEq (.comp (.seq Ve) false none (.meth 4 Vh [])) Vf) [.ret (.c (.bl false))] []],.ret (.c (.bl true))]
noncomputable def b37:List S:=[.set 1 (.op .Mod (.call 26 [Va,Wa]) (.op .Pow (.c (.int 10 0)) (.c (.int 9 0)))),.ite (.cmp .Eq (.op .Mod (.call 26 [Va,Wb]) Wd) Wb) [.set 1 (.op .Mod Vb (.c (.int 12 0)))] [],.set 2 (.call 28 [Va]),.set 3 (.call 29 [Vb,Vc]),.set 4 (.bi .list [Vd]),.ite (.not (.call 36 [Ve,Vb,Vc])) [.ret (.c (.bl false))] [],.set 5 (.op .Mod (.call 26 [Va,Wc]) (.op .Pow (.c (.int 10 0)) (.c (.int 9 0)))),.ite (.not (.call 35 [.call 33 [Vd,.op .Mod (.op .FloorDiv (.call 26 [Va,Wb]) Wd) (.op .Pow (.c (.int 10 0)) (.c (.int 9 0))),Vf]])) [.ret (.c (.bl false))] [],.ret (.and (.call 36 [Ve,Vb,Vc]) (.cmp .Eq Ve Vd))]
noncomputable def F0(x:Str)(k:Nat)(N:List Str)(n:Nat)(b:List S):Fn:=⟨x,x,top k,N.take n,N,n,N.length,false,b⟩
noncomputable def F1(x q:Str)(k j:Nat)(N:List Str)(n:Nat)(b:List S):Fn:=⟨x,q,QM (top k) j,N.take n,N,n,N.length,false,b⟩
noncomputable def fnL:List Fn:=[F0 "figures_number" 16 ["text","most"] 2 b0,
 F1 "__init__" "Plain.__init__" 22 0 ["self","side"] 2 b1,
 F1 "mark" "Plain.mark" 22 4 ["self"] 1 b2,
 F1 "mark" "Slip.mark" 23 3 ["self"] 1 b3,
 F1 "mark" "Over.mark" 24 3 ["self"] 1 b4,
 F1 "__init__" "Lean.__init__" 25 0 ["self","many","way","side"] 4 b5,
 F1 "mark" "Lean.mark" 25 4 ["self"] 1 b6,
 F1 "__init__" "Grow.__init__" 26 0 ["self","many","side"] 3 b7,
 F1 "mark" "Grow.mark" 26 4 ["self"] 1 b8,
 F1 "__init__" "Cross.__init__" 27 0 ["self","first","second","way","side"] 5 b9,
 F1 "mark" "Cross.mark" 27 4 ["self"] 1 b10,
 F1 "mark" "Off.mark" 28 3 ["self"] 1 b11,
 F1 "__init__" "Keep.__init__" 29 0 ["self","keeper"] 2 b12,
 F1 "mark" "Keep.mark" 29 4 ["self"] 1 b13,
 F1 "__init__" "Fetch.__init__" 30 0 ["self","keeper"] 2 b14,
 F1 "mark" "Fetch.mark" 30 4 ["self"] 1 b15,
 F0 "stitch" 38 ["mark","found"] 1 b16,
 F0 "stitch_of_text" 39 ["text","size"] 1 b17,
 F0 "bare_stitch" 40 ["sign"] 1 b18,
 F0 "keeper_stitch" 41 ["sign","keeper"] 2 b19,
 F0 "sided_stitch" 42 ["sign","middle","last"] 3 b20,
 F0 "crossing" 43 ["sign","first","way","second"] 4 b21,
 F0 "read_chart" 48 ["chart","number","rows"] 1 b22,
 F0 "row_of_text" 49 ["text","row"] 1 b23,
 F0 "stitch_of_mark" 50 ["mark"] 1 b24,
 F0 "cast_of_text" 51 ["text","number"] 1 b25,
 F0 "_law_cell_at" 53 ["_law_script","_law_k"] 2 b26,
 F0 "_law_mark" 54 ["_law_number","_law_kind","_law_more"] 1 b27,
 F0 "_law_rows" 55 ["_law_script","_law_rows_here","_law_cell"] 1 b28,
 F0 "_law_texts" 56 ["_law_cast","_law_rows_here","_law_texts_here","_law_marks","_law_text"] 2 b29,
 F0 "_law_no_row" 57 ["_law_cell","_law_some"] 1 b30,
 F0 "_law_no_cast" 58 ["_law_cell","_law_some"] 1 b31,
 F0 "_law_no_chart" 59 ["_law_texts_here","_law_cell","_law_some"] 2 b32,
 F0 "_law_spoiled" 60 ["_law_texts_here","_law_way","_law_cell","_law_at"] 3 b33,
 F0 "_law_class_told" 61 ["_law_e","_law_some"] 1 b34,
 F0 "_law_refused" 62 ["_law_texts_here","_law_told","_law_e"] 1 b35,
 F0 "_law_read" 63 ["_law_texts_here","_law_cast","_law_rows_here","_law_found","_law_row","_law_marks","_law_one"] 3 b36,
 ⟨"law","law",top 64,["_law_script"],["_law_script","_law_cast","_law_rows_here","_law_texts_here","_law_handed","_law_number"],1,6,true,b37⟩]
noncomputable def tbX(s:List U):Tbl:=⟨fnL,Qo4,Qo3,QoS,QoE,s,QoI,Qo1,QoZ,QnX,false,QoU,QoT,Qoy,QoX,Qo0,QoY,true,QoO,Qo5,λz z z=>none⟩
noncomputable def QiW(s:List U):Tbl:={tbX s with xf:=QN (tbX s) 9}
noncomputable def QiV(s:List U):Tbl:={tbX s with xf:=QN (QiW s) 9}
noncomputable def QiU(s:List U):Tbl:={tbX s with xf:=QN (QiV s) 9}
noncomputable def tb(s:List U):Tbl:={tbX s with xf:=QN (QiU s) 9}
noncomputable abbrev sR(n:Nat):Option U:=some (.ref n)
noncomputable abbrev sN(n:Nat):Option U:=some (.int (n:Int) 0)
noncomputable abbrev sF:Option U:=some (.bl false)
noncomputable abbrev sS(x:List Nat):Option U:=some (.str x)
noncomputable abbrev sI(n:Int):Option U:=some (.int n 0)
noncomputable def tbG(x:Nat->List U->Hs->Option (Er×Hs))(s:List U):Tbl:={tbX s with xf:=x}
variable {xx x2 x1 x0:Nat->List U->Hs->Option (Er×Hs)}{s:List U}
def eq_int{i:Int}:eqA T (.int i 0) (.int j 0) hs=some (decide (i=j)):=rfl
def at0{a:O}:(hs++a::r)[hs.length]?=some a:=by rw[Wi (Xm _),Ur];rfl
def Zf(h:hs[p]?=some o):(hs++r)[p]?=some o:=by
 rw[Wg (Xf.mp h).1];exact h
def Kp(hs hs':Hs):Prop:=∀(p:Nat) o,hs[p]?=some o->hs'[p]?=some o
def Kp.refl(hs:Hs):Kp hs hs:=λz z h=>h
def Kp.app(hs r:Hs):Kp hs (hs++r):=λz z h=>Zf h
def Kp.trans{a b c:Hs}(h:Kp a b)(h':Kp b c):Kp a c:=λp o e=>h' p o (h p o e)
def Kp.len{a b:Hs}(h:Kp a b):a.length<=b.length:=by
 cases ha:a.length with
 |zero=>lia
 |succ k=>
  have lt:k<a.length:=by lia
  have:=(Xf.mp (h k a[k] (by simp[lt]))).1
  lia
def Kp.put{a b:Hs}{j:Nat}(h:Kp a b)(hj:a.length<=j):Kp a (b.set j o):=λp x e=>by
 have lt:=(Xf.mp e).1
 rw[Xz (by lia)]
 exact h p x e
section

def Qby{r:List S}{st:S}(e:ex T cf d st Z hs=some (.next,ρ',h1)):exs T cf (d+1) (st::r) Z hs=exs T cf d r ρ' h1:=by
 rw[Qk,e]
def Qgo{t:E}{a:List S}(e:evT T cf (d+1) t Z hs=some (false,h1)):ex T cf (d+2) (.ite t a []) Z hs=some (.next,Z,h1):=by
 rw[QD,e,Qj,if_neg (by decide),QP]
def Qeq{b:E}{o:CmpOp}(ea:ev T cf d a Z hs=some (u,h1))(eb:ev T cf d b Z h1=some (w,h2))(ec:Zg T o u w h2=some c):ev T cf (d+1) (.cmp o a b) Z hs=some (.bl c,h2):=by
 rw[QX,ea,Qj,eb,Qj,ec];rfl
def Zj{b:E}{o:CmpOp}(ea:ev T cf d a Z hs=some (u,h1))(eb:ev T cf d b Z h1=some (w,h2))(ec:Zg T o u w h2=some c):evT T cf (d+2) (.cmp o a b) Z hs=some (c,h2):=by
 rw[Qr,Qeq ea eb ec,Qj];rfl
def Yw{v:U}(hi:Z[i]?=some (some u))(e:cf f [u] hs=some (v,h1)):ev T cf (d+2) (.call f [.var i]) Z hs=some (v,h1):=by
 simp only[Qp,evs,QV,hi,Qj,e]
end
def QmD(h:hs[p]?=some (.lst xs)):biU T .len [.ref p] hs=some (.int xs.length 0,hs):=by unfold biU;simp only[ZN,h]
def QlJ(h:hs[p]?=some (.lst xs)):biU T .tuple [.ref p] hs=some (.ref hs.length,hs++[.tup xs]):=by unfold biU;simp only[h]
def Qk2(h:hs[p]?=some (.lst xs))(hl:xs.length<1000000):bmU T .append (.ref p) [u] hs=some (.non,hs.set p (.lst (xs++[u]))):=by
 simp only[bmU,h,bmL,hl];rfl
def Qjt(h:hs[p]?=some (.lst xs)):QcA .append (.ref p) hs=true:=by simp only[QcA,h];rfl
def md(h:0<j):Qj9 (.int x 0) (.int j 0)=sI (x % j):=by simp only[Qj9];rw[if_pos h]
def TK(hs hs':Hs):Prop:=∀(i:Nat) us,hs[i]?=some (.tup us)->hs'[i]?=some (.tup us)
def TK.refl:TK hs hs:=λz z h=>h
def TK.trans{a b c:Hs}(h:TK a b)(h':TK b c):TK a c:=λi us e=>h' i us (h i us e)
def TK.app:TK hs (hs++r):=λi us h=>Zf h
theorem TK.set{x y:O}(h:hs[i]?=some x)(n:∀us,x≠.tup us):TK hs (hs.set i y):=λj us e=>by
 have ne:i≠j:=λz=>by rw[z,e]at h;cases h;exact n us rfl
 rw[Xz ne];exact e
abbrev Nm:=Int×Int
structure Lp where
 ps:List Nm
 sd:Int
 lf:Int
def DN(hs:Hs)(u:U)(a:Nm):Prop:=∃i,u=.ref i/\hs[i]?=some (.tup [.int a.1 0,.int a.2 0])
def DL(hs:Hs)(u:U)(a:Lp):Prop:=∃i j us,u=.ref i/\hs[i]?=some (.tup [.ref j,.int a.sd 0,.int a.lf 0])/\hs[j]?=some (.tup us)/\Paired (DN hs) us a.ps
def DN.mono{hs':Hs}(t:TK hs hs'){a:Nm}(h:DN hs u a):DN hs' u a:=by obtain⟨i,e,h⟩:=h;exact⟨i,e,t _ _ h⟩
def QB{P Q:α->β->Prop}(f:∀a b,P a b->Q a b){l:List α}{r:List β}(h:Paired P l r):Paired Q l r:=Paired.mono f h
def JN{P:α->β->Prop}{a:α}{b:β}(h:P a b){l:List α}{r:List β}(t:Paired P l r):Paired P (l++[a]) (r++[b]):=t.snoc h
def YX{P:α->β->Prop}{l:List α}{r:List β}(h:Paired P l r):l.length=r.length:=h.length
theorem DL.mono{hs':Hs}(t:TK hs hs'){a:Lp}(h:DL hs u a):DL hs' u a:=by obtain⟨i,j,us,e,h1,h2,h3⟩:=h;exact⟨i,j,us,e,t _ _ h1,t _ _ h2,QB (λz z=>DN.mono t) h3⟩
def QlX{lo hi:Option Int}(h:hs[p]?=some (.lst xs)):slU T (.ref p) lo hi hs=some (.ref hs.length,hs++[.lst (Y5 xs lo hi)]):=by simp only[slU,h]
def Qom(h:n<=1000000):Qy ((n:Int)*4)=true:=by
 simp only[Qy,Xe,Xw];lia
def Qlx{xs:List α}{x:α}(h:xs[i]?=some x):atU xs (i:Int)=some x:=by
 have l:=(Xf.mp h).1
 have e:ixU xs.length (i:Int)=some i:=by
  unfold ixU
  rw[if_pos (by lia),if_pos (by lia)]
  simp
 simp only[atU,e,h]
def Zh{TT:Tbl}(e:ev TT cf d a Z h=some (u,h1)):ex TT cf (d+1) (.set i a) Z h=some (.next,Z.set i (some u),h1):=by
 rw[QK,e,Qj]
def QcL{TT:Tbl}{t:Option E}{w:Wk}(es:Zy TT (ev TT cf d) Z src h=some (w,h1))(ec:ZU TT (ev TT cf d) (Qbo (evT TT cf d) t) w false el Z (Zs TT w h1) 0 [] h1=some (us,h2)):ev TT cf (d+1) (.comp src false t el) Z h=some (.ref h2.length,h2++[.lst us]):=by
 rw[QfC,es,Qj,ec,Qj]
def Yl{TT:Tbl}{o:Operator}{b:E}{r:Option (U×Hs)}(ea:ev TT cf d a Z h=some (u,h1))(eb:ev TT cf d b Z h1=some (w,h2))(eo:opU o u w h2=r):ev TT cf (d+1) (.op o a b) Z h=r:=by
 rw[Yk,ea,Qj,eb,Qj,eo]
def Qc{TT:Tbl}(e:Z[i]?=some (some u)):ev TT cf (d+1) (.var i) Z h=some (u,h):=by
 rw[QV,e]
def Yv{TT:Tbl}{st:S}(e:ex TT cf (d+1) st Z h=some (.next,ρ',h1)):exs TT cf (d+2) [st] Z h=some (.next,ρ',h1):=by
 rw[Qk,e];exact QP
def Qje{f:Ev}{i:Int}(e:f a Z h=some (.int i 0,h1)):Zy T f Z (.rng a) h=if Qy (i*4)=true then some (.rng 0 i.toNat,h1)else none:=by
 simp only[Zy,e,Qj]
def QiJ{TT:Tbl}(e:ev TT cf d a Z h=some (.int (n:Int) 0,h1))(l:n<=1000000):Zy TT (ev TT cf d) Z (.rng a) h=some (.rng 0 n,h1):=by
 rw[Qje e,if_pos (Qom l),Uo]
def QiE{t:Tg}{w:Wk}{r:Option (Fl×Rho×Hs)}(es:Zy T (ev T cf d) Z src hs=some (w,h1))(ef:Qcs T w t (exs T cf d body) (Zs T w h1) 0 Z h1=r):ex T cf (d+1) (.loop t src body) Z hs=r:=by
 rw[QiB,es,Qj,ef]
def dvj(h:(decide ((0:Int) < j)&&decide (j<1606938044258990275541962092341162602522202993782792835301376))=true):QkM (.int x 0) (.int j 0)=sI (x / j):=by
 simp only[QkM];rw[if_pos h]
def Qh7{xs:List α}{n:Int}(h:0<=n):Y5 xs none (some n)=xs.take n.toNat:=by
 have e1:ZL xs.length xs.length (some n)=min n.toNat xs.length:=by simp only[ZL];rw[if_neg (by lia)]
 have e2:ZL xs.length 0 none=0:=rfl;unfold Y5;rw[e1,e2,List.drop_zero,Nat.sub_zero]
 rcases Nat.le_total n.toNat xs.length with l|l
 ·rw[Nat.min_eq_left l]
 ·rw[Nat.min_eq_right l,V2 (Xm _),V2 l]
section

def QlO(h:Z[i]?=some (sI y)):evT T cf (d+3) (.cmp .Eq (.var i) (.c (.int j 0))) Z hs=some (decide (y=j),hs):=by
 rw[Qr,QX,QV,h];simp only[Qj,y_c,Zg,eq_int,Option.map,Zl]
end
def Qh5{j:Nat}:eqS (.ref i) (.ref j)=none:=rfl
def QdR{e:Nat}(hp:hs[p]?=some (.lst xs))(he:hs[e]?=some (.lst [])):eqA T (.ref p) (.ref e) hs=some (decide (xs=[])):=by
 cases xs with
 |nil=>simp[eqA,Qh5,Qax,Qc0,Q2,hp,he]
 |cons a r=>simp[eqA,Qh5,Qax,Q2,hp,he]
section

end
def Qda{P:α->β->Prop}{l:List α}{r:List β}(h:Paired P l r):Paired P l.reverse r.reverse:=QfV h
def QiZ{b:E}{p r:Prop}[Decidable p][Decidable r](ea:evT T cf d a Z hs=some (decide p,hs))(eb:evT T cf d b Z hs=some (decide r,hs)):evT T cf (d+1) (.and a b) Z hs=some (decide (p/\r),hs):=by
 rw[Qv,ea,Qj,eb];by_cases hp:p
 ·simp[hp]
 ·simp[hp]
instance:DecidableEq Nm:=inferInstanceAs (DecidableEq (Int×Int))
def Qh8{f:α->β}{xs:List α}{a b:Option Int}:Y5 (xs.map f) a b=(Y5 xs a b).map f:=by
 unfold Y5;rw[Xy,List.map_take,List.map_drop]
def QaX{a b:Nat}(ha:hs[a]?=some (.lst xs))(hb:hs[b]?=some (.lst ys))(l:xs.length+ys.length<=1000000):ZX (.ref a) (.ref b) hs=some (.ref hs.length,hs++[.lst (xs++ys)]):=by
 simp only[ZX,ha,hb,Qm3,l,Wt]
def QlB{TT:Tbl}(e:ev TT cf d a Z h=some (u,h1)):fin (exs TT cf (d+2) [.ret a] Z h)=some (u,h1):=by
 rw[Qk,QO,e];rfl
section

def Rr(T:Tbl)(cf:Cf)(d:Nat)(e:E)(Z:Rho)(h:Hs)(Q:U->Hs->Prop):Prop:=∃u h1,ev T cf d e Z h=some (u,h1)/\Q u h1
def Xx(T:Tbl)(cf:Cf)(d:Nat)(ss:List S)(Z:Rho)(h:Hs)(Q:Fl->Rho->Hs->Prop):Prop:=∃f ρ1 h1,exs T cf d ss Z h=some (f,ρ1,h1)/\Q f ρ1 h1
def Cc(T:Tbl)(m f:Nat)(us:List U)(h:Hs)(Q:U->Hs->Prop):Prop:=∃u h1,Qa T m f us h=some (u,h1)/\Q u h1
def Fq(Q:U->Hs->Prop):Fl->Rho->Hs->Prop:=λf z h=>match f with
 |.next=>Q .non h
 |.ret u=>Q u h
 |_=>False
def Nq(T:Tbl)(cf:Cf)(d:Nat)(r:List S)(Q:Fl->Rho->Hs->Prop):Fl->Rho->Hs->Prop:=λf Z h=>match f with
 |.next=>Xx T cf d r Z h Q
 |f=>Q f Z h
def QaP{b:List S}{Q:U->Hs->Prop}(e:Qa T (m+1) f us h=fin (exs T (Qa T m) dd b Z h))(x:Xx T (Qa T m) 100 b Z h (Fq Q)):Cc T (m+1) f us h Q:=by
 obtain⟨f,ρ1,h1,a,q⟩:=x
 cases f with
 |next=>exact⟨_,_,by rw[e,show dd=100 from rfl,a];rfl,q⟩
 |ret u=>exact⟨_,_,by rw[e,show dd=100 from rfl,a];rfl,q⟩
 |brk=>exact q.elim
 |cont=>exact q.elim
def Cc.mono{Q Q':U->Hs->Prop}(c:Cc T m f us h Q)(k:∀u h1,Q u h1->Q' u h1):Cc T m f us h Q':=by obtain⟨u,h1,a,b⟩:=c;exact⟨u,h1,a,k u h1 b⟩
variable {r:List S}{G:U->Hs->Prop}
def JJ(q:Q .next Z h):Xx T cf (d+1) [] Z h Q:=⟨_,_,_,QP,q⟩
def ZH{st:S}(e:ex T cf d st Z h=some (.next,ρ1,h1))(q:Xx T cf d r ρ1 h1 Q):Xx T cf (d+1) (st::r) Z h Q:=by obtain⟨f,a,b,c,x⟩:=q;exact⟨f,a,b,by rw[Qk,e];exact c,x⟩
def QeL(q:Rr T cf d e Z h λu h1=>Xx T cf (d+1) r (Z.set i (some u)) h1 Q):Xx T cf (d+2) (.set i e::r) Z h Q:=by obtain⟨u,h1,a,b⟩:=q;exact ZH (by rw[QK,a,Qj]) b
def Zk(q:Rr T cf d e Z h λu h1=>Q (.ret u) Z h1):Xx T cf (d+2) (.ret e::r) Z h Q:=by obtain⟨u,h1,a,b⟩:=q;exact⟨_,_,_,by rw[Qk,QO,a,Qj],b⟩
def QfT{t:E}{a b:List S}(e:evT T cf d t Z h=some (c,h1))(q:Xx T cf d (if c=true then a else b) Z h1 (Nq T cf (d+1) r Q)):Xx T cf (d+2) (.ite t a b::r) Z h Q:=by
 obtain⟨f,ρ1,h2,x,q⟩:=q
 have e1:ex T cf (d+1) (.ite t a b) Z h=some (f,ρ1,h2):=by rw[QD,e,Qj];cases c<;>exact x
 cases f with
 |next=>exact ZH e1 q
 |ret u=>exact⟨_,_,_,by rw[Qk,e1],q⟩
 |brk=>exact⟨_,_,_,by rw[Qk,e1],q⟩
 |cont=>exact⟨_,_,_,by rw[Qk,e1],q⟩
def Qjv{t:Tg}{w:Wk}(es:Zy T (ev T cf d) Z src h=some (w,h1))(q:∃ρ2 h2,Qcs T w t (exs T cf d body) (Zs T w h1) 0 Z h1=some (.next,ρ2,h2)/\Xx T cf (d+1) r ρ2 h2 Q):Xx T cf (d+2) (.loop t src body::r) Z h Q:=by obtain⟨_,_,a,b⟩:=q;exact ZH (QiE es a) b
def Z3(a:ev T cf d e Z h=some (u,h1))(q:G u h1):Rr T cf d e Z h G:=⟨_,_,a,q⟩
def Zx(a:evs (ev T cf d) Z es h=some (us,h1))(b:cf f us h1=some (u,h2)):ev T cf (d+1) (.call f es) Z h=some (u,h2):=by rw[Qp,a,Qj,b]
def Qow{d':Nat}{ss:List S}{h':Hs}(e:exs T cf d ss Z h=exs T cf d' r ρ' h')(x:Xx T cf d' r ρ' h' Q):Xx T cf d ss Z h Q:=by obtain⟨a,b,c,x,q⟩:=x;exact⟨a,b,c,e.trans x,q⟩
def QhA(a:ev T cf d e Z h=some (u,h1)):exs T cf (d+2) (.set i e::r) Z h=exs T cf (d+1) r (Z.set i (some u)) h1:=by rw[Qk,QK,a,Qj]
def Qgs{k r:U}(hi:Z[i]?=some (some u))(e:Q5 T u k h=some r):ev T cf (d+2) (.ix (.var i) (.c k)) Z h=some (r,h):=by rw[Z5,Qc hi,Qj,y_c,Qj,e];rfl
def e_1(a:ev T cf d e Z h=some (u,h1)):evs (ev T cf d) Z [e] h=some ([u],h1):=by simp only[evs,a,Qj]
def ZY{t:E}{a:List S}(e:evT T cf (d+1) t Z h=some (c,h1))(hc:c=false):ex T cf (d+2) (.ite t a []) Z h=some (.next,Z,h1):=Qgo (by rw[e,hc])
def QoC{t:E}{a:List S}(e:evT T cf (d+1) t Z h=some (c,h1))(hc:c=false):exs T cf (d+3) (.ite t a []::r) Z h=exs T cf (d+2) r Z h1:=Qby (ZY e hc)
def QlC{t:E}{b:List S}(et:evT T cf (d+2) t Z h=some (c,h1))(hc:c=true)(v:ev T cf d e Z h1=some (u,h2)):fin (exs T cf (d+4) (.ite t [.ret e] b::r) Z h)=some (u,h2):=by subst hc;rw[Qk,QD,et,Qj,if_pos rfl,Qk,QO,v,Qj];rfl
def QcI(a:ev T cf d e Z h=some (.ref p,h1))(hp:h1[p]?=some (.lst xs)):ev T cf (d+1) (.bi .len [e]) Z h=some (.int xs.length 0,h1):=by rw[Z6];simp only[evs,a,Qj,QmD hp]
def QiI{b:E}{v:U}(ea:ev T cf d a Z h=some (u,h1))(eb:ev T cf d b Z h1=some (v,h2)):ev T cf (d+1) (.tup [a,b]) Z h=some (.ref h2.length,h2++[.tup [u,v]]):=by rw[Q6];simp only[evs,ea,eb,Qj]
def Qej{b:Bi}{x:Option (U×Hs)}(a:ev T cf d e Z h=some (u,h1))(eb:biU T b [u] h1=x):ev T cf (d+1) (.bi b [e]) Z h=x:=by rw[Z6];simp only[evs,a,Qj,eb]
def Qmx(hj:(decide ((0:Int) < j)&&decide (j<1606938044258990275541962092341162602522202993782792835301376))=true):opU .FloorDiv (.int x 0) (.int j 0) h=some (.int (x / j) 0,h):=by show(QkM _ _).map _=_;rw[dvj hj];rfl
def Qhu(hj:0<j):opU .Mod (.int x 0) (.int j 0) h=some (.int (x % j) 0,h):=by show(Qj9 _ _).map _=_;rw[md hj];rfl
def Qj5:opU .Add (.int x 0) (.int j 0) h=some (.int (x+j) 0,h):=rfl
def Qht:opU .Sub (.int x 0) (.int j 0) h=some (.int (x-j) 0,h):=rfl
def QcJ(ea:ev T cf (d+1) a Z h=some (.int x 0,h1))(hj:(decide ((0:Int) < j)&&decide (j<1606938044258990275541962092341162602522202993782792835301376))=true):ev T cf (d+2) (.op .FloorDiv a (.c (.int j 0))) Z h=some (.int (x / j) 0,h1):=Yl ea y_c (Qmx hj)
def YA(ea:ev T cf (d+1) a Z h=some (.int x 0,h1))(hj:0<j):ev T cf (d+2) (.op .Mod a (.c (.int j 0))) Z h=some (.int (x % j) 0,h1):=Yl ea y_c (Qhu hj)
def Qn6{b:E}(ea:ev T cf d a Z h=some (.int x 0,h1))(eb:ev T cf d b Z h1=some (.int y 0,h2)):evT T cf (d+2) (.cmp .Gt a b) Z h=some (decide (y<x),h2):=Zj ea eb rfl
def Qli{b:E}(ea:ev T cf d a Z h=some (.int x 0,h1))(eb:ev T cf d b Z h1=some (.int y 0,h2)):evT T cf (d+2) (.cmp .Eq a b) Z h=some (decide (x=y),h2):=Zj ea eb rfl
end
abbrev Vp:=Nat->O->Prop
def Le(P P':Vp):Prop:=∀i o,P i o->P' i o
def Le.refl{P:Vp}:Le P P:=λz z h=>h
def Le.trans{P P1 P2:Vp}(a:Le P P1)(b:Le P1 P2):Le P P2:=λi o h=>b i o (a i o h)
structure Own(h:Hs)(C:List (Nat×O))(P:Vp):Prop where
 c:∀(k i:Nat) x,C[k]?=some (i,x)->h[i]?=some x
 nd:∀(k k' i:Nat) x x',C[k]?=some (i,x)->C[k']?=some (i,x')->k=k'
 p:∀i o,P i o->h[i]?=some o
 q:∀i o,P i o->∀(k:Nat) x,C[k]?≠some (i,x)
section
variable {C:List (Nat×O)}{P:Vp}{x y:O}
def QbI{C:List α}{k':Nat}{a b:α}(e:(C.set k a)[k']?=some b):(k'=k/\b=a)\/(k'≠k/\C[k']?=some b):=by
 by_cases z:k=k'
 ·subst z;rw[List.getElem?_set]at e;split at e
  ·split at e<;>cases e;exact .inl ⟨rfl,rfl⟩
  ·contradiction
 ·rw[Xz z]at e;exact .inr ⟨Ww z,e⟩
def Own.lt(o:Own h C P)(e:C[k]?=some (i,x)):i<h.length:=(Xf.mp (o.c _ _ _ e)).1
theorem Own.set(o:Own h C P)(k:Nat)(e:C[k]?=some (i,x)):Own (h.set i y) (C.set k (i,y)) P:=by
 have ne:∀(k' j:Nat) z,k'≠k->C[k']?=some (j,z)->i≠j:=λk' j z n a b=>n (o.nd _ _ _ _ _ a (b▸e));refine⟨λk' j z a=>?_,λk1 k2 j z1 z2 a b=>?_,λj z a=>?_,λj z a k' z' b=>?_⟩
 ·rcases QbI a with⟨_,rfl,rfl⟩|⟨n,a⟩
  ·rw[Wh (o.lt e)]
  ·rw[Xz (ne _ _ _ n a)];exact o.c _ _ _ a
 ·rcases QbI a with⟨e1,a⟩|⟨n1,a⟩<;>rcases QbI b with⟨e2,b⟩|⟨n2,b⟩
  ·rw[e1,e2]
  ·cases a;exact absurd rfl (ne _ _ _ n2 b)
  ·cases b;exact absurd rfl (ne _ _ _ n1 a)
  ·exact o.nd _ _ _ _ _ a b
 ·rw[Xz (λz=>o.q _ _ a k x (by rw[<-z];exact e))];exact o.p _ _ a
 ·rcases QbI b with⟨_,b⟩|⟨_,b⟩
  ·cases b;exact o.q _ _ a _ _ e
  ·exact o.q _ _ a _ _ b
def Own.new(o:Own h C P):Own (h++[y]) (C++[(h.length,y)]) P:=by
 have cs:∀(k j:Nat) z,(C++[(h.length,y)])[k]?=some (j,z)->C[k]?=some (j,z)\/(k=C.length/\j=h.length/\z=y):=λk j z a=>by
  rw[List.getElem?_append]at a;split at a
  ·exact .inl a
  ·rename_i n;have l:=(Xf.mp a).1
   have e:k=C.length:=by simp at l;lia
   subst e;simp at a;exact .inr ⟨rfl,a.1.symm,a.2.symm⟩
 refine⟨λk j z a=>?_,λk1 k2 j z1 z2 a b=>?_,λj z a=>Zf (o.p _ _ a),λj z a k z' b=>?_⟩
 ·rcases cs _ _ _ a with a|⟨_,rfl,rfl⟩
  ·exact Zf (o.c _ _ _ a)
  ·exact at0
 ·rcases cs _ _ _ a with a|⟨e1,f1,_⟩<;>rcases cs _ _ _ b with b|⟨e2,f2,_⟩
  ·exact o.nd _ _ _ _ _ a b
  ·subst f2;exact absurd (o.lt a) (Wn _)
  ·subst f1;exact absurd (o.lt b) (Wn _)
  ·rw[e1,e2]
 ·rcases cs _ _ _ b with b|⟨_,rfl,_⟩
  ·exact o.q _ _ a _ _ b
  ·exact absurd (Xf.mp (o.p _ _ a)).1 (Wn _)
end
theorem Qkb{T:Tbl}{w:Wk}{t:Tg}{body:Ex}(I:Nat->Rho->Hs->Prop){n:Nat}
  (st:∀i,i<n->∀Z hs,I i Z hs->∃x ρ' ρ2 h2,itm T w i hs=some (some x)/\tgt t x Z hs=some ρ'/\body ρ' hs=some (.next,ρ2,h2)/\I (i+1) ρ2 h2)
  (en:∀Z hs,I n Z hs->itm T w n hs=some none):
  ∀(m i k:Nat) (Z:Rho) (hs:Hs),n=i+m->m<k->I i Z hs->∃ρ2 h2,Qcs T w t body k i Z hs=some (.next,ρ2,h2)/\I n ρ2 h2
 |m,i,0,Z,hs,e,l,h=>by lia
 |0,i,k+1,Z,hs,e,l,h=>by
  have e':n=i:=by lia
  subst e'
  exact⟨Z,hs,by simp only[Qcs,en Z hs h],h⟩
 |m+1,i,k+1,Z,hs,e,l,h=>by
  obtain⟨x,ρ',ρ1,h1,a,b,c,d⟩:=st i (by lia) Z hs h
  obtain⟨ρ2,h2,g1,g2⟩:=Qkb I st en m (i+1) k ρ1 h1 (by lia) (by lia) d
  exact⟨ρ2,h2,by simp only[Qcs,a,b,c,g1],g2⟩
theorem Qd0{T:Tbl}{f:Ev}{ft:Rho->Hs->Option (Bool×Hs)}{w:Wk}{el:E}{Z:Rho}(I:Nat->List U->Hs->Prop){n:Nat}
  (st:∀i,i<n->∀acc hs,I i acc hs->acc.length<1000000/\∃x b h1,itm T w i hs=some (some (.one x))/\ft (Z++[some x]) hs=some (b,h1)/\(b=true->∃u h2,f el (Z++[some x]) h1=some (u,h2)/\I (i+1) (acc++[u]) h2)/\(b=false->I (i+1) acc h1))
  (en:∀acc hs,I n acc hs->itm T w n hs=some none):
  ∀(m i k:Nat) (acc:List U) (hs:Hs),n=i+m->m<k->I i acc hs->∃us h2,ZU T f ft w false el Z k i acc hs=some (us,h2)/\I n us h2
 |m,i,0,acc,hs,e,l,h=>by lia
 |0,i,k+1,acc,hs,e,l,h=>by
  have e':n=i:=by lia
  subst e'
  exact⟨acc,hs,by simp only[ZU,en acc hs h],h⟩
 |m+1,i,k+1,acc,hs,e,l,h=>by
  obtain⟨la,x,b,h1,a,t,y,z⟩:=st i (by lia) acc hs h
  have sx:(Z++[none]).set Z.length (some x)=Z++[some x]:=by
   rw[Vt _ _ (Xm _),Ur];rfl
  cases b with
  |true=>
   obtain⟨u,h2,c,d⟩:=y rfl
   obtain⟨us,h3,g1,g2⟩:=Qd0 I st en m (i+1) k _ h2 (by lia) (by lia) d
   refine⟨us,h3,?_,g2⟩;rw[ZU];simp only[a,tgt,tgN,Qcf,W9,Uv,la,Wt,sx,t,Qj,c,g1]
  |false=>
   obtain⟨us,h3,g1,g2⟩:=Qd0 I st en m (i+1) k _ h1 (by lia) (by lia) (z rfl)
   refine⟨us,h3,?_,g2⟩;rw[ZU];simp only[a,tgt,tgN,Qcf,W9,Uv,la,Wt,sx,t,Qj,g1]
def Qmg{P:α->β->Prop}{l:List α}{r:List β}(h:Paired P l r){b:β}(e:r[i]?=some b):∃a,l[i]?=some a/\P a b:=by
 induction h generalizing i with
 |nil=>cases e
 |cons x _ ih=>
  cases i with
  |zero=>cases(show some _=some _ from e);exact⟨_,rfl,x⟩
  |succ i=>exact ih e
def QcK{R:U->α->Prop}{L:List α}{l:Nat}(v:ev T cf d e Z h=some (.ref l,hs))(I:Nat->List U->Hs->Prop)(pu:Paired R us L)(ll:L.length<=900000)(hl:∀i acc hs,I i acc hs->hs[l]?=some (.lst us))
  (st:∀i a v,L[i]?=some a->R v a->∀acc hs,I i acc hs->∃u h2,ev T cf d el (Z++[some v]) hs=some (u,h2)/\I (i+1) (acc++[u]) h2) (h0:I 0 [] hs):
  ∃vs h2,ev T cf (d+1) (.comp (.seq e) false none el) Z h=some (.ref h2.length,h2++[O.lst vs])/\I L.length vs h2:=by
 have ln:=pu.length
 have tn:Zs T (.seqL (.ref l)) hs=us.length+1:=by simp only[Zs,Q2,hl _ _ _ h0,Vz]
 have sr:Zy T (ev T cf d) Z (.seq e) h=some (.seqL (.ref l),hs):=by simp only[Zy,v,Qj,wkS,Q2,hl _ _ _ h0];rfl
 obtain⟨vs,h2,g,_,i2⟩:=Qd0 (T:=T) (f:=ev T cf d) (ft:=Qbo (evT T cf d) none) (w:=.seqL (.ref l)) (el:=el) (Z:=Z) (λi acc h=>acc.length=i/\I i acc h) (n:=L.length)
  (λi hi acc hs h=>by
   obtain⟨v,hv,dv⟩:=Qmg pu (Xn hi);obtain⟨u,h2,b,c⟩:=st i _ v (Xn hi) dv acc hs h.2
   exact⟨by lia,v,true,hs,by simp only[itm,Q2,hl _ _ _ h.2,Option.map,hv],rfl,λy=>⟨u,h2,b,by rw[X9,h.1];rfl,c⟩,λz=>(by cases z)⟩)
  (λacc hs h=>by
   have:us[L.length]?=none:=by rw[Vv];lia
   simp only[itm,Q2,hl _ _ _ h.2,Option.map,this]) L.length 0 (us.length+1) [] hs (Vr _).symm (by lia) ⟨rfl,h0⟩
 exact⟨vs,h2,QcL sr (by rw[tn];exact g),i2⟩
noncomputable abbrev iU(i:Int):U:=.int i 0
section
variable {b:E}
def QnY{m:Nat}{o:E}{es:List E}:ev T cf (d+1) (.meth m o es) Z h=bd (ev T cf d o Z h) λu h1=>match Qau T m u h1 with
   |some f=>bd (evs (ev T cf d) Z es h1) λus h2=>cf f (u::(us++Qf0 T f (us.length+1))) h2
   |none=>none:=rfl
def e_2{a b:E}{u:U}{f:Ev}(x:f a Z h=some (u,h1))(y:f b Z h1=some (w,h2)):evs f Z [a,b] h=some ([u,w],h2):=by simp only[evs,x,y,Qj]
def e_3{a b c:E}{u:U}{h3:Hs}{f:Ev}(x:f a Z h=some (u,h1))(y:f b Z h1=some (w,h2))(t:f c Z h2=some (z,h3)):evs f Z [a,b,c] h=some ([u,w,z],h3):=by simp only[evs,x,y,t,Qj]
def Qab{a b:E}{u r:U}(x:ev T cf d a Z h=some (u,h1))(y:ev T cf d b Z h1=some (w,h2))(s:Q5 T u w h2=some r):ev T cf (d+1) (.ix a b) Z h=some (r,h2):=by rw[Z5,x,Qj,y,Qj,s];rfl
def Qi5{t:Nat}{j:Nat}(ht:h[t]?=some (.tup us))(hj:us[j]?=some u):Q5 T (.ref t) (iU (j:Int)) h=some u:=by
 simp only[Q5,ht];exact Qlx hj
def QgD{t:Nat}{j:Nat}(ht:h[t]?=some (.lst us))(hj:us[j]?=some u):Q5 T (.ref t) (iU (j:Int)) h=some u:=by
 simp only[Q5,ht];exact Qlx hj
def QdM{e:E}{b:Bool}(n:Qdg e=true)(x:ev T cf d e Z h=some (.bl b,h1)):evT T cf (d+1) e Z h=some (b,h1):=by
 have z:evT T cf (d+1) e Z h=bd (ev T cf d e Z h) λu h1=>(Zl T u h1).map λc=>(c,h1):=by
  cases e<;>first|rfl|cases n
 rw[z,x,Qj];rfl
def Z0{a:E}(x:evT T cf d a Z h=some (c,h1)):evT T cf (d+1) (.not a) Z h=some (!c,h1):=by rw[Qu,x,Qj]
def Qek{a b:E}{r:Option (Bool×Hs)}(x:evT T cf d a Z h=some (c,h1))(y:(if c=true then some (true,h1)else evT T cf d b Z h1)=r):evT T cf (d+1) (.or a b) Z h=r:=by rw[Za,x,Qj];exact y
def Qb6{t a b:E}{r:Option (U×Hs)}(x:evT T cf d t Z h=some (c,h1))(y:(if c=true then ev T cf d a Z h1 else ev T cf d b Z h1)=r):ev T cf (d+1) (.ife t a b) Z h=r:=by rw[Q7,x,Qj];exact y
def QfJ(k:Kp h h1)(e:ZZ T u h=some xs):ZZ T u h1=some xs:=by
 cases u with
 |ref n=>
  simp only[ZZ]at e ⊢
  cases q:h[n]? with
  |none=>rw[q]at e;cases e
  |some o=>rw[q]at e;rw[k _ _ q];exact e
 |_=>exact e
def Qdx(k:Kp h h1)(e:Q2 T u h=some xs):Q2 T u h1=some xs:=by
 cases u with
 |ref n=>
  simp only[Q2]at e ⊢
  cases q:h[n]? with
  |none=>rw[q]at e;cases e
  |some o=>rw[q]at e;rw[k _ _ q];exact e
 |_=>exact e
def QfI(e:ZZ T u h=some xs):Q2 T u h=none:=by
 cases u with
 |ref n=>
  simp only[ZZ,Q2]at e ⊢
  cases q:h[n]? with
  |none=>rfl
  |some o=>rw[q]at e;cases o<;>first|rfl|cases e
 |con n=>
  simp only[ZZ,Q2]at e ⊢
  cases q:T.cons[n]? with
  |none=>rfl
  |some o=>rw[q]at e;cases o<;>first|rfl|cases e
 |_=>cases e
def Zn(e:h[n]?=some (.lst xs)):Q2 T (.ref n) h=some xs:=by simp only[Q2,e]
def QiR(e:h[n]?=some (.tup xs)):ZZ T (.ref n) h=some xs:=by simp only[ZZ,e]
def Sq(T:Tbl)(u:U)(h:Hs)(xs:List U):Prop:=Q2 T u h=some xs\/ZZ T u h=some xs
def Qka(e:Q2 T u h=some xs):sqU T (Q2 T u h).isSome u h=some xs/\∀h1,Kp h h1->sqU T (Q2 T u h).isSome u h1=some xs:=by rw[e];exact⟨e,λh1 k=>Qdx k e⟩
theorem Qia{f:Ev}{ft:E->Rho->Hs->Option (Bool×Hs)}{w:Wk}{bb:Bool}{el:E}{α:Type}{L:List α}{im:α->Im}{r:α->Rho}(F:α->U->Hs->Prop)(mono:∀a u h h',Kp h h'->F a u h->F a u h')(hit:∀(i:Nat) hs,Kp h1 hs->itm T w i hs=some ((L[i]?).map im))
  (ht:∀a hs,tgt (tgN bb Z.length) (im a) (Z++Qcf bb) hs=some (r a)) (st:∀a∈L,∀hs,Kp h1 hs->∃u h2,f el (r a) hs=some (u,h2)/\Kp hs h2/\F a u h2):
  ∀(m i k:Nat) (acc:List U) (hs:Hs),L.length=i+m->m<k->L.length<=900000->Kp h1 hs->Paired (λu a=>F a u hs) acc (L.take i)->∃us h2,ZU T f (Qbo ft none) w bb el Z k i acc hs=some (us,h2)/\Kp h1 h2/\Paired (λu a=>F a u h2) us L
 |m,i,0,acc,hs,e,l,_,_,_=>by lia
 |0,i,k+1,acc,hs,e,l,_,kp,pr=>by
  have e':L.length<=i:=by lia
  refine⟨acc,hs,?_,kp,by rw[V2 e']at pr;exact pr⟩
  have:itm T w i hs=some none:=by rw[hit i hs kp,Us e'];rfl
  simp only[ZU,this]
 |m+1,i,k+1,acc,hs,e,l,l9,kp,pr=>by
  have lt:i<L.length:=by lia
  have ei:itm T w i hs=some (some (im L[i])):=by rw[hit i hs kp,Xn lt];rfl
  obtain⟨u,h3,a,kp3,fu⟩:=st L[i] (Uf lt) hs kp
  have la:acc.length<1000000:=by rw[YX pr,Vy];lia
  obtain⟨us,h4,b,kp4,p4⟩:=Qia F mono hit ht st m (i+1) k (acc++[u]) h3 (by lia) (by lia) l9 (kp.trans kp3) (by
   rw[Um,Xn lt]
   exact JN (P:=λu a=>F a u h3) fu (QB (λz z=>mono _ _ _ _ kp3) pr))
  refine⟨us,h4,?_,kp4,p4⟩;rw[ZU];simp only[ei,ht,la,Wt,Qbo,Qj,a];exact b
def QlZ{x:U}:(Z++[none]).set Z.length (some x)=Z++[some x]:=by
 rw[Vt _ _ (Xm _),Ur];rfl
def Qif{w:Wk}(F:U->U->Hs->Prop)(mono:∀a u h h',Kp h h'->F a u h->F a u h')(es:Zy T (ev T cf d) Z src h=some (w,h1))(tn:L.length<Zs T w h1)(ll:L.length<=900000)(hit:∀(i:Nat) hs,Kp h1 hs->itm T w i hs=some ((L[i]?).map .one))
  (st:∀x∈L,∀hs,Kp h1 hs->∃u h2,ev T cf d el (Z++[some x]) hs=some (u,h2)/\Kp hs h2/\F x u h2):∃us h2,ev T cf (d+1) (.comp src false none el) Z h=some (.ref h2.length,h2++[.lst us])/\Kp h1 h2/\Paired (λu a=>F a u h2) us L:=by
 obtain⟨us,h2,a,k,p⟩:=Qia (T:=T) (Z:=Z) (f:=ev T cf d) (ft:=evT T cf d) (w:=w) (bb:=false) (el:=el) (im:=Im.one) (r:=λx=>Z++[some x]) F mono hit (λx hs=>by simp only[tgN,Qcf,tgt,W9,Uv,QlZ]) st L.length 0 _ [] h1 (Vr _).symm tn ll (Kp.refl _) .nil
 exact⟨us,h2,QcL es a,k,p⟩
def QkV(F:U->U->Hs->Prop)(mono:∀a u h h',Kp h h'->F a u h->F a u h')(v:ev T cf d e Z h=some (u,h1))(s:Sq T u h1 L)(ll:L.length<=900000)
  (st:∀x∈L,∀hs,Kp h1 hs->∃u h2,ev T cf d el (Z++[some x]) hs=some (u,h2)/\Kp hs h2/\F x u h2):∃us h2,ev T cf (d+1) (.comp (.seq e) false none el) Z h=some (.ref h2.length,h2++[.lst us])/\Kp h1 h2/\Paired (λu a=>F a u h2) us L:=by
 rcases s with s|s
 ·exact Qif (w:=.seqL u) F mono (by simp only[Zy,v,Qj,wkS,s];rfl) (by simp only[Zs,s,Vz];lia) ll (λi hs k=>by simp only[itm,Qdx k s,Option.map]) st
 ·exact Qif (w:=.seqT u) F mono (by simp only[Zy,v,Qj,wkS,s,QfI s];rfl) (by simp only[Zs,s,Vz];lia) ll (λi hs k=>by simp only[itm,QfJ k s,Option.map]) st
def QiP:two xs ys i=((xs.zip ys)[i]?).map λp=>.two p.1 p.2:=by
 unfold two;show _=((List.zipWith Prod.mk xs ys)[i]?).map _;rw[List.getElem?_zipWith];cases xs[i]?<;>cases ys[i]?<;>rfl
def Qdc{g:α->U}{L:List α}(h:Paired (λu a=>u=g a) us L):us=L.map g:=by
 induction h with
 |nil=>rfl
 |cons a _ ih=>rw[Ws,<-ih,a]
variable {r:List S}{t:Tg}
def QfS{w:Wk}{L:List α}{im:α->Im}(I:Nat->Rho->Hs->Prop)(es:Zy T (ev T cf d) Z src h=some (w,h1))(tn:L.length<Zs T w h1)(hit:∀i Z hs,I i Z hs->itm T w i hs=some ((L[i]?).map im))(h0:I 0 Z h1)
  (st:∀i a,L[i]?=some a->∀Z hs,I i Z hs->∃ρ' ρ2 h2,tgt t (im a) Z hs=some ρ'/\exs T cf d body ρ' hs=some (.next,ρ2,h2)/\I (i+1) ρ2 h2) (k:∀ρ2 h2,I L.length ρ2 h2->Xx T cf (d+1) r ρ2 h2 Q):Xx T cf (d+2) (.loop t src body::r) Z h Q:=by
 obtain⟨ρ2,h2,a,b⟩:=Qkb (T:=T) (w:=w) (t:=t) (body:=exs T cf d body) I (n:=L.length) (λi hi Z hs z=>by
  obtain⟨ρ',ρ2,h2,a,b,c⟩:=st i _ (Xn hi) Z hs z
  exact⟨_,ρ',ρ2,h2,by rw[hit i Z hs z,Xn hi];rfl,a,b,c⟩) (λZ hs z=>by rw[hit _ Z hs z,Us (Xm _)];rfl) L.length 0 _ Z h1 (Vr _).symm tn h0
 exact Qjv es ⟨ρ2,h2,a,k ρ2 h2 b⟩
def QgY(I:Nat->Rho->Hs->Prop)(v:ev T cf d e Z h=some (u,h1))(hl:∀i Z hs,I i Z hs->Q2 T u hs=some L)(h0:I 0 Z h1)
  (st:∀i x,L[i]?=some x->∀Z hs,I i Z hs->∃ρ' ρ2 h2,tgt t (.one x) Z hs=some ρ'/\exs T cf d body ρ' hs=some (.next,ρ2,h2)/\I (i+1) ρ2 h2) (k:∀ρ2 h2,I L.length ρ2 h2->Xx T cf (d+1) r ρ2 h2 Q):Xx T cf (d+2) (.loop t (.seq e) body::r) Z h Q:=by
 have s:=hl _ _ _ h0
 exact QfS (w:=.seqL u) (im:=Im.one) I (by simp only[Zy,v,Qj,wkS,s];rfl) (by simp only[Zs,s,Vz];lia) (λi Z hs z=>by simp only[itm,hl _ _ _ z,Option.map]) h0 st k
end
def Pc(T:Tbl)(m f:Nat)(us:List U)(h:Hs)(Q:U->Hs->Prop):Prop:=∃u h1,Qa T m f us h=some (u,h1)/\Kp h h1/\Q u h1
def Pc.of{Q:U->Hs->Prop}(c:Cc T m f us h λu h1=>Kp h h1/\Q u h1):Pc T m f us h Q:=c
def kp1:Kp h (h++[o]):=Kp.app h [o]
def last1:(h++[o])[h.length]?=some o:=at0
noncomputable def sg(l:List Nat)(z:Int):Nat:=(l[(z % (l.length:Int)).toNat]?).getD 0
def QbD{l:List Nat}{k:Int}(hk:(l.length:Int)=k)(h0:0<k)(hl:l.length<=1000000)(z:Int):Q5 T (.str l) (.int (z % k) 0) hs=some (.str [sg l z]):=by
 subst hk;have h1:=V7 z (Int.ne_of_gt h0);have h2:=Vu z h0
 have h3:(z % (l.length:Int)).toNat<l.length:=by lia
 have e:atU l (z % (l.length:Int))=some (sg l z):=by
  unfold atU ixU sg;rw[if_pos h1,if_pos h2];simp[h3]
 simp[Q5,hl,e]
def QbH{l:List Nat}(h:0<l.length)(z:Int):sg l z∈l:=by
 have h0:(0:Int) < (l.length:Int):=by lia
 have h1:=V7 z (Int.ne_of_gt h0);have h2:=Vu z h0
 have h3:(z % (l.length:Int)).toNat<l.length:=by lia
 unfold sg;rw[Xn h3];exact Uf h3
inductive Mk:List Nat->Prop
 |bare {a:Nat} (h:a∈[107,112,115,111,98]):Mk [a]
 |lean {a b c:Nat} (h:a∈[107,112]) (hb:b∈[50,51,52]) (hc:c∈[114,108]):Mk [a,b,c]
 |grow {a b:Nat} (h:a∈[107,112]) (hb:b∈[50,51,52]):Mk [a,120,b]
 |cross {a b c e:Nat} (h:a∈[99,113]) (hb:b∈[49,50,51,52]) (hc:c∈[102,98]) (he:e∈[49,50,51,52]):Mk [a,b,c,e]
 |keep {a b:Nat} (h:a∈[104,102]) (hb:b∈[119,120,121,122]):Mk [a,b]
def Mk.len{m:List Nat}(h:Mk m):1<=m.length/\m.length<=4:=by cases h<;>exact⟨by simp,by simp⟩
def Ye{x y:List Nat}(l:x.length+y.length<=1000000):opU .Add (.str x) (.str y) h=some (.str (x++y),h):=if_pos l
def QlN(h:Z[i]?=some (sI y)):evT T cf (d+3) (.cmp .Lt (.var i) (.c (.int j 0))) Z hs=some (decide (y<j),hs):=Zj (Qc h) y_c rfl
def QgZ{r:List S}{k:Int}(hi:Z[1]?=some (sI k))(yes:Rr T cf (d+1) e Z h λu h1=>Q (.ret u) Z h1)(no:Xx T cf (d+4) r Z h Q):Xx T cf (d+5) (.ite (.cmp .Eq Vb (.c (.int j 0))) [.ret e] []::r) Z h Q:=by
 refine QfT (d:=d+3) (QlO hi) ?_;by_cases c:k=j
 ·rw[if_pos (X3 c)];exact Zk yes
 ·rw[if_neg (by simpa using c)]
  exact JJ no
def Qpe:∃m,Mk m/\Qa (tbG xx s) (n+1) 27 [.int x 0] hs=some (.str m,hs):=by
 suffices z:Cc (tbG xx s) (n+1) 27 [.int x 0] hs λu h1=>h1=hs/\∃m,Mk m/\u=.str m by
  obtain⟨_,_,e,rfl,m,hm,rfl⟩:=z;exact⟨m,hm,e⟩
 have q2:∀(a b:Nat) (z:Int),Q5 (tbG xx s) (.str [a,b]) (.int (z % 2) 0) hs=some (.str [sg [a,b] z]):=λa b z=>QbD (k:=2) rfl (by decide) (by simp) z
 have q3:∀(a b c:Nat) (z:Int),Q5 (tbG xx s) (.str [a,b,c]) (.int (z % 3) 0) hs=some (.str [sg [a,b,c] z]):=λa b c z=>QbD (k:=3) rfl (by decide) (by simp) z
 have q4:∀(a b c e:Nat) (z:Int),Q5 (tbG xx s) (.str [a,b,c,e]) (.int (z % 4) 0) hs=some (.str [sg [a,b,c,e] z]):=λa b c e z=>QbD (k:=4) rfl (by decide) (by simp) z
 have q5:∀(z:Int),Q5 (tbG xx s) (.str [107,112,115,111,98]) (.int (z % 5) 0) hs=some (.str [sg [107,112,115,111,98] z]):=λz=>QbD (k:=5) rfl (by decide) (by simp) z
 have M2:∀(a b:Nat) (z:Int),sg [a,b] z∈[a,b]:=λa b z=>QbH (by simp) z
 have M3:∀(a b c:Nat) (z:Int),sg [a,b,c] z∈[a,b,c]:=λa b c z=>QbH (by simp) z
 have M4:∀(a b c e:Nat) (z:Int),sg [a,b,c,e] z∈[a,b,c,e]:=λa b c e z=>QbH (by simp) z
 have md:∀{d i:Nat} {y j:Int} {Z:Rho},Z[i]?=some (sI y)->0<j->ev (tbG xx s) (Qa (tbG xx s) n) (d+2) (.op .Mod (.var i) (.c (.int j 0))) Z hs=some (.int (y % j) 0,hs):=λh hj=>YA (Qc h) hj;have mv:∀{d i:Nat} {y k j:Int} {Z:Rho},Z[i]?=some (sI y)->(decide ((0:Int) < k)&&decide (k<1606938044258990275541962092341162602522202993782792835301376))=true->0<j->ev (tbG xx s) (Qa (tbG xx s) n) (d+3) (.op .Mod (.op .FloorDiv (.var i) (.c (.int k 0))) (.c (.int j 0))) Z hs=some (.int (y / k % j) 0,hs):=λh hk hj=>YA (QcJ (Qc h) hk) hj
 refine QaP (Qg fnL[27] rfl rfl) (Qow ((QhA (d:=98) (md (d:=96) rfl (by decide))).trans (QhA (d:=97) (QcJ (d:=95) (Qc rfl) (by decide)))) (QfT (d:=96) (QlN rfl) ?_))
 by_cases c:x % 8<3
 ·rw[if_pos (X3 c)]
  exact Zk (Z3 (Qab y_c (md rfl (by decide)) (q5 (x / 8))) ⟨rfl,_,.bare (QbH (by simp) _),rfl⟩)
 rw[if_neg (by simpa using c)]
 refine JJ (QgZ (d:=92) rfl ?_ (QgZ (d:=91) rfl ?_ (QgZ (d:=90) rfl ?_ (Zk ?_))))
 ·exact Z3 (Yl (Qab y_c (md rfl (by decide)) (q2 104 102 (x / 8))) (Qab y_c (mv rfl (by decide) (by decide)) (q4 119 120 121 122 (x / 8 / 2))) (Ye (by simp))) ⟨rfl,_,.keep (M2 104 102 _) (M4 119 120 121 122 _),rfl⟩
 ·exact Z3 (Yl (Yl (Qab y_c (md rfl (by decide)) (q2 107 112 (x / 8))) (Qab y_c (mv rfl (by decide) (by decide)) (q3 50 51 52 (x / 8 / 2))) (Ye (by simp))) (Qab y_c (mv rfl (by decide) (by decide)) (q2 114 108 (x / 8 / 6))) (Ye (by simp))) ⟨rfl,_,.lean (M2 107 112 _) (M3 50 51 52 _) (M2 114 108 _),rfl⟩
 ·exact Z3 (Yl (Yl (Qab y_c (md rfl (by decide)) (q2 107 112 (x / 8))) y_c (Ye (by simp))) (Qab y_c (mv rfl (by decide) (by decide)) (q3 50 51 52 (x / 8 / 2))) (Ye (by simp))) ⟨rfl,_,.grow (M2 107 112 _) (M3 50 51 52 _),rfl⟩
 ·exact Z3 (Yl (Yl (Yl (Qab y_c (md rfl (by decide)) (q2 99 113 (x / 8))) (Qab y_c (mv rfl (by decide) (by decide)) (q4 49 50 51 52 (x / 8 / 2))) (Ye (by simp))) (Qab y_c (mv rfl (by decide) (by decide)) (q2 102 98 (x / 8 / 8))) (Ye (by simp))) (Qab y_c (mv rfl (by decide) (by decide)) (q4 49 50 51 52 (x / 8 / 16))) (Ye (by simp))) ⟨rfl,_,.cross (M2 99 113 _) (M4 49 50 51 52 _) (M2 102 98 _) (M4 49 50 51 52 _),rfl⟩
def Qit{a c:O}:(hs++a::r).set hs.length c=hs++c::r:=by rw[Vt _ _ (Xm _),Ur];rfl
def Qip{T:Tbl}{cf:Cf}{d f:Nat}{o e:E}{Z:Rho}{hs:Hs}:ex T cf (d+1) (.fld o f e) Z hs=bd (ev T cf d e Z hs) λu h1=>bd (ev T cf d o Z h1) λx h2=>match x with
   |.ref n=>match h2[n]? with
    |some (.ins c fs)=>if fs.length<500 then some (.next,Z,h2.set n (.ins c (QcB f u fs)))else none
    |_=>none
   |_=>none:=rfl
def Qiq{T:Tbl}{cf:Cf}{d f:Nat}{a:E}{Z:Rho}{hs:Hs}:ev T cf (d+1) (.fld a f) Z hs=bd (ev T cf d a Z hs) λu h1=>match u with
   |.ref n=>match h1[n]? with
    |some (.ins _ fs)=>(fs.lookup f).map λx=>(x,h1)
    |some (.err c w)=>if T.efl.contains (c,f)=true then some (w,h1)else none
    |_=>none
   |_=>none:=rfl
def Qb5{b:E}:ev T cf (d+1) (.tab k b) Z hs=bd (ev T cf d b Z hs) λw h1=>(Qez T k w).map λx=>(x,h1):=rfl
def Qen{c:Nat}:ev T cf (d+1) (.make c es) Z hs=bd (evs (ev T cf d) Z es hs) λus h1=>Z1 T cf c us h1:=rfl
def Sk(xx:Nat->List U->Hs->Option (Er×Hs))(s:List U)(o:O)(m:List Nat):Prop:=∃c fs,o=.ins c fs/\∃f,(1<=c/\c<=9)/\(∀p hs,hs[p]?=some o->Qau (tbG xx s) 4 (.ref p) hs=some f)/\∀n p hs,hs[p]?=some o->Qa (tbG xx s) (n+1) f [.ref p] hs=some (.str m,hs)
noncomputable def sd(a:Nat):Int:=if a=107\/a=99 then 1 else -1
section

def tS{a:Nat}(h:a∈[107,112]):Qez (tbG xx s) 4 (.str [a])=sI (sd a)/\Qez (tbG xx s) 2 (.int (sd a) 0)=some (.str [a])/\Zg (tbG xx s) .In (.str [a]) (.con 4) hs=some true/\Zg (tbG xx s) .NotIn (.str [a]) (.con 4) hs=some false:=by
 simp only[Xo,X6,W6]at h
 rcases h with rfl|rfl<;>exact⟨rfl,rfl,rfl,rfl⟩
def tC{a:Nat}(h:a∈[99,113]):Qez (tbG xx s) 5 (.str [a])=sI (sd a)/\Qez (tbG xx s) 3 (.int (sd a) 0)=some (.str [a])/\Zg (tbG xx s) .In (.str [a]) (.con 5) hs=some true:=by
 simp only[Xo,X6,W6]at h
 rcases h with rfl|rfl<;>exact⟨rfl,rfl,rfl⟩
def tM{b:Nat}(h:b∈[50,51,52]):Qez (tbG xx s) 8 (.str [b])=some (.int ((b:Int) - 48) 0)/\Zg (tbG xx s) .In (.str [b]) (.con 8) hs=some true/\biU (tbG xx s) .str [.int ((b:Int) - 48) 0] hs=some (.str [b],hs)/\b≠120:=by
 simp only[Xo,X6,W6]at h
 rcases h with rfl|rfl|rfl<;>exact⟨rfl,rfl,rfl,by decide⟩
def tX{b:Nat}(h:b∈[49,50,51,52]):Qez (tbG xx s) 9 (.str [b])=some (.int ((b:Int) - 48) 0)/\Zg (tbG xx s) .In (.str [b]) (.con 9) hs=some true/\biU (tbG xx s) .str [.int ((b:Int) - 48) 0] hs=some (.str [b],hs):=by
 simp only[Xo,X6,W6]at h
 rcases h with rfl|rfl|rfl|rfl<;>exact⟨rfl,rfl,rfl⟩
def tK{b:Nat}(h:b∈[119,120,121,122]):Zg (tbG xx s) .NotIn (.str [b]) (.con 1) hs=some false:=by
 simp only[Xo,X6,W6]at h
 rcases h with rfl|rfl|rfl|rfl<;>rfl
def tL{b:Nat}(h:b∈[114,108]):Zg (tbG xx s) .In (.str [b]) (.con 6) hs=some true:=by
 simp only[Xo,X6,W6]at h
 rcases h with rfl|rfl<;>rfl
def tF{b:Nat}(h:b∈[102,98]):Zg (tbG xx s) .In (.str [b]) (.con 7) hs=some true:=by
 simp only[Xo,X6,W6]at h
 rcases h with rfl|rfl<;>rfl
def Qbf{c:Nat}{fs:List (Nat×U)}(h:∃C,(tbG xx s).cls[c]?=some C/\C.meths.lookup 4=some f):∀p hs,hs[p]?=some (.ins c fs)->Qau (tbG xx s) 4 (.ref p) hs=some f:=λp hs e=>by
 obtain⟨C,h1,h2⟩:=h;unfold Qau;simp only[e,h1,h2]
def QhP:Qa (tbG xx s) (n+1) 1 [.ref hs.length,u] (hs++[.ins 1 []])=some (.non,hs++[.ins 1 [(0,u)]]):=by
 rw[Qg fnL[1] rfl rfl];show fin (exs (tbG xx s) (Qa (tbG xx s) n) 100 b1 [sR hs.length,some u] (hs++[.ins 1 []]))=_;generalize Qa (tbG xx s) n=cf;generalize tb s=T;simp[b1,Qj,QP,Qk,Qo,QK,QO,QD,y_c,Q8,QV,Yk,QW,QX,Zb,Q7,Q6,y_lst,Z5,Qp,Z6,QL,ZS,Q9,Ym,Qu,Qv,Za,Qr,Qq,Qw,evs,Zg,eq_int,Zl,Q5,opU,ZX,biU,biL,fin,Qip,at0,Qit,QcB]
def Qkr:Qa (tbG xx s) (n+1) 12 [.ref hs.length,u] (hs++[.ins 8 []])=some (.non,hs++[.ins 8 [(5,u)]]):=by
 rw[Qg fnL[12] rfl rfl];show fin (exs (tbG xx s) (Qa (tbG xx s) n) 100 b12 [sR hs.length,some u] (hs++[.ins 8 []]))=_;generalize Qa (tbG xx s) n=cf;generalize tb s=T;simp[b12,Qj,QP,Qk,Qo,QK,QO,QD,y_c,Q8,QV,Yk,QW,QX,Zb,Q7,Q6,y_lst,Z5,Qp,Z6,QL,ZS,Q9,Ym,Qu,Qv,Za,Qr,Qq,Qw,evs,Zg,eq_int,Zl,Q5,opU,ZX,biU,biL,fin,Qip,at0,Qit,QcB]
def QhQ:Qa (tbG xx s) (n+1) 14 [.ref hs.length,u] (hs++[.ins 9 []])=some (.non,hs++[.ins 9 [(5,u)]]):=by
 rw[Qg fnL[14] rfl rfl];show fin (exs (tbG xx s) (Qa (tbG xx s) n) 100 b14 [sR hs.length,some u] (hs++[.ins 9 []]))=_;generalize Qa (tbG xx s) n=cf;generalize tb s=T;simp[b14,Qj,QP,Qk,Qo,QK,QO,QD,y_c,Q8,QV,Yk,QW,QX,Zb,Q7,Q6,y_lst,Z5,Qp,Z6,QL,ZS,Q9,Ym,Qu,Qv,Za,Qr,Qq,Qw,evs,Zg,eq_int,Zl,Q5,opU,ZX,biU,biL,fin,Qip,at0,Qit,QcB]
def Qks:Qa (tbG xx s) (n+1) 7 [.ref hs.length,u,w] (hs++[.ins 5 []])=some (.non,hs++[.ins 5 [(1,u),(0,w)]]):=by
 rw[Qg fnL[7] rfl rfl];show fin (exs (tbG xx s) (Qa (tbG xx s) n) 100 b7 [sR hs.length,some u,some w] (hs++[.ins 5 []]))=_;generalize Qa (tbG xx s) n=cf;generalize tb s=T;simp[b7,Qj,QP,Qk,Qo,QK,QO,QD,y_c,Q8,QV,Yk,QW,QX,Zb,Q7,Q6,y_lst,Z5,Qp,Z6,QL,ZS,Q9,Ym,Qu,Qv,Za,Qr,Qq,Qw,evs,Zg,eq_int,Zl,Q5,opU,ZX,biU,biL,fin,Qip,at0,Qit,QcB]
def Qkq{x:U}:Qa (tbG xx s) (n+1) 5 [.ref hs.length,u,w,x] (hs++[.ins 4 []])=some (.non,hs++[.ins 4 [(1,u),(2,w),(0,x)]]):=by
 rw[Qg fnL[5] rfl rfl];show fin (exs (tbG xx s) (Qa (tbG xx s) n) 100 b5 [sR hs.length,some u,some w,some x] (hs++[.ins 4 []]))=_;generalize Qa (tbG xx s) n=cf;generalize tb s=T;simp[b5,Qj,QP,Qk,Qo,QK,QO,QD,y_c,Q8,QV,Yk,QW,QX,Zb,Q7,Q6,y_lst,Z5,Qp,Z6,QL,ZS,Q9,Ym,Qu,Qv,Za,Qr,Qq,Qw,evs,Zg,eq_int,Zl,Q5,opU,ZX,biU,biL,fin,Qip,at0,Qit,QcB]
def QhR{x y:U}:Qa (tbG xx s) (n+1) 9 [.ref hs.length,u,w,x,y] (hs++[.ins 6 []])=some (.non,hs++[.ins 6 [(3,u),(4,w),(2,x),(0,y)]]):=by
 rw[Qg fnL[9] rfl rfl];show fin (exs (tbG xx s) (Qa (tbG xx s) n) 100 b9 [sR hs.length,some u,some w,some x,some y] (hs++[.ins 6 []]))=_;generalize Qa (tbG xx s) n=cf;generalize tb s=T;simp[b9,Qj,QP,Qk,Qo,QK,QO,QD,y_c,Q8,QV,Yk,QW,QX,Zb,Q7,Q6,y_lst,Z5,Qp,Z6,QL,ZS,Q9,Ym,Qu,Qv,Za,Qr,Qq,Qw,evs,Zg,eq_int,Zl,Q5,opU,ZX,biU,biL,fin,Qip,at0,Qit,QcB]
end
section

def Qe1:Z1 (tbG xx s) (Qa (tbG xx s) (n+1)) 1 [u] hs=some (.ref hs.length,hs++[.ins 1 [(0,u)]]):=by
 show(match Qa (tbG xx s) (n+1) 1 (.ref hs.length::[u]) (hs++[.ins 1 []])with|some (.non,h2)=>some (U.ref hs.length,h2)|_=>none)=_
 rw[QhP]
def QhD:Z1 (tbG xx s) (Qa (tbG xx s) (n+1)) 8 [u] hs=some (.ref hs.length,hs++[.ins 8 [(5,u)]]):=by
 show(match Qa (tbG xx s) (n+1) 12 (.ref hs.length::[u]) (hs++[.ins 8 []])with|some (.non,h2)=>some (U.ref hs.length,h2)|_=>none)=_
 rw[Qkr]
def Qe2:Z1 (tbG xx s) (Qa (tbG xx s) (n+1)) 9 [u] hs=some (.ref hs.length,hs++[.ins 9 [(5,u)]]):=by
 show(match Qa (tbG xx s) (n+1) 14 (.ref hs.length::[u]) (hs++[.ins 9 []])with|some (.non,h2)=>some (U.ref hs.length,h2)|_=>none)=_
 rw[QhQ]
def QhE:Z1 (tbG xx s) (Qa (tbG xx s) (n+1)) 5 [u,w] hs=some (.ref hs.length,hs++[.ins 5 [(1,u),(0,w)]]):=by
 show(match Qa (tbG xx s) (n+1) 7 (.ref hs.length::[u,w]) (hs++[.ins 5 []])with|some (.non,h2)=>some (U.ref hs.length,h2)|_=>none)=_
 rw[Qks]
def QhC{x:U}:Z1 (tbG xx s) (Qa (tbG xx s) (n+1)) 4 [u,w,x] hs=some (.ref hs.length,hs++[.ins 4 [(1,u),(2,w),(0,x)]]):=by
 show(match Qa (tbG xx s) (n+1) 5 (.ref hs.length::[u,w,x]) (hs++[.ins 4 []])with|some (.non,h2)=>some (U.ref hs.length,h2)|_=>none)=_
 rw[Qkq]
def Qe3{x y:U}:Z1 (tbG xx s) (Qa (tbG xx s) (n+1)) 6 [u,w,x,y] hs=some (.ref hs.length,hs++[.ins 6 [(3,u),(4,w),(2,x),(0,y)]]):=by
 show(match Qa (tbG xx s) (n+1) 9 (.ref hs.length::[u,w,x,y]) (hs++[.ins 6 []])with|some (.non,h2)=>some (U.ref hs.length,h2)|_=>none)=_
 rw[QhR]
def Qbc{c:Nat}{C:Cl}(h:(tbG xx s).cls[c]?=some C)(h':C.init=none):Z1 (tbG xx s) cf c [] hs=some (.ref hs.length,hs++[.ins c []]):=by
 unfold Z1;simp only[h,h',Wt]
def eqs{x y:List Nat}:Zg T .Eq (.str x) (.str y) hs=some (decide (x=y)):=rfl
def QeC{a:Nat}(h:a∈[107,112]):Sk xx s (.ins 1 [(0,.int (sd a) 0)]) [a]:=by
 refine⟨1,_,rfl,2,by decide,Qbf ⟨_,rfl,rfl⟩,λn p hs e=>?_⟩
 have t:=(tS (xx:=xx) (s:=s) (hs:=hs) h).2.1;rw[Qg fnL[2] rfl rfl];show fin (exs (tbG xx s) (Qa (tbG xx s) n) 100 b2 [sR p] hs)=_;generalize Qa (tbG xx s) n=cf;generalize tb s=T at t ⊢;simp[b2,Qj,QP,Qk,Qo,QK,QO,QD,y_c,Q8,QV,Yk,QW,QX,Zb,Q7,Q6,y_lst,Z5,Qp,Z6,QL,ZS,Q9,Ym,Qu,Qv,Za,Qr,Qq,Qw,evs,Zg,eq_int,Zl,Q5,opU,ZX,biU,biL,fin,Qiq,Qb5,e,t]
def QcU{c:Nat}{x:List Nat}(hc:(1<=c/\c<=9))(hm:∃C,(tbG xx s).cls[c]?=some C/\C.meths.lookup 4=some f)(hf:∀n p hs,Qa (tbG xx s) (n+1) f [.ref p] hs=some (.str x,hs)):Sk xx s (.ins c []) x:=⟨c,[],rfl,f,hc,Qbf hm,λn p hs z=>hf n p hs⟩
def QgJ{b:Nat}:Sk xx s (.ins 8 [(5,.str [b])]) [104,b]:=by
 refine⟨8,_,rfl,13,by decide,Qbf ⟨_,rfl,rfl⟩,λn p hs e=>?_⟩
 rw[Qg fnL[13] rfl rfl];show fin (exs (tbG xx s) (Qa (tbG xx s) n) 100 b13 [sR p] hs)=_;generalize Qa (tbG xx s) n=cf;generalize tb s=T;simp[b13,Qj,QP,Qk,Qo,QK,QO,QD,y_c,Q8,QV,Yk,QW,QX,Zb,Q7,Q6,y_lst,Z5,Qp,Z6,QL,ZS,Q9,Ym,Qu,Qv,Za,Qr,Qq,Qw,evs,Zg,eq_int,Zl,Q5,opU,ZX,biU,biL,fin,Qiq,Qb5,e]
def QeD{b:Nat}:Sk xx s (.ins 9 [(5,.str [b])]) [102,b]:=by
 refine⟨9,_,rfl,15,by decide,Qbf ⟨_,rfl,rfl⟩,λn p hs e=>?_⟩
 rw[Qg fnL[15] rfl rfl];show fin (exs (tbG xx s) (Qa (tbG xx s) n) 100 b15 [sR p] hs)=_;generalize Qa (tbG xx s) n=cf;generalize tb s=T;simp[b15,Qj,QP,Qk,Qo,QK,QO,QD,y_c,Q8,QV,Yk,QW,QX,Zb,Q7,Q6,y_lst,Z5,Qp,Z6,QL,ZS,Q9,Ym,Qu,Qv,Za,Qr,Qq,Qw,evs,Zg,eq_int,Zl,Q5,opU,ZX,biU,biL,fin,Qiq,Qb5,e]
def QgK{a b:Nat}(h:a∈[107,112])(hb:b∈[50,51,52]):Sk xx s (.ins 5 [(1,.int ((b:Int) - 48) 0),(0,.int (sd a) 0)]) [a,120,b]:=by
 refine⟨5,_,rfl,8,by decide,Qbf ⟨_,rfl,rfl⟩,λn p hs e=>?_⟩
 have t:=(tS (xx:=xx) (s:=s) (hs:=hs) h).2.1;have t':=(tM (xx:=xx) (s:=s) (hs:=hs) hb).2.2.1;rw[Qg fnL[8] rfl rfl];show fin (exs (tbG xx s) (Qa (tbG xx s) n) 100 b8 [sR p] hs)=_;generalize Qa (tbG xx s) n=cf;generalize tb s=T at t t' ⊢;simp[b8,Qj,QP,Qk,Qo,QK,QO,QD,y_c,Q8,QV,Yk,QW,QX,Zb,Q7,Q6,y_lst,Z5,Qp,Z6,QL,ZS,Q9,Ym,Qu,Qv,Za,Qr,Qq,Qw,evs,Zg,eq_int,Zl,Q5,opU,ZX,biL,fin,Qiq,Qb5,List.lookup,e,t,t']
def QgI{a b c:Nat}(h:a∈[107,112])(hb:b∈[50,51,52]):Sk xx s (.ins 4 [(1,.int ((b:Int) - 48) 0),(2,.str [c]),(0,.int (sd a) 0)]) [a,b,c]:=by
 refine⟨4,_,rfl,6,by decide,Qbf ⟨_,rfl,rfl⟩,λn p hs e=>?_⟩
 have t:=(tS (xx:=xx) (s:=s) (hs:=hs) h).2.1;have t':=(tM (xx:=xx) (s:=s) (hs:=hs) hb).2.2.1;rw[Qg fnL[6] rfl rfl];show fin (exs (tbG xx s) (Qa (tbG xx s) n) 100 b6 [sR p] hs)=_;generalize Qa (tbG xx s) n=cf;generalize tb s=T at t t' ⊢;simp[b6,Qj,QP,Qk,Qo,QK,QO,QD,y_c,Q8,QV,Yk,QW,QX,Zb,Q7,Q6,y_lst,Z5,Qp,Z6,QL,ZS,Q9,Ym,Qu,Qv,Za,Qr,Qq,Qw,evs,Zg,eq_int,Zl,Q5,opU,ZX,biL,fin,Qiq,Qb5,List.lookup,e,t,t']
def QeE{a b c e':Nat}(h:a∈[99,113])(hb:b∈[49,50,51,52])(he:e'∈[49,50,51,52]):Sk xx s (.ins 6 [(3,.int ((b:Int) - 48) 0),(4,.int ((e':Int) - 48) 0),(2,.str [c]),(0,.int (sd a) 0)]) [a,b,c,e']:=by
 refine⟨6,_,rfl,10,by decide,Qbf ⟨_,rfl,rfl⟩,λn p hs e=>?_⟩
 have t:=(tC (xx:=xx) (s:=s) (hs:=hs) h).2.1;have t':=(tX (xx:=xx) (s:=s) (hs:=hs) hb).2.2;have t2:=(tX (xx:=xx) (s:=s) (hs:=hs) he).2.2;rw[Qg fnL[10] rfl rfl];show fin (exs (tbG xx s) (Qa (tbG xx s) n) 100 b10 [sR p] hs)=_;generalize Qa (tbG xx s) n=cf;generalize tb s=T at t t' t2 ⊢;simp[b10,Qj,QP,Qk,Qo,QK,QO,QD,y_c,Q8,QV,Yk,QW,QX,Zb,Q7,Q6,y_lst,Z5,Qp,Z6,QL,ZS,Q9,Ym,Qu,Qv,Za,Qr,Qq,Qw,evs,Zg,eq_int,Zl,Q5,opU,ZX,biL,fin,Qiq,Qb5,List.lookup,e,t,t',t2]
end
section

def Qpi{a:Nat}(h:a∈[107,112,115,111,98]):∃o,Sk xx s o [a]/\Qa (tbG xx s) (n+2) 18 [.str [a]] hs=some (.ref hs.length,hs++[o]):=by
 rw[Qg fnL[18] rfl rfl];show ∃o,_/\fin (exs (tbG xx s) (Qa (tbG xx s) (n+1)) 100 b18 [some (.str [a])] hs)=_
 have h':a∈[107,112]\/a=115\/a=111\/a=98:=by simp only[Xo,X6,W6]at h ⊢;lia
 rcases h' with h|rfl|rfl|rfl
 ·obtain⟨t1,_,t3,_⟩:=tS (xx:=xx) (s:=s) (hs:=hs) h;have mk:=Qe1 (xx:=xx) (s:=s) (hs:=hs) (n:=n) (u:=.int (sd a) 0);refine⟨_,QeC h,?_⟩;generalize Qa (tbG xx s) (n+1)=cf at mk ⊢;generalize tb s=T at t1 t3 mk ⊢;simp[b18,Qj,QP,Qk,Qo,QK,QO,QD,y_c,Q8,QV,Yk,QW,QX,Zb,Q7,Q6,y_lst,Z5,Qp,Z6,QL,ZS,Q9,Ym,Qu,Qv,Za,Qr,Qq,Qw,evs,eq_int,Zl,Q5,opU,ZX,biU,biL,fin,Qb5,Qen,t1,t3,mk]
 ·have i1:Zg (tbG xx s) .In (.str [115]) (.con 4) hs=some false:=rfl;have mk:=Qbc (xx:=xx) (s:=s) (hs:=hs) (c:=2) (cf:=Qa (tbG xx s) (n+1)) rfl rfl
  refine⟨_,QcU (c:=2) (f:=3) (by decide) ⟨_,rfl,rfl⟩ (λn p hs=>by rw[Qg fnL[3] rfl rfl];rfl),?_⟩
  generalize Qa (tbG xx s) (n+1)=cf at mk ⊢;generalize tb s=T at i1 mk ⊢;simp[b18,Qj,QP,Qk,Qo,QK,QO,QD,y_c,Q8,QV,Yk,QW,QX,Zb,Q7,Q6,y_lst,Z5,Qp,Z6,QL,ZS,Q9,Ym,Qu,Qv,Za,Qr,Qq,Qw,evs,eq_int,Zl,Q5,opU,ZX,biU,biL,fin,eqs,Qb5,Qen,i1,mk]
 ·have i1:Zg (tbG xx s) .In (.str [111]) (.con 4) hs=some false:=rfl;have mk:=Qbc (xx:=xx) (s:=s) (hs:=hs) (c:=3) (cf:=Qa (tbG xx s) (n+1)) rfl rfl
  refine⟨_,QcU (c:=3) (f:=4) (by decide) ⟨_,rfl,rfl⟩ (λn p hs=>by rw[Qg fnL[4] rfl rfl];rfl),?_⟩
  generalize Qa (tbG xx s) (n+1)=cf at mk ⊢;generalize tb s=T at i1 mk ⊢;simp[b18,Qj,QP,Qk,Qo,QK,QO,QD,y_c,Q8,QV,Yk,QW,QX,Zb,Q7,Q6,y_lst,Z5,Qp,Z6,QL,ZS,Q9,Ym,Qu,Qv,Za,Qr,Qq,Qw,evs,eq_int,Zl,Q5,opU,ZX,biU,biL,fin,eqs,Qb5,Qen,i1,mk]
 ·have i1:Zg (tbG xx s) .In (.str [98]) (.con 4) hs=some false:=rfl;have mk:=Qbc (xx:=xx) (s:=s) (hs:=hs) (c:=7) (cf:=Qa (tbG xx s) (n+1)) rfl rfl
  refine⟨_,QcU (c:=7) (f:=11) (by decide) ⟨_,rfl,rfl⟩ (λn p hs=>by rw[Qg fnL[11] rfl rfl];rfl),?_⟩
  generalize Qa (tbG xx s) (n+1)=cf at mk ⊢;generalize tb s=T at i1 mk ⊢;simp[b18,Qj,QP,Qk,Qo,QK,QO,QD,y_c,Q8,QV,Yk,QW,QX,Zb,Q7,Q6,y_lst,Z5,Qp,Z6,QL,ZS,Q9,Ym,Qu,Qv,Za,Qr,Qq,Qw,evs,eq_int,Zl,Q5,opU,ZX,biU,biL,fin,eqs,Qb5,Qen,i1,mk]
def Qph{a b:Nat}(h:a∈[104,102])(hb:b∈[119,120,121,122]):∃o,Sk xx s o [a,b]/\Qa (tbG xx s) (n+2) 19 [.str [a],.str [b]] hs=some (.ref hs.length,hs++[o]):=by
 rw[Qg fnL[19] rfl rfl];show ∃o,_/\fin (exs (tbG xx s) (Qa (tbG xx s) (n+1)) 100 b19 [some (.str [a]),some (.str [b])] hs)=_;have t:=tK (xx:=xx) (s:=s) (hs:=hs) hb;simp only[Xo,X6,W6]at h
 rcases h with rfl|rfl
 ·have mk:=QhD (xx:=xx) (s:=s) (hs:=hs) (n:=n) (u:=.str [b]);refine⟨_,QgJ,?_⟩;generalize Qa (tbG xx s) (n+1)=cf at mk ⊢;generalize tb s=T at t mk ⊢;simp[b19,Qj,QP,Qk,Qo,QK,QO,QD,y_c,Q8,QV,Yk,QW,QX,Zb,Q7,Q6,y_lst,Z5,Qp,Z6,QL,ZS,Q9,Ym,Qu,Qv,Za,Qr,Qq,Qw,evs,eq_int,Zl,Q5,opU,ZX,biU,biL,fin,eqs,Qen,t,mk]
 ·have mk:=Qe2 (xx:=xx) (s:=s) (hs:=hs) (n:=n) (u:=.str [b]);refine⟨_,QeD,?_⟩;generalize Qa (tbG xx s) (n+1)=cf at mk ⊢;generalize tb s=T at t mk ⊢;simp[b19,Qj,QP,Qk,Qo,QK,QO,QD,y_c,Q8,QV,Yk,QW,QX,Zb,Q7,Q6,y_lst,Z5,Qp,Z6,QL,ZS,Q9,Ym,Qu,Qv,Za,Qr,Qq,Qw,evs,eq_int,Zl,Q5,opU,ZX,biU,biL,fin,eqs,Qen,t,mk]
def Qm7{a b:Nat}(h:a∈[107,112])(hb:b∈[50,51,52]):∃o,Sk xx s o [a,120,b]/\Qa (tbG xx s) (n+2) 20 [.str [a],.str [120],.str [b]] hs=some (.ref hs.length,hs++[o]):=by
 rw[Qg fnL[20] rfl rfl];show ∃o,_/\fin (exs (tbG xx s) (Qa (tbG xx s) (n+1)) 100 b20 [some (.str [a]),some (.str [120]),some (.str [b])] hs)=_;obtain⟨t1,_,_,t2⟩:=tS (xx:=xx) (s:=s) (hs:=hs) h;obtain⟨t3,t4,_,_⟩:=tM (xx:=xx) (s:=s) (hs:=hs) hb;have mk:=QhE (xx:=xx) (s:=s) (hs:=hs) (n:=n) (u:=.int ((b:Int) - 48) 0) (w:=.int (sd a) 0);refine⟨_,QgK h hb,?_⟩;generalize Qa (tbG xx s) (n+1)=cf at mk ⊢;generalize tb s=T at t1 t2 t3 t4 mk ⊢;simp[b20,Qj,QP,Qk,Qo,QK,QO,QD,y_c,Q8,QV,Yk,QW,QX,Zb,Q7,Q6,y_lst,Z5,Qp,Z6,QL,ZS,Q9,Ym,Qu,Qv,Za,Qr,Qq,Qw,evs,eq_int,Zl,Q5,opU,ZX,biU,biL,fin,eqs,Qen,Qb5,t1,t2,t3,t4,mk]
def Qm6{a b c:Nat}(h:a∈[107,112])(hb:b∈[50,51,52])(hc:c∈[114,108]):∃o,Sk xx s o [a,b,c]/\Qa (tbG xx s) (n+2) 20 [.str [a],.str [b],.str [c]] hs=some (.ref hs.length,hs++[o]):=by
 rw[Qg fnL[20] rfl rfl];show ∃o,_/\fin (exs (tbG xx s) (Qa (tbG xx s) (n+1)) 100 b20 [some (.str [a]),some (.str [b]),some (.str [c])] hs)=_;obtain⟨t1,_,_,t2⟩:=tS (xx:=xx) (s:=s) (hs:=hs) h;obtain⟨t3,t4,_,t5⟩:=tM (xx:=xx) (s:=s) (hs:=hs) hb;have t6:=tL (xx:=xx) (s:=s) (hs:=hs) hc;have mk:=QhC (xx:=xx) (s:=s) (hs:=hs) (n:=n) (u:=.int ((b:Int) - 48) 0) (w:=.str [c]) (x:=.int (sd a) 0);refine⟨_,QgI h hb,?_⟩;generalize Qa (tbG xx s) (n+1)=cf at mk ⊢;generalize tb s=T at t1 t2 t3 t4 t6 mk ⊢;simp[b20,Qj,QP,Qk,Qo,QK,QO,QD,y_c,Q8,QV,Yk,QW,QX,Zb,Q7,Q6,y_lst,Z5,Qp,Z6,QL,ZS,Q9,Ym,Qu,Qv,Za,Qr,Qq,Qw,evs,eq_int,Zl,Q5,opU,ZX,biU,biL,fin,eqs,Qen,Qb5,t1,t2,t3,t4,t5,t6,mk]
def Qpg{a b c e:Nat}(h:a∈[99,113])(hb:b∈[49,50,51,52])(hc:c∈[102,98])(he:e∈[49,50,51,52]):∃o,Sk xx s o [a,b,c,e]/\Qa (tbG xx s) (n+2) 21 [.str [a],.str [b],.str [c],.str [e]] hs=some (.ref hs.length,hs++[o]):=by
 rw[Qg fnL[21] rfl rfl];show ∃o,_/\fin (exs (tbG xx s) (Qa (tbG xx s) (n+1)) 100 b21 [some (.str [a]),some (.str [b]),some (.str [c]),some (.str [e])] hs)=_;obtain⟨t1,_,t2⟩:=tC (xx:=xx) (s:=s) (hs:=hs) h;obtain⟨t3,t4,_⟩:=tX (xx:=xx) (s:=s) (hs:=hs) hb;obtain⟨t5,t6,_⟩:=tX (xx:=xx) (s:=s) (hs:=hs) he;have t7:=tF (xx:=xx) (s:=s) (hs:=hs) hc;have mk:=Qe3 (xx:=xx) (s:=s) (hs:=hs) (n:=n) (u:=.int ((b:Int) - 48) 0) (w:=.int ((e:Int) - 48) 0) (x:=.str [c]) (y:=.int (sd a) 0);refine⟨_,QeE h hb he,?_⟩;generalize Qa (tbG xx s) (n+1)=cf at mk ⊢;generalize tb s=T at t1 t2 t3 t4 t5 t6 t7 mk ⊢;simp[b21,Qj,QP,Qk,Qo,QK,QO,QD,y_c,Q8,QV,Yk,QW,QX,Zb,Q7,Q6,y_lst,Z5,Qp,Z6,QL,ZS,Q9,Ym,Qu,Qv,Za,Qr,Qq,Qw,evs,eq_int,Zl,Q5,opU,ZX,biU,biL,fin,eqs,Qen,Qb5,t1,t2,t3,t4,t5,t6,t7,mk]
def Qpj{m:List Nat}(h:Mk m):∃o,Sk xx s o m/\Qa (tbG xx s) (n+3) 17 [.str m] hs=some (.ref hs.length,hs++[o]):=by
 rw[Qg fnL[17] rfl rfl];show ∃o,_/\fin (exs (tbG xx s) (Qa (tbG xx s) (n+2)) 100 b17 [sS m,none] hs)=_
 cases h with
 |bare h=>
  obtain⟨o,h1,e⟩:=Qpi (xx:=xx) (s:=s) (n:=n) (hs:=hs) h;refine⟨o,h1,?_⟩;generalize Qa (tbG xx s) (n+2)=cf at e ⊢;generalize tb s=T;simp[b17,Qj,QP,Qk,Qo,QK,QO,QD,y_c,Q8,QV,Yk,QW,QX,Zb,Q7,Q6,y_lst,Z5,Qp,Z6,QL,ZS,Q9,Ym,Qu,Qv,Za,Qr,Qq,Qw,evs,Zg,eq_int,Zl,Q5,opU,ZX,biU,biL,fin,ZN,e]
 |keep h hb=>
  obtain⟨o,h1,e⟩:=Qph (xx:=xx) (s:=s) (n:=n) (hs:=hs) h hb;refine⟨o,h1,?_⟩;generalize Qa (tbG xx s) (n+2)=cf at e ⊢;generalize tb s=T;simp[b17,Qj,QP,Qk,Qo,QK,QO,QD,y_c,Q8,QV,Yk,QW,QX,Zb,Q7,Q6,y_lst,Z5,Qp,Z6,QL,ZS,Q9,Ym,Qu,Qv,Za,Qr,Qq,Qw,evs,Zg,eq_int,Zl,Q5,opU,ZX,biU,biL,fin,ZN,atU,ixU,e]
 |grow h hb=>
  obtain⟨o,h1,e⟩:=Qm7 (xx:=xx) (s:=s) (n:=n) (hs:=hs) h hb;refine⟨o,h1,?_⟩;generalize Qa (tbG xx s) (n+2)=cf at e ⊢;generalize tb s=T;simp[b17,Qj,QP,Qk,Qo,QK,QO,QD,y_c,Q8,QV,Yk,QW,QX,Zb,Q7,Q6,y_lst,Z5,Qp,Z6,QL,ZS,Q9,Ym,Qu,Qv,Za,Qr,Qq,Qw,evs,Zg,eq_int,Zl,Q5,opU,ZX,biU,biL,fin,ZN,atU,ixU,e]
 |lean h hb hc=>
  obtain⟨o,h1,e⟩:=Qm6 (xx:=xx) (s:=s) (n:=n) (hs:=hs) h hb hc;refine⟨o,h1,?_⟩;generalize Qa (tbG xx s) (n+2)=cf at e ⊢;generalize tb s=T;simp[b17,Qj,QP,Qk,Qo,QK,QO,QD,y_c,Q8,QV,Yk,QW,QX,Zb,Q7,Q6,y_lst,Z5,Qp,Z6,QL,ZS,Q9,Ym,Qu,Qv,Za,Qr,Qq,Qw,evs,Zg,eq_int,Zl,Q5,opU,ZX,biU,biL,fin,ZN,atU,ixU,e]
 |cross h hb hc he=>
  obtain⟨o,h1,e⟩:=Qpg (xx:=xx) (s:=s) (n:=n) (hs:=hs) h hb hc he;refine⟨o,h1,?_⟩;generalize Qa (tbG xx s) (n+2)=cf at e ⊢;generalize tb s=T;simp[b17,Qj,QP,Qk,Qo,QK,QO,QD,y_c,Q8,QV,Yk,QW,QX,Zb,Q7,Q6,y_lst,Z5,Qp,Z6,QL,ZS,Q9,Ym,Qu,Qv,Za,Qr,Qq,Qw,evs,Zg,eq_int,Zl,Q5,opU,ZX,biU,biL,fin,ZN,atU,ixU,e]
def Qft{m:List Nat}(h:Mk m):∃o,Sk xx s o m/\Qa (tbG xx s) (n+4) 16 [.str m] hs=some (.ref hs.length,hs++[o]):=by
 rw[Qg fnL[16] rfl rfl];show ∃o,_/\fin (exs (tbG xx s) (Qa (tbG xx s) (n+3)) 100 b16 [sS m,none] hs)=_;obtain⟨o,h1,e⟩:=Qpj (xx:=xx) (s:=s) (n:=n) (hs:=hs) h;refine⟨o,h1,?_⟩;have is:Z4 (tbG xx s) .str (.str m) hs=some true:=rfl;have nn:Zg (tbG xx s) .Is (.ref hs.length) .non (hs++[o])=some false:=rfl;generalize Qa (tbG xx s) (n+3)=cf at e ⊢;generalize tb s=T at is nn ⊢;simp[b16,Qj,QP,Qk,Qo,QK,QO,QD,y_c,Q8,QV,Yk,QW,QX,Zb,Q7,Q6,y_lst,Z5,Qp,Z6,QL,ZS,Q9,Ym,Qu,Qv,Za,Qr,Qq,Qw,evs,eq_int,Zl,Q5,opU,ZX,biU,biL,fin,is,e,nn]
end
def ZK(n:Nat)(h:¬n<10):Jw n=Jw (n / 10)++Jw (n % 10):=by
 have hm:n % 10<10:=Tz n (by decide)
 have t:Nat.toDigits 10 (n / 10)++Nat.toDigits 10 (n % 10)=Nat.toDigits 10 (10*(n / 10)+n % 10):=Nat.toDigits_append_toDigits (by decide) (by lia) hm
 rw[Nat.div_add_mod]at t;unfold Jw;rw[<-t,W7]
def Q4(n:Nat)(h:n<10):Jw n=[48+n]:=by
 have:n=0\/n=1\/n=2\/n=3\/n=4\/n=5\/n=6\/n=7\/n=8\/n=9:=by lia
 rcases this with rfl|rfl|rfl|rfl|rfl|rfl|rfl|rfl|rfl|rfl<;>decide +kernel
theorem Yi:∀(k n:Nat),n<10 ^ (k+1)->(Jw n).length<=k+1
 |0,n,h=>by rw[Q4 n (by simpa using h)];simp
 |k+1,n,h=>by
  by_cases h1:n<10
  ·rw[Q4 n h1];simp
  ·rw[ZK n h1,X9,Q4 (n % 10) (Tz n (by decide))]
   have:=Yi k (n / 10) (by rw[Nat.pow_succ]at h;lia)
   simp only[X8,W2];lia
def Qb1(n:Nat):∀c∈Jw n,48<=c/\c<=57:=by
 induction n using Nat.strongRecOn with
 |_ n ih=>
  by_cases h:n<10
  ·rw[Q4 n h];intro c hc;simp at hc;lia
  ·rw[ZK n h];intro c hc
   rcases X5.mp hc with hc|hc
   ·exact ih (n / 10) (by lia) c hc
   ·rw[Q4 (n % 10) (Tz n (by decide))]at hc
    simp at hc;lia
def QdS(n:Nat):Jw n≠[]:=by
 by_cases h:n<10
 ·rw[Q4 n h];simp
 ·rw[ZK n h,Q4 (n % 10) (Tz n (by decide))];simp
def Qcu(x:List Nat)(c:Nat):Jk (x++[c])=Jk x*10+(c-48):=by simp[Jk,List.foldl_append]
def Jx(n:Nat):Jk (Jw n)=n:=by
 induction n using Nat.strongRecOn with
 |_ n ih=>
  by_cases h:n<10
  ·rw[Q4 n h];simp[Jk]
  ·rw[ZK n h,Q4 (n % 10) (Tz n (by decide)),Qcu,ih (n / 10) (by lia)]
   lia
def Qh6(n:Nat):∀r,Jw n=48::r->r=[]:=by
 induction n using Nat.strongRecOn with
 |_ n ih=>
  intro r e;by_cases h:n<10
  ·rw[Q4 n h]at e;exact(List.cons.inj e).2.symm
  ·rw[ZK n h,Q4 (n % 10) (Tz n (by decide))]at e
   cases q:Jw (n / 10)with
   |nil=>exact absurd q (QdS _)
   |cons c y=>
    rw[q]at e;cases e
    have:=ih (n / 10) (by lia) y q
    subst this;have:=Jx (n / 10);rw[q]at this;simp[Jk]at this;lia
noncomputable abbrev cs:List Nat:=[99,97,115,116,32]
noncomputable def QQ(n:Nat):List Nat:=cs++Jw n
noncomputable def ZF(ms:List (List Nat)):List Nat:=if ms=[]then [45]else ZI [32] ms.reverse
noncomputable def chT(n:Nat)(rs:List (List (List Nat))):List (List Nat):=(rs.map ZF).reverse++[QQ n]
def Qdv{m:List Nat}(h:Mk m):∀c∈m,c≠32/\c<128/\48<=c:=by
 cases h<;>(intro c hc;simp only[Xo,X6,W6]at *;lia)
def QmC{m:List Nat}(h:Mk m):∃a r,m=a::r:=by cases h<;>exact⟨_,_,rfl⟩
def QhK{m:List Nat}{r:List (List Nat)}:∃t,ZI [32] (m::r)=m++t:=by
 cases r with
 |nil=>exact⟨[],(Wj m).symm⟩
 |cons y r=>exact⟨[32]++ZI [32] (y::r),by show m++[32]++_=_;rw[List.append_assoc]⟩
def QfR(h:ms≠[]):∃m r t,ms.reverse=m::r/\m∈ms/\ZF ms=m++t:=by
 unfold ZF;rw[if_neg h]
 cases e:ms.reverse with
 |nil=>exact absurd (List.reverse_eq_nil_iff.mp e) h
 |cons m r=>
  obtain⟨t,e'⟩:=QhK (m:=m) (r:=r);exact⟨m,r,t,rfl,Vj.mp (e▸Xh),e'⟩
def Qjp(am:∀m∈ms,Mk m)(h:ms≠[]):ZF ms≠[45]:=by
 obtain⟨m,r,t,_,hm,e⟩:=QfR h;obtain⟨a,m',rfl⟩:=QmC (am m hm);rw[e];intro z;have:a=45:=(List.cons.inj z).1;have:=(Qdv (am _ hm) a Xh).2.2;lia
def YU(am:∀m∈ms,Mk m)(h:ms≠[]):Qx 32 (ZF ms)=ms.reverse:=by
 unfold ZF;rw[if_neg h];exact Yn (λe=>h (List.reverse_eq_nil_iff.mp e)) λp hp z=>(Qdv (am p (Vj.mp hp)) 32 z).1 rfl
theorem QbX:∀{r:List (List Nat)},(∀m∈r,m.length<=4)->(ZI [32] r).length<=5*r.length
 |[],_=>Xm _
 |[m],h=>by have:=h m Xh;simp[ZI];lia
 |m::y::r,h=>by
  have:=h m Xh;have:=QbX (r:=y::r) λx hx=>h x (Xg _ hx);simp only[ZI,X9,X8,W2]at this ⊢;lia
def Qc5(am:∀m∈ms,Mk m)(l:ms.length<=84):(ZF ms).length<=500:=by
 unfold ZF;split
 ·simp
 ·have:=QbX (r:=ms.reverse) λm hm=>(am m (Vj.mp hm)).len.2;rw[Wx]at this;lia
def Qjr(am:∀m∈ms,Mk m):∀c∈ZF ms,c<128:=by
 have:∀{r:List (List Nat)},(∀m∈r,∀c∈m,c<128)->∀c∈ZI [32] r,c<128:=λ{r}=>by
  induction r with
  |nil=>intro _ c hc;cases hc
  |cons m r ih=>
   intro h c hc
   cases r with
   |nil=>exact h m Xh c hc
   |cons y r=>
    rcases X5.mp (show c∈m++[32]++ZI [32] (y::r)from hc)with hc|hc
    ·rcases X5.mp hc with hc|hc
     ·exact h m Xh c hc
     ·rw[Wu.mp hc];decide
    ·exact ih (λx hx=>h x (Xg _ hx)) c hc
 unfold ZF;split
 ·intro c hc;rw[Wu.mp hc];decide
 ·exact this λm hm c hc=>(Qdv (am m (Vj.mp hm)) c hc).2.1
def Qie:∀c∈QQ n,c<128:=λc hc=>by
 rcases X5.mp hc with hc|hc
 ·exact(show ∀c∈cs,c<128 by decide) c hc
 ·have:=Qb1 n c hc;lia
def QlV{x y:List Nat}:PySem.Txt.startswith ⟨x.toArray⟩ ⟨y.toArray⟩=decide (x.take y.length=y):=by
 have e:PySem.Txt.startswith ⟨x.toArray⟩ ⟨y.toArray⟩=(decide (0+y.length<=x.length)&&(x.toArray.extract 0 (0+y.length)==y.toArray)):=rfl
 have e2:(x.toArray.extract 0 y.length).toList=x.take y.length:=by simp
 rw[e,Vr,show x.toArray.extract 0 y.length=(x.take y.length).toArray from Tk.mp e2];by_cases h:x.take y.length=y
 ·have l:y.length<=x.length:=by
   have:=congrArg List.length h;rw[Vy]at this;lia
  rw[h];simp[l]
 ·rw[Xu h];simp[h]
def Qjq(am:∀m∈ms,Mk m):(ZF ms).take 5≠cs:=by
 by_cases h:ms=[]
 ·rw[h];decide
 ·obtain⟨m,r,t,_,hm,e⟩:=QfR h;rw[e];intro z;have mm:=am m hm;have mc:=Qdv mm
  cases mm with
  |cross _ hb=>
   simp only[Ue,Uh,U6]at z;simp only[Xo,X6,W6]at hb;lia
  |bare h=>
   simp only[Ue,U4,Uh,U6]at z;simp only[Xo,X6,W6]at h;lia
  |lean h _ _=>
   simp only[Ue,U4,Uh,U6]at z;simp only[Xo,X6,W6]at h;lia
  |grow h _=>
   simp only[Ue,U4,Uh,U6]at z;simp only[Xo,X6,W6]at h;lia
  |keep h _=>
   simp only[Ue,U4,Uh,U6]at z;simp only[Xo,X6,W6]at h;lia
def Qd3:(QQ n).take 5=cs/\(QQ n).drop 5=Jw n:=⟨rfl,rfl⟩
noncomputable def isD(c:Nat):Bool:=decide (48<=c)&&decide (c<=57)
noncomputable def fig(x:List Nat):U:=if(1<=x.length/\x.length<=9)/\x.all isD=true then(if x.take 1=[48]/\x≠[48]then .non else .int (Jk x:Nat) 0)else .non
noncomputable def Yr(t:List Nat):U:=if t.take 5=cs then fig (t.drop 5)else .non
section
variable {x:List Nat}
def Qkc{x:List Nat}(h:x.length<=1000000):biU T .len [.str x] hs=some (.int x.length 0,hs):=if_pos h
def QoJ{c:Nat}:Zg (tbG xx s) .In (.str [c]) (.con 0) hs=some (isD c):=by
 have e:Zg (tbG xx s) .In (.str [c]) (.con 0) hs=inU (.str [c]) [.str [48],.str [49],.str [50],.str [51],.str [52],.str [53],.str [54],.str [55],.str [56],.str [57]]:=rfl;rw[e];simp only[inU,QaH,Vx,List.all_nil,Bool.and_self,Wt,T2,List.any_nil,eqF,isD,Wy];rw[U3];simp;omega
noncomputable def gB:U->U
 |.str [c]=>.bl (isD c)
 |_=>.non
theorem Qd9:∀{bs:List Bool},Ja (bs.map U.bl)=some bs
 |[]=>rfl
 |c::r=>by simp only[Ws,Ja,Qd9 (bs:=r),Option.map]
def Qk5{bs:List Bool}(hp:h[p]?=some (.lst (bs.map U.bl))):biU T .all [.ref p] h=some (.bl (bs.all id),h):=by
 show biL T .all [.ref p] h=_;simp only[biL,Zn hp,Option.bind,Qd9,Option.map]
def QiY(l:x.length<=1000):∃h1,evT (tbG xx s) cf (d+6) (.not (.bi .all [(.comp (.seq Va) false none (.cmp .In Vc (.con 0)))])) [sS x,sI 9] hs=some (!x.all isD,h1)/\Kp hs h1:=by
 obtain⟨us,h2,e,k,pr⟩:=Qif (T:=tbG xx s) (cf:=cf) (d:=d+2) (Z:=[sS x,sI 9]) (h:=hs) (h1:=hs) (src:=.seq Va) (w:=.strW x) (el:=.cmp .In Vc (.con 0)) (L:=x.map λc=>.str [c]) (λa u v=>u=gB a) (λv v v v v z=>z) (by simp only[Zy,Qc (d:=d+1) (show [some (U.str x),sI 9][0]?=some (sS x)from rfl),Qj,wkS];rfl) (by rw[Xy];exact W3 _) (by rw[Xy];lia)
  (λi hs k=>by simp only[itm,Vm,Option.map_map];rfl) (λy my hs k=>by
   obtain⟨c,_,rfl⟩:=Wp.mp my
   exact⟨_,_,Qeq (d:=d+1) (Qc rfl) Q8 QoJ,Kp.refl _,rfl⟩)
 have eu:=Qdc pr
 have eu:us=(x.map isD).map U.bl:=by rw[eu,Uq,Uq];rfl
 subst eu;have bb:=Qk5 (T:=tbG xx s) (last1 (h:=h2) (o:=.lst ((x.map isD).map U.bl)));rw[List.all_map]at bb;exact⟨_,Z0 (d:=d+5) (QdM (d:=d+4) rfl (Qej e bb)),k.trans kp1⟩
def c_0(l:x.length<=1000):∃h1,Qa (tbG xx s) (n+1) 0 [.str x,.int 9 0] hs=some (fig x,h1)/\Kp hs h1:=by
 suffices z:Cc (tbG xx s) (n+1) 0 [.str x,.int 9 0] hs λu h1=>u=fig x/\Kp hs h1 by
  obtain⟨_,h1,e,rfl,k⟩:=z;exact⟨h1,e,k⟩
 have ch:evT (tbG xx s) (Qa (tbG xx s) n) 97 (.not (.chain .LtE .LtE Wb (.bi .len [Va]) Vb)) [sS x,sI 9] hs=some (!decide (1<=x.length/\x.length<=9),hs):=by
  refine Z0 (d:=96) (QdM (d:=95) rfl ?_)
  rw[Qgn,y_c,Qj,Qej (d:=93) (Qc rfl) (Qkc (X1 l (by decide))),Qj]
  by_cases c1:(1:Int)<=x.length
  ·rw[show Zg (tbG xx s) .LtE (.int 1 0) (.int x.length 0) hs=some true from congrArg some (X3 c1)];show bd (ev _ _ 94 Vb _ _) _=_;rw[Qc (d:=93) rfl,Qj];show(some (decide ((x.length:Int)<=9))).map _=_
   have:decide ((x.length:Int)<=9)=decide (1<=x.length/\x.length<=9):=decide_eq_decide.mpr (by lia)
   rw[this];rfl
  ·rw[show Zg (tbG xx s) .LtE (.int 1 0) (.int x.length 0) hs=some false from congrArg some (Xu c1)]
   rw[Xu (by lia:¬(1<=x.length/\x.length<=9))]
 by_cases c1:1<=x.length/\x.length<=9
 case neg=>
  have ef:fig x=.non:=if_neg λz=>c1 z.1;rw[Xu c1]at ch;refine QaP (Qg fnL[0] rfl rfl) (QfT (d:=98) (Qek (d:=97) ch rfl) ?_);exact Zk (Z3 y_c ⟨ef.symm,Kp.refl _⟩)
 obtain⟨h1,t2,k⟩:=QiY (xx:=xx) (s:=s) (cf:=Qa (tbG xx s) n) (d:=91) (hs:=hs) l;rw[X3 c1]at ch;refine QaP (Qg fnL[0] rfl rfl) (QfT (d:=98) (Qek (d:=97) ch t2) ?_)
 cases c2:x.all isD with
 |false=>exact Zk (Z3 y_c ⟨(if_neg λz=>by rw[c2]at z;exact absurd z.2 (by decide)).symm,k⟩)
 |true=>
  obtain⟨a,r,rfl⟩:∃a r,x=a::r:=by
   cases x with
   |nil=>exact absurd c1.1 (by decide)
   |cons a r=>exact⟨a,r,rfl⟩
  have ix:ev (tbG xx s) (Qa (tbG xx s) n) 94 (.ix Va Wa) [some (.str (a::r)),sI 9] h1=some (.str [a],h1):=Qgs (d:=92) rfl (by
   have:atU (a::r) 0=some a:=Qlx (i:=0) rfl
   simp only[Q5,this,if_pos (X1 l (by decide:1000<=1000000)),Option.map])
  have t3:evT (tbG xx s) (Qa (tbG xx s) n) 97 (.and (.cmp .Eq (.ix Va Wa) (.c (.str [48]))) (.cmp .NotEq Va (.c (.str [48])))) [some (.str (a::r)),sI 9] h1=some (decide (a=48/\a::r≠[48]),h1):=QiZ (d:=96) (by
    have:=Zj (d:=94) (o:=.Eq) ix y_c (eqs (y:=[48]))
    rw[this,decide_eq_decide.mpr (show [a]=[48]↔a=48 by simp)]) (by
    have:Zg (tbG xx s) .NotEq (.str (a::r)) (.str [48]) h1=some (!decide (a::r=[48])):=rfl
    rw[Zj (d:=94) (Qc rfl) y_c this,decide_not])
  refine JJ (d:=97) (QfT (d:=97) t3 ?_)
  have ef:fig (a::r)=if a=48/\a::r≠[48]then .non else .int (Jk (a::r):Nat) 0:=by
   unfold fig;rw[if_pos ⟨c1,c2⟩]
   have:(a::r).take 1=[48]↔a=48:=by simp
   simp only[this]
  by_cases c3:a=48/\a::r≠[48]
  ·rw[if_pos (X3 c3)]
   exact Zk (Z3 y_c ⟨by rw[ef,if_pos c3],k⟩)
  ·rw[if_neg (by simpa using c3)]
   have g:Qls (a::r)=true:=by
    unfold Qls
    rw[show(a::r).all (λc=>decide (48<=c)&&decide (c<=57))=true from c2,X3 (X1 c1.2 (by decide:9<=640))];rfl
   have bi:biU (tbG xx s) .int [.str (a::r)] h1=some (.int (Jk (a::r):Nat) 0,h1):=by
    simp only[biU,g,Wt]
   exact JJ (Zk (d:=96) (Z3 (Qej (d:=95) (Qc rfl) bi) ⟨by rw[ef,if_neg c3],k⟩))
def Qfl(hi:i<10 ^ 9):fig (Jw i)=.int (i:Nat) 0:=by
 unfold fig;have l:=Yi 8 i hi;have a:=Qb1 i;have z:=QdS i
 have l1:1<=(Jw i).length:=by
  cases q:Jw i with
  |nil=>exact absurd q z
  |cons _ _=>simp
 rw[if_pos ⟨⟨l1,l⟩,Xs.mpr λc hc=>by have:=a c hc;simp[isD,this]⟩,if_neg,Jx]
 rintro⟨e1,e2⟩
 cases q:Jw i with
 |nil=>exact z q
 |cons c r=>
  rw[q]at e1 e2
  have e1:c=48:=by simpa using e1
  subst e1
  exact e2 (by rw[Qh6 i r q])
def Qgg(hi:i<10 ^ 9):Yr (QQ i)=.int (i:Nat) 0:=by
 unfold Yr;rw[if_pos Qd3.1,Qd3.2,Qfl hi]
end
noncomputable abbrev erN:Er:=(11,.non)
noncomputable abbrev erC:Er:=(17,.non)
def Zz(er:Er)(T:Tbl)(cf:Cf)(d:Nat)(ss:List Iv.S)(Z:Rho)(h g:Hs):Prop:=exs T cf d ss Z h=none/\∃h1,exsX T cf d ss Z h=some (er,h1)/\Kp g h1
def Zc(er:Er)(T:Tbl)(m f:Nat)(us:List U)(h:Hs):Prop:=Qa T m f us h=none/\∃h1,QN T m f us h=some (er,h1)/\Kp h h1
section
variable {l:Nat}{r:List Iv.S}{er:Er}
def Qac(e:ex T cf d st Z h=some (.next,ρ1,h1))(z:Zz er T cf d r ρ1 h1 g):Zz er T cf (d+1) (st::r) Z h g:=⟨by rw[Qk,e];exact z.1,by rw[exsX,e];exact z.2⟩
def Jl(e:ex T cf d st Z h=none)(z:∃h1,exX T cf d st Z h=some (er,h1)/\Kp g h1):Zz er T cf (d+1) (st::r) Z h g:=⟨by rw[Qk,e],by rw[exsX,e];exact z⟩
def YM(F:Fn)(hF:T.fns[f]?=some F)(hl:us.length=F.np)(z:Zz er T (Qa T n) 100 F.body (QgU us F.nN) h h):Zc er T (n+1) f us h:=by
 refine⟨?_,?_⟩
 ·rw[Qg F hF hl,show dd=100 from rfl,z.1];rfl
 ·have e:QN T (n+1) f us h=exsX T (Qa T n) dd F.body (QgU us F.nN) h:=by simp[QN,hF,hl]
  rw[e];exact z.2
def Qgm{t:E}{a b:List Iv.S}(e:evT T cf d t Z h=some (c,h1))(hc:c=true)(z:Zz er T cf d a Z h1 g):Zz er T cf (d+2) (.ite t a b::r) Z h g:=by
 subst hc
 refine Jl (by rw[QD,e,Qj,if_pos rfl,z.1]) ?_
 rw[exX,e];exact z.2
def Qgl{c:Nat}(a:evs (ev T cf d) Z es h=some (us,h1))(k:Kp g h1)(hr:(if T.ers.contains c=true/\es.length<=1000 then(rsv T c us).map λu=>((c,u),h1)else none)=some (er,h1)):Zz er T cf (d+2) (.rse c es::r) Z h g:=by
 refine Jl rfl ⟨h1,?_,k⟩;rw[exX,a,Qj];exact hr
def Z7(a:evs (ev T cf d) Z es h=some (us,h1))(b:cf f us h1=none):ev T cf (d+1) (.call f es) Z h=none:=by rw[Qp,a,Qj,b]
def QaY(F:Fn)(hF:T.fns[f]?=some F)(hl:us.length=F.np)(a:evs (ev T cf d) Z es h=some (us,h1)):evX T cf (.call f es) d Z h=T.xf f us h1:=by
 unfold evX;rw[a,Qj,hF];simp only[hl,decide_true,Wt]
def Qeo{x:EX}:exX T cf (d+1) (.xal st x) Z h=evX T cf x d Z h:=by rw[exX]
theorem QiF{er:Er}{ff f2:Rho->Hs->Option (U×Hs)}{F2:Ev}{el:E}{fx:Rho->Hs->Option (Er×Hs)}{wk:Wk}{L:List U}(hF:ff=F2 el)(hit:∀(i:Nat) hs,Kp h1 hs->itm T wk i hs=some ((L[i]?).map .one))(lL:L.length<=900000)
  (st:∀x∈L,∀hs,Kp h1 hs->(∃u h2,ff (Z++[some x]) hs=some (u,h2)/\f2 (Z++[some x]) hs=some (u,h2)/\Kp hs h2)\/(ff (Z++[some x]) hs=none/\f2 (Z++[some x]) hs=none/\∃h2,fx (Z++[some x]) hs=some (er,h2)/\Kp hs h2)):
  ∀(m i k:Nat) (acc:List U) (hs:Hs),L.length=i+m->acc.length=i->m<k->Kp h1 hs->(∃x∈L.drop i,∀hs,Kp h1 hs->ff (Z++[some x]) hs=none)->ZU T F2 (Qbo ft none) wk false el Z k i acc hs=none/\∃h2,Qix T f2 fx wk false Z k i hs=some (er,h2)/\Kp h1 h2
 |m,i,0,_,_,_,_,l,_,_=>by lia
 |0,i,k+1,_,_,e,_,_,_,b=>by
  obtain⟨x,mx,_⟩:=b
  rw[List.drop_eq_nil_iff.mpr (by lia)]at mx
  cases mx
 |m+1,i,k+1,acc,hs,e,la,l,kp,b=>by
  have lt:i<L.length:=by lia
  have ei:itm T wk i hs=some (some (.one L[i])):=by rw[hit i hs kp,Xn lt];rfl
  have li:i<1000000:=by lia
  have la':acc.length<1000000:=by lia
  rw[ZU,Qix];simp only[ei,tgt,tgN,Qcf,W9,Uv,QlZ,li,la',Wt,Qbo,Qj,<-hF]
  rcases st _ (Uf lt) hs kp with⟨u,h3,a,a2,kp3⟩|⟨a,a2,h2,a3,k2⟩
  ·rw[a,a2,Qj]
   refine QiF hF hit lL st m (i+1) k (acc++[u]) h3 (by lia) (by rw[X9,la];rfl) (by lia) (kp.trans kp3) ?_
   obtain⟨x,mx,hx⟩:=b;rw[List.drop_eq_getElem_cons lt]at mx
   rcases Xo.mp mx with rfl|mx
   ·rw[hx hs kp]at a;cases a
   ·exact⟨x,mx,hx⟩
  ·rw[a,a2];exact⟨rfl,h2,a3,kp.trans k2⟩
def Qmd{b:List Iv.S}{x:EX}{G:U->Hs->Prop}(q:Xx T cf d b Z h (Fq G)):Xx T cf (d+3) [.xal (.tryN b) x] Z h (Fq G):=by
 obtain⟨f,ρ1,h1,e,q⟩:=q
 have e1:ex T cf (d+2) (.xal (.tryN b) x) Z h=some (f,ρ1,h1):=by rw[ex,ex];exact e
 cases f with
 |next=>exact ZH e1 (JJ q)
 |ret u=>exact⟨_,_,_,by rw[Qk,e1],q⟩
 |brk=>exact q.elim
 |cont=>exact q.elim
noncomputable def badL:List (List Nat):=[[],[45,45],[45],[75],[107,112],[107,44,112],[99,97,115,116],[107,50],[107,49,114],[107,53,108],[99,48,102,49],[99,49,102,53],[99,50,114,49],[112,120,49],[112,120,53],[104,118],[102],[51]]
def QkZ(h:t∈badL):Qa (tbG xx s) (n+3) 17 [.str t] hs=some (.non,hs):=by
 simp only[badL,Xo,X6,W6]at h
 rcases h with rfl|rfl|rfl|rfl|rfl|rfl|rfl|rfl|rfl|rfl|rfl|rfl|rfl|rfl|rfl|rfl|rfl|rfl<;>rfl
def QlF(h:t∈badL):Zc erN (tbG xx s) (n+4) 16 [.str t] hs:=by
 have e1:ex (tbG xx s) (Qa (tbG xx s) (n+3)) 99 (.set 1 (.ife (.isi Va .str) (.call 17 [Va]) (.c .non))) [sS t,none] hs=some (.next,[sS t,some .non],hs):=Zh (d:=98) (Qb6 (d:=97) (c:=true) (QdM (d:=96) rfl (by rw[QL,Qc (d:=94) rfl,Qj];rfl)) (by rw[if_pos rfl];exact Yw (d:=95) rfl (QkZ h)))
 exact YM fnL[16] rfl rfl (Qac (d:=99) e1 (Qgm (d:=97) (c:=true) (Zj (d:=95) (Qc rfl) y_c rfl) rfl (Qgl (d:=95) (e_1 y_c) (Kp.refl _) rfl)))
def QnQ{m:List Nat}(hm:Mk m):∃o,Sk xx s o m/\Qa (tbG xx s) (n+5) 24 [.str m] hs=some (.ref hs.length,hs++[o]):=by
 obtain⟨o,h1,e⟩:=Qft (xx:=xx) (s:=s) (n:=n) (hs:=hs) hm;refine⟨o,h1,?_⟩
 suffices z:Cc (tbG xx s) (n+5) 24 [.str m] hs λu h1=>u=.ref hs.length/\h1=hs++[o] by
  obtain⟨_,_,e,rfl,rfl⟩:=z;exact e
 exact QaP (Qg fnL[24] rfl rfl) (Qmd (d:=97) (Zk (d:=95) (Z3 (Yw (d:=93) rfl e) ⟨rfl,rfl⟩)))
def QnC(h:t∈badL):Qa (tbG xx s) (n+5) 24 [.str t] hs=none:=by
 have e:ex (tbG xx s) (Qa (tbG xx s) (n+4)) 96 (.ret (.call 16 [Va])) [sS t] hs=none:=by
  rw[QO,Z7 (d:=94) (e_1 (Qc rfl)) (QlF (xx:=xx) (s:=s) (n:=n) (hs:=hs) h).1];rfl
 rw[Qg fnL[24] rfl rfl];show fin (exs (tbG xx s) (Qa (tbG xx s) (n+4)) 100 [.xal (.tryN [(.ret (.call 16 [Va]))]) _] [sS t] hs)=none;rw[Qk,ex,ex,Qk,e];rfl
def Qn1(h:t∈badL)(hx:xx=QN (tbG x2 s) (m+4)):Zc erC (tbG xx s) (n+5) 24 [.str t] hs:=by
 obtain⟨c1,_⟩:=QlF (xx:=xx) (s:=s) (n:=n) (hs:=hs) h;obtain⟨_,h2,c2,k2⟩:=QlF (xx:=x2) (s:=s) (n:=m) (hs:=hs) h;refine YM fnL[24] rfl rfl (Jl (d:=99) ?_ ⟨h2,?_,k2⟩)
 ·show ex _ _ 99 (.xal (.tryN [(.ret (.call 16 [Va]))]) _) _ _=none;rw[ex,ex,Qk,QO,Z7 (d:=94) (e_1 (Qc rfl)) c1];rfl
 ·show exX _ _ 99 (.xal (.tryN [(.ret (.call 16 [Va]))]) (.tryR 16 [Va] 11 17 [(.c (.str _))])) _ _=_;rw[Qeo]
  have hx':(tbG xx s).xf 16 [.str t] hs=some (erN,h2):=by rw[show(tbG xx s).xf=xx from rfl,hx];exact c2
  unfold evX;rw[e_1 (Qc rfl),Qj,hx'];rfl
end
def QkO{xs:List α}{n:Int}(h:0<=n):Y5 xs (some n) none=xs.drop n.toNat:=by
 have e1:ZL xs.length 0 (some n)=min n.toNat xs.length:=by simp only[ZL];rw[if_neg (by lia)]
 have e2:ZL xs.length xs.length none=xs.length:=rfl;unfold Y5;rw[e1,e2]
 rcases Nat.le_total n.toNat xs.length with l|l
 ·rw[Nat.min_eq_left l,V2 (by rw[Th];exact Xm _)]
 ·rw[Nat.min_eq_right l,Ur,List.take_zero,List.drop_eq_nil_iff.mpr l]
def QkN{xs:List α}:Y5 xs none (some (-1))=xs.dropLast:=by
 have e1:ZL xs.length xs.length (some (-1))=xs.length-1:=by simp only[ZL];rw[if_pos (by decide)];lia
 have e2:ZL xs.length 0 none=0:=rfl;unfold Y5;rw[e1,e2,List.drop_zero,Nat.sub_zero,List.dropLast_eq_take]
def SM(xx:Nat->List U->Hs->Option (Er×Hs))(s:List U)(h:Hs)(u:U)(m:List Nat):Prop:=∃p o,u=.ref p/\h[p]?=some o/\Sk xx s o m
def SM.kp(k:Kp h h1){m:List Nat}(z:SM xx s h u m):SM xx s h1 u m:=by obtain⟨p,o,a,b,c⟩:=z;exact⟨p,o,a,k _ _ b,c⟩
def HR(xx:Nat->List U->Hs->Option (Er×Hs))(s:List U)(h:Hs)(u:U)(ms:List (List Nat)):Prop:=∃p vs,u=.ref p/\h[p]?=some (.lst vs)/\Paired (SM xx s h) vs ms
theorem HR.kp(k:Kp h h1)(z:HR xx s h u ms):HR xx s h1 u ms:=by obtain⟨p,vs,a,b,c⟩:=z;exact⟨p,vs,a,k _ _ b,QB (λy y=>SM.kp k) c⟩
section
variable {D:Nat}{x:EX}
def QfG(l:t.length<=900):∃h1,ev (tbG xx s) (Qa (tbG xx s) (n+1)) 98 (.ife (.bm .starts Va [(.c (.str [99,97,115,116,32]))]) (.call 0 [(.sl Va (some (.bi .len [(.c (.str [99,97,115,116,32]))])) none),(.c (.int 9 0))]) (.c .non)) [sS t,none] hs=some (Yr t,h1)/\Kp hs h1:=by
 have st:ev (tbG xx s) (Qa (tbG xx s) (n+1)) 96 (.bm .starts Va [(.c (.str [99,97,115,116,32]))]) [sS t,none] hs=some (.bl (decide (t.take 5=cs)),hs):=by
  rw[ZS,Qc (d:=94) rfl,Qj,if_pos (show QcA .starts (.str t) hs=true from rfl),e_1 y_c,Qj];show some (U.bl (PySem.Txt.startswith ⟨t.toArray⟩ ⟨cs.toArray⟩),hs)=_;rw[QlV];rfl
 have tt:=QdM (d:=96) rfl st;by_cases c:t.take 5=cs
 ·obtain⟨h1,e0,k⟩:=c_0 (xx:=xx) (s:=s) (n:=n) (x:=t.drop 5) (hs:=hs) (by rw[Th];lia)
  refine⟨h1,?_,k⟩
  have sl:ev (tbG xx s) (Qa (tbG xx s) (n+1)) 96 (.sl Va (some (.bi .len [(.c (.str [99,97,115,116,32]))])) none) [sS t,none] hs=some (.str (t.drop 5),hs):=by
   rw[QiA,Qc (d:=94) rfl,Qj];show bd (evO _ _ (some _) _) _=_
   simp only[evO,Qej (d:=94) y_c (Qkc (T:=tbG xx s) (hs:=hs) (x:=cs) (by decide)),Qj]
   show slU _ (.str t) (some 5) none hs=_
   simp only[slU,if_pos (X1 l (by decide:900<=1000000)),QkO (show(0:Int)<=5 by decide)]
   rfl
  unfold Yr;rw[if_pos c]
  exact Qb6 (d:=97) (c:=true) (by rw[tt,X3 c]) (by rw[if_pos rfl];exact Zx (d:=96) (e_2 sl y_c) e0)
 ·refine⟨hs,?_,Kp.refl _⟩;unfold Yr;rw[if_neg c]
  exact Qb6 (d:=97) (c:=false) (by rw[tt,Xu c]) (by rw[if_neg Xi];exact y_c)
def QnP(l:t.length<=900)(hv:Yr t=iU i):∃h1,Qa (tbG xx s) (n+2) 25 [.str t] hs=some (iU i,h1)/\Kp hs h1:=by
 obtain⟨h1,e,k⟩:=QfG (xx:=xx) (s:=s) (n:=n) (hs:=hs) l;rw[hv]at e
 suffices z:Cc (tbG xx s) (n+2) 25 [.str t] hs λu g=>u=iU i/\g=h1 by
  obtain⟨_,_,e',rfl,rfl⟩:=z;exact⟨_,e',k⟩
 exact QaP (Qg fnL[25] rfl rfl) (ZH (d:=99) (Zh (d:=98) e) (ZH (d:=98) (ZY (d:=96) (Zj (d:=95) (c:=false) (Qc rfl) y_c rfl) rfl) (Zk (d:=96) (Z3 (Qc rfl) ⟨rfl,rfl⟩))))
def Qnk(l:t.length<=900)(hv:Yr t=.non):Zc erC (tbG xx s) (n+2) 25 [.str t] hs:=by
 obtain⟨h1,e,k⟩:=QfG (xx:=xx) (s:=s) (n:=n) (hs:=hs) l;rw[hv]at e;exact YM fnL[25] rfl rfl (Qac (d:=99) (Zh (d:=98) e) (Qgm (d:=97) (c:=true) (Zj (d:=95) (Qc rfl) y_c rfl) rfl (Qgl (d:=95) (e_1 y_c) k rfl)))
def QcE{er:Er}(v:ev T cf d e Z h=some (.ref q,h1))(v':ev T cf D e Z h=some (.ref q,h1))(hq:h1[q]?=some (.lst L))(lL:L.length<=900000)
  (st:∀y∈L,∀hs,Kp h1 hs->(∃u h2,ev T cf d el (Z++[some y]) hs=some (u,h2)/\ev T cf D el (Z++[some y]) hs=some (u,h2)/\Kp hs h2)\/(ev T cf d el (Z++[some y]) hs=none/\ev T cf D el (Z++[some y]) hs=none/\∃h2,evX T cf x D (Z++[some y]) hs=some (er,h2)/\Kp hs h2))
  (bad:∃y∈L,∀hs,Kp h1 hs->ev T cf d el (Z++[some y]) hs=none):ev T cf (d+1) (.comp (.seq e) false none el) Z h=none/\∃h2,evX T cf (.comp (.seq e) false el x) D Z h=some (er,h2)/\Kp h1 h2:=by
 have w1:∀d,ev T cf d e Z h=some (.ref q,h1)->Zy T (ev T cf d) Z (.seq e) h=some (.seqL (.ref q),h1):=λd v=>by
  simp only[Zy,v,Qj,wkS,Zn hq];rfl
 have tn:Zs T (.seqL (.ref q)) h1=L.length+1:=by simp only[Zs,Zn hq,Vz]
 obtain⟨c1,h2,c2,k2⟩:=QiF (T:=T) (h1:=h1) (Z:=Z) (F2:=ev T cf d) (ff:=ev T cf d el) (f2:=ev T cf D el) (fx:=evX T cf x D) (wk:=.seqL (.ref q)) (L:=L) (ft:=evT T cf d) rfl (λi hs kp=>by simp only[itm,Qdx kp (Zn hq),Option.map]) lL st L.length 0 (L.length+1) [] h1 (Vr _).symm rfl (W3 _) (Kp.refl _) bad
 refine⟨?_,h2,?_,k2⟩
 ·rw[QfC,w1 d v,Qj,tn,c1];rfl
 ·show bd (Zy T (ev T cf D) Z (.seq e) h) _=_;rw[w1 D v',Qj,tn];exact c2
def QaZ(ht:Z[0]?=some (sS t))(l:t.length<=900):ev T cf (d+2) (.bm .split Va [(.c (.str [32]))]) Z h=some (.ref h.length,h++[.lst ((Qx 32 t).map .str)]):=by
 rw[ZS,Qc ht,Qj,if_pos (show QcA .split (.str t) h=true from rfl),e_1 y_c,Qj]
 exact if_pos (X1 l (by decide))
def QeB{y:List Nat}(ht:Z[0]?=some (sS t)):evT T cf (d+3) (.cmp .Eq Va (.c (.str y))) Z h=some (decide (t=y),h):=Zj (Qc ht) y_c eqs
def Qmf:∀{us:List U} {ms:List (List Nat)},Paired (λ(u a:U)=>∀m,a=.str m->SM xx s g u m) us (ms.map U.str)->Paired (SM xx s g) us ms:=λ{us ms} pr=>by
 generalize eL:ms.map U.str=L at pr
 induction pr generalizing ms with
 |nil=>cases ms with
  |nil=>exact .nil
  |cons m r=>cases eL
 |cons a _ ih=>cases ms with
  |nil=>cases eL
  |cons m r=>
   cases eL;exact .cons (a m rfl) (ih rfl)
def QiC{i:Nat}(hi:Z[i]?=some (sR p))(hp:h[p]?=some (.lst us)):ex T cf (d+3) (.expr (.bm .reverse (.var i) [])) Z h=some (.next,Z,h.set p (.lst us.reverse)):=by
 have r:QcA .reverse (.ref p) h=true:=by simp only[QcA,hp];rfl
 rw[Qo,ZS,Qc hi,Qj,if_pos r];simp only[evs,Qj,bmU,hp,bmL]
def YN{y:EX}{z:Option (Fl×Rho×Hs)}(e:ex T cf d st Z h=z):ex T cf (d+1) (.xal st y) Z h=z:=by rw[ex];exact e
def QnR(am:∀m∈ms,Mk m)(l:ms.length<=84):∃u h1,Qa (tbG xx s) (n+6) 23 [.str (ZF ms)] hs=some (u,h1)/\Kp hs h1/\HR xx s h1 u ms:=by
 have rl:=Qc5 am l
 suffices z:Cc (tbG xx s) (n+6) 23 [.str (ZF ms)] hs λu h1=>Kp hs h1/\HR xx s h1 u ms from z
 obtain⟨p,us,h1,e,kp,lp,hp,pr⟩:∃p us h1,ev (tbG xx s) (Qa (tbG xx s) (n+5)) 97 (.ife (.cmp .Eq Va (.c (.str [45]))) (.lst []) (.comp (.seq (.bm .split Va [(.c (.str [32]))])) false none (.call 24 [Vc]))) [some (.str (ZF ms)),none] hs=some (.ref p,h1)/\Kp hs h1/\hs.length<=p/\h1[p]?=some (.lst us)/\Paired (SM xx s h1) us ms.reverse:=by
  by_cases c:ms=[]
  ·subst c
   exact⟨hs.length,[],_,Qb6 (d:=96) (c:=true) (by rw[QeB (d:=93) rfl];rfl) (by rw[if_pos rfl];exact y_lst),kp1,Xm _,last1,.nil⟩
  ·obtain⟨us,h2,e,k,pr⟩:=QkV (T:=tbG xx s) (cf:=Qa (tbG xx s) (n+5)) (d:=95) (Z:=[some (.str (ZF ms)),none]) (h:=hs) (el:=.call 24 [Vc]) (λa u g=>∀m,a=.str m->SM xx s g u m) (λx x x x k f m e=>(f m e).kp k) (QaZ (d:=93) rfl (X1 rl (by decide))) (.inl (Zn last1)) (by rw[Xy,YU am c,Wx];lia) (λy my hs k=>by
    rw[YU am c]at my;obtain⟨m,mm,rfl⟩:=Wp.mp my;obtain⟨o,sk,e⟩:=QnQ (xx:=xx) (s:=s) (n:=n) (hs:=hs) (am m (Vj.mp mm))
    exact⟨_,_,Yw (d:=93) (i:=2) rfl e,kp1,λm' e=>by cases e;exact⟨_,o,rfl,at0,sk⟩⟩)
   rw[YU am c]at pr
   exact⟨h2.length,us,_,Qb6 (d:=96) (c:=false) (by rw[QeB (d:=93) rfl,Xu (Qjp am c)]) (by rw[if_neg Xi];exact e),kp1.trans (k.trans kp1),X1 kp1.len k.len,last1,QB (λx x=>SM.kp kp1) (Qmf pr)⟩
 have K:Kp hs (h1.set p (.lst us.reverse)):=kp.put lp
 have ne:∀u m,SM xx s h1 u m->SM xx s (h1.set p (.lst us.reverse)) u m:=λu m ⟨j,o,a,b,c⟩=>⟨j,o,a,by
  obtain⟨c',fs,rfl,_⟩:=c
  rw[Xz (λz=>by rw[<-z,hp]at b;cases b)]
  exact b,c⟩
 have pr2:=Qda (QB ne pr);rw[List.reverse_reverse]at pr2;exact QaP (Qg fnL[23] rfl rfl) (ZH (d:=99) (YN (d:=98) (Zh (d:=97) e)) (ZH (d:=98) (QiC (d:=95) rfl hp) (Zk (d:=96) (Z3 (Qc rfl) ⟨K,p,_,rfl,Wh (Xf.mp hp).1,pr2⟩))))
def QfB(t:List Nat):Prop:=t≠[45]/\t.length<=900/\(∀p∈Qx 32 t,Mk p\/p∈badL)/\∃p∈Qx 32 t,p∈badL
def Qnl(b:QfB t)(hx:xx=QN (tbG x2 s) (m+5))(hx2:x2=QN (tbG x1 s) (m2+4)):Zc erC (tbG xx s) (n+6) 23 [.str t] hs:=by
 obtain⟨b1,b2,b3,b4⟩:=b
 have st:∀y∈(Qx 32 t).map U.str,∀g,Kp (hs++[O.lst ((Qx 32 t).map U.str)]) g->(∃u h2,ev (tbG xx s) (Qa (tbG xx s) (n+5)) 95 (.call 24 [Vc]) ([sS t,none]++[some y]) g=some (u,h2)/\ev (tbG xx s) (Qa (tbG xx s) (n+5)) 98 (.call 24 [Vc]) ([sS t,none]++[some y]) g=some (u,h2)/\Kp g h2)\/(ev (tbG xx s) (Qa (tbG xx s) (n+5)) 95 (.call 24 [Vc]) ([sS t,none]++[some y]) g=none/\ev (tbG xx s) (Qa (tbG xx s) (n+5)) 98 (.call 24 [Vc]) ([sS t,none]++[some y]) g=none/\∃h2,evX (tbG xx s) (Qa (tbG xx s) (n+5)) (.call 24 [Vc]) 98 ([sS t,none]++[some y]) g=some (erC,h2)/\Kp g h2):=λy my g z=>by
  obtain⟨p,mp,rfl⟩:=Wp.mp my
  rcases b3 p mp with hm|hb
  ·obtain⟨o,_,e⟩:=QnQ (xx:=xx) (s:=s) (n:=n) (hs:=g) hm;exact .inl ⟨_,_,Yw (d:=93) rfl e,Yw (d:=96) rfl e,kp1⟩
  ·have c1:=QnC (xx:=xx) (s:=s) (n:=n) (hs:=g) hb;obtain⟨_,h2,c2,k2⟩:=Qn1 (xx:=x2) (x2:=x1) (s:=s) (n:=m) (m:=m2) (hs:=g) hb hx2
   exact .inr ⟨Z7 (d:=94) (e_1 (Qc rfl)) c1,Z7 (d:=97) (e_1 (Qc rfl)) c1,h2,by
    rw[QaY fnL[24] rfl rfl (e_1 (Qc rfl)),show(tbG xx s).xf=xx from rfl,hx]
    exact c2,k2⟩
 obtain⟨c1,h2,c2,k2⟩:=QcE (T:=tbG xx s) (cf:=Qa (tbG xx s) (n+5)) (d:=95) (D:=98) (er:=erC) (Z:=[sS t,none]) (h:=hs) (x:=.call 24 [Vc]) (QaZ (d:=93) rfl b2) (QaZ (d:=96) rfl b2) last1 (by rw[Xy];have:=splitU_len 32 t;lia) st (by
  obtain⟨p,mp,hb⟩:=b4
  exact⟨.str p,List.mem_map_of_mem mp,λg z=>Z7 (d:=94) (e_1 (Qc rfl)) (QnC (xx:=xx) (s:=s) (n:=n) hb)⟩)
 refine YM fnL[23] rfl rfl (Jl (d:=99) ?_ ⟨h2,?_,kp1.trans k2⟩)
 ·refine YN (d:=98) ?_
  rw[QK,Qb6 (d:=96) (c:=false) (r:=none) (by rw[QeB (d:=93) rfl,Xu b1]) (by rw[if_neg Xi];exact c1)]
  rfl
 ·show exX _ _ 99 (.xal _ (.ife _ .no (.comp _ false (.call 24 [Vc]) _))) _ _=_;rw[Qeo];unfold evX;rw[QeB (d:=95) rfl,Xu b1];exact c2
end
theorem QjD{α:Type}{P:U->α->Prop}{f:α->U}:∀{l:List α},(∀a∈l,P (f a) a)->Paired P (l.map f) l
 |[],_=>.nil
 |a::l,h=>.cons (h a Xh) (QjD λb m=>h b (Xg _ m))
def Rg(ms:List (List Nat)):Prop:=ms.length<=84/\∀m∈ms,Mk m
def RC(xx:Nat->List U->Hs->Option (Er×Hs))(s:List U)(h:Hs)(u:U)(i:Nat)(rs:List (List (List Nat))):Prop:=∃t q us,u=.ref t/\h[t]?=some (.tup [iU i,.ref q])/\h[q]?=some (.lst us)/\Paired (HR xx s h) us rs
section
variable {m1 m0 D:Nat}
def QbE(hp:h[p]?=some (.lst (ys++[z]))):Q5 T (.ref p) (.int (-1) 0) h=some z:=by
 have e:ixU (ys++[z]).length (-1)=some ys.length:=by
  unfold ixU
  rw[if_neg (by decide),if_pos (by simp;lia)]
  simp;lia
 simp only[Q5,hp,atU,e];simp
def QbB(hp:h[p]?=some (.lst (ys++[z])))(hi:Z[0]?=some (sR p)):ev T cf (d+3) (.ix Va (.neg Wb)) Z h=some (z,h):=by
 refine Qab (d:=d+2) (Qc hi) (w:=.int (-1) 0) (h2:=h) ?_ (QbE hp);rw[QW,y_c,Qj]
def QiK(hp:h[p]?=some (.lst (ys++[z])))(hi:Z[0]?=some (sR p)):ev T cf (d+3) (.sl Va none (some (.neg Wb))) Z h=some (.ref h.length,h++[.lst ys]):=by
 rw[QiA,Qc hi,Qj];simp only[evO,QW,y_c,Qj];rw[QlX hp,show -(1:Int)=-1 from rfl,QkN,List.dropLast_concat]
noncomputable def tR:E:=(.or (.not (.isi Va .list)) (.or (.not Va) (.not (.bi .all [(.comp (.seq Va) false none (.isi Vd .str))]))))
def Qn5(e:Z4 T .list u h=some false):evT T cf 98 tR [some u,none,none] h=some (true,h):=
 Qek (d:=97) (Z0 (d:=96) (c:=false) (QdM (d:=95) rfl (by rw[QL,Qc (d:=93) rfl,Qj,e];rfl))) rfl
def QbZ(hp:h[p]?=some (.lst xs)):Z4 T .list (.ref p) h=some true:=by
 unfold Z4 YE YD;simp only[hp];rfl
def Qn7(hp:h[p]?=some (.lst [])):evT T cf 98 tR [sR p,none,none] h=some (true,h):=
 Qek (d:=97) (Z0 (d:=96) (c:=true) (QdM (d:=95) rfl (by rw[QL,Qc (d:=93) rfl,Qj,QbZ hp];rfl))) (by
  rw[if_neg (by decide)]
  refine Qek (d:=96) (Z0 (d:=95) (c:=false) ?_) rfl;rw[Qq,Qc (d:=93) rfl,Qj];simp only[Zl,ZN,hp]
  rfl)
def Qlj{f:U->Bool}(hp:h[p]?=some (.lst (ys++[z])))(l:(ys++[z]).length<=1000)(k:∀x∈ys++[z],∀g,Kp h g->Z4 T .str x g=some (f x)):∃h1,evT T cf 98 tR [sR p,none,none] h=some (!(ys++[z]).all f,h1)/\Kp h h1:=by
 obtain⟨us,h2,e,k2,pr⟩:=QkV (T:=T) (cf:=cf) (d:=92) (Z:=[sR p,none,none]) (h:=h) (e:=Va) (el:=.isi Vd .str) (λa u y=>u=.bl (f a)) (λy y y y y z=>z) (Qc rfl) (.inl (Zn hp)) (by lia) λx mx g kp=>⟨_,_,by rw[QL,Qc (d:=90) (i:=3) rfl,Qj,k x mx g kp];rfl,Kp.refl _,rfl⟩
 have eu:us=((ys++[z]).map f).map U.bl:=by rw[Qdc pr,Uq];rfl
 subst eu;have bb:=Qk5 (T:=T) (last1 (h:=h2) (o:=.lst (((ys++[z]).map f).map U.bl)));rw[List.all_map]at bb
 refine⟨h2++[.lst (((ys++[z]).map f).map U.bl)],Qek (d:=97) (Z0 (d:=96) (c:=true) (QdM (d:=95) rfl (by rw[QL,Qc (d:=93) rfl,Qj,QbZ hp];rfl))) ?_,k2.trans kp1⟩
 rw[if_neg (by decide)]
 refine Qek (d:=96) (h1:=h) (Z0 (d:=95) (c:=true) ?_) ?_
 ·rw[Qq,Qc (d:=93) rfl,Qj];simp only[Zl,ZN,hp,Option.map,List.isEmpty_iff];simp
 ·rw[if_neg (by decide)]
  exact Z0 (d:=95) (QdM (d:=94) rfl (Qej e bb))
def QbG{x:List Nat}:Z4 T .str (.str x) h=some true:=rfl
def Qpf(hp:h[p]?=some (.lst ((chT i rs).map .str)))(hi:i<10 ^ 9)(lr:rs.length<=84)(g:∀ms∈rs,Rg ms):Pc (tbG xx s) (n+7) 22 [.ref p] h λu h1=>RC xx s h1 u i rs:=by
 have ex:(chT i rs).map U.str=(rs.reverse.map λms=>U.str (ZF ms))++[.str (QQ i)]:=by
  unfold chT;rw[W7,<-List.map_reverse,Uq];rfl
 rw[ex]at hp
 obtain⟨h1,t1,k1⟩:=Qlj (T:=tbG xx s) (cf:=Qa (tbG xx s) (n+6)) (f:=λy=>true) hp (by simp;lia) (λx mx g y=>by
  rcases X5.mp mx with mx|mx
  ·obtain⟨ms,_,rfl⟩:=Wp.mp mx;exact QbG
  ·rw[Wu.mp mx];exact QbG)
 have hp1:=k1 _ _ hp
 have l9:(QQ i).length<=900:=by
  have:=Yi 8 i hi;simp only[QQ,X9,X8,W2];lia
 obtain⟨h2,e2,k2⟩:=QnP (xx:=xx) (s:=s) (n:=n+4) (hs:=h1) l9 (Qgg hi);have hp2:=k2 _ _ hp1
 obtain⟨us,h3,e3,k3,pr⟩:=QcK (T:=tbG xx s) (cf:=Qa (tbG xx s) (n+6)) (d:=94) (el:=.call 23 [Vd]) (QiK (d:=91) (Z:=[sR p,some (iU i),none]) hp2 rfl) (R:=λv ms=>v=.str (ZF ms)/\Rg ms) (L:=rs.reverse)
  (λj acc g=>Kp (h2++[O.lst (rs.reverse.map λms=>U.str (ZF ms))]) g/\Paired (HR xx s g) acc (rs.reverse.take j))
  (QjD λms m=>⟨rfl,g ms (Vj.mp m)⟩) (by rw[Wx];lia) (λj acc g z=>z.1 _ _ last1) (λj ms v hj hv acc g z=>by
   obtain⟨rfl,gm⟩:=hv;obtain⟨u,h4,e4,k4,hr⟩:=QnR (xx:=xx) (s:=s) (n:=n) (hs:=g) gm.2 gm.1;refine⟨u,h4,Yw (d:=92) (i:=3) rfl e4,z.1.trans k4,?_⟩;rw[Um,hj]
   exact JN (P:=HR xx s h4) hr (QB (λy y=>HR.kp k4) z.2)) ⟨Kp.refl _,.nil⟩
 obtain⟨k3,pr⟩:=(⟨k3,pr⟩:Kp _ _/\Paired (HR xx s h3) us (rs.reverse.take rs.reverse.length));rw[List.take_length]at pr;have K:Kp h3 ((h3++[O.lst us]).set h3.length (.lst us.reverse)):=kp1.put (Xm _);have pr2:=Qda (QB (λy y=>HR.kp (K.trans (kp1 (o:=.tup [iU i,.ref h3.length])))) pr);rw[List.reverse_reverse]at pr2
 refine Pc.of (QaP (Qg fnL[22] rfl rfl) (ZH (d:=99) (ZY (d:=97) t1 (by simp)) (ZH (d:=98) (YN (d:=97) (Zh (d:=96) (Zx (d:=95) (e_1 (QbB (d:=92) hp1 rfl)) e2))) (ZH (d:=97) (YN (d:=96) (Zh e3)) (ZH (d:=96) (QiC (d:=93) rfl last1) (Zk (d:=94) (Z3 (QiI (Qc rfl) (Qc rfl)) ⟨?_,_,_,us.reverse,rfl,last1,?_,pr2⟩)))))))
 ·exact(k1.trans (k2.trans (kp1.trans k3))).trans (K.trans kp1)
 ·exact kp1 _ _ (Wh (by simp))
def Qgp(e:evT (tbG xx s) (Qa (tbG xx s) (n+6)) 98 tR [some u,none,none] h=some (true,h1))(k:Kp h h1):Zc erC (tbG xx s) (n+7) 22 [u] h :=
 YM fnL[22] rfl rfl (Qgm (d:=98) e rfl (Qgl (d:=96) (e_1 y_c) k rfl))
def QlE(hp:h[p]?=some (.lst ((ts++[t]).map .str)))(l:ts.length<=900)(lt:t.length<=900)(hv:Yr t=.non)(hx:xx=QN (tbG x2 s) (m+2)):Zc erC (tbG xx s) (n+7) 22 [.ref p] h:=by
 rw[W7]at hp
 obtain⟨h1,t1,k1⟩:=Qlj (T:=tbG xx s) (cf:=Qa (tbG xx s) (n+6)) (f:=λz=>true) hp (by simp;lia) (λx mx g z=>by
  obtain⟨y,_,rfl⟩:=Wp.mp (show x∈(ts++[t]).map U.str from by rw[W7];exact mx);exact QbG)
 have hp1:=k1 _ _ hp;obtain⟨c1,_⟩:=Qnk (xx:=xx) (s:=s) (n:=n+4) (hs:=h1) lt hv;obtain⟨_,h2,c2,k2⟩:=Qnk (xx:=x2) (s:=s) (n:=m) (hs:=h1) lt hv
 refine YM fnL[22] rfl rfl (Qac (d:=99) (ZY (d:=97) t1 (by simp)) (Jl (d:=98) (YN (d:=97) ?_) ⟨h2,?_,k1.trans k2⟩))
 ·rw[QK,Z7 (d:=95) (e_1 (QbB (d:=92) hp1 rfl)) c1];rfl
 ·show exX _ _ 98 (.xal _ (.call 25 _)) _ _=_;rw[Qeo,QaY fnL[25] rfl rfl (e_1 (QbB (d:=94) hp1 rfl)),show(tbG xx s).xf=xx from rfl,hx];exact c2
def QlD(hp:h[p]?=some (.lst ((ts++[QQ i]).map .str)))(hi:i<10 ^ 9)(l:ts.length<=900)(b:∀t∈ts,(∃ms,Rg ms/\t=ZF ms)\/QfB t)(b1:∃t∈ts,QfB t)(hx:xx=QN (tbG x2 s) (m2+6))(hx2:x2=QN (tbG x1 s) (m1+5))(hx1:x1=QN (tbG x0 s) (m0+4)):Zc erC (tbG xx s) (n+7) 22 [.ref p] h:=by
 rw[W7]at hp
 obtain⟨h1,t1,k1⟩:=Qlj (T:=tbG xx s) (cf:=Qa (tbG xx s) (n+6)) (f:=λz=>true) hp (by simp;lia) (λx mx g z=>by
  obtain⟨y,_,rfl⟩:=Wp.mp (show x∈(ts++[QQ i]).map U.str from by rw[W7];exact mx);exact QbG)
 have hp1:=k1 _ _ hp
 have l9:(QQ i).length<=900:=by
  have:=Yi 8 i hi;simp only[QQ,X9,X8,W2];lia
 obtain⟨h2,e2,k2⟩:=QnP (xx:=xx) (s:=s) (n:=n+4) (hs:=h1) l9 (Qgg hi);have hp2:=k2 _ _ hp1;have nb:∀{t:List Nat} {g:Hs},QfB t->Qa (tbG xx s) (n+6) 23 [.str t] g=none:=λb=>(Qnl (n:=n) (m:=m2+1) (m2:=m1+1) b hx hx2).1
 obtain⟨c1,h3,c3,k3⟩:=QcE (T:=tbG xx s) (cf:=Qa (tbG xx s) (n+6)) (d:=94) (D:=96) (er:=erC) (x:=.call 23 [Vd]) (el:=.call 23 [Vd]) (Z:=[sR p,some (iU i),none]) (QiK (d:=91) hp2 rfl) (QiK (d:=93) hp2 rfl) last1 (by rw[Xy];lia) (λy my g z=>by
  obtain⟨t,mt,rfl⟩:=Wp.mp my
  rcases b t mt with⟨ms,gm,rfl⟩|hb
  ·obtain⟨u,h4,e4,k4,_⟩:=QnR (xx:=xx) (s:=s) (n:=n) (hs:=g) gm.2 gm.1;exact .inl ⟨u,h4,Yw (d:=92) (i:=3) rfl e4,Yw (d:=94) (i:=3) rfl e4,k4⟩
  ·obtain⟨_,h4,c4,k4⟩:=Qnl (xx:=x2) (x2:=x1) (x1:=x0) (s:=s) (n:=m2) (m:=m1) (m2:=m0) (hs:=g) hb hx2 hx1
   exact .inr ⟨Z7 (d:=93) (e_1 (Qc rfl)) (nb hb),Z7 (d:=95) (e_1 (Qc rfl)) (nb hb),h4,by
    rw[QaY fnL[23] rfl rfl (e_1 (Qc rfl)),show(tbG xx s).xf=xx from rfl,hx]
    exact c4,k4⟩) (by
  obtain⟨t,mt,hb⟩:=b1
  exact⟨.str t,List.mem_map_of_mem mt,λg z=>Z7 (d:=93) (e_1 (Qc rfl)) (nb hb)⟩)
 refine YM fnL[22] rfl rfl (Qac (d:=99) (ZY (d:=97) t1 (by simp)) (Qac (d:=98) (YN (d:=97) (Zh (d:=96) (Zx (d:=95) (e_1 (QbB (d:=92) hp1 rfl)) e2))) (Jl (d:=97) (YN (d:=96) ?_) ⟨h3,?_,k1.trans (k2.trans (kp1.trans k3))⟩)))
 ·rw[QK];show bd (ev _ _ 95 _ [sR p,some (iU i),none] h2) _=_;rw[c1];rfl
 ·show exX _ _ 97 (.xal _ (.comp _ false (.call 23 [Vd]) _)) [sR p,some (iU i),none] h2=_;rw[Qeo];exact c3
end
def RL(h:Hs)(u:U)(ms:List (List Nat)):Prop:=∃p,u=.ref p/\h[p]?=some (.lst (ms.map U.str))
def RL.kp(k:Kp h h1)(z:RL h u ms):RL h1 u ms:=by obtain⟨p,a,b⟩:=z;exact⟨p,a,k _ _ b⟩
def RQ(p j:Nat)(hs:Hs)(u:U)(ms:List (List Nat)):Prop:=∃q,u=.ref q/\q≠p/\q≠j/\hs[q]?=some (.lst (ms.map U.str))
structure RW(K:Vp)(hs:Hs)(p:Nat)(rs:List (List (List Nat))):Prop where
 k:∀i o,K i o->hs[i]?=some o
 np:∀o,¬K p o
 r:(rs=[]/\hs[p]?=some (.lst []))\/∃us j rs' ms,rs=rs'++[ms]/\hs[p]?=some (.lst (us++[.ref j]))/\hs[j]?=some (.lst (ms.map U.str))/\j≠p/\(∀o,¬K j o)/\Paired (RQ p j hs) us rs'
section
variable {j:Nat}{K:Vp}{y2:Option U}
def RW.app(z:RW K hs p rs):RW K (hs++[o]) p rs:=⟨λi o k=>Zf (z.k i o k),z.np,z.r.imp (λy=>by obtain⟨a,b⟩:=y;exact⟨a,Zf b⟩) λx=>by obtain⟨us,j,rs',ms,a,b,c,e,f,pr⟩:=x;exact⟨us,j,rs',ms,a,Zf b,Zf c,e,f,QB (λw w v=>by obtain⟨q,q1,q2,q3,q4⟩:=v;exact⟨q,q1,q2,q3,Zf q4⟩) pr⟩⟩
def RW.its(z:RW K hs p rs):∃us,hs[p]?=some (.lst us)/\Paired (λu ms=>∃q,u=.ref q/\q≠p/\hs[q]?=some (.lst (ms.map U.str))) us rs:=by
 rcases z.r with⟨rfl,b⟩|⟨us,j,rs',ms,rfl,b,c,e,f,pr⟩
 ·exact⟨[],b,.nil⟩
 ·exact⟨_,b,JN ⟨j,rfl,e,c⟩ (QB (λy y x=>by obtain⟨q,q1,q2,_,q4⟩:=x;exact⟨q,q1,q2,q4⟩) pr)⟩
def RW.new(z:RW K hs p rs):∃us,hs[p]?=some (.lst us)/\us.length=rs.length/\(us=[]↔rs=[])/\RW K ((hs++[O.lst []]).set p (.lst (us++[.ref hs.length]))) p (rs++[[]]):=by
 obtain⟨us,b,pr⟩:=z.its;have lt:∀{q:Nat} {o:O},hs[q]?=some o->q<hs.length:=λe=>(Xf.mp e).1;have lp:=lt b;have e:=YX pr
 refine⟨us,b,e,by rw[<-List.length_eq_zero_iff,<-List.length_eq_zero_iff,e],λi o k=>?_,z.np,.inr ⟨us,hs.length,rs,[],rfl,Wh (by simp;lia),?_,by lia,λo k=>?_,QB (λu ms ⟨q,q1,q2,q3⟩=>⟨q,q1,q2,?_,?_⟩) pr⟩⟩
 ·rw[Xz (λ(w:p=i)=>z.np o (w▸k))];exact Zf (z.k i o k)
 ·rw[Xz (by lia)]
  exact last1
 ·exact absurd (lt (z.k _ _ k)) (Wn _)
 ·have:=lt q3;lia
 ·rw[Xz (Ww q2)];exact Zf q3
def RW.put(z:RW K hs p rs)(ne:rs≠[]):∃us j rs' ms,rs=rs'++[ms]/\hs[p]?=some (.lst (us++[.ref j]))/\hs[j]?=some (.lst (ms.map U.str))/\∀m,RW K (hs.set j (.lst (ms.map U.str++[.str m]))) p (rs'++[ms++[m]]):=by
 rcases z.r with⟨a,_⟩|⟨us,j,rs',ms,a,b,c,e,f,pr⟩
 ·exact absurd a ne
 ·refine⟨us,j,rs',ms,a,b,c,λm=>⟨λi o k=>?_,z.np,.inr ⟨us,j,rs',ms++[m],rfl,?_,?_,e,f,QB (λu ms ⟨q,q1,q2,q3,q4⟩=>⟨q,q1,q2,q3,?_⟩) pr⟩⟩⟩
  ·rw[Xz (λ(w:j=i)=>f o (w▸k))];exact z.k i o k
  ·rw[Xz e];exact b
  ·rw[Wh (Xf.mp c).1,W7];rfl
  ·rw[Xz (Ww q3)];exact q4
def Qlt(es:s=ns.map iU):∃x:Int,Qa (tbG xx s) (n+1) 26 [.scr,iU k] h=some (iU x,h):=by
 have vl:∀{d:Nat},ev (tbG xx s) (Qa (tbG xx s) n) (d+2) (.bi .len [Va]) [some .scr,some (iU k)] h=some (.int (s.length:Int) 0,h):=λ{d}=>Qej (Qc rfl) (by unfold biU;rfl)
 have t1:∀{d:Nat},evT (tbG xx s) (Qa (tbG xx s) n) (d+4) (.cmp .Lt Vb (.bi .len [Va])) [some .scr,some (iU k)] h=some (decide ((k:Int) < (s.length:Int)),h):=λ{d}=>Zj (d:=d+2) (Qc rfl) vl rfl;by_cases c:k<s.length
 ·obtain⟨x,hx⟩:∃x:Int,s[k]?=some (iU x):=by
   subst es;rw[Xy]at c
   exact⟨ns[k],by rw[Vm,Xn c];rfl⟩
  refine⟨x,?_⟩;rw[Qg fnL[26] rfl rfl]
  refine QlC (d:=96) t1 (X3 (by lia)) (Qab (d:=95) (Qc rfl) (Qc rfl) ?_)
  show atU s (k:Int)=_;exact Qlx hx
 ·refine⟨0,?_⟩;rw[Qg fnL[26] rfl rfl]
  exact(congrArg fin (QoC (d:=97) t1 (Xu (by lia)))).trans (QlB y_c)
def Qmv{i:Int}{z:Int}(hi:Qy i=true)(hk:k<=1000)(e:i ^ k=z):opU .Pow (iU i) (iU k) h=some (iU z,h):=by
 show(Qlm (iU i) (iU k)).map _=_
 have:(decide ((0:Int)<=(k:Int))&&decide ((k:Int)<=1000)&&Qy i)=true:=by
  rw[hi,Bool.and_true,Xe,Xw,Xw];lia
 simp only[Qlm,this,Wt,Option.map,Uo,e]
def Qmw{x:Int}(s:Qy y=true):opU .Mult (iU x) (iU y) h=some (iU (x*y),h):=by
 show(Qj8 (iU x) (iU y)).map _=_;simp only[Qj8,s,Bool.or_true,Bool.true_or,Wt,Option.map]
def Qn2:ev T cf (d+2) (.op .Pow (.c (.int 10 0)) (.c (.int 9 0))) Z h=some (iU 1000000000,h):=Yl y_c y_c (Qmv (k:=9) (by decide) (by decide) (by decide))
def Qlf(a:ev T cf (d+2) e Z h=some (iU x,h1)):ev T cf (d+3) (.op .Mod e (.op .Pow (.c (.int 10 0)) (.c (.int 9 0)))) Z h=some (iU (x % 1000000000),h1):=Yl a Qn2 (Qhu (by decide))
noncomputable def kN:E:=.op .Mod (.op .Mult (.op .Add (.op .Mod (.op .FloorDiv Vc Wf) (.op .Pow (.c (.int 10 0)) (.c (.int 9 0)))) (.c (.int 7 0))) (.c (.int 69621 0))) (.c (.int 2147483647 0))
def Qn3(hi:Z[2]?=some (some (iU x))):ev T cf (d+7) kN Z h=some (iU ((x / 5 % 1000000000+7)*69621 % 2147483647),h):=
 YA (d:=d+5) (Yl (d:=d+5) (Yl (d:=d+4) (Qlf (d:=d+1) (QcJ (d:=d+1) (Qc hi) (by decide))) y_c Qj5) y_c (Qmw (by decide))) (by decide)
noncomputable def k1:Iv.S:=.ite (.or (.cmp .Eq (.op .Mod Vc Wf) Wa) (.cmp .Eq Vb (.lst []))) [(.expr (.bm .append Vb [(.lst [])]))] []
noncomputable def k2:Iv.S:=.ite (.cmp .NotEq (.op .Mod Vc Wf) Wa) [(.expr (.bm .append (.ix Vb (.neg Wb)) [(.call 27 [kN])]))] []
noncomputable abbrev r28(p:Nat)(y2:Option U):Rho:=[some .scr,sR p,y2]
def QiD(z:RW K hs p rs)(l:rs.length<=900):∃h1,exs T cf (d+4) [(.expr (.bm .append Vb [(.lst [])]))] (r28 p y2) hs=some (.next,r28 p y2,h1)/\RW K h1 p (rs++[[]]):=by
 obtain⟨us,hp,lu,_,z1⟩:=z.new;refine⟨_,Yv (d:=d+2) ?_,z1⟩
 rw[Qo,ZS,Qc rfl,Qj,if_pos (Qjt hp),e_1 (show ev T cf (d+1) (.lst []) (r28 p y2) hs=some (.ref hs.length,hs++[.lst []])from y_lst),Qj,Qk2 (Zf hp) (by lia)]
 rfl
def Qn0(z:RW K hs p rs)(l:rs.length<=900):∃h1 rs1,ex (tbG xx s) (Qa (tbG xx s) (n+1)) 96 k1 (r28 p (some (iU x))) hs=some (.next,r28 p (some (iU x)),h1)/\RW K h1 p rs1/\(rs1=rs\/rs1=rs++[[]])/\(¬x % 5=0->rs1≠[]):=by
 have t1:evT (tbG xx s) (Qa (tbG xx s) (n+1)) 94 (.cmp .Eq (.op .Mod Vc Wf) Wa) (r28 p (some (iU x))) hs=some (decide (x % 5=0),hs):=Qli (d:=92) (YA (d:=90) (Qc rfl) (by decide)) y_c
 by_cases c:x % 5=0
 ·obtain⟨h1,e,z1⟩:=QiD (T:=tbG xx s) (cf:=Qa (tbG xx s) (n+1)) (d:=91) (y2:=some (iU x)) z l;refine⟨h1,_,?_,z1,.inr rfl,λw=>absurd c w⟩;unfold k1
  rw[QD,Qek (d:=94) t1 (r:=some (true,hs)) (by rw[X3 c];rfl),Qj,if_pos rfl]
  exact e
 ·obtain⟨us,hp,lu,em,_⟩:=z.new;have t2:evT (tbG xx s) (Qa (tbG xx s) (n+1)) 94 (.cmp .Eq Vb (.lst [])) (r28 p (some (iU x))) hs=some (decide (us=[]),hs++[.lst []]):=Zj (d:=92) (Qc rfl) y_lst (QdR (Zf hp) last1)
  have t3:evT (tbG xx s) (Qa (tbG xx s) (n+1)) 95 (.or (.cmp .Eq (.op .Mod Vc Wf) Wa) (.cmp .Eq Vb (.lst []))) (r28 p (some (iU x))) hs=some (decide (us=[]),hs++[.lst []]):=Qek (d:=94) t1 (by rw[Xu c,if_neg Xi];exact t2)
  by_cases c2:us=[]
  ·obtain⟨h1,e,z1⟩:=QiD (T:=tbG xx s) (cf:=Qa (tbG xx s) (n+1)) (d:=91) (y2:=some (iU x)) (z.app (o:=.lst [])) l
   refine⟨h1,_,?_,z1,.inr rfl,λy=>by simp⟩
   unfold k1;rw[QD,t3,Qj,if_pos (X3 c2)];exact e
  ·refine⟨hs++[.lst []],rs,?_,z.app,.inl rfl,λy w=>c2 (em.mpr w)⟩;unfold k1
   rw[QD,t3,Qj,if_neg (by simpa using c2),QP]
def QnZ(z:RW K hs p rs)(ne:¬x % 5=0->rs≠[])(l:∀ms∈rs,ms.length<=900):∃h1 rs1,ex (tbG xx s) (Qa (tbG xx s) (n+1)) 95 k2 (r28 p (some (iU x))) hs=some (.next,r28 p (some (iU x)),h1)/\RW K h1 p rs1/\(rs1=rs\/∃rs' ms m,rs=rs'++[ms]/\rs1=rs'++[ms++[m]]/\Mk m):=by
 have t1:evT (tbG xx s) (Qa (tbG xx s) (n+1)) 94 (.cmp .NotEq (.op .Mod Vc Wf) Wa) (r28 p (some (iU x))) hs=some (!decide (x % 5=0),hs):=Zj (d:=92) (YA (d:=90) (Qc rfl) (by decide)) y_c rfl
 unfold k2;rw[QD,t1,Qj];by_cases c:x % 5=0
 ·rw[X3 c,if_neg (by decide)]
  exact⟨hs,rs,QP,z,.inl rfl⟩
 ·rw[Xu c,if_pos (by rfl)]
  obtain⟨us,j,rs',ms,rfl,hp,hj,z1⟩:=z.put (ne c);obtain⟨m,hm,e⟩:=Qpe (xx:=xx) (s:=s) (n:=n) (x:=(x / 5 % 1000000000+7)*69621 % 2147483647) (hs:=hs);refine⟨_,_,Yv (d:=92) ?_,z1 m,.inr ⟨rs',ms,m,rfl,rfl,hm⟩⟩
  have vo:ev (tbG xx s) (Qa (tbG xx s) (n+1)) 91 (.ix Vb (.neg Wb)) (r28 p (some (iU x))) hs=some (.ref j,hs):=Qab (d:=90) (Qc rfl) (w:=.int (-1) 0) (h2:=hs) (by rw[QW,y_c,Qj]) (QbE hp)
  rw[Qo,ZS,vo,Qj,if_pos (Qjt hj),e_1 (Zx (d:=90) (e_1 (Qn3 (d:=83) rfl)) e),Qj,Qk2 hj (by rw[Xy];have:=l ms (by simp);lia)]
  rfl
def QmX{xs:List α}:(Y5 xs (some 3) (some 87)).length<=84:=by
 have e1:ZL xs.length 0 (some 3)=min 3 xs.length:=by simp only[ZL];rw[if_neg (by lia)];rfl
 have e2:ZL xs.length xs.length (some 87)=min 87 xs.length:=by simp only[ZL];rw[if_neg (by lia)];rfl
 unfold Y5;rw[e1,e2,Vy];lia
def Qpd(es:s=ns.map iU):Pc (tbG xx s) (n+2) 28 [.scr] h λu h1=>∃p us rs,u=.ref p/\h1[p]?=some (.lst us)/\Paired (RL h1) us rs/\rs.length<=84/\∀ms∈rs,Rg ms:=by
 obtain⟨cl,hc⟩:∃cl,cl=(Y5 ns (some 3) (some 87)):=⟨_,rfl⟩;have lc:cl.length<=84:=hc▸QmX;let K:Vp:=λi o=>h[i]?=some o\/(i=h.length+1/\o=.lst (cl.map iU))
 have sl:ev (tbG xx s) (Qa (tbG xx s) (n+1)) 97 (.sl Va (some Wd) (some (.c (.int 87 0)))) (r28 h.length none) (h++[.lst []])=some (.ref (h.length+1),h++[.lst []]++[.lst (cl.map iU)]):=by
  rw[QiA,Qc (d:=95) rfl,Qj];simp only[evO,y_c,Qj];show some (U.ref (h++[O.lst []]).length,h++[.lst []]++[.lst (Y5 s (some 3) (some 87))])=_;rw[es,Qh8,<-hc,X9];rfl
 have gt:∀{i:Nat} {o:O},h[i]?=some o->i<h.length:=λe=>(Xf.mp e).1
 have e2:(h++[O.lst []]++[.lst (cl.map iU)])[h.length+1]?=some (.lst (cl.map iU)):=by
  have:=last1 (h:=h++[O.lst []]) (o:=.lst (cl.map iU));rw[X9]at this;exact this
 have z0:RW K (h++[O.lst []]++[.lst (cl.map iU)]) h.length []:=⟨λi o k=>by
  rcases k with k|⟨rfl,rfl⟩
  ·exact Zf (Zf k)
  ·exact e2,λo k=>by
  rcases k with k|⟨e,_⟩
  ·exact absurd (gt k) (Wn _)
  ·lia,.inl ⟨rfl,Zf last1⟩⟩
 refine Pc.of (QaP (Qg fnL[28] rfl rfl) (QeL (d:=98) (Z3 y_lst (QgY (d:=97) (L:=cl.map iU) (λi Z hs=>∃rs y2,Z=r28 h.length y2/\RW K hs h.length rs/\rs.length<=i/\∀ms∈rs,ms.length<=i/\∀m∈ms,Mk m) sl (λi Z hs w=>by obtain⟨rs,y2,_,z,_⟩:=w;exact Zn (z.k _ _ (.inr ⟨rfl,rfl⟩))) ⟨[],none,rfl,z0,Xm _,λv m=>by cases m⟩ (λi x hx Z hs ⟨rs,y2,e,z,l,g⟩=>?_) λρ2 h2 ⟨rs,y2,e,z,l,g⟩=>?_))))
 ·subst e;obtain⟨y,_,rfl⟩:=Wp.mp (X7 hx)
  have li:i<84:=by
   have:=(Xf.mp hx).1;rw[Xy]at this;lia
  obtain⟨h1,rs1,e1,z1,w1,n1⟩:=Qn0 (xx:=xx) (s:=s) (n:=n) (x:=y) z (by lia)
  have g1:rs1.length<=i+1/\∀ms∈rs1,ms.length<=i/\∀m∈ms,Mk m:=by
   rcases w1 with rfl|rfl
   ·exact⟨by lia,g⟩
   ·refine⟨by simp;lia,λms m=>?_⟩
    rcases X5.mp m with m|m
    ·exact g ms m
    ·rw[Wu.mp m]
     exact⟨Vq _,λv m=>by cases m⟩
  obtain⟨h2,rs2,e2,z2,w2⟩:=QnZ (xx:=xx) (s:=s) (n:=n) (x:=y) z1 n1 λms m=>by have:=(g1.2 ms m).1;lia
  refine⟨r28 h.length (some (iU y)),r28 h.length (some (iU y)),h2,rfl,?_,rs2,some (iU y),rfl,z2,?_⟩
  ·show exs _ _ 97 [k1,k2] (r28 h.length (some (iU y))) hs=_;rw[Qby e1];exact Yv (d:=94) e2
  ·rcases w2 with rfl|⟨rs',ms,m,rfl,rfl,hm⟩
   ·exact⟨g1.1,λms m=>⟨Nat.le_succ_of_le (g1.2 ms m).1,(g1.2 ms m).2⟩⟩
   ·refine⟨by have:=g1.1;simp at this ⊢;exact this,λms' m'=>?_⟩
    rcases X5.mp m' with m'|m'
    ·have:=g1.2 ms' (Ut _ m');exact⟨Nat.le_succ_of_le this.1,this.2⟩
    ·rw[Wu.mp m'];have:=g1.2 ms (Xq _ (List.mem_singleton_self _))
     refine⟨by rw[X9];exact Nat.succ_le_succ this.1,λx mx=>?_⟩
     rcases X5.mp mx with mx|mx
     ·exact this.2 x mx
     ·rw[Wu.mp mx];exact hm
 ·subst e;rw[Xy]at l g;obtain⟨us,hp,pr⟩:=z.its
  refine Zk (d:=96) (Z3 (Qc rfl) ⟨λi o k=>z.k _ _ (.inl k),_,us,rs,rfl,hp,QB (λv v t=>by obtain⟨q,a,_,b⟩:=t;exact⟨q,a,b⟩) pr,by lia,λms m=>⟨by have:=(g ms m).1;lia,(g ms m).2⟩⟩)
end
section

def Qm5{lo:Int}{h0:Hs}{D:Hs->U->α->Prop}{xs:List α}(mo:∀g g' u x,Kp g g'->D g u x->D g' u x)(sr:Zy T (ev T cf d) Z src h0=some (.rng lo n,hs))(hn:xs.length=n)(hl:n<=900000)
  (st:∀(i:Nat) x,xs[i]?=some x->∀h,Kp hs h->∃v h2,ev T cf d el (Z++[sI (lo+i)]) h=some (v,h2)/\Kp h h2/\D h2 v x):
  ∃vs h2,ev T cf (d+1) (.comp src false none el) Z h0=some (.ref h2.length,h2++[.lst vs])/\Kp hs h2/\Paired (D h2) vs xs:=by
 obtain⟨vs,h2,a,b,c⟩:=Qia (T:=T) (Z:=Z) (f:=ev T cf d) (ft:=evT T cf d) (w:=.rng lo n) (bb:=false) (el:=el) (L:=xs.zipIdx) (im:=λp:α×Nat=>Im.one (.int (lo+p.2) 0)) (r:=λp:α×Nat=>Z++[sI (lo+p.2)]) (λp u h=>D h u p.1) (λp u h h' k z=>mo _ _ _ _ k z)
  (λi hs k=>by
   simp only[itm,List.getElem?_zipIdx,Vr];by_cases l:i<n
   ·have:xs[i]?=some xs[i]:=Xn (by lia)
    simp[l,this]
   ·have:xs[i]?=none:=by rw[Vv];lia
    simp[l,this]) (λx hs=>by simp only[tgN,Qcf,tgt,W9,Uv,QlZ])
  (λp mp hs k=>by
   obtain⟨i,hi⟩:=Ud mp;rw[List.getElem?_zipIdx,Vr]at hi
   cases q:xs[i]? with
   |none=>rw[q]at hi;cases hi
   |some x=>rw[q]at hi;cases hi;exact st i x q hs k) (n) 0 (n+1) [] hs (by rw[List.length_zipIdx];lia) (by lia) (by rw[List.length_zipIdx];lia) (Kp.refl _) .nil
 refine⟨vs,h2,QcL sr a,b,?_⟩
 have:∀{l:List U} {r:List (α×Nat)},Paired (λu p=>D h2 u p.1) l r->Paired (D h2) l (r.map (·.1)):=λh=>by
  induction h with
  |nil=>exact .nil
  |cons a _ ih=>exact .cons a ih
 have:=this c
 rwa [show xs.zipIdx.map (·.1)=xs from by simp]at this
end
section
variable {y3 y4:Option U}
def Qm4(hi:i<10 ^ 9):biU T .str [iU i] h=some (.str (Jw i),h):=by
 have lg:i.log2<1920:=by
  by_cases z:i=0
  ·rw[z];decide
  ·rw[Nat.log2_lt z]
   exact Xr hi (X1 (show 10 ^ 9<=2 ^ 40 by decide) (Nat.pow_le_pow_right (by decide) (by decide)))
 simp only[biU,Int.natAbs_natCast,Uo]
 rw[if_pos (by simp[lg])]
theorem QfM:∀{l:List (List Nat)},Qa1 (l.map U.str)=some l
 |[]=>rfl
 |m::r=>by simp only[Ws,Qa1,QfM (l:=r),Option.map]
theorem Qkk:∀{l:List (List Nat)},(∀m∈l,m.length<=4)->(l.map List.length).sum<=4*l.length
 |[],_=>Xm _
 |m::r,g=>by
  have:=g m Xh;have:=Qkk (l:=r) λx mx=>g x (Xg _ mx);simp only[Ws,List.sum_cons,X8];lia
noncomputable abbrev r29(i p q:Nat)(y3 y4:Option U):Rho:=[some (iU i),sR p,sR q,y3,y4]
def QiL(g:Rg ms)(hu:hs[p]?=some (.lst (ms.map U.str))){i' p' q':Nat}:∃h1,ev T cf 92 (.bm .join (.c (.str [32])) [(.comp (.rng (.bi .len [Vd])) false none (.ix Vd (.op .Sub (.op .Sub (.bi .len [Vd]) Wb) Vf)))]) (r29 i' p' q' (sR p) y4) hs=some (.str (ZI [32] ms.reverse),h1)/\Kp hs h1:=by
 have l:=g.1
 have vl:∀d (g:Hs) (r:Rho),Kp hs g->ev T cf (d+2) (.bi .len [Vd]) (r29 i' p' q' (sR p) y4++r) g=some (iU ms.length,g):=λd g r k=>by
  have:=QcI (T:=T) (cf:=cf) (d:=d+1) (Qc (i:=3) (Z:=r29 i' p' q' (sR p) y4++r) rfl) (k _ _ hu);rw[Xy]at this;exact this
 have sr:Zy T (ev T cf 90) (r29 i' p' q' (sR p) y4) (.rng (.bi .len [Vd])) hs=some (.rng 0 ms.length,hs):=QiJ (by have:=vl 88 hs [] (Kp.refl _);rw[Wj]at this;exact this) (by lia)
 obtain⟨vs,h2,e,k,pr⟩:=Qm5 (T:=T) (cf:=cf) (D:=λy u m=>u=.str m) (xs:=ms.reverse) (λy y y y y z=>z) sr (by rw[Wx]) (by lia) (el:=.ix Vd (.op .Sub (.op .Sub (.bi .len [Vd]) Wb) Vf)) λk m hk g kp=>by
  have lk:k<ms.length:=by
   have:=(Xf.mp hk).1;rwa [Wx]at this
  have em:(ms.map U.str)[ms.length-1-k]?=sS m:=by
   rw[List.getElem?_reverse lk]at hk;rw[Vm,hk];rfl
  refine⟨_,g,Qab (d:=89) (Qc (i:=3) rfl) (Yl (d:=88) (Yl (d:=87) (vl 85 g _ kp) y_c Qht) (Qc (i:=5) rfl) Qht) ?_,Kp.refl _,rfl⟩
  have:((ms.length:Int) - 1-(0+k))=((ms.length-1-k:Nat):Int):=by lia
  show Q5 T (.ref p) (.int ((ms.length:Int) - 1-(0+k)) 0) g=_;rw[this];exact QgD (kp _ _ hu) em
 cases Qdc (g:=U.str) pr;refine⟨h2++[.lst (ms.reverse.map U.str)],?_,k.trans kp1⟩;rw[ZS,y_c,Qj,if_pos (show QcA .join (.str [32]) hs=true from rfl),e_1 e,Qj];show bmS T .join [32] [.ref h2.length] _=_;have sl:=Qkk (l:=ms.reverse) λm mm=>(g.2 m (Vj.mp mm)).len.2;rw[Wx]at sl
 have small:ms.reverse.length*[32].length+(ms.reverse.map List.length).sum<=1000000:=by
  rw[Wx,To];lia
 simp only[bmS,Zn last1,QfM,small,Wt]
def Qpc(hi:i<10 ^ 9)(hp:h[p]?=some (.lst us))(pr:Paired (RL h) us rs)(lr:rs.length<=84)(g:∀ms∈rs,Rg ms):Pc (tbG xx s) (n+1) 29 [iU i,.ref p] h λu h1=>∃q,u=.ref q/\h1[q]?=some (.lst ((chT i rs).map U.str)):=by
 have e0:ev (tbG xx s) (Qa (tbG xx s) n) 98 (.lst [(.op .Add (.c (.str [99,97,115,116,32])) (.bi .str [Va]))]) [some (iU i),sR p,none,none,none] h=some (.ref h.length,h++[.lst [.str (QQ i)]]):=by
  have l:=Yi 8 i hi
  rw[y_lst,e_1 (Yl (d:=96) y_c (Qej (d:=95) (Qc rfl) (Qm4 hi)) (Ye (by simp only[X8,W2];lia))),Qj]
  rfl
 have lu:=YX pr;refine Pc.of (QaP (Qg fnL[29] rfl rfl) (QeL (d:=98) (Z3 e0 (QgY (d:=97) (L:=us) (λk Z hs=>Kp h hs/\∃q y3 y4,Z=r29 i p q y3 y4/\hs[q]?=some (.lst ((chT i (rs.take k)).map U.str))) (Qc rfl) (λk Z hs z=>Zn (z.1 _ _ hp)) ⟨kp1,_,none,none,rfl,last1⟩ (λk x hx Z hs ⟨kp,q,y3,y4,e,hq⟩=>?_) λρ2 h2 ⟨kp,q,y3,y4,e,hq⟩=>?_))))
 ·subst e;obtain⟨ms,hm,j,rfl,hj⟩:=Jo pr hx;have gm:=g ms (X7 hm);have lk:=(Xf.mp hm).1
  obtain⟨h1,e1,k1⟩:∃h1,exs (tbG xx s) (Qa (tbG xx s) n) 97 [(.set 4 (.c (.str [45]))),(.ite (.cmp .NotEq Vd (.lst [])) [(.set 4 (.bm .join (.c (.str [32])) [(.comp (.rng (.bi .len [Vd])) false none (.ix Vd (.op .Sub (.op .Sub (.bi .len [Vd]) Wb) Vf)))]))] []),(.set 2 (.op .Add (.lst [Ve]) Vc))] (r29 i p q (sR j) y4) hs=exs (tbG xx s) (Qa (tbG xx s) n) 95 [(.set 2 (.op .Add (.lst [Ve]) Vc))] (r29 i p q (sR j) (some (.str (ZF ms)))) h1/\Kp hs h1:=by
   have en:evT (tbG xx s) (Qa (tbG xx s) n) 94 (.cmp .NotEq Vd (.lst [])) (r29 i p q (sR j) (some (.str [45]))) hs=some (!decide (ms.map U.str=[]),hs++[.lst []]):=Zj (d:=92) (Qc rfl) y_lst (by
    show(eqA _ (.ref j) _ _).map _=_
    rw[QdR (kp1 _ _ (kp _ _ hj)) last1];rfl)
   have sm:ms.map U.str=[]↔ms=[]:=List.map_eq_nil_iff;rw[QhA (d:=95) y_c];by_cases c:ms=[]
   ·refine⟨hs++[.lst []],?_,kp1⟩
    exact(Qby (d:=95) (ZY (d:=93) en (by rw[X3 (sm.mpr c)];rfl))).trans (by rw[c];rfl)
   ·obtain⟨h2,e2,k2⟩:=QiL (T:=tbG xx s) (cf:=Qa (tbG xx s) n) (y4:=some (.str [45])) (i':=i) (p':=p) (q':=q) gm (kp1 (o:=.lst []) _ _ (kp _ _ hj));refine⟨h2,?_,kp1.trans k2⟩
    have ee:ex (tbG xx s) (Qa (tbG xx s) n) 95 (.ite (.cmp .NotEq Vd (.lst [])) [(.set 4 (.bm .join (.c (.str [32])) [(.comp (.rng (.bi .len [Vd])) false none (.ix Vd (.op .Sub (.op .Sub (.bi .len [Vd]) Wb) Vf)))]))] []) (r29 i p q (sR j) (some (.str [45]))) hs=some (.next,r29 i p q (sR j) (some (.str (ZF ms))),h2):=by
     rw[QD,en,Qj,Xu (λz=>c (sm.mp z)),if_pos (by rfl)]
     refine Yv (d:=92) ?_;rw[Zh (d:=92) e2];unfold ZF;rw[if_neg c];rfl
    exact Qby (d:=95) ee
  have hq1:=k1 _ _ hq
  have tk:(chT i (rs.take (k+1))).map U.str=.str (ZF ms)::(chT i (rs.take k)).map U.str:=by
   unfold chT;rw[Um,hm];simp
  have lc:(chT i (rs.take k)).length<=900:=by
   unfold chT;simp;lia
  have a1:opU .Add (.ref h1.length) (.ref q) (h1++[.lst [.str (ZF ms)]])=some (.ref (h1++[O.lst [.str (ZF ms)]]).length,h1++[.lst [.str (ZF ms)]]++[.lst ([.str (ZF ms)]++(chT i (rs.take k)).map U.str)]):=QaX last1 (kp1 _ _ hq1) (by rw[Xy,To];lia)
  have v1:=Yl (d:=92) (o:=.Add) (show ev (tbG xx s) (Qa (tbG xx s) n) 92 (.lst [Ve]) (r29 i p q (sR j) (some (.str (ZF ms)))) h1=some (.ref h1.length,h1++[.lst [.str (ZF ms)]])from y_lst.trans (by rw[e_1 (Qc rfl),Qj])) (Qc (i:=2) rfl) a1
  refine⟨r29 i p q (sR j) y4,_,_,rfl,e1.trans (Yv (d:=93) (Zh (d:=93) v1)),kp.trans (k1.trans (kp1.trans kp1)),_,sR j,some (.str (ZF ms)),rfl,?_⟩;rw[tk];exact last1
 ·subst e;rw[lu,List.take_length]at hq;exact Zk (d:=96) (Z3 (Qc rfl) ⟨kp,q,rfl,hq⟩)
end
def NS(u:U)(h:Hs):Prop:=∀(T:Tbl) (g:Hs),Kp h g->Z4 T .str u g=some false
noncomputable def brB(t:List Nat):Bool:=(t != [45]&&decide (t.length<=900))&&((Qx 32 t).all (λp=>p==[107]||p==[112]||badL.contains p)&&(Qx 32 t).any λp=>badL.contains p)
def Qm8(h:brB t=true):QfB t:=by
 unfold brB at h;simp only[Xe,bne_iff_ne,Xw,Xs,List.any_eq_true,U5,Wm,W8]at h;obtain⟨⟨a,b⟩,c,d⟩:=h;refine⟨a,b,λp m=>?_,d⟩
 rcases c p m with(rfl|rfl)|z
 ·exact .inl (.bare (by decide))
 ·exact .inl (.bare (by decide))
 ·exact .inr z
noncomputable def rowL:List (List Nat):=[[],[32],[45,45],[45,32,45],[107,32,45],[45,32,107],[107,32,32,112],[32,107],[107,32],[75],[107,112],[107,44,112],[99,97,115,116,32,51],[107,50],[107,49,114],[107,53,108],[99,48,102,49],[99,49,102,53],[99,50,114,49],[112,120,49],[112,120,53],[104,118],[102]]
noncomputable def cstL:List (List Nat):=[[99,97,115,116],[99,97,115,116,32],[99,97,115,116,32,48,49],[99,97,115,116,32,48,48],[99,97,115,116,32,45,49],[99,97,115,116,32,43,49],[99,97,115,116,32,49,50,51,52,53,54,55,56,57,48],[99,97,115,116,32,49,32],[99,97,115,116,32,32,49],[67,97,115,116,32,49],[99,97,115,116,32,97],[51],[99,97,115,116,32,49,95,48]]
def QgT:∀t∈rowL,QfB t:=λt m=>Qm8 (Xs.mp (show rowL.all brB=true by decide +kernel) t m)
def Qh9:∀t∈cstL,t.length<=900/\Yr t=.non:=λt m=>by
 have:=Xs.mp (show(cstL.all λt=>decide (t.length<=900)&&(match Yr t with|.non=>true|_=>false))=true by decide +kernel) t m
 rw[Xe,Xw]at this;refine⟨this.1,?_⟩
 cases e:Yr t<;>first|rfl|(rw[e]at this;exact absurd this.2 Xi)
def NR(u:U)(h:Hs):Prop:=(∃t,u=.str t/\QfB t)\/NS u h
def NC(u:U)(h:Hs):Prop:=(∃t,u=.str t/\t.length<=900/\Yr t=.non)\/NS u h
section

def Qf2:NS .non h:=λz z z=>rfl
def Qf3{i:Int}:NS (iU i) h:=λz z z=>rfl
def Qj6(hp:h[p]?=some (.lst us)):NS (.ref p) h:=λT g k=>by
 unfold Z4 YE YD;simp only[k _ _ hp];rfl
theorem QdL:∀{us:List U} {es:List E} {vs:List U},evs (ev T cf (d+1)) Z es h=some (vs,h1)->evs (ev T cf (d+1)) Z (us.map E.c++es) h=some (us++vs,h1)
 |[],_,_,e=>e
 |u::us,es,vs,e=>by
  show evs _ _ (.c u::(us.map E.c++es)) h=_;rw[evs,y_c,Qj,QdL e,Qj];rfl
def QmR{us:List U}:evs (ev T cf (d+1)) Z (us.map E.c) h=some (us,h):=by
 have:=QdL (T:=T) (cf:=cf) (d:=d) (Z:=Z) (h:=h) (us:=us) (es:=[]) (vs:=[]) (by rw[evs])
 rwa [Wj,Wj]at this
def QbA{us:List U}:ev T cf (d+2) (.lst (us.map E.c)) Z h=some (.ref h.length,h++[.lst us]):=by rw[y_lst,QmR,Qj]
def Qf7(lk:us.length=k)(k0:0<k)(hp:h[p]?=some (.lst us))(hi:Z[0]?=some (some (iU x)))(hj:Z[1]?=some (sR p)):∃u∈us,ev T cf (d+4) (.ix Vb (.op .Mod Va (.c (.int k 0)))) Z h=some (u,h):=by
 have m1:=V7 x (show(k:Int)≠0 by lia)
 have m2:=Vu x (show(0:Int) < k by lia)
 obtain⟨j,hj'⟩:∃j:Nat,x % (k:Int)=j:=⟨(x % (k:Int)).toNat,by lia⟩
 have lj:j<us.length:=by lia
 refine⟨us[j],Uf lj,Qab (d:=d+3) (Qc hj) (YA (d:=d+1) (Qc hi) (by lia)) ?_⟩
 rw[hj'];exact QgD hp (Xn lj)
def Qpb:Pc (tbG xx s) (n+1) 30 [iU x] hs NR:=by
 let A:List U:=(rowL.take 16).map .str;let B:List U:=(rowL.drop 16).map U.str++[.non,.int 3 0];have e1:ev (tbG xx s) (Qa (tbG xx s) n) 98 (.lst (A.map E.c)) [some (iU x),none] hs=some (.ref hs.length,hs++[.lst A]):=QbA
 have e2:ev (tbG xx s) (Qa (tbG xx s) n) 96 (.lst (B.map E.c++[.lst ([U.str [107]].map E.c)])) [some (iU x),sR hs.length] (hs++[.lst A])=some (.ref (hs++[O.lst A]++[O.lst [U.str [107]]]).length,hs++[.lst A]++[.lst [.str [107]]]++[.lst (B++[.ref (hs++[O.lst A]).length])]):=by
  rw[y_lst,QdL (d:=94) (e_1 (QbA (d:=93))),Qj]
 have K1:Kp (hs++[.lst A]) (hs++[.lst A]++[.lst [.str [107]]]++[.lst (B++[.ref (hs++[O.lst A]).length])]):=kp1.trans kp1
 have e3:=Yl (TT:=tbG xx s) (cf:=Qa (tbG xx s) n) (d:=96) (o:=.Add) (Z:=[some (iU x),sR hs.length]) (Qc (i:=1) rfl) e2 (show opU .Add (.ref hs.length) _ _=_ from QaX (K1 _ _ last1) last1 (show 26<=1000000 by decide))
 obtain⟨u,mu,e4⟩:=Qf7 (T:=tbG xx s) (cf:=Qa (tbG xx s) n) (d:=92) (x:=x) (k:=26) (Z:=[some (iU x),some (.ref (hs++[O.lst A]++[O.lst [U.str [107]]]++[O.lst (B++[.ref (hs++[O.lst A]).length])]).length)]) rfl (by decide) (last1 (h:=hs++[.lst A]++[.lst [.str [107]]]++[.lst (B++[.ref (hs++[O.lst A]).length])]) (o:=.lst (A++(B++[.ref (hs++[O.lst A]).length])))) rfl rfl
 refine Pc.of (QaP (Qg fnL[30] rfl rfl) (ZH (d:=99) (Zh (d:=98) e1) (ZH (d:=98) (Zh (d:=97) e3) (Zk (d:=96) (Z3 e4 ⟨kp1.trans (K1.trans kp1),?_⟩)))))
 have cases:(∃t∈rowL,u=.str t)\/u=.non\/u=.int 3 0\/u=.ref (hs++[O.lst A]).length:=by
  rcases X5.mp mu with m|m
  ·obtain⟨t,mt,rfl⟩:=Wp.mp m;exact .inl ⟨t,Ux mt,rfl⟩
  ·rcases X5.mp m with m|m
   ·rcases X5.mp m with m|m
    ·obtain⟨t,mt,rfl⟩:=Wp.mp m;exact .inl ⟨t,Tx mt,rfl⟩
    ·simp only[Xo,X6,W6]at m
     rcases m with rfl|rfl
     ·exact .inr (.inl rfl)
     ·exact .inr (.inr (.inl rfl))
   ·exact .inr (.inr (.inr (Wu.mp m)))
 rcases cases with⟨t,mt,rfl⟩|rfl|rfl|rfl
 ·exact .inl ⟨t,rfl,QgT t mt⟩
 ·exact .inr Qf2
 ·exact .inr Qf3
 ·exact .inr (Qj6 (us:=[.str [107]]) ((kp1.trans kp1) _ _ last1))
def Qpa:Pc (tbG xx s) (n+1) 31 [iU x] hs NC:=by
 let A:List U:=(cstL.take 9).map .str;let B:List U:=[.str [67,97,115,116,32,49],.str [99,97,115,116,32,97],.str [51],.non,.int 3 0,.str [99,97,115,116,32,49,95,48]];have e1:ev (tbG xx s) (Qa (tbG xx s) n) 98 (.lst (A.map E.c)) [some (iU x),none] hs=some (.ref hs.length,hs++[.lst A]):=QbA;have e2:ev (tbG xx s) (Qa (tbG xx s) n) 96 (.lst (B.map E.c)) [some (iU x),sR hs.length] (hs++[.lst A])=some (.ref (hs++[O.lst A]).length,hs++[.lst A]++[.lst B]):=QbA
 have e3:=Yl (TT:=tbG xx s) (cf:=Qa (tbG xx s) n) (d:=96) (o:=.Add) (Z:=[some (iU x),sR hs.length]) (Qc (i:=1) rfl) e2 (show opU .Add (.ref hs.length) _ _=_ from QaX (Zf last1) last1 (by decide))
 obtain⟨u,mu,e4⟩:=Qf7 (T:=tbG xx s) (cf:=Qa (tbG xx s) n) (d:=92) (x:=x) (k:=15) (Z:=[some (iU x),some (.ref (hs++[O.lst A]++[O.lst B]).length)]) rfl (by decide) (last1 (h:=hs++[.lst A]++[.lst B]) (o:=.lst (A++B))) rfl rfl
 refine Pc.of (QaP (Qg fnL[31] rfl rfl) (ZH (d:=99) (Zh (d:=98) e1) (ZH (d:=98) (Zh (d:=97) e3) (Zk (d:=96) (Z3 e4 ⟨kp1.trans (kp1.trans kp1),?_⟩)))))
 have cases:(∃t∈cstL,u=.str t)\/u=.non\/u=.int 3 0:=by
  rcases X5.mp mu with m|m
  ·obtain⟨t,mt,rfl⟩:=Wp.mp m;exact .inl ⟨t,Ux mt,rfl⟩
  ·simp only[B,Xo,X6,W6]at m
   rcases m with rfl|rfl|rfl|rfl|rfl|rfl
   ·exact .inl ⟨_,by decide,rfl⟩
   ·exact .inl ⟨_,by decide,rfl⟩
   ·exact .inl ⟨_,by decide,rfl⟩
   ·exact .inr (.inl rfl)
   ·exact .inr (.inr rfl)
   ·exact .inl ⟨_,by decide,rfl⟩
 rcases cases with⟨t,mt,rfl⟩|rfl|rfl
 ·exact .inl ⟨t,rfl,Qh9 t mt⟩
 ·exact .inr Qf2
 ·exact .inr Qf3
end
def Bad(s:List U)(u:U)(h:Hs):Prop:=∀(xx x2 x1 x0:Nat->List U->Hs->Option (Er×Hs)) (n m2 m1 m0:Nat),xx=QN (tbG x2 s) (m2+6)->x2=QN (tbG x1 s) (m1+5)->x1=QN (tbG x0 s) (m0+4)->Zc erC (tbG xx s) (n+7) 22 [u] h
section
variable {zs:List U}
def QaW(e:∀T,Z4 T .list u h=some false):Bad s u h:=λz z z z z z z z z z z=>Qgp (Qn5 (e _)) (Kp.refl _)
def Qgj(hp:h[p]?=some (.lst [])):Bad s (.ref p) h:=λz z z z z z z z z z z=>Qgp (Qn7 hp) (Kp.refl _)
noncomputable def isS:U->Bool
 |.str _=>true
 |_=>false
def Qgi(hp:h[p]?=some (.lst (xs++u::ys)))(l:(xs++u::ys).length<=1000)(hu:NS u h)(a:∀x∈xs++ys,∃t,x=.str t):Bad s (.ref p) h:=λxx y y y n y y y y y y=>by
 obtain⟨zs,z,e⟩:∃zs z,xs++u::ys=zs++[z]:=⟨_,_,(List.dropLast_concat_getLast (by simp)).symm⟩
 have nu:isS u=false:=by
  cases u<;>first|rfl|(have:=hu (tbG xx s) h (Kp.refl _);cases this)
 rw[e]at hp l
 obtain⟨h1,t1,k1⟩:=Qlj (T:=tbG xx s) (cf:=Qa (tbG xx s) (n+6)) (f:=isS) hp l (λx mx g k=>by
  rw[<-e]at mx
  have:(∃t,x=.str t)\/x=u:=by
   rcases X5.mp mx with m|m
   ·exact .inl (a x (Ut _ m))
   ·rcases Xo.mp m with m|m
    ·exact .inr m
    ·exact .inl (a x (Xq _ m))
  rcases this with⟨t,rfl⟩|rfl
  ·rfl
  ·rw[nu];exact hu _ g k)
 have al:(zs++[z]).all isS=false:=by
  rw[<-e,List.all_append,Vx,nu,Bool.false_and,Bool.and_false]
 rw[al]at t1;exact Qgp t1 k1
def QkY(hp:h[p]?=some (.lst ((ts++[t]).map .str)))(l:ts.length<=900)(lt:t.length<=900)(hv:Yr t=.non):Bad s (.ref p) h:=λz z z z z m2 z z hx z z=>QlE (m:=m2+4) hp l lt hv hx
def Qnb(hp:h[p]?=some (.lst ((ts++[QQ i]).map .str)))(hi:i<10 ^ 9)(l:ts.length<=900)(b:∀t∈ts,(∃ms,Rg ms/\t=ZF ms)\/QfB t)(b1:∃t∈ts,QfB t):Bad s (.ref p) h:=λz z z z z z z z hx hx2 hx1=>QlD hp hi l b b1 hx hx2 hx1
def Qo9(hp:h[p]?=some (.lst us)):Pc (tbG xx s) (n+1) 32 [.ref p,iU x] h (Bad s):=by
 have m1:=V7 x (show(6:Int)≠0 by decide)
 have m2:=Vu x (show(0:Int) < 6 by decide)
 obtain⟨j,hj⟩:∃j:Nat,x % 6=j:=⟨(x % 6).toNat,by lia⟩
 let L:List U:=[.non,.str [99,97,115,116,32,51],.ref h.length,.ref (h++[O.tup us]).length,.ref (h++[O.tup us]++[O.dic []]).length,.int 7 0]
 have e1:ev (tbG xx s) (Qa (tbG xx s) n) 98 (.lst [(.c .non),(.c (.str [99,97,115,116,32,51])),(.bi .tuple [Va]),.dnew,(.lst []),(.c (.int 7 0))]) [sR p,some (iU x),none] h=some (.ref (h++[O.tup us]++[O.dic []]++[O.lst []]).length,h++[.tup us]++[.dic []]++[.lst []]++[.lst L]):=by
  have tp:ev (tbG xx s) (Qa (tbG xx s) n) 97 (.bi .tuple [Va]) [sR p,some (iU x),none] h=some (.ref h.length,h++[.tup us]):=Qej (d:=96) (Qc rfl) (QlJ hp);rw[y_lst];simp only[evs,y_c,Qj,tp]
  rw[show ev (tbG xx s) (Qa (tbG xx s) n) 97 .dnew [sR p,some (iU x),none] (h++[.tup us])=some (.ref (h++[O.tup us]).length,h++[.tup us]++[.dic []])from by rw[ev],Qj,y_lst]
  simp only[evs,Qj];rfl
 have K:Kp (h++[O.tup us]++[O.dic []]++[O.lst []]) (h++[.tup us]++[.dic []]++[.lst []]++[.lst L]):=kp1
 have lj:j<L.length:=by show j<6;lia
 have e2:ev (tbG xx s) (Qa (tbG xx s) n) 97 (.ix Vc (.op .Mod Vb (.c (.int 6 0)))) [sR p,some (iU x),some (.ref (h++[O.tup us]++[O.dic []]++[O.lst []]).length)] (h++[.tup us]++[.dic []]++[.lst []]++[.lst L])=some (L[j],h++[.tup us]++[.dic []]++[.lst []]++[.lst L]):=Qab (d:=96) (Qc rfl) (YA (d:=94) (Qc rfl) (by decide)) (by rw[hj];exact QgD last1 (Xn lj))
 have kk:Kp h (h++[.tup us]++[.dic []]++[.lst []]++[.lst L]):=(kp1.trans kp1).trans (kp1.trans kp1);refine Pc.of (QaP (Qg fnL[32] rfl rfl) (ZH (d:=99) (Zh (d:=98) e1) (Zk (d:=97) (Z3 e2 ⟨kk,?_⟩))))
 have:j=0\/j=1\/j=2\/j=3\/j=4\/j=5:=by have:j<6:=lj;lia
 clear e2
 rcases this with rfl|rfl|rfl|rfl|rfl|rfl
 ·exact QaW λz=>rfl
 ·exact QaW λz=>rfl
 ·refine QaW λT=>?_;have:(h++[.tup us]++[.dic []]++[.lst []]++[.lst L])[h.length]?=some (.tup us):=K _ _ (Zf (Zf last1));show Z4 T .list (.ref h.length) _=_;unfold Z4 YE YD;simp only[this];rfl
 ·refine QaW λT=>?_;have:(h++[.tup us]++[.dic []]++[.lst []]++[.lst L])[(h++[O.tup us]).length]?=some (.dic []):=K _ _ (Zf last1);show Z4 T .list (.ref (h++[O.tup us]).length) _=_;unfold Z4 YE YD;simp only[this];rfl
 ·exact Qgj (p:=(h++[O.tup us]++[O.dic []]).length) (K _ _ last1)
 ·exact QaW λz=>rfl
end
section
variable {w:Int}
def QlG(hp:h[p]?=some (.lst us))(hi:Z[0]?=some (sR p))(hj:Z[3]?=some (sN k)):ev T cf (d+3) (.sl Va none (some Vd)) Z h=some (.ref h.length,h++[.lst (us.take k)]):=by
 rw[QiA,Qc hi,Qj];simp only[evO,Qc hj,Qj]
 rw[QlX hp,Qh7 (by lia)];rfl
def QlH(hp:h[p]?=some (.lst us))(hi:Z[0]?=some (sR p))(hj:Z[3]?=some (sN k)):ev T cf (d+3) (.sl Va (some (.op .Add Vd Wb)) none) Z h=some (.ref h.length,h++[.lst (us.drop (k+1))]):=by
 rw[QiA,Qc hi,Qj];simp only[evO,Yl (Qc hj) y_c Qj5,Qj]
 rw[QlX hp,QkO (by lia)];rfl
def QfF(a:ev T cf d e Z h=some (u,h1)):ev T cf (d+1) (.lst [e]) Z h=some (.ref h1.length,h1++[.lst [u]]):=y_lst.trans (by rw[e_1 a,Qj])
def Qm2:(chT i rs).map U.str=((rs.map ZF).reverse.map U.str)++[U.str (QQ i)]:=by
 unfold chT;rw[W7];rfl
def QfQ(g:∀ms∈rs,Rg ms)(m:t∈(rs.map ZF).reverse):∃ms,Rg ms/\t=ZF ms:=by
 obtain⟨ms,mm,rfl⟩:=Wp.mp (Vj.mp m);exact⟨ms,g ms mm,rfl⟩
def Qbx{ts:List (List Nat)}:∀x∈ts.map U.str,∃t,x=.str t:=λx m=>by obtain⟨t,_,e⟩:=Wp.mp m;exact⟨t,e.symm⟩
def Qo8(hp:h[p]?=some (.lst ((chT i rs).map .str)))(hi:i<10 ^ 9)(lr:rs.length<=84)(g:∀ms∈rs,Rg ms):Pc (tbG xx s) (n+2) 33 [.ref p,iU w,iU x] h (Bad s):=by
 obtain⟨ts,ets⟩:∃ts,ts=(rs.map ZF).reverse:=⟨_,rfl⟩
 have lts:ts.length=rs.length:=by rw[ets,Wx,Xy]
 have ro:∀t∈ts,∃ms,Rg ms/\t=ZF ms:=λt m=>QfQ g (ets▸m);rw[Qm2,<-ets]at hp
 have lus:(ts.map U.str++[U.str (QQ i)]).length=rs.length+1:=by rw[X9,Xy,lts];rfl
 have tt:∀{c:Int},evT (tbG xx s) (Qa (tbG xx s) (n+1)) 97 (.cmp .Eq (.op .Mod Vb (.c (.int 6 0))) (.c (.int c 0))) [sR p,some (iU w),some (iU x),none] h=some (decide (w % 6=c),h):=λ{c}=>Qli (d:=95) (YA (d:=93) (Qc rfl) (by decide)) y_c
 have tt8:∀{c:Int},evT (tbG xx s) (Qa (tbG xx s) (n+1)) 98 (.cmp .Eq (.op .Mod Vb (.c (.int 6 0))) (.c (.int c 0))) [sR p,some (iU w),some (iU x),none] h=some (decide (w % 6=c),h):=λ{c}=>Qli (d:=96) (YA (d:=94) (Qc rfl) (by decide)) y_c
 suffices z:Xx (tbG xx s) (Qa (tbG xx s) (n+1)) 100 b33 [sR p,some (iU w),some (iU x),none] h (Fq λu h1=>Kp h h1/\Bad s u h1)from Pc.of (QaP (Qg fnL[33] rfl rfl) z)
 refine QfT (d:=98) tt8 ?_;by_cases c0:w % 6=0
 ·rw[if_pos (X3 c0)];refine Zk (d:=96) (Z3 (QiK (d:=93) hp rfl) ⟨kp1,?_⟩)
  rcases List.eq_nil_or_concat ts with e|⟨ts',t,e⟩
  ·rw[e];exact Qgj last1
  ·rw[List.concat_eq_append]at e
   obtain⟨ms,gm,rfl⟩:=ro t (by rw[e];simp)
   have lt:=congrArg List.length e;rw[X9]at lt
   refine QkY (ts:=ts') (t:=ZF ms) (by rw[e];exact last1) (by lia) (X1 (Qc5 gm.2 gm.1) (by decide)) (if_neg (Qjq gm.2))
 rw[if_neg (by simpa using c0)]
 refine JJ (d:=97) (QfT (d:=97) tt ?_);by_cases c1:w % 6=1
 ·rw[if_pos (X3 c1)];obtain⟨u,h1,e,k,b⟩:=Qo9 (xx:=xx) (s:=s) (n:=n) (x:=x) hp;exact Zk (d:=95) (Z3 (Zx (d:=94) (e_2 (Qc rfl) (Qc rfl)) e) ⟨k,b⟩)
 rw[if_neg (by simpa using c1)]
 have t3:evT (tbG xx s) (Qa (tbG xx s) (n+1)) 96 (.and (.cmp .Lt (.op .Mod Vb (.c (.int 6 0))) We) (.cmp .Gt (.bi .len [Va]) Wb)) [sR p,some (iU w),some (iU x),none] h=some (decide (w % 6<4/\(1:Int) < (ts.map U.str++[U.str (QQ i)]).length),h):=QiZ (d:=95) (Zj (d:=93) (YA (d:=91) (Qc rfl) (by decide)) y_c rfl) (Qn6 (d:=93) (QcI (d:=92) (Qc rfl) hp) y_c)
 refine JJ (d:=96) (QfT (d:=96) t3 ?_);by_cases c2:w % 6<4/\(1:Int) < (ts.map U.str++[U.str (QQ i)]).length
 ·rw[if_pos (X3 c2)]
  have l1:0<rs.length:=by have:=c2.2;rw[lus]at this;lia
  obtain⟨k,hk,lk⟩:∃k:Nat,w / 6 % ((ts.map U.str++[U.str (QQ i)]).length-1:Int)=k/\k<rs.length:=by
   rw[lus]
   have e:((rs.length+1:Nat):Int) - 1=(rs.length:Int):=by lia
   rw[e]
   have m1:=V7 (w / 6) (show(rs.length:Int)≠0 by lia)
   have m2:=Vu (w / 6) (show(0:Int) < rs.length by lia)
   exact⟨(w / 6 % (rs.length:Int)).toNat,by lia,by lia⟩
  have v3:ev (tbG xx s) (Qa (tbG xx s) (n+1)) 94 (.op .Mod (.op .FloorDiv Vb (.c (.int 6 0))) (.op .Sub (.bi .len [Va]) Wb)) [sR p,some (iU w),some (iU x),none] h=some (iU k,h):=by
   rw[<-hk]
   exact Yl (d:=93) (QcJ (d:=91) (Qc rfl) (by decide)) (Yl (d:=92) (QcI (d:=91) (Qc rfl) hp) y_c Qht) (Qhu (by rw[lus];lia))
  refine QeL (d:=94) (Z3 v3 ?_);obtain⟨u,h2,e,k2,b⟩:=Qpb (xx:=xx) (s:=s) (n:=n) (x:=x) (hs:=h++[.lst ((ts.map U.str++[U.str (QQ i)]).take k)]);have K:=kp1.trans k2;have s1:=QlG (T:=tbG xx s) (cf:=Qa (tbG xx s) (n+1)) (d:=88) (Z:=[sR p,some (iU w),some (iU x),some (iU k)]) hp rfl rfl
  have a1:=Yl (d:=91) (o:=.Add) s1 (QfF (d:=90) (Zx (d:=89) (e_1 (Qc (i:=2) rfl)) e)) (show opU .Add (.ref h.length) (.ref h2.length) _=_ from QaX (kp1 _ _ (k2 _ _ last1)) last1 (by rw[Vy];simp only[X8,W2];lia))
  have a2:=Yl (d:=92) (o:=.Add) a1 (QlH (d:=89) (k:=k) (K.trans (kp1.trans kp1) _ _ hp) rfl rfl) (show opU .Add _ _ _=_ from QaX (kp1 _ _ last1) last1 (by simp only[X9,Vy,Th,X8,W2,Xy];lia))
  refine Zk (d:=93) (Z3 a2 ⟨(K.trans (kp1.trans kp1)).trans (kp1.trans kp1),?_⟩)
  have k0:k<ts.length:=by lia
  have ek:(ts.map U.str++[U.str (QQ i)]).take k=(ts.take k).map U.str:=by
   rw[List.take_append_of_le_length (by rw[Xy];lia),List.map_take]
  have ed:(ts.map U.str++[U.str (QQ i)]).drop (k+1)=(ts.drop (k+1)).map U.str++[U.str (QQ i)]:=by
   rw[List.drop_append_of_le_length (by rw[Xy];lia),List.map_drop]
  have lst:=last1 (h:=h2++[.lst [u]]++[.lst ((ts.map U.str++[U.str (QQ i)]).take k++[u])]++[.lst ((ts.map U.str++[U.str (QQ i)]).drop (k+1))]) (o:=.lst ((ts.map U.str++[U.str (QQ i)]).take k++[u]++(ts.map U.str++[U.str (QQ i)]).drop (k+1)))
  have e3:(ts.map U.str++[U.str (QQ i)]).take k++[u]++(ts.map U.str++[U.str (QQ i)]).drop (k+1)=(ts.take k).map U.str++u::((ts.drop (k+1)).map U.str++[U.str (QQ i)]):=by
   rw[ek,ed];simp
  rcases b with⟨t,rfl,bt⟩|nu
  ·refine Qnb (ts:=ts.take k++t::ts.drop (k+1)) (i:=i) (last1.trans ?_) hi (by simp;lia) (λy m=>?_) ⟨t,by simp,bt⟩
   ·rw[e3];simp
   ·rcases X5.mp m with m|m
    ·exact .inl (ro y (Ux m))
    ·rcases Xo.mp m with rfl|m
     ·exact .inr bt
     ·exact .inl (ro y (Tx m))
  ·refine Qgi (u:=u) (xs:=(ts.take k).map U.str) (ys:=(ts.drop (k+1)).map U.str++[U.str (QQ i)]) (last1.trans ?_) (by simp;lia) (λT g kp=>nu T g ((kp1.trans kp1).trans ((kp1.trans kp1).trans kp))) λy m=>?_
   ·rw[e3]
   ·rcases X5.mp m with m|m
    ·exact Qbx y m
    ·rcases X5.mp m with m|m
     ·exact Qbx y m
     ·exact⟨_,Wu.mp m⟩
 ·rw[if_neg (by simpa using c2)]
  obtain⟨u,h2,e,k2,b⟩:=Qpa (xx:=xx) (s:=s) (n:=n) (x:=x) (hs:=h++[.lst (ts.map U.str)])
  have a1:=Yl (d:=94) (o:=.Add) (QiK (T:=tbG xx s) (cf:=Qa (tbG xx s) (n+1)) (d:=91) (Z:=[sR p,some (iU w),some (iU x),none]) hp rfl) (QfF (d:=93) (Zx (d:=92) (e_1 (Qc (i:=2) rfl)) e)) (show opU .Add (.ref h.length) (.ref h2.length) _=_ from QaX (kp1 _ _ (k2 _ _ last1)) last1 (by rw[Xy];simp only[X8,W2];lia))
  refine JJ (d:=95) (Zk (d:=95) (Z3 a1 ⟨(kp1.trans k2).trans (kp1.trans kp1),?_⟩))
  rcases b with⟨t,rfl,lt,ct⟩|nu
  ·exact QkY (ts:=ts) (t:=t) (last1.trans (by rw[W7];rfl)) (by lia) lt ct
  ·exact Qgi (u:=u) (xs:=ts.map U.str) (ys:=[]) last1 (by simp;lia) (λT g kp=>nu T g ((kp1.trans kp1).trans kp)) λy m=>Qbx y (by rwa [Wj]at m)
end
section
variable {m3 m1 m0:Nat}{x3:Nat->List U->Hs->Option (Er×Hs)}
def Qep{t:Ty}{b:Bool}(a:ev T cf d e Z h=some (u,h1))(z:Z4 T t u h1=some b):ev T cf (d+1) (.isi e t) Z h=some (.bl b,h1):=by rw[QL,a,Qj,z];rfl
def Qb9{t:Ty}{b:Bool}(a:ev T cf d e Z h=some (u,h1))(z:Z4 T t u h1=some b):evT T cf (d+2) (.isi e t) Z h=some (b,h1):=QdM rfl (Qep a z)
def Qgt{b:E}{r:Option (U×Hs)}(x:ev T cf d a Z h=some (.bl true,h1))(y:ev T cf d b Z h1=r):ev T cf (d+1) (.and a b) Z h=r:=by rw[Q9,x,Qj];exact y
noncomputable def oth:List Nat:=[11,12,13,14,15,16,18,19,20,21]
def Qkn(hg:g[p]?=some (.err 17 .non)){c:Nat}(m:c∈oth):Z4 (tbG xx s) (.cls c) (.ref p) g=some false:=by
 simp only[oth,Xo,X6,W6]at m;unfold Z4 YE YD;simp only[hg]
 rcases m with rfl|rfl|rfl|rfl|rfl|rfl|rfl|rfl|rfl|rfl<;>rfl
def Qko(hg:g[p]?=some (.err 17 .non)):Z4 (tbG xx s) (.cls 17) (.ref p) g=some true/\Z4 (tbG xx s) .vale (.ref p) g=some true:=by
 unfold Z4 YE YD;simp only[hg];exact⟨rfl,rfl⟩
theorem QfE(hi:Z[0]?=some (sR p)):∀{cs:List Nat},(∀c∈cs,Z4 T (.cls c) (.ref p) h=some false)->evs (ev T cf (d+2)) Z (cs.map λc=>.isi Va (.cls c)) h=some (cs.map λz=>.bl false,h)
 |[],_=>by rw[Tu,Tu,evs]
 |c::cs,a=>by
  rw[Ws,evs,Qep (Qc hi) (a c Xh),Qj,QfE hi λx m=>a x (Xg _ m),Qj];rfl
def Qo7(hp:h[p]?=some (.err 17 .non)):Pc (tbG xx s) (n+1) 34 [.ref p] h λu z=>u=.bl true:=by
 have lo:∀{Z:Rho} {g:Hs} {d:Nat} (k:Kp h g) (hi:Z[0]?=some (sR p)) (cs:List Nat) (m:∀c∈cs,c∈oth),ev (tbG xx s) (Qa (tbG xx s) n) (d+3) (.lst (cs.map λc=>.isi Va (.cls c))) Z g=some (.ref g.length,g++[.lst (cs.map λz=>.bl false)]):=λk hi cs m=>by
  rw[y_lst,QfE hi λc mc=>Qkn (k _ _ hp) (m c mc),Qj]
 have e1:=lo (Z:=[sR p,none]) (d:=95) (Kp.refl _) rfl [11,12,13,14] (by decide)
 let A:O:=.lst ([11,12,13,14].map λz=>U.bl false);let B:O:=.lst ([15,16,18,19].map λz=>U.bl false);let C:O:=.lst ([20,21].map λz=>U.bl false);let AB:O:=.lst (([11,12,13,14].map λz=>U.bl false)++([15,16,18,19].map λz=>U.bl false))
 have a2:opU .Add (.ref h.length) (.ref (h++[A]).length) (h++[A]++[B])=some (.ref (h++[A]++[B]).length,h++[A]++[B]++[AB]):=QaX (Zf last1) last1 (show 8<=1000000 by decide)
 have a3:opU .Add (.ref (h++[A]++[B]).length) (.ref (h++[A]++[B]++[AB]).length) (h++[A]++[B]++[AB]++[C])=some (.ref (h++[A]++[B]++[AB]++[C]).length,h++[A]++[B]++[AB]++[C]++[.lst (([11,12,13,14].map λz=>U.bl false)++([15,16,18,19].map λz=>U.bl false)++([20,21].map λz=>U.bl false))]):=QaX (Zf last1) last1 (show 10<=1000000 by decide)
 have e2:=Yl (d:=96) (o:=.Add) (Qc (TT:=tbG xx s) (cf:=Qa (tbG xx s) n) (d:=95) (Z:=[sR p,sR h.length]) (i:=1) rfl) (lo (d:=93) (kp1 (o:=A)) rfl [15,16,18,19] (by decide)) a2
 have e3:=Yl (d:=95) (o:=.Add) (Qc (TT:=tbG xx s) (cf:=Qa (tbG xx s) n) (d:=94) (Z:=[sR p,some (.ref (h++[A]++[B]).length)]) (i:=1) rfl) (lo (d:=92) ((kp1 (o:=A)).trans ((kp1 (o:=B)).trans (kp1 (o:=AB)))) rfl [20,21] (by decide)) a3
 have K:∀{a b c e f:O},Kp h (h++[a]++[b]++[c]++[e]++[f]):=λ{a b c e f}=>kp1.trans (kp1.trans (kp1.trans (kp1.trans kp1)));refine Pc.of (QaP (Qg fnL[34] rfl rfl) (ZH (d:=99) (Zh (d:=98) e1) (ZH (d:=98) (Zh (d:=97) e2) (ZH (d:=97) (Zh (d:=96) e3) (Zk (d:=95) (Z3 (Qgt (d:=94) (Qeq (d:=93) (o:=.NotIn) y_c (Qc (i:=1) rfl) (c:=true) ?_) (Qgt (d:=93) (Qep (d:=92) (Qc (i:=0) rfl) (Qko (K _ _ hp)).1) (Qep (d:=92) (Qc (i:=0) rfl) (Qko (K _ _ hp)).2))) ⟨K,rfl⟩))))));simp only[Zg,ZN,last1];rfl
def Qo6(b:Bad s u h)(hx:xx=QN (tbG x3 s) (m3+7))(hx3:x3=QN (tbG x2 s) (m2+6))(hx2:x2=QN (tbG x1 s) (m1+5))(hx1:x1=QN (tbG x0 s) (m0+4)):Pc (tbG xx s) (n+8) 35 [u] h λr z=>r=.bl true:=by
 obtain⟨c1,_⟩:=b xx x3 x2 x1 n (m3+1) (m2+1) (m1+1) hx hx3 hx2;obtain⟨_,h2,c2,k2⟩:=b x3 x2 x1 x0 m3 m2 m1 m0 hx3 hx2 hx1
 have hx':(tbG xx s).xf 22 [u] h=some (erC,h2):=by rw[show(tbG xx s).xf=xx from rfl,hx];exact c2
 obtain⟨_,h3,e3,k3,rfl⟩:=Qo7 (xx:=xx) (s:=s) (n:=n+6) (last1 (h:=h2) (o:=.err 17 .non))
 have t1:ex (tbG xx s) (Qa (tbG xx s) (n+7)) 98 (.tryS (some 2) 22 [Va] 10 [(.set 1 (.call 34 [Vc]))]) [some u,sF,none] h=some (.next,[some u,some (.bl true),none],h3):=by
  have b1:exs (tbG xx s) (Qa (tbG xx s) (n+7)) 97 [(.set 1 (.call 34 [Vc]))] [some u,sF,sR h2.length] (h2++[.err 17 .non])=some (.next,[some u,some (.bl true),sR h2.length],h3):=Yv (d:=95) (Zh (Zx (d:=94) (e_1 (Qc rfl)) e3));have a1:evs (ev (tbG xx s) (Qa (tbG xx s) (n+7)) 97) [some u,sF,none] [Va] h=some ([u],h):=e_1 (Qc rfl);rw[ex,a1,Qj];simp only[c1,hx'];rw[if_pos ⟨rfl,rfl,rfl⟩]
  show(match exs (tbG xx s) (Qa (tbG xx s) (n+7)) 97 [(.set 1 (.call 34 [Vc]))] [some u,sF,sR h2.length] (h2++[.err 17 .non])with|some (.next,ρ2,h3)=>some (Fl.next,QkD (some 2) ρ2,h3)|_=>none)=_
  rw[b1];rfl
 exact Pc.of (QaP (Qg fnL[35] rfl rfl) (QeL (d:=98) (Z3 y_c (ZH (d:=98) t1 (Zk (d:=96) (Z3 (Qc rfl) ⟨(k2.trans kp1).trans k3,rfl⟩))))))
end
section
def Qmu(e:Q2 T u h=some xs):okW T (n+1) u h=xs.all λx=>okW T n x h:=by simp only[okW,e]
def QmS(e:Q2 T u h=some xs)(e':Q2 T w h=some ys):eqW T (n+1) u w h=((xs.length==ys.length)&&(xs.zip ys).all λp=>eqW T n p.1 p.2 h):=by simp only[eqW,e,e']
def Qoz{r:List (List Nat)}(a:RL h u r)(am:∀m∈r,∀c∈m,c<128):okW T (n+2) u h=true:=by
 obtain⟨p,rfl,e⟩:=a;refine(Qmu (n:=n+1) (Zn e)).trans (Xs.mpr λx m=>?_);obtain⟨y,hy,rfl⟩:=Wp.mp m;exact Xs.mpr λc hc=>X3 (am y hy c hc)
def QoW{r:List (List Nat)}(a:RL h u r)(b:RL h w r):eqW T (n+2) u w h=true:=by
 obtain⟨p,rfl,ea⟩:=a;obtain⟨q,rfl,eb⟩:=b;refine(QmS (n:=n+1) (Zn ea) (Zn eb)).trans ?_;rw[Tj,Bool.true_and,Xs];intro x m
 have:∀{l:List U} {x:U×U},x∈l.zip l->x.1=x.2/\x.1∈l:=λ{l x} m=>by
  induction l with
  |nil=>cases m
  |cons y r ih=>
   rcases Xo.mp (show x∈(y,y)::r.zip r from m)with rfl|m
   ·exact⟨rfl,Xh⟩
   ·exact⟨(ih m).1,Xg _ (ih m).2⟩
 obtain⟨e,m⟩:=this m;rw[<-e];obtain⟨y,_,ey⟩:=Wp.mp m;rw[<-ey];show(y==y)=true;simp
def QkJ{r:List (List Nat)}(a:RL h u r)(b:RL h w r)(am:∀m∈r,∀c∈m,c<128):eqA T u w h=some true:=by
 have o1:∀{v:U},RL h v r->okW T 20 v h=true:=λz=>Qoz (n:=18) z am;have o3:eqW T 20 u w h=true:=QoW (n:=18) a b;have oa:=o1 a;have ob:=o1 b;obtain⟨p,rfl,ea⟩:=a;obtain⟨q,rfl,eb⟩:=b
 have o4:Qax T (.ref p) (.ref q) h=false:=by
  simp only[Qax,Q2,ea,eb];simp
 simp only[eqA,Qh5,o4,oa,ob,o3,Bool.and_self,Wt,W9,Uv];split<;>rfl
end
section
variable {j:Nat}{r:List Iv.S}
def Qi6(s:Sq T u h xs):sqU T (Q2 T u h).isSome u h=some xs/\∀h1,Kp h h1->sqU T (Q2 T u h).isSome u h1=some xs:=by
 rcases s with e|e
 ·exact Qka e
 ·rw[QfI e];exact⟨e,λh1 k=>QfJ k e⟩
def QiQ(e:ZZ T u h=some xs):Z4 T .tuple u h=some true/\biU T .len [u] h=some (.int xs.length 0,h):=by
 cases u with
 |ref n=>
  simp only[ZZ]at e
  cases q:h[n]? with
  |none=>rw[q]at e;cases e
  |some o=>
   rw[q]at e
   cases o<;>first|(cases e;unfold Z4 YE YD biU;simp only[q,ZN];exact⟨rfl,trivial⟩)|cases e
 |con n=>
  simp only[ZZ]at e
  cases q:T.cons[n]? with
  |none=>rw[q]at e;cases e
  |some o=>
   rw[q]at e
   cases o<;>first|(cases e;unfold Z4 YE biU;simp only[q,ZN];exact⟨rfl,trivial⟩)|cases e
 |_=>cases e
def QeA{b:E}(x:evT T cf d a Z h=some (false,h1))(y:evT T cf d b Z h1=some (c,h2)):evT T cf (d+1) (.or a b) Z h=some (c,h2):=Qek x (by rw[if_neg Xi];exact y)
def QlM{b:E}(ea:ev T cf d a Z h=some (.int x 0,h1))(eb:ev T cf d b Z h1=some (.int y 0,h2)):evT T cf (d+2) (.cmp .NotEq a b) Z h=some (!decide (x=y),h2):=Zj ea eb rfl
def Qmc{b:E}{i j:Nat}{body:List Iv.S}(I:Nat->Rho->Hs->Prop)(va:ev T cf d a Z h=some (u,h1))(vb:ev T cf d b Z h1=some (w,h2))(sa:Sq T u h2 xs)(sb:Sq T w h2 ys)(hk:∀i Z hs,I i Z hs->Kp h2 hs)(h0:I 0 Z h2)
  (st:∀k x y,xs[k]?=some x->ys[k]?=some y->∀Z hs,I k Z hs->∃ρ2 h2,exs T cf d body ((Z.set i (some x)).set j (some y)) hs=some (.next,ρ2,h2)/\I (k+1) ρ2 h2) (k:∀ρ2 h2,I (xs.zip ys).length ρ2 h2->Xx T cf (d+1) r ρ2 h2 Q):Xx T cf (d+2) (.loop (.pair i j) (.zip a b) body::r) Z h Q:=by
 have z:=Qi6 sa;have z':=Qi6 sb
 refine QfS (w:=.zipB (Q2 T u h2).isSome (Q2 T w h2).isSome u w) (L:=xs.zip ys) (im:=λp:U×U=>Im.two p.1 p.2) I (by simp only[Zy,va,vb,Qj,wkZ,z.1,z'.1,Option.isSome_some,Bool.and_self,Wt];rfl) (by simp only[Zs,z.1,Vz,List.length_zip];lia) (λi Z hs zI=>by simp only[itm,z.2 hs (hk _ _ _ zI),z'.2 hs (hk _ _ _ zI),QiP]) h0 (λk a ha Z hs zI=>?_) k
 obtain⟨e1,e2⟩:=List.getElem?_zip_eq_some.mp ha;obtain⟨ρ2,h2,b,c⟩:=st k a.1 a.2 e1 e2 Z hs zI;exact⟨_,ρ2,h2,rfl,b,c⟩
def QlY{mk:List Nat}(sk:Sk xx s o mk)(hp:h[p]?=some o):Z4 (tbG xx s) (.cls 0) (.ref p) h=some true:=by
 obtain⟨c,fs,rfl,_,⟨c1,c9⟩,_⟩:=sk;unfold Z4 YE YD;simp only[hp]
 have:c=1\/c=2\/c=3\/c=4\/c=5\/c=6\/c=7\/c=8\/c=9:=by lia
 rcases this with rfl|rfl|rfl|rfl|rfl|rfl|rfl|rfl|rfl<;>rfl
def QlI(lρ:Z.length=7)(hp:h[p]?=some (.lst us))(pr:Paired (SM xx s h) us ms)(l:ms.length<=1000)(hi:Z[4]?=some (sR p)):ev (tbG xx s) (Qa (tbG xx s) (n+1)) (d+4) (.comp (.seq Ve) false none (.meth 4 Vh [])) Z h=some (.ref h.length,h++[.lst (ms.map U.str)]):=by
 obtain⟨vs,h2,e,rfl,rfl⟩:=QcK (T:=tbG xx s) (cf:=Qa (tbG xx s) (n+1)) (d:=d+3) (e:=Ve) (el:=.meth 4 Vh []) (Z:=Z) (h:=h) (hs:=h) (Qc hi) (λj acc g=>g=h/\acc=(ms.take j).map U.str) pr (by lia) (λy y y z=>z.1▸hp) (λj m v hj x acc g z=>by
  obtain⟨q,o,ev',hq,c,fs,ec,f,_,me,H⟩:=x
  obtain⟨rfl,rfl⟩:=z;subst ev';refine⟨.str m,g,?_,rfl,?_⟩
  ·rw[QnY,Qc (i:=7) (u:=.ref q) (by rw[Wi (by lia),lρ];rfl),Qj]
   simp only[me q g hq,evs,Qj,W2,Vr];exact H n q g hq
  ·rw[Um,hj,W7];rfl) ⟨rfl,rfl⟩
 rw[List.take_length]at e;exact e
def QnO(hp:h[p]?=some (.lst ((chT i rs).map .str)))(hi:i<10 ^ 9)(lr:rs.length<=84)(g:∀ms∈rs,Rg ms)(hq:h[q]?=some (.lst us))(pr:Paired (RL h) us rs):Pc (tbG xx s) (n+8) 36 [.ref p,iU i,.ref q] h λu w=>u=.bl true:=by
 obtain⟨_,h1,e,k1,t,j,vs,rfl,ht,hj,pv⟩:=Qpf (xx:=xx) (s:=s) (n:=n) hp hi lr g;obtain⟨t1,t2⟩:=QiQ (T:=tbG xx s) (QiR ht);have vt:∀{d:Nat} {a b c:Option U},ev (tbG xx s) (Qa (tbG xx s) (n+7)) (d+1) Vd [sR p,some (iU i),sR q,sR t,a,b,c] h1=some (.ref t,h1):=Qc rfl;have v0:∀{d:Nat} {a b c:Option U},ev (tbG xx s) (Qa (tbG xx s) (n+7)) (d+2) (.ix Vd Wa) [sR p,some (iU i),sR q,sR t,a,b,c] h1=some (iU i,h1):=Qgs (i:=3) rfl (Qi5 (j:=0) ht rfl);have v1:∀{d:Nat} {a b c:Option U},ev (tbG xx s) (Qa (tbG xx s) (n+7)) (d+2) (.ix Vd Wb) [sR p,some (iU i),sR q,sR t,a,b,c] h1=some (.ref j,h1):=Qgs (i:=3) rfl (Qi5 (j:=1) ht rfl);have hq1:=k1 _ _ hq;have lv:vs.length=us.length:=(YX pv).trans (YX pr).symm
 refine Pc.of (QaP (Qg fnL[36] rfl rfl) (ZH (d:=99) (Zh (d:=98) (Zx (d:=97) (e_1 (Qc rfl)) e)) (ZH (d:=98) (ZY (d:=96) (QeA (d:=96) (Z0 (d:=95) (c:=true) (Qb9 (d:=93) vt t1)) (QeA (d:=95) (QlM (d:=93) (Qej (d:=92) vt t2) y_c) (Z0 (d:=94) (c:=true) (Qb9 (d:=92) v1 (QbZ hj))))) rfl) (ZH (d:=97) (ZY (d:=95) (QeA (d:=95) (Z0 (d:=94) (c:=true) (Qb9 (d:=92) v0 rfl)) (QeA (d:=94) (Qb9 (d:=92) v0 rfl) (QlM (d:=92) v0 (Qc (i:=1) rfl)))) (by rw[X3 rfl];rfl)) (ZH (d:=96) (ZY (d:=94) (QlM (d:=93) (QcI (d:=92) v1 hj) (QcI (d:=92) (Qc (i:=2) rfl) hq1)) (by rw[X3 (by rw[lv])];rfl)) (Qmc (d:=94) (λw Z hs=>Kp h1 hs/\∃a b c,Z=[sR p,some (iU i),sR q,sR t,a,b,c]) v1 (Qc (i:=2) rfl) (.inl (Zn hj)) (.inl (Zn hq1)) (λw w w z=>z.1) ⟨Kp.refl _,_,_,_,rfl⟩ (λk x y hx hy Z hs z=>?_) λρ2 h2 z=>?_))))))
 ·obtain⟨kk,x4,x5,x6,rfl⟩:=z;obtain⟨ms,hm,pj,vr,rfl,hpj,prr⟩:=Jo pv hx;obtain⟨ms',hm',pk,rfl,hpk⟩:=Jo pr hy;rw[hm]at hm';cases hm';have gm:=g ms (X7 hm);have hpj':=kk _ _ hpj;have prr':=QB (λw w=>SM.kp kk) prr
  obtain⟨_,ρ3,h3,e3,rfl,k3⟩:Xx (tbG xx s) (Qa (tbG xx s) (n+7)) 94 [(.ite (.not (.isi Ve .list)) [(.ret (.c (.bl false)))] []),(.loop (.name 6) (.seq Ve) [(.ite (.not (.isi Vg (.cls 0))) [(.ret (.c (.bl false)))] [])]),(.ite (.cmp .NotEq (.comp (.seq Ve) false none (.meth 4 Vh [])) Vf) [(.ret (.c (.bl false)))] [])] ([sR p,some (iU i),sR q,sR t,sR pj,sR pk,x6]:Rho) hs (λf ρ2 h2=>f=.next/\Kp h1 h2/\∃a b c,ρ2=[sR p,some (iU i),sR q,sR t,a,b,c]):=by
   refine ZH (d:=93) (ZY (d:=91) (Z0 (d:=91) (c:=true) (Qb9 (d:=89) (Qc rfl) (QbZ hpj'))) rfl) (QgY (d:=91) (L:=vr) (λw Z g=>g=hs/\∃c,Z=[sR p,some (iU i),sR q,sR t,sR pj,sR pk,c]) (Qc (i:=4) rfl) (λw w w z=>z.1▸Zn hpj') ⟨rfl,_,rfl⟩ (λa x hx Z g z=>?_) λρ2 h2 z=>?_)
   ·obtain⟨rfl,c,rfl⟩:=z;obtain⟨m,_,y,o,rfl,hy,sk⟩:=Jo prr' hx;exact⟨_,_,_,rfl,Yv (d:=89) (ZY (d:=88) (Z0 (d:=88) (c:=true) (Qb9 (d:=86) (Qc (i:=6) rfl) (QlY sk hy))) rfl),rfl,_,rfl⟩
   ·obtain⟨rfl,c,rfl⟩:=z
    have vm:=QlI (xx:=xx) (s:=s) (n:=n+6) (d:=84) (Z:=[sR p,some (iU i),sR q,sR t,sR pj,sR pk,c]) rfl hpj' prr' (by have:=gm.1;lia) rfl
    have eq:=QkJ (T:=tbG xx s) (r:=ms) ⟨_,rfl,last1⟩ ⟨pk,rfl,(kk.trans kp1) _ _ (k1 _ _ hpk)⟩ λm mm c mc=>(Qdv (gm.2 m mm) c mc).2.1
    refine ZH (d:=91) (ZY (d:=89) (Zj (d:=88) vm (Qc (i:=5) rfl) (show(eqA _ _ _ _).map (!·)=_ by rw[eq];rfl)) rfl) (JJ ⟨rfl,kk.trans kp1,_,_,_,rfl⟩)
  exact⟨ρ3,h3,e3,k3⟩
 ·obtain⟨kk,_,_,_,rfl⟩:=z;exact Zk (Z3 y_c ⟨k1.trans kk,rfl⟩)
end
section
variable {x3:Nat->List U->Hs->Option (Er×Hs)}
def QoG{T:Tbl}{p:Nat}{xs:List U}(h:hs[p]?=some (.lst xs)):biU T .list [.ref p] hs=some (.ref hs.length,hs++[.lst xs]):=by unfold biU;simp only[ZN,h]
def Qfr(g:∀ms∈rs,Rg ms):∀m∈chT i rs,∀c∈m,c<128:=λm mm=>by
 rcases X5.mp (show m∈(rs.map ZF).reverse++[QQ i]from mm)with m'|m'
 ·obtain⟨ms,gm,rfl⟩:=QfQ g m';exact Qjr gm.2
 ·rw[Wu.mp m'];exact Qie
def QmE(es:s=ns.map iU)(hx:xx=QN (tbG x3 s) 9)(hx3:x3=QN (tbG x2 s) 9)(hx2:x2=QN (tbG x1 s) 9)(hx1:x1=QN (tbG x0 s) 9):Cc (tbG xx s) (n+9) 37 [.scr] [] λu z=>u=.bl true:=by
 obtain⟨a0,c0⟩:=Qlt (xx:=xx) (n:=n+7) (h:=[]) (k:=0) es;obtain⟨a1,c1⟩:=Qlt (xx:=xx) (n:=n+7) (h:=[]) (k:=1) es;have v0:ev (tbG xx s) (Qa (tbG xx s) (n+8)) 98 (.op .Mod (.call 26 [Va,Wa]) (.op .Pow (.c (.int 10 0)) (.c (.int 9 0)))) [some .scr,none,none,none,none,none] []=some (iU (a0 % 1000000000),[]):=Qlf (d:=95) (Zx (d:=96) (e_2 (Qc rfl) y_c) c0)
 obtain⟨i,hi,e1⟩:∃i:Nat,i<10 ^ 9/\ex (tbG xx s) (Qa (tbG xx s) (n+8)) 98 (.ite (.cmp .Eq (.op .Mod (.call 26 [Va,Wb]) Wd) Wb) [(.set 1 (.op .Mod Vb (.c (.int 12 0))))] []) [some .scr,some (iU (a0 % 1000000000)),none,none,none,none] []=some (.next,[some .scr,some (iU i),none,none,none,none],[]):=by
  have t1:evT (tbG xx s) (Qa (tbG xx s) (n+8)) 97 (.cmp .Eq (.op .Mod (.call 26 [Va,Wb]) Wd) Wb) [some .scr,some (iU (a0 % 1000000000)),none,none,none,none] []=some (decide (a1 % 3=1),[]):=Qli (d:=95) (YA (d:=93) (Zx (d:=93) (e_2 (Qc rfl) y_c) c1) (by decide)) y_c
  have m1:=V7 a0 (show(1000000000:Int)≠0 by decide)
  have m2:=Vu a0 (show(0:Int) < 1000000000 by decide)
  obtain⟨j,hj⟩:∃j:Nat,a0 % 1000000000=j:=⟨(a0 % 1000000000).toNat,by lia⟩
  by_cases c:a1 % 3=1
  ·have m3:=V7 (a0 % 1000000000) (show(12:Int)≠0 by decide)
   have m4:=Vu (a0 % 1000000000) (show(0:Int) < 12 by decide)
   obtain⟨k,hk⟩:∃k:Nat,a0 % 1000000000 % 12=k:=⟨(a0 % 1000000000 % 12).toNat,by lia⟩
   refine⟨k,by lia,?_⟩
   rw[<-hk,QD,t1,Qj,if_pos (X3 c)]
   exact Yv (d:=95) (Zh (d:=95) (YA (d:=93) (Qc rfl) (by decide)))
  ·refine⟨j,by lia,?_⟩
   rw[<-hj];exact ZY (d:=96) t1 (Xu c)
 obtain⟨_,h2,e2,k2,p,us,rs,rfl,hp,pr,lr,g⟩:=Qpd (xx:=xx) (n:=n+6) (h:=[]) es;obtain⟨_,h3,e3,k3,q,rfl,hq⟩:=Qpc (xx:=xx) (s:=s) (n:=n+7) hi hp pr lr g;have e4:=QoG (T:=tbG xx s) hq;obtain⟨_,h5,e5,k5,rfl⟩:=QnO (xx:=xx) (s:=s) (n:=n) (p:=h3.length) (h:=h3++[.lst ((chT i rs).map U.str)]) last1 hi lr g (Zf (k3 _ _ hp)) (QB (λz z=>RL.kp (k3.trans kp1)) pr);obtain⟨a6,c6⟩:=Qlt (xx:=xx) (n:=n+7) (h:=h5) (k:=2) es;obtain⟨a7,c7⟩:=Qlt (xx:=xx) (n:=n+7) (h:=h5) (k:=1) es;obtain⟨u8,h8,e8,k8,b8⟩:=Qo8 (xx:=xx) (s:=s) (n:=n+6) (w:=a7 / 3 % 1000000000) (x:=a6 % 1000000000) (k5 _ _ (Zf hq)) hi lr g;obtain⟨_,h9,e9,k9,rfl⟩:=Qo6 (n:=n) (m3:=2) (m2:=3) (m1:=4) (m0:=5) b8 hx hx3 hx2 hx1;have K9:=k5.trans (k8.trans k9);obtain⟨_,h10,e10,k10,rfl⟩:=QnO (xx:=xx) (s:=s) (n:=n) (p:=h3.length) (h:=h9) (K9 _ _ last1) hi lr g (K9 _ _ (Zf (k3 _ _ hp))) (QB (λz z=>RL.kp (k3.trans (kp1.trans K9))) pr);have K10:=K9.trans k10;have eq:Zg (tbG xx s) .Eq (.ref h3.length) (.ref q) h10=some true:=QkJ (T:=tbG xx s) (r:=chT i rs) ⟨h3.length,rfl,K10 _ _ last1⟩ ⟨q,rfl,K10 _ _ (Zf hq)⟩ (Qfr g);refine QaP (Qg fnL[37] rfl rfl) (ZH (d:=99) (Zh (d:=98) v0) (ZH (d:=98) e1 ?_));refine ZH (d:=97) (Zh (d:=96) (Zx (d:=95) (e_1 (Qc rfl)) e2)) ?_;refine ZH (d:=96) (Zh (d:=95) (Zx (d:=94) (e_2 (Qc rfl) (Qc rfl)) e3)) ?_;refine ZH (d:=95) (Zh (d:=94) (Qej (d:=93) (Qc rfl) e4)) ?_;refine ZH (d:=94) (ZY (d:=92) (Z0 (d:=92) (c:=true) (QdM (d:=91) rfl (Zx (d:=90) (e_3 (Qc rfl) (Qc rfl) (Qc rfl)) e5))) rfl) ?_;refine ZH (d:=93) (Zh (d:=92) (Qlf (d:=89) (Zx (d:=90) (e_2 (Qc rfl) y_c) c6))) ?_
 refine ZH (d:=92) (ZY (d:=90) (Z0 (d:=90) (c:=true) (QdM (d:=89) rfl (Zx (d:=88) (e_1 (Zx (d:=87) (e_3 (Qc rfl) (Qlf (d:=84) (QcJ (d:=84) (Zx (d:=84) (e_2 (Qc rfl) y_c) c7) (by decide))) (Qc rfl)) e8)) e9))) rfl) ?_
 have v9:ev (tbG xx s) (Qa (tbG xx s) (n+8)) 90 (.and (.call 36 [Ve,Vb,Vc]) (.cmp .Eq Ve Vd)) [some .scr,some (iU i),sR p,sR q,sR h3.length,some (iU (a6 % 1000000000))] h9=some (.bl true,h10):=Qgt (d:=89) (Zx (d:=88) (e_3 (Qc rfl) (Qc rfl) (Qc rfl)) e10) (Qeq (d:=88) (o:=.Eq) (Qc rfl) (Qc rfl) eq);exact Zk (d:=90) (Z3 v9 rfl)
theorem QfW:∀ns:List Int,Paired (λ(u:U) (i:Int)=>∃r m,u=.int r m/\∃q:Int,i=r+m*q) (ns.map λi=>U.int i 0) ns
 |[]=>.nil
 |i::ns=>.cons ⟨i,0,rfl,0,by simp⟩ (QfW ns)
def comp(ns:List Int)(hl:ns.length<=63):∃s hs',Paired (λ(u:U) (i:Int)=>∃r m,u=.int r m/\∃q:Int,i=r+m*q) s ns/\Qa (tb s) 9 37 [.scr] []=some (.bl true,hs'):=by
 obtain⟨u,h,e,rfl⟩:=QmE (xx:=QN (QiU (ns.map iU)) 9) (ns:=ns) (n:=0) (x3:=QN (QiV (ns.map iU)) 9) (x2:=QN (QiW (ns.map iU)) 9) (x1:=QN (tbX (ns.map iU)) 9) (x0:=λz z z=>none) rfl rfl rfl rfl rfl;exact⟨_,h,QfW ns,e⟩
end
noncomputable def hfL:List Addr:=[194,239,267,321,375,408,436,469,495,528,554,608,641,669,702,730,762,769,776,783,790,797,802,807,814,821,828,835,842,847,854,861,868,875,882,889,894,901]
noncomputable def hcL:List Addr:=[221,284,338,392,453,512,571,625,686,747,31,44,64,76,88,107,119,131,150,162,174,186]
noncomputable def hkL:List Addr:=[189,195,196,197,750,751,752,753,754,755]
noncomputable def adr(a:Addr):Adr:=⟨λi=>hfL.getD i 0,λi=>hcL.getD i 0,λi=>hkL.getD i 0,a⟩
def Jb(s:List U)(x:Nat->List U->Hs->Option (Er×Hs)):Jg {tbX s with xf:=x} glo Qlv:=Qea (by repeat (first|exact .nil|refine .cons (by kernel_rfl) ?_))
def QkW(s:List U):Jg (tb s) glo Qlv:=Jb s _
section
variable (w:World)(s:List U)(a:Addr)
def QoQ:AllI (FnA (K w.params) (adr a)) 0 (tbX s).fns:=by(repeat (first|exact .nil|refine .cons ⟨by kernel_rfl,by kernel_rfl,.inl λv=>by kernel_rfl⟩ ?_))
def Qo2:AllI (λz (p:Nat×Df)=>∃fd x q st,FunD (K w.params) x q st ((adr a).f p.1) fd/\Qiz (adr a) (K w.params) fd p.2/\∀F,(tbX s).fns[p.1]?=some F->F.ps=p.2.ps/\F.np=p.2.np) 0 (tbX s).dfl:=.nil
def QnM:Qiy (λk c=>coB (K w.params) (adr a) ((adr a).k k) c) 0 (tbX s).cons=true:=by kernel_rfl
def QoM:AllI (λk z=>Qni (K w.params) w ((adr a).k k)) 0 (tbX s).cons:=by repeat (first|exact .nil|refine .cons (by kernel_rfl) ?_)
def Qn4:QlK (K w.params) (tbX s) (adr a) glo Qlv=true:=by kernel_rfl
end
def all_at{l:W.OpenLaw}(w:World){mg:Str->Option Value}{fa:Addr}{h:Heap}(X:(K w.params).In h)(G:h.Ns mainGlobals mg)(hfa:mg "law"=some (.ref fa)):
  ∃fd:FuncData,(∀(s:Shared) (v:Value),BindsTo s fd ⟨[v],[]⟩ [("_law_script",v)])/\∀base:Heap,(K w.params).In base->base.Ns mainGlobals mg->FnOk l.prog w (K w.params) mg base CX0 (0+2+2*9+2+2*9+2+2*9+2+2*9+2*9) fa fd ["_law_script"] (QeF (K w.params)):= by
 have tp:∀(s:List U) (a:Addr),Top (tbX s) (adr a) (K w.params) mg glo Qlv:=λs a=>QiT X G (QoQ w s a) (QnM w s a) (Qn4 w s a) (Qo2 w s a) (.cons (QkI (by kernel_rfl) (by kernel_rfl) λz=>rfl) (.cons (QkI (by kernel_rfl) (by kernel_rfl) λz=>rfl) .nil))
 have tab:∀(s:List U) (a:Addr),Je l.prog w (tbX s) (adr a) (K w.params):=λs a=>QiX (QnM w s a) (QoM w s a)
 cases hfa.symm.trans ((tp [] 0).gfn "law" 37 (by kernel_rfl))
 have hX0:∀(base:Heap) (s:List U) (a:Addr),XOk l.prog w (K w.params) mg base (tbX s) (adr a) 0:=λbase s a=>QoA (tp s a) rfl;have hX1:∀(base:Heap) (s:List U) (a:Addr),XOk l.prog w (K w.params) mg base (QiW s) (adr a) (0+2+2*9):=λbase s a=>Qle (T:=tbX s) (T':=QiW s) (m:=9) rfl rfl rfl rfl rfl rfl rfl (tp s a) (tab s a) (Jb s _) (hX0 base s a);have hX2:∀(base:Heap) (s:List U) (a:Addr),XOk l.prog w (K w.params) mg base (QiV s) (adr a) (0+2+2*9+2+2*9):=λbase s a=>Qle (T:=QiW s) (T':=QiV s) (m:=9) rfl rfl rfl rfl rfl rfl rfl (Qex (tp s a)) (tab s a) (Jb s _) (hX1 base s a);have hX3:∀(base:Heap) (s:List U) (a:Addr),XOk l.prog w (K w.params) mg base (QiU s) (adr a) (0+2+2*9+2+2*9+2+2*9):=λbase s a=>Qle (T:=QiV s) (T':=QiU s) (m:=9) rfl rfl rfl rfl rfl rfl rfl (Qex (tp s a)) (tab s a) (Jb s _) (hX2 base s a);have hX:∀(base:Heap) (s:List U) (a:Addr),XOk l.prog w (K w.params) mg base (tb s) (adr a) (0+2+2*9+2+2*9+2+2*9+2+2*9):=λbase s a=>Qle (T:=QiU s) (T':=tb s) (m:=9) rfl rfl rfl rfl rfl rfl rfl (Qex (tp s a)) (tab s a) (Jb s _) (hX3 base s a)
 exact⟨Qct (K w.params) ((adr 0).f 37),λs v=>.of_eq (by kernel_rfl),λbase z z=>Qkd (tb:=tb) (adr:=adr) (L:=37) (F:=⟨"law","law",top 64,["_law_script"],["_law_script","_law_cast","_law_rows_here","_law_texts_here","_law_handed","_law_number"],1,6,true,b37⟩) (λz=>rfl) (λz=>rfl) rfl rfl (λz=>rfl) (λz=>rfl) (λs a=>Qex (tp s a)) (λs a=>tab s a) QkW (hX base) (QdH (F:=⟨"law","law",top 64,["_law_script"],["_law_script","_law_cast","_law_rows_here","_law_texts_here","_law_handed","_law_number"],1,6,true,b37⟩) (by kernel_rfl) (by kernel_rfl)).1 comp⟩
def walk{l:W.OpenLaw}{q:Program}{loose:List Str}{XP:(Str->Option Value)->Heap->Prop}{YP:World->Heap->Prop}{d:DefRec}{K:Params->W.Frag}(hn:l.most=some 63)(hdf:d.params.defaults=[])
  (hY:∀(w:World) (h:Heap),YP w h->(K w.params).In h)
  (F:∀(w:World) (mg:Str->Option Value) (fa:Addr) (h:Heap),(K w.params).In h->h.Ns mainGlobals mg->mg d.name=some (.ref fa) ->
   ∃fd:FuncData,(∀(s:Shared) (u:Value),BindsTo s fd ⟨[u],[]⟩ [("_law_script",u)])/\∀base:Heap,(K w.params).In base->base.Ns mainGlobals mg->FnOk l.prog w (K w.params) mg base CX0 (0+2+2*9+2+2*9+2+2*9+2+2*9+2*9) fa fd ["_law_script"] (QeF (K w.params))):
  W.WalkO q loose XP YP l.row.toRowW d [] (λf vs=>PySem.call f vs):=
 L2.walk_of (n:=63) (k:=(0+2+2*9+2+2*9+2+2*9+2+2*9+2*9)) (x:="_law_script") (CX:=λy=>CX0) (sp:=λw=>QeF (K w.params)) hn (by decide) hdf ⟨rfl,by decide,by decide⟩ hY F (λy y a ns hl hO hS=>⟨a,ns,rfl,hS,hO,hl,λy=>rfl⟩) λy y y y y z=>z
end K41
open PySem PySem.W PyProof.Rows
set_option maxRecDepth 100000 in
set_option maxHeartbeats 0 in
theorem PySem.Challenge.cw_stitchroom_k41_charts_read_holds : PySem.Challenge.rw_stitchroom_k41_charts_read.Holds := by
 w_on;refine W.holds_law (by kernel_rfl) λsaid=>?_
 refine holds_open (q:=K41.hq) (loose:=K41.hlo) (Xt:=K41.hXt) (XP:=XL K41.hq []) (Yf:=K41.hYf) (Ya:=K41.hYa) (YP:=Hook.says (kHook K41.K K41.KA K41.hKA)) (N:=15762) K41.hleft (Hook.of (kHook K41.K K41.KA K41.hKA)) (Hook.keeps (kHook K41.K K41.KA K41.hKA)) (λs e=>xl_of s (Bool.and_eq_true_iff.mp e).1) XL.keeps (by rfl) (by rfl) (by rfl) (λs e=>recFacts_of (Bool.and_eq_true_iff.mp e).2) (by rfl) (by first|assumption|decide +kernel) (by decide +kernel) ⟨rfl,rfl,rfl,rfl,rfl,by decide +kernel⟩ ?hw ?hc
 (case hw=>w_witness2)
 refine K41.walk (l:=PySem.Challenge.rw_stitchroom_k41_charts_read) rfl rfl (λw h Yyy=>W.kIn_of Yyy) ?F
 case F=>
  intro w mg fa h KX G hmg;exact K41.all_at w KX G hmg
